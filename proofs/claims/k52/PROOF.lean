import PyProof.Rows.All
import Wide.All
import OpenK.AllK
import Wide.FinOn
import Lean
import PyProof.EqAt
import PyProof.EqKinds
import PyProof.TupleCall
import PyProof.ZipIter
import PyProof.SumWalkG
import PyProof.ListCopy
import PyProof.ListStr
import PyProof.DictItems
import PyProof.DictWalks
import PyProof.DictTruth
import PyProof.EnumMake
import PyProof.InstStoreFacts
import PyProof.Rows.SortWalk
import PyProof.ListRange
import PyProof.DictValues
import KE.KRevSl
import KE.KDictOf
import PyProof.DictIter
import PyProof.FactsAll.dict_1
import PyProof.AttrMissHeap
import KE.KEqDict
import KE.KDictList
import KE.KItemsList
import PySem.Challenge.RW_trussyard_k52_a_bar_taken
set_option Elab.async false
set_option linter.all false
set_option maxRecDepth 100000
theorem gE.{u}{α:Type u}{l:List α}{i:Nat}(h:i < l.length):l[i]? =some l[i]:=List.getElem?_eq_getElem h
namespace PySem.W.Fast
def tw475539886679138224:Unit:=()
def tw15012908262354737228:Unit:=()
def tw3895187035182326694:Unit:=()
def tw3329736587969464772:Unit:=()
def tw11546890197651481884:Unit:=()
def tw14905190595492949732:Unit:=()
def tw303766346275243229:Unit:=()
def tw12101541160636427835:Unit:=()
def tw967915017358764302:Unit:=()
def tw3198236986407071375:Unit:=()
def tw10961663446668815951:Unit:=()
def tw5383928791774364671:Unit:=()
def tw13580381383283266214:Unit:=()
def tw16858000392824238110:Unit:=()
def tw6864381700887578992:Unit:=()
def tw13630229650169428763:Unit:=()
def tw14317656547383612464:Unit:=()
def tw5592113766500884152:Unit:=()
def tw1473683499691224297:Unit:=()
def tw15987022717528065240:Unit:=()
def tw3733619159998869799:Unit:=()
def tw15051630327092831007:Unit:=()
def tw2531938624513648604:Unit:=()
def tw3961419618083366723:Unit:=()
def tw14049592243734889955:Unit:=()
def tw4311266469682456489:Unit:=()
def tw11048608436243668643:Unit:=()
def tw3471352058260650233:Unit:=()
def tw1494797824411284698:Unit:=()
def tw13499476484281594781:Unit:=()
def tw4141951236045109829:Unit:=()
def tw2844058178684384679:Unit:=()
def tw10302041845537255854:Unit:=()
def tw11404984823780689538:Unit:=()
def tw2639580608469462363:Unit:=()
def tw12473273130573859885:Unit:=()
def tw13515990383043892298:Unit:=()
def tw13574411725519138885:Unit:=()
def tw1674712418549965510:Unit:=()
def tw7294062834512377654:Unit:=()
def tw3052290918352179194:Unit:=()
def tw10831515560404464371:Unit:=()
def tw11097429089470367132:Unit:=()
def tw3784240616000844659:Unit:=()
def tw9843212299129105787:Unit:=()
def tw13515796596662838521:Unit:=()
def tw1591035487614543884:Unit:=()
def tw17601393457154905576:Unit:=()
def tw3379028469220962422:Unit:=()
def tw6225221567384350438:Unit:=()
def tw10450894276653839581:Unit:=()
def tw16482261906879523605:Unit:=()
def tw10405658259908359994:Unit:=()
def tw12261400936782093164:Unit:=()
def tw13782206106112469018:Unit:=()
def tw2390120068480471367:Unit:=()
def tw12396963680298713200:Unit:=()
def tw4458133540508772198:Unit:=()
def tw2293512085819009774:Unit:=()
def tw11036651087698243346:Unit:=()
def tw1576143679169195037:Unit:=()
def tw13480900746191762071:Unit:=()
def tw14041637329717859893:Unit:=()
def tw6274396648298718182:Unit:=()
def tw13077812388897223622:Unit:=()
def tw11500776118231123829:Unit:=()
def tw6032811579567977490:Unit:=()
def tw13088465869451241223:Unit:=()
def tw18156026399131152501:Unit:=()
def tw17221539587967656456:Unit:=()
def tw14518307180194110511:Unit:=()
def tw1259715168998871891:Unit:=()
def tw11741483799193957765:Unit:=()
def tw3602989280318205063:Unit:=()
def tw7498822757917883508:Unit:=()
def tw16742540061339924198:Unit:=()
def tw672541910117291548:Unit:=()
def tw16141860063002572435:Unit:=()
def tw15773002784280883943:Unit:=()
def tw15036443227267582886:Unit:=()
def tw13363146756370530123:Unit:=()
def tw5504571843476808406:Unit:=()
def tw15930221456249678059:Unit:=()
def tw4281943798448102946:Unit:=()
def tw628464151702368314:Unit:=()
def tw10963451018910735663:Unit:=()
def tw16880324926994169418:Unit:=()
def tw15916665621637519450:Unit:=()
def tw15542445264875616754:Unit:=()
def tw14896201622553476390:Unit:=()
def tw12312367118380805019:Unit:=()
def tw1331910567652024855:Unit:=()
def tw2039863100705180606:Unit:=()
def tw12391805364754044155:Unit:=()
def tw10366461837317673175:Unit:=()
def tw7890998346654862027:Unit:=()
def tw8066111084625731262:Unit:=()
def tw3305349752537793021:Unit:=()
def tw4648119467173617376:Unit:=()
def tw11758506501024793890:Unit:=()
def tw11289199367370418643:Unit:=()
def tw10958830732019091434:Unit:=()
def tw17631895472551613253:Unit:=()
def tw4694068664807795442:Unit:=()
def tw8267883907510401298:Unit:=()
def tw4661323803397322382:Unit:=()
def tw4879272776151106543:Unit:=()
def tw959339402221594170:Unit:=()
def tw12477131910190765450:Unit:=()
def tw619037301336344007:Unit:=()
def tw2803688134989434825:Unit:=()
def tw15177632598487167122:Unit:=()
def tw10970902557360766019:Unit:=()
def tw16536496979668546396:Unit:=()
def tw4074531642201511007:Unit:=()
def tw9759198810136081541:Unit:=()
def tw16128115260478300431:Unit:=()
def tw7530173158283052365:Unit:=()
def tw17214184535724780068:Unit:=()
def tw5676593382132662113:Unit:=()
def tw12230417935752504807:Unit:=()
def tw2278194598049022123:Unit:=()
def tw17681486991200687725:Unit:=()
def tw17087201504233807123:Unit:=()
def tw224431731097222587:Unit:=()
def tw10200959280584393020:Unit:=()
def tw12499423338618631170:Unit:=()
def tw5003964406388138251:Unit:=()
def tw15387208648132073375:Unit:=()
def tw17776237139366100028:Unit:=()
def tw7139353156777788280:Unit:=()
def tw1748088450162466552:Unit:=()
def tw9171260341337668018:Unit:=()
def tw12480776354021915662:Unit:=()
def tw14300399745434652898:Unit:=()
def tw8627065924869041651:Unit:=()
def tw14400037034310270112:Unit:=()
def tw3946295791786257817:Unit:=()
def tw2573702480569138916:Unit:=()
def tw13168984698485759769:Unit:=()
def tw2636481492043916562:Unit:=()
def tw14376109910790302948:Unit:=()
def tw15215987751410101683:Unit:=()
def tw10645246728895416444:Unit:=()
def tw714783139553389258:Unit:=()
def tw7824579243254013138:Unit:=()
def tw4948602189275630721:Unit:=()
def tw13326354474162504527:Unit:=()
def tw10316005202236068127:Unit:=()
def tw814157465729249293:Unit:=()
def tw16336691422039106978:Unit:=()
def tw16697768431868002861:Unit:=()
def tw3579264855657936192:Unit:=()
def tw12929939438842251172:Unit:=()
def tw18336842883360147023:Unit:=()
def tw13011783393544031747:Unit:=()
def tw8961449971039847337:Unit:=()
def tw3848470701962496832:Unit:=()
def tw9467102506388539936:Unit:=()
def tw14725672824524325511:Unit:=()
def tw11618595592277671141:Unit:=()
def tw4744648149146909365:Unit:=()
def tw9101024302213950649:Unit:=()
def tw9837769952095809059:Unit:=()
def tw9531866084512038204:Unit:=()
def tw6220845728532158066:Unit:=()
def tw4233417245329657126:Unit:=()
def tw10876696812128130473:Unit:=()
def tw9398004227859954858:Unit:=()
def tw8280465228294601606:Unit:=()
def tw17627634135990433480:Unit:=()
def tw8534795372799888322:Unit:=()
def tw664452301645180168:Unit:=()
def tw11054423041451669748:Unit:=()
def tw16863946580624914044:Unit:=()
def tw12700800661343869966:Unit:=()
def tw11343246232320765631:Unit:=()
def tw1466489004264594065:Unit:=()
def tw16102938947403761137:Unit:=()
def tw3672114721297893770:Unit:=()
def tw17184411088564476703:Unit:=()
def tw5348703914683772730:Unit:=()
def tw11546243253924693916:Unit:=()
def tw6979660935884665931:Unit:=()
def tw12340171587966431104:Unit:=()
def tw18269740305699463915:Unit:=()
def tw18176449334428742170:Unit:=()
def tw17590940104526215199:Unit:=()
def tw12283637046292935801:Unit:=()
def tw13520073712262060084:Unit:=()
def tw11868084424025926198:Unit:=()
def tw11832844751576176939:Unit:=()
def tw4944980512510839245:Unit:=()
def tw7287034711212349599:Unit:=()
def tw15721770431434942232:Unit:=()
def tw2503085208454279705:Unit:=()
def tw14217004752049633959:Unit:=()
def tw13826476816260012635:Unit:=()
def tw10005214373756019431:Unit:=()
def tw7138941520476623100:Unit:=()
def tw12015364381869944459:Unit:=()
def tw9969825514124135941:Unit:=()
def tw2167507292422312146:Unit:=()
def tw13969261989959989593:Unit:=()
def tw9140634585809813401:Unit:=()
def tw3497311136518537744:Unit:=()
def tw15989912445641224582:Unit:=()
def tw11799584810896618690:Unit:=()
def tw16118048164529860714:Unit:=()
def tw17883603591293659852:Unit:=()
def tw12591301328442077913:Unit:=()
def tw15303975210346217022:Unit:=()
def tw2313516977643560040:Unit:=()
def tw10523312040312852731:Unit:=()
def tw3917428960176028034:Unit:=()
def tw17932156935394728473:Unit:=()
end PySem.W.Fast
open Array renaming length_toList→ag3, append_assoc→aps, toList→aqf
open Bool renaming false_ne_true→afx, and_eq_true→af_, eq_iff_iff→agr, eq_false_iff→agv, false_eq_true→agF, and_false→ag9, and_true→apr, or_false→aqa
open Classical renaming propDecidable→af'
open Int renaming gcd→afW, zero_add→af1, ne_of_gt→af7, gcd_dvd_right→agj, gcd_dvd_left→agl, fmod_nonneg_of_pos→agp, fdiv_eq_of_eq_mul_right→agu, mul_pos→agy, mul_zero→agK, mul_comm→agL, fmod_lt_of_pos→ag7, natAbs_mul→ag8, mul_neg_of_pos_of_neg→ag_, lt_trichotomy→aha, natAbs_add_le→ahb, mul_assoc→ai_, mul_eq_zero→apl, natAbs_neg→apm, gcd_zero_right→apu, fmod_def→apC, emod_eq_of_lt→apI, gcd_mul_left→apM, gcd_pos_iff→apT, mul_ne_zero→apU
open List renaming getElem?_eq_some_iff→ir, length_map→Wp, getElem?_map→aa_, mem_of_getElem?→abt, getElem?_eq_none→ae_, map_cons→afp, length_append→afq, mem_map→afr, mem_cons_of_mem→aft, getElem?_append_left→afv, getElem?_append_right→afy, replicate→afz, flatMap_cons→afA, size_toArray→afC, mem_cons_self→afD, getElem?_of_mem→afE, getD_eq_getElem?_getD→afF, map_append→afG, map_map→afH, mem_singleton→afI, mem_cons→afK, length_cons→afL, mem_append→afM, length_take→afN, mem_append_right→afQ, take_length→afS, nodup_cons→afX, getElem?_set→afZ, ext_getElem?→af0, lookup→af2, mem_iff_getElem→af3, map_congr_left→af5, getElem?_replicate→af9, replicate_succ→aga, flatMap_append→agb, append_nil→agc, zipWith→age, mem_filterMap→agf, length_replicate→agg, map_nil→agi, sum_cons→agk, getElem_mem→agm, mem_flatMap→agn, length→ago, take_of_length_le→agq, find?_cons→ags, append_assoc→agt, nodup_append→agw, range→agx, any_eq_true→agz, filterMap_cons→agA, any_cons→agC, nil_append→agD, mem_range→agH, getElem?_set_self→agI, flatten_cons→agJ, getElem?_inj→agN, take_add_one→agO, getElem?_eraseIdx→agP, getElem?_zipWith→agR, take_append_drop→agS, length_drop→agT, cons_append→agU, filter_cons→agV, all_cons→agW, mem_append_left→agX, getElem?_set_ne→agY, length_eraseIdx→agZ, mem_filter→ag0, length_nil→ag1, mem_of_mem_eraseIdx→aj_, length_eraseIdx_le→al_, range_succ_eq_map→ao_, getElem_cons_drop→apj, of_mem_zip→apk, getElem_toArray→apo, getElem?_range→apq, forIn_toArray→apt, set_cons_zero→apv, set_cons_succ→apw, zip_cons_cons→apy, all_map→apD, getElem_take→apH, getElem_inj→apK, lookup_cons→apN, cons_ne_nil→apO, flatMap_nil→apP, forIn_cons→apV, foldl→apX, forIn_nil→ap0, nodup_nil→ap1
open Nat renaming le_trans→ac_, le_refl→ad_, lt_of_le_of_lt→afs, lt_of_lt_of_le→afw, ne_of_lt→afJ, pow_le_pow_right→afP, mul_le_mul_right→afR, zero_le→afU, lt_irrefl→afY, lt_succ_self→af4, lt_succ_iff_lt_or_eq→af6, not_lt_zero→agd, le_of_lt→agh, le_succ→agG, lt_succ_of_lt→agM, min_eq_left→ag2, ne_of_gt→ag4, pow_succ→ag5, zero_mul→ag6, add_mul→ah_, le_of_not_lt→ak_, le_add_right→am_, add_sub_cancel_left→anX, add_comm→an_, mul_le_mul→apn, one_le_two_pow→apx, le_of_eq→apB, min_self→apE, lt_trans→apF, le_succ_of_le→apG, pow_add→apR
open Ne renaming symm→afO
open Option renaming map_eq_some_iff→afu, isSome_iff_exists→agB, map_some→agE, isSome_map→ahc, getD_none→apL, none→aqr
open Option.some renaming inj→afB
open Or renaming inl→ab_, inr→afT
open Prod renaming ext→aku, fst→aqu, snd→aqv
open Rat renaming intCast_le_intCast→agQ, sub_eq_add_neg→apA
open Sum renaming inr→afV, inl→ag'
open Sum.inl renaming inj→apQ
open Sum.inr renaming inj→af8
open PySem.W (Frag nsIn codeIn keepIn fnOf mg_of mg_none_of)
namespace L2
open PySem PySem.Spec PyProof.Rows
abbrev Key:=Sum Int Str
def nY:Key→Value→Bool
 | .inl k,v=>Value.isInt k v
 | .inr x,v=>Value.isStrOf x v
def WM (w:World):Key→Int
 | .inl k=>hashInt k
 | .inr x=>hashStr w x
theorem bP:∀{k:Key} {v:Value},nY k v=true→(∃i t,k=ag' i∧v=Value.int i t)∨(∃x t,k=afV x∧v=Value.str x t)
 | .inl i,v,h=>by
  obtain ⟨t,e⟩:=Value.isInt_shape (k:=i) (v:=v) h
  exact .inl ⟨i,t,rfl,e⟩
 | .inr x,v,h=>by
  obtain ⟨t,e⟩:=Value.isStrOf_shape (x:=x) (v:=v) h
  exact .inr ⟨x,t,rfl,e⟩
theorem wd (i:Int)(t:Tok):nY (.inl i) (.int i t)=true:=by simp [nY,Value.isInt]
theorem we (x:Str)(t:Tok):nY (.inr x) (.str x t)=true:=by simp [nY,Value.isStrOf]
theorem KP (a b:Int):decide ((ag' a:Key)=ag' b)=(a==b):=by
 by_cases e:a=b
 ·subst e;simp
 ·have h:¬ (ag' a:Key)=ag' b:=fun q=>e (apQ q)
  rw [decide_eq_false h]
  exact (beq_eq_false_iff_ne.mpr e).symm
theorem KQ (a b:Str):decide ((afV a:Key)=afV b)=decide (a=b):=by
 by_cases e:a=b
 ·subst e;simp
 ·have h:¬ (afV a:Key)=afV b:=fun q=>e (af8 q)
  rw [decide_eq_false h,decide_eq_false e]
theorem KR (a:Int)(b:Str):decide ((ag' a:Key)=afV b)=false:=decide_eq_false (fun q=>nomatch q)
theorem KS (a:Str)(b:Int):decide ((afV a:Key)=ag' b)=false:=decide_eq_false (fun q=>nomatch q)
def bD (prog:Program)(w:World):PySem.KeyKind prog w Key where
 is:=nY
 hash:=WM w
 inj:=fun v a b ha hb=>by
  rcases bP ha with ⟨i,t,rfl,rfl⟩ | ⟨x,t,rfl,rfl⟩
  ·rcases bP hb with ⟨j,u,rfl,e⟩ | ⟨y,u,rfl,e⟩
   ·injection e with e1 _;rw [e1]
   ·exact nomatch e
  ·rcases bP hb with ⟨j,u,rfl,e⟩ | ⟨y,u,rfl,e⟩
   ·exact nomatch e
   ·injection e with e1 _;rw [e1]
 byValue:=fun k v h=>by
  rcases bP h with ⟨i,t,rfl,rfl⟩ | ⟨x,t,rfl,rfl⟩ <;> rfl
 pyHash:=fun hv h=>by
  rcases bP hv with ⟨i,t,rfl,rfl⟩ | ⟨x,t,rfl,rfl⟩
  ·exact wpAny_pyHash_int h
  ·exact wpAny_pyHash_str h
 eqBool:=fun hu hv h=>by
  rcases bP hu with ⟨i,t,rfl,rfl⟩ | ⟨x,t,rfl,rfl⟩
  ·rcases bP hv with ⟨j,u,rfl,rfl⟩ | ⟨y,u,rfl,rfl⟩
   ·rw [KP] at h;exact wpAny_eqBool_int h
   ·rw [KR] at h;exact SeqAt.EqAt.int_str i t y u _ _ _ _ h
  ·rcases bP hv with ⟨j,u,rfl,rfl⟩ | ⟨y,u,rfl,rfl⟩
   ·rw [KS] at h;exact SeqAt.EqAt.str_int x t j u _ _ _ _ h
   ·rw [KQ] at h;exact wpAny_eqBool_str h
 «strs»:=fun k x t v h=>by
  rcases bP h with ⟨i,u,rfl,e⟩ | ⟨y,u,rfl,e⟩
  ·exact nomatch e
  ·injection e with e1 _
   subst e1
   cases v <;> rfl
theorem ra (prog:Program)(w:World)(i:Int)(t:Tok):(bD prog w).is (.inl i) (.int i t)=true:=wd i t
theorem rf (prog:Program)(w:World)(x:Str)(t:Tok):(bD prog w).is (.inr x) (.str x t)=true:=we x t
end L2
namespace L2
open PySem PySem.Spec PyProof.Rows
inductive V where
 | cj | bl (b:Bool) | int (i:Int) | str (x:Str) | byt (b:Array UInt8) | KU (b:UInt64) | ref (a:Addr) | ty (n:String)
 deriving DecidableEq
def RelV:V→Value→Prop
 | .cj,u=>u=Value.none
 | .bl b,u=>u=Value.bool b
 | .int i,u=>∃t,u=Value.int i t
 | .str x,u=>∃t,u=Value.str x t
 | .byt b,u=>∃t,u=Value.bytes b t
 | .KU b,u=>∃t,u=Value.float b t
 | .ref a,u=>u=Value.ref a
 | .ty n,u=>u=Value.type n
abbrev Vals:List V→List Value→Prop:=Paired RelV
theorem Vals.length {xs:List V}{us:List Value}(r:Vals xs us):xs.length=us.length:=Paired.length r
theorem Vals.get:∀{xs:List V} {us:List Value} {i:Nat} {x:V},Vals xs us→xs[i]? =some x→∃u,us[i]? =some u∧RelV x u
 | _,_,_,_,.nil,e=>by simp at e
 | _,_,0,_,.cons r _,e=>by simp at e;subst e;exact ⟨_,rfl,r⟩
 | _,_,i+1,x,.cons _ t,e=>by
  obtain ⟨u,h1,h2⟩:=Vals.get (i:=i) (x:=x) t (by simpa using e)
  exact ⟨u,by simpa using h1,h2⟩
theorem Vals.set {x:V}{u:Value}(r:RelV x u):∀{xs:List V} {us:List Value} (i:Nat),Vals xs us→Vals (xs.set i x) (us.set i u)
 | _,_,_,.nil=>.nil
 | _,_,0,.cons _ t=>.cons r t
 | _,_,i+1,.cons q t=>.cons q (Vals.set r i t)
theorem Vals.append:∀{xs ys:List V} {us ws:List Value},Vals xs us→Vals ys ws→Vals (xs++ys) (us++ws)
 | _,_,_,_,.nil,s=>s
 | _,_,_,_,.cons r t,s=>.cons r (Vals.append t s)
theorem Vals.take:∀{xs:List V} {us:List Value} (n:Nat),Vals xs us→Vals (xs.take n) (us.take n)
 | _,_,0,_=>.nil
 | _,_,_+1,.nil=>.nil
 | _,_,n+1,.cons r t=>.cons r (Vals.take n t)
theorem Vals.drop:∀{xs:List V} {us:List Value} (n:Nat),Vals xs us→Vals (xs.drop n) (us.drop n)
 | _,_,0,r=>r
 | _,_,_+1,.nil=>.nil
 | _,_,n+1,.cons _ t=>Vals.drop n t
def dP:Option V→Option Value→Prop
 | some v,some u=>RelV v u
 | none,none=>True
 | _,_=>False
def KV {κ:Type}:List (κ×V)→List (κ×Value)→Prop:=Paired fun (p:κ×V) (q:κ×Value)=>p.1=q.1∧RelV p.2 q.2
def kV:Key→V
 | .inl i=>.int i
 | .inr x=>.str x
inductive HO where
 | lst (xs:List V)
 | tup (xs:List V)
 | dK (kvs:List (Key×V)) | dT (kvs:List (List Key×V))
 | set (S:Int→Bool) (n:Nat)
 | ins (C dx:Addr) (fs:List (Str×V))
 | own (x:Addr)
 | xd (fs:List (Str×V))
 | met (f x:Addr)
 | VQ (lo hi:Int)
 | ip (o:Obj) (u:HO)
 | IV (ps:Array Value)
 | ext (φ:Heap→Prop)
abbrev Hp:=Addr→Option HO
def upd (H:Hp)(a:Addr)(o:HO):Hp:=fun b=>if b=a then some o else H b
theorem ai {H:Hp}{a:Addr}{o:HO}:upd H a o a=some o:=by unfold upd;rw [if_pos rfl]
theorem aj {H:Hp}{a b:Addr}{o:HO}(h:b≠a):upd H a o b=H b:=by unfold upd;rw [if_neg h]
theorem NK {H:Hp}{a b:Addr}{o u:HO}(h:H a=some o)(h' :H b=some u)(d:o≠u):a≠b:=by
 intro e;subst e;rw [h] at h';exact d (afB h')
theorem ak {H:Hp}{a b:Addr}{o:HO}(h:H a=some o)(h' :H b=none):a≠b:=by
 intro e;subst e;rw [h] at h';cases h'
section
variable (P:Program)(w:World)
def bE (H:Hp)(h:Heap)(a:Addr):HO→Prop
 | .lst xs=>xs.length≤sizeLine∧∃(its:List Value) (n:Nat),Vals xs its∧h.get? a=some {cls:=.type "list",data:=.seq its.toArray n}
 | .tup xs=>xs.length≤sizeLine∧∃its:List Value,Vals xs its∧IsTup h a its.toArray
 | .dK kvs=>kvs.length≤sizeLine∧(a==sysModules)=false∧∃vs,KV kvs vs∧h.DictOf (bD P w) a vs
 | .dT kvs=>kvs.length≤sizeLine∧(a==sysModules)=false∧∃xs:List (List Key×Addr×Value),
   Paired (fun (p:List Key×V) (q:List Key×Addr×Value)=>p.1=q.1∧H q.2.1=some (.tup (p.1.map kV))∧RelV p.2 q.2.2) kvs xs∧
   ∃o es ep,h.get? a=some o∧o.ExactDict∧o.data=.dict es ep∧es.toList=xs.map (entryOfKey (tupleKind (bD P w)))∧(xs.map (·.1)).Nodup
 | .set S n=>h.SetOf (intKind P w) a S n
 | .ins C dx fs=>H dx=some (.own a)∧fs.length≤1000∧dx≠a∧h.get? a=some (PySem.W.instObj C dx)∧
   ∃mA,h.Ns1 dx mA∧(∀f,dP (fs.lookup f) (mA f))∧PySem.Within mA (fs.map (·.1))
 | .own _=>∃o,h.get? a=some o
 | .xd fs=>∃mA,h.Ns1 a mA∧∀f,dP (fs.lookup f) (mA f)
 | .VQ lo hi=>∃t u v,h.get? a=some {cls:=.type "range",data:=.fields #[.int lo t,.int hi u,.int 1 v]}
 | .ip o u=>h.get? a=some o∧bE H h a u
 | .IV ps=>h.get? a=some {cls:=.none,data:=.fields ps}
 | .met f x=>h.get? a=some (PySem.W.methodObj (.ref f) (.ref x))
 | .ext φ=>φ h∧(∃o,h.get? a=some o)∧∀h1 h2:Heap,φ h1→(∀o,h1.get? a=some o→h2.get? a=some o)→φ h2
def fM (H:Hp)(h:Heap):Prop:=∀a o,H a=some o→bE P w H h a o
end
section
variable {P:Program}{w:World}{H H' :Hp}{h h' :Heap}{a:Addr}{o:HO}
theorem bE.lt (x:bE P w H h a o):a < h.objs.size:=by
 cases o with
 | lst xs=>obtain ⟨_,_,_,_,e⟩:=x;exact Heap.lt_size e
 | tup xs=>obtain ⟨_,_,_,p⟩:=x;exact p.lt
 | dK kvs=>obtain ⟨_,_,_,_,o,_,_,e,_⟩:=x;exact Heap.lt_size e
 | dT kvs=>obtain ⟨_,_,_,_,o,_,_,e,_⟩:=x;exact Heap.lt_size e
 | set S n=>obtain ⟨o,_,_,_,e,_⟩:=x;exact Heap.lt_size e
 | ins C dx fs=>obtain ⟨_,_,_,e,_⟩:=x;exact Heap.lt_size e
 | own y=>obtain ⟨_,e⟩:=x;exact Heap.lt_size e
 | xd fs=>obtain ⟨_,⟨_,_,_,e,_⟩,_⟩:=x;exact Heap.lt_size e
 | VQ lo hi=>obtain ⟨_,_,_,e⟩:=x;exact Heap.lt_size e
 | ip ob u=>obtain ⟨e,_⟩:=x;exact Heap.lt_size e
 | IV ps=>exact Heap.lt_size (show h.get? a=some _ from x)
 | met f y=>exact Heap.lt_size (show h.get? a=some _ from x)
 | ext φ=>obtain ⟨_,⟨_,e⟩,_⟩:=x;exact Heap.lt_size e
theorem Paired.cw {α β:Type}{F G:α→β→Prop}:∀{l₁:List α} {l₂:List β},Paired F l₁ l₂→(∀a b,F a b→G a b)→Paired G l₁ l₂
 | _,_,.nil,_=>.nil
 | _,_,.cons r t,f=>.cons (f _ _ r) (Paired.cw t f)
theorem bE.jz (x:bE P w H h a o)(k:∀b u,(b=a∨H b=some (.own a))→h.get? b=some u→h'.get? b=some u)
  (ho:∀b,H b=some (.own a)→H' b=some (.own a)) (ht:∀b xs,H b=some (.tup xs)→H' b=some (.tup xs)):bE P w H' h' a o:=by
 induction o with
 | lst xs=>obtain ⟨z,its,n,r,e⟩:=x;exact ⟨z,its,n,r,k _ _ (.inl rfl) e⟩
 | tup xs=>obtain ⟨z,its,r,ob,e,c⟩:=x;exact ⟨z,its,r,ob,k _ _ (.inl rfl) e,c⟩
 | dK kvs=>obtain ⟨z,y,vs,r,ob,es,ep,e,c⟩:=x;exact ⟨z,y,vs,r,ob,es,ep,k _ _ (.inl rfl) e,c⟩
 | dT kvs=>
  obtain ⟨z,y,xs,r,ob,es,ep,e,c⟩:=x
  exact ⟨z,y,xs,Paired.cw r fun p q z=>⟨z.1,ht _ _ z.2.1,z.2.2⟩,ob,es,ep,k _ _ (.inl rfl) e,c⟩
 | set S n=>obtain ⟨ob,es,ep,t,e,c⟩:=x;exact ⟨ob,es,ep,t,k _ _ (.inl rfl) e,c⟩
 | ins C dx fs=>
  obtain ⟨d,z,ne,e,mA,⟨od,es,ep,e2,c⟩,r⟩:=x
  exact ⟨ho _ d,z,ne,k _ _ (.inl rfl) e,mA,⟨od,es,ep,k _ _ (.inr d) e2,c⟩,r⟩
 | own y=>obtain ⟨ob,e⟩:=x;exact ⟨ob,k _ _ (.inl rfl) e⟩
 | xd fs=>obtain ⟨mA,⟨od,es,ep,e,c⟩,r⟩:=x;exact ⟨mA,⟨od,es,ep,k _ _ (.inl rfl) e,c⟩,r⟩
 | VQ lo hi=>obtain ⟨t,u,v,e⟩:=x;exact ⟨t,u,v,k _ _ (.inl rfl) e⟩
 | ip ob u ih=>obtain ⟨e,q⟩:=x;exact ⟨k _ _ (.inl rfl) e,ih q⟩
 | IV ps=>
  have e:h.get? a=some {cls:=.none,data:=.fields ps}:=x
  show h'.get? a=some {cls:=.none,data:=.fields ps}
  exact k a _ (.inl rfl) e
 | met f y=>
  have e:h.get? a=some (PySem.W.methodObj (.ref f) (.ref y)):=x
  show h'.get? a=some (PySem.W.methodObj (.ref f) (.ref y))
  exact k a _ (.inl rfl) e
 | ext φ=>obtain ⟨p,⟨o,e⟩,st⟩:=x;exact ⟨st _ _ p fun o q=>k _ _ (.inl rfl) q,⟨o,k _ _ (.inl rfl) e⟩,st⟩
theorem fM.lt (x:fM P w H h)(e:H a=some o):a < h.objs.size:=(x a o e).lt
theorem fM.fresh (x:fM P w H h)(e:h.objs.size≤a):H a=none:=by
 cases q:H a with
 | none=>rfl
 | some u=>exact absurd (afw (x.lt q) e) (afY _)
theorem fM.kept (x:fM P w H h)(k:∀b u,h.get? b=some u→h'.get? b=some u):fM P w H h' :=fun a o e=>
 (x a o e).jz (fun b u _ q=>k b u q) (fun _ q=>q) fun _ _ q=>q
theorem fM.laid (x:fM P w H h)(k:∀b u,h.get? b=some u→h'.get? b=some u)(hp:h.objs.size≤a)(new:bE P w (upd H a o) h' a o):fM P w (upd H a o) h' :=fun b u e=>by
 have hn:=x.fresh hp
 by_cases hb:b=a
 ·subst hb;rw [ai] at e;cases e;exact new
 ·rw [aj hb] at e
  exact (x b u e).jz (fun c v _ q=>k c v q) (fun c q=>by rw [aj (ak q hn)];exact q) fun c xs q=>by rw [aj (ak q hn)];exact q
end
def Rd (H:Hp)(a:Addr)(u:HO):Prop:=H a=some u∨∃o,H a=some (.ip o u)
theorem Rd.of {H:Hp}{a:Addr}{u:HO}(h:H a=some u):Rd H a u:=.inl h
theorem Rd.ok {P:Program}{w:World}{H:Hp}{h:Heap}{a:Addr}{u:HO}(r:Rd H a u)(x:fM P w H h):bE P w H h a u:=by
 rcases r with r | ⟨o,r⟩
 ·exact x a u r
 ·obtain ⟨_,q⟩:=x a _ r
  exact q
def NL:Option HO→Prop
 | some (.lst _)=>True
 | some (.dK _)=>True
 | some (.dT _)=>True
 | some (.set _ _)=>True
 | some (.ins _ _ _)=>True
 | some (.ext _)=>True
 | _=>False
section
variable {P:Program}{w:World}{H:Hp}{h h' :Heap}{x e:Addr}{o' :HO}
theorem fM.write (ok:fM P w H h)(mu:NL (H x))(he:e=x∨H e=some (.own x))(k:∀b u,b≠e→h.get? b=some u→h'.get? b=some u)(Nh:∃u,h'.get? e=some u)
  (new:bE P w (upd H x o') h' x o'):fM P w (upd H x o') h' :=fun b u q=>by
 have NM:∀c y,H c=some (.own y)→c≠x:=fun c y r z=>by subst z;rw [r] at mu;exact mu
 have WN:∀c xs,H c=some (.tup xs)→c≠x:=fun c xs r z=>by subst z;rw [r] at mu;exact mu
 by_cases hb:b=x
 ·subst hb;rw [ai] at q;cases q;exact new
 ·rw [aj hb] at q
  by_cases KW:b=e
  ·have q' :H b=some (.own x):=by
    rcases he with z | z
    ·exact absurd (KW.trans z) hb
    ·rw [KW];exact z
   rw [q] at q';cases q'
   obtain ⟨v,hv⟩:=Nh
   exact ⟨v,by rw [KW];exact hv⟩
  ·refine (ok b u q).jz (fun c v hc r=>k c v ?_ r) (fun c r=>by rw [aj (NM c b r)];exact r) fun c xs r=>by rw [aj (WN c xs r)];exact r
   rcases hc with rfl | hc
   ·exact KW
   ·rintro rfl
    rcases he with z | z
    ·exact NM c b hc z
    ·rw [hc] at z;cases z;exact hb rfl
end
structure Un (fs ex:List Addr)(H H' :Hp)(h h' :Heap):Prop where
 keep:∀b o,h.get? b=some o→H b=none→b∉fs→b∉ex→h'.get? b=some o
 slot:∀b o,h.get? b=some o→H b=none→b∈fs→b∉ex→∃sl,h'.get? b=some {o with slots:=sl}
 free:∀b o,h.get? b=some o→H b=none→b∉ex→H' b=none
 there:∀b o,h.get? b=some o→b∉ex→∃o',h'.get? b=some o'
 gs:∀b xs,H b=some (.tup xs)→H' b=some (.tup xs)
 gj:∀b o u,H b=some (.ip o u)→H' b=some (.ip o u)
 gu:∀b ps,H b=some (.IV ps)→∃more,H' b=some (.IV (ps++more))
section
variable {fs Ni ex NO :List Addr}{H H1 H2:Hp}{h h1 h2 h' :Heap}{a x e:Addr}{o:HO}
theorem Un.any (u:Un fs ex H H1 h h1){b:Addr}{ob:Obj}(q:h.get? b=some ob)(n:H b=none)(hx:b∉ex):∃sl,h1.get? b=some {ob with slots:=sl}:=by
 by_cases hb:b∈fs
 ·exact u.slot b ob q n hb hx
 ·exact ⟨ob.slots,u.keep b ob q n hb hx⟩
theorem Un.trans (a:Un fs ex H H1 h h1)(b:Un fs ex H1 H2 h1 h2):Un fs ex H H2 h h2 where
 keep:=fun c ob q n hc hx=>b.keep c ob (a.keep c ob q n hc hx) (a.free c ob q n hx) hc hx
 slot:=fun c ob q n hc hx=>by
  obtain ⟨sl,e1⟩:=a.slot c ob q n hc hx
  obtain ⟨IW,e2⟩:=b.slot c _ e1 (a.free c ob q n hx) hc hx
  exact ⟨IW,e2⟩
 free:=fun c ob q n hx=>by
  obtain ⟨o',e1⟩:=a.there c ob q hx
  exact b.free c o' e1 (a.free c ob q n hx) hx
 there:=fun c ob q hx=>by
  obtain ⟨o',e1⟩:=a.there c ob q hx
  exact b.there c o' e1 hx
 gs:=fun c xs q=>b.gs c xs (a.gs c xs q)
 gj:=fun c ob xs q=>b.gj c ob xs (a.gj c ob xs q)
 gu:=fun c ps q=>by
  obtain ⟨m1,e1⟩:=a.gu c ps q
  obtain ⟨m2,e2⟩:=b.gu c _ e1
  exact ⟨m1++m2,by rw [e2,aps]⟩
theorem Un.kept (k:∀b u,h.get? b=some u→h'.get? b=some u):Un fs ex H H h h' :=
 ⟨fun b ob q _ _ _=>k b ob q,fun b ob q _ _ _=>⟨ob.slots,k b ob q⟩,fun _ _ _ n _=>n,fun b ob q _=>⟨ob,k b ob q⟩,fun _ _ q=>q,fun _ _ _ q=>q,fun _ ps q=>⟨#[],by rw [q];simp⟩⟩
theorem Un.refl:Un fs ex H H h h:=Un.kept fun _ _ q=>q
theorem Un.laid (k:∀b u,h.get? b=some u→h'.get? b=some u)(hp:h.objs.size≤a)(hn:H a=none):Un fs ex H (upd H a o) h h' where
 keep:=fun b u q _ _ _=>k b u q
 slot:=fun b u q _ _ _=>⟨u.slots,k b u q⟩
 free:=fun b u q n _=>by rw [aj (afJ (afw (Heap.lt_size q) hp))];exact n
 there:=fun b u q _=>⟨u,k b u q⟩
 gs:=fun b xs q=>by rw [aj (ak q hn)];exact q
 gj:=fun b u xs q=>by rw [aj (ak q hn)];exact q
 gu:=fun b ps q=>⟨#[],by rw [aj (ak q hn),q];simp⟩
theorem Un.write (mu:NL (H x))(he:e=x∨H e=some (.own x))(k:∀b u,b≠e→h.get? b=some u→h'.get? b=some u)(Nh:∃u,h'.get? e=some u):Un fs ex H (upd H x o) h h' :=by
 have hx:∀b,H b=none→b≠x:=fun b n z=>by subst z;rw [n] at mu;exact mu
 have hb:∀b,H b=none→b≠e:=fun b n z=>by
  subst z
  rcases he with r | r
  ·exact hx b n r
  ·rw [n] at r;cases r
 have hm:∀b u,H b=some u→¬ NL (some u)→b≠x:=fun b u q nm z=>by subst z;rw [q] at mu;exact nm mu
 refine ⟨fun b u q n _ _=>k b u (hb b n) q,fun b u q n _ _=>⟨u.slots,k b u (hb b n) q⟩,fun b u q n _=>by rw [aj (hx b n)];exact n,fun b u q _=> ?_,
  fun b xs q=>by rw [aj (hm b _ q fun z=>z)];exact q,fun b u xs q=>by rw [aj (hm b _ q fun z=>z)];exact q,fun b ps q=>⟨#[],by rw [aj (hm b _ q fun z=>z),q];simp⟩⟩
 by_cases KW:b=e
 ·subst KW;exact Nh
 ·exact ⟨u,k b u KW q⟩
theorem Un.mono (u:Un fs ex H H1 h h1)(hs:∀b∈fs,b∈Ni)(hx:∀b∈ex,b∈NO):Un Ni NO H H1 h h1:=
 ⟨fun b ob q n hb he=>u.keep b ob q n (fun z=>hb (hs b z)) fun z=>he (hx b z),fun _ _ q n _ he=>u.any q n fun z=>he (hx _ z),fun b ob q n he=>u.free b ob q n fun z=>he (hx b z),fun b ob q he=>u.there b ob q fun z=>he (hx b z),u.gs,u.gj,u.gu⟩
end
def VR (h:Heap)(H:Hp):List Addr:=(agx h.objs.size).filter fun a=>(H a).isSome
def oY (h:Heap)(H:Hp):Heap:=PySem.W.hideAll h (VR h H)
theorem wg (h:Heap)(H:Hp):(oY h H).objs.size=h.objs.size:=PySem.W.hideAll_size _ _
theorem yU {h:Heap}{H:Hp}{b:Addr}{o:Obj}(e:h.get? b=some o)(n:H b=none):(oY h H).get? b=some o:=
 PySem.W.hideAll_get _ e fun hm=>by
  have q:(H b).isSome=true:=(ag0.mp hm).2
  rw [n] at q;simp at q
theorem EF {h:Heap}{H:Hp}{b:Addr}{o:Obj}(e:(oY h H).get? b=some o):h.get? b=some o∧H b=none:=by
 have e' :h.get? b=some o:=PySem.W.of_hideAll (VR h H) e
 refine ⟨e',?_⟩
 cases q:H b with
 | none=>rfl
 | some x=>
  have hm:b∈VR h H:=ag0.mpr ⟨agH.mpr (Heap.lt_size e'),by simp [q]⟩
  have z:(oY h H).get? b=none:=PySem.W.hideAll_none (VR h H) hm
  rw [z] at e;cases e
def EG (g h:Heap)(L:Addr):List (Addr×Obj):=(agx h.objs.size).filterMap fun a=>if a=L∨(g.get? a).isSome=true then none else (h.get? a).map fun o=>(a,o)
def rest (g h:Heap)(L d:Addr):List (Addr×Obj):=(EG g h L).filter fun p=>decide (p.1≠d)
end L2
namespace L2
open PySem PySem.Spec PyProof.Rows
structure Mod (K:Frag)(mg:Str→Option Value)(base:Heap):Prop where
 IX:K.In base
 glob:base.Ns mainGlobals mg
 blt:∃mb,base.Ns builtinsNs mb∧∀x:Str,x≠ "__name__"→mb x=bootBuiltins x
 nolimit:base.NoLimit
 seer:base.NoSeer
structure Cx where
 prog:Program
 w:World
 K:Frag
 mg:Str→Option Value
 base:Heap
 A:Around
 N:List Str
 s₀:Shared
 H₀:Hp
 env:Env
 outer:List Env
 stack:List Env
 ex:List Addr
 fn:Str→Bool
 calm:Bool
 pn:List (Addr×Obj)
 xe:Value→Shared→Prop
def h_ (l:List Env):List Addr:=l.filterMap (·.frame)
abbrev Cx.fs (X:Cx):List Addr:=h_ X.outer
def WO (sc:Scope)(x:Str):Prop:=sc.names.lookup x=some .local∨sc.names.lookup x=some .cell∨sc.names.lookup x=some .free
def Loc (sc:Scope)(x:Str):Prop:=sc.names.lookup x=some .local∨sc.names.lookup x=some .cell
def Look (env:Env)(h:Heap)(m:Str→Option Value)(x:Str)(u:Value):Prop:=
 (env.kindOf x=some .local∧m x=some u)∨((env.kindOf x=some .cell∨env.kindOf x=some .free)∧∃c,env.cells.lookup x=some c∧h.IsCell c (some u))
structure Cx.Ok (X:Cx):Prop where
 mod:Mod X.K X.mg X.base
 kind:X.env.scope.kind=.function
 glob:X.env.globals=mainGlobals
 blt:X.env.builtins=builtinsNs
 above:X.s₀.heap.objs.size≤X.env.locals
 inj:∀x y c,X.env.cells.lookup x=some c→X.env.cells.lookup y=some c→x=y
 has:∀x,(X.env.kindOf x=some .cell∨X.env.kindOf x=some .free)→∃c,X.env.cells.lookup x=some c
 Nj:∀x c,X.fn x=true→X.env.cells.lookup x=some c→X.s₀.heap.objs.size≤c
 hd:X.calm=true→X.A.handled=none
 frames:X.A.frames=some X.stack
 NP:X.stack=X.outer∨(X.stack=X.env::X.outer∧X.env.frame=some X.env.locals)
 WQ:∀b∈X.ex,b≠X.env.locals∧∀x c,X.env.cells.lookup x=some c→c≠b
 bs:∀b o,X.base.get? b=some o→X.s₀.heap.get? b=some o∧X.H₀ b=none
 DS:X.base.objs.size≤X.s₀.heap.objs.size
 wj:∀b o,X.base.get? b=some o→b∉X.ex
 yV:∀b∈X.ex,b∉X.fs
 jA:X.s₀.heap.FunFrames X.base X.outer
 IY:∀b∈X.fs,X.H₀ b=none
structure Inv (X:Cx)(pins:List (Addr×Obj))(σ:List (Option V))(H:Hp)(s:Shared):Prop where
 ok:X.Ok
 os:s.os=X.s₀.os
 bare:AllBare s.gens
 base:Un X.fs X.ex X.H₀ H X.s₀.heap s.heap
 loc:∃m,s.heap.Ns X.env.locals m∧∀(i:Nat) (x:Str) (v:V),X.N[i]? =some x→σ[i]? =some (some v)→WO X.env.scope x→∃u,RelV v u∧Look X.env s.heap m x u
 cell:∀x c,X.env.cells.lookup x=some c→∃v,s.heap.IsCell c v
 free:H X.env.locals=none
 dZ:∀x c,X.env.cells.lookup x=some c→H c=none
 pin:∀p∈X.pn++pins,s.heap.get? p.1=some p.2∧H p.1=none∧p.1≠X.env.locals∧p.1∉X.fs∧∀v,p.2.data≠.cell v
 bz:fM X.prog X.w H s.heap
 len:σ.length=X.N.length
section
variable {X:Cx}{pins:List (Addr×Obj)}{σ:List (Option V)}{H H' :Hp}{s:Shared}{h' :Heap}
theorem Cx.Ok.WR (ok:X.Ok){b:Addr}{o:Obj}(e:X.base.get? b=some o):b∉X.fs:=fun hb=>by
 have:=(ok.jA.mem hb).1
 rw [e] at this;cases this
theorem Inv.bs (I:Inv X pins σ H s):∀b o,X.base.get? b=some o→s.heap.get? b=some o∧H b=none:=fun b o e=>
 ⟨I.base.keep b o (I.ok.bs b o e).1 (I.ok.bs b o e).2 (I.ok.WR e) (I.ok.wj b o e),I.base.free b o (I.ok.bs b o e).1 (I.ok.bs b o e).2 (I.ok.wj b o e)⟩
theorem Inv.bk (I:Inv X pins σ H s):∀b o,X.base.get? b=some o→s.heap.get? b=some o:=fun b o e=>(I.bs b o e).1
theorem Inv.mod (I:Inv X pins σ H s):Mod X.K X.mg X.base:=I.ok.mod
theorem Inv.dX (I:Inv X pins σ H s):X.K.In s.heap:=I.ok.mod.IX.keeps I.bk
theorem Inv.nolimit (I:Inv X pins σ H s):s.heap.NoLimit:=I.ok.mod.nolimit.keeps I.bk
theorem Inv.lt (I:Inv X pins σ H s):X.env.locals < s.heap.objs.size:=let ⟨_,hn,_⟩:=I.loc;hn.lt
theorem Inv.sz (I:Inv X pins σ H s):X.s₀.heap.objs.size≤s.heap.objs.size:=ac_ I.ok.above (agh I.lt)
theorem Inv.WS (I:Inv X pins σ H s){a:Addr}(h:s.heap.objs.size≤a):a∉X.fs:=fun hb=>by
 obtain ⟨_,o,ho,_⟩:=I.ok.jA.mem hb
 exact absurd (afw (Heap.lt_size ho) (ac_ I.sz h)) (afY _)
theorem Inv.yW (I:Inv X pins σ H s):∀x c,X.env.cells.lookup x=some c→c≠X.env.locals:=fun x c e z=>by
 obtain ⟨v,o,ho,hd⟩:=I.cell x c e
 obtain ⟨m,⟨o',es,ep,KY,NQ,_⟩,_⟩:=I.loc
 rw [z,KY] at ho;cases ho;rw [NQ] at hd;cases hd
theorem Inv.jA (I:Inv X pins σ H s):s.heap.FunFrames X.base X.outer:=by
 have all:∀(l:List Env),(∀b∈h_ l,b∈X.fs)→X.s₀.heap.FunFrames X.base l→s.heap.FunFrames X.base l:=by
  intro l
  induction l with
  | nil=>intro _ _;trivial
  | cons env r ih=>
   intro hs hl
   obtain ⟨hk,⟨L,o,hf,hn,ho,hd⟩,hr⟩:=hl
   have hL:L∈X.fs:=hs L (by unfold h_;rw [agA,hf];exact afD)
   obtain ⟨sl,e⟩:=I.base.slot L o ho (I.ok.IY L hL) hL fun z=>I.ok.yV L z hL
   exact ⟨hk,⟨L,_,hf,hn,e,hd⟩,ih (fun b hb=>hs b (by unfold h_;rw [agA,hf];exact aft _ hb)) hr⟩
 exact all X.outer (fun _ hb=>hb) I.ok.jA
theorem Inv.stack (I:Inv X pins σ H s):s.heap.FunFrames X.base X.stack:=by
 rcases I.ok.NP with e | ⟨e,hf⟩
 ·rw [e];exact I.jA
 ·rw [e]
  obtain ⟨m,hn,_⟩:=I.loc
  refine .cons (by rw [I.ok.kind];decide) hf hn ?_ I.jA
  exact Heap.get?_none_of_le (ac_ I.ok.DS I.ok.above)
theorem Inv.oZ (I:Inv X pins σ H s):∀b∈h_ X.stack,b∈X.env.locals::X.fs:=fun b hb=>by
 rcases I.ok.NP with e | ⟨e,hf⟩
 ·rw [e] at hb;exact aft _ hb
 ·rw [e] at hb
  unfold h_ at hb
  rw [agA,hf] at hb
  exact hb
theorem Inv.kQ (I:Inv X pins σ H s):∀b∈h_ X.stack,H b=none:=fun b hb=>by
 rcases afK.mp (I.oZ b hb) with e | hb
 ·rw [e];exact I.free
 ·obtain ⟨_,o,ho,_⟩:=I.ok.jA.mem hb
  exact I.base.free b o ho (I.ok.IY b hb) fun z=>I.ok.yV b z hb
theorem Inv.step {g' :Array GenState}{t' :Nat}{d' :Drawn}{ch:List Addr}(I:Inv X pins σ H s)
  (DT:∀b∈ch,(b∈X.ex∨X.s₀.heap.objs.size≤b)∧b≠X.env.locals∧(∀x c,X.env.cells.lookup x=some c→c≠b)∧∀p∈X.pn++pins,p.1≠b)
  (keep:∀b o,b≠X.env.locals→b∉X.fs→b∉ch→s.heap.get? b=some o→H b=none→h'.get? b=some o)
  (slot:∀b o,b≠X.env.locals→b∈X.fs→b∉ch→s.heap.get? b=some o→H b=none→∃sl,h'.get? b=some {o with slots:=sl}) (free:∀b o,b∉ch→s.heap.get? b=some o→H b=none→H' b=none)
  (there:∀b o,b∉ch→s.heap.get? b=some o→∃o',h'.get? b=some o')
  (gs:∀b xs,H b=some (.tup xs)→H' b=some (.tup xs)) (gj:∀b o u,H b=some (.ip o u)→H' b=some (.ip o u)) (gu:∀b ps,H b=some (.IV ps)→∃more,H' b=some (.IV (ps++more)))
  (ns:∀m,s.heap.Ns X.env.locals m→h'.Ns X.env.locals m) (bz:fM X.prog X.w H' h') (hg:AllBare g'):
  Inv X pins σ H' {s with heap:=h',gens:=g',drawn:=d',toks:=t' }:=by
 have neL:∀b o,X.s₀.heap.get? b=some o→b≠X.env.locals:=fun b o e=>afJ (afw (Heap.lt_size e) I.ok.above)
 have VS:∀b o,X.s₀.heap.get? b=some o→b∉X.ex→b∉ch:=fun b o e hx hb=>by
  rcases (DT b hb).1 with z | z
  ·exact hx z
  ·exact absurd (afw (Heap.lt_size e) z) (afY _)
 have cellK:∀x c,X.env.cells.lookup x=some c→∀v,s.heap.IsCell c v→h'.IsCell c v:=fun x c e v ⟨o,ho,hd⟩=>by
  have NR:c∉ch:=fun z=>(DT c z).2.2.1 x c e rfl
  by_cases hc:c∈X.fs
  ·obtain ⟨sl,q⟩:=slot c o (I.yW x c e) hc NR ho (I.dZ x c e)
   exact ⟨_,q,hd⟩
  ·exact ⟨o,keep c o (I.yW x c e) hc NR ho (I.dZ x c e),hd⟩
 refine ⟨I.ok,I.os,hg,⟨fun b o e n hb hx=> ?_,fun b o e n hb hx=> ?_,fun b o e n hx=> ?_,fun b o e hx=> ?_,fun b xs e=>gs b xs (I.base.gs b xs e),fun b o xs e=>gj b o xs (I.base.gj b o xs e),fun b ps e=> ?_⟩,?_,fun x c e=> ?_,?_,fun x c e=> ?_,fun p hp=> ?_,bz,I.len⟩
 ·exact keep b o (neL b o e) hb (VS b o e hx) (I.base.keep b o e n hb hx) (I.base.free b o e n hx)
 ·obtain ⟨sl,e1⟩:=I.base.slot b o e n hb hx
  obtain ⟨IW,e2⟩:=slot b _ (neL b o e) hb (VS b o e hx) e1 (I.base.free b o e n hx)
  exact ⟨IW,e2⟩
 ·obtain ⟨o',e1⟩:=I.base.there b o e hx
  exact free b o' (VS b o e hx) e1 (I.base.free b o e n hx)
 ·obtain ⟨o',e1⟩:=I.base.there b o e hx
  exact there b o' (VS b o e hx) e1
 ·obtain ⟨m1,e1⟩:=I.base.gu b ps e
  obtain ⟨m2,e2⟩:=gu b _ e1
  exact ⟨m1++m2,by rw [e2,aps]⟩
 ·obtain ⟨m,hn,hl⟩:=I.loc
  refine ⟨m,ns m hn,fun i x v e1 e2 e3=> ?_⟩
  obtain ⟨u,r,l⟩:=hl i x v e1 e2 e3
  refine ⟨u,r,?_⟩
  rcases l with l | ⟨k,c,e,z⟩
  ·exact .inl l
  ·exact .inr ⟨k,c,e,cellK x c e _ z⟩
 ·obtain ⟨v,z⟩:=I.cell x c e
  exact ⟨v,cellK x c e v z⟩
 ·obtain ⟨m,⟨o,_,_,ho,_⟩,_⟩:=I.loc
  exact free _ o (fun z=>(DT _ z).2.1 rfl) ho I.free
 ·obtain ⟨v,o,ho,hd⟩:=I.cell x c e
  exact free c o (fun z=>(DT c z).2.2.1 x c e rfl) ho (I.dZ x c e)
 ·obtain ⟨e,n,ne,nf,d⟩:=I.pin p hp
  have NR:p.1∉ch:=fun z=>(DT p.1 z).2.2.2 p hp rfl
  exact ⟨keep p.1 p.2 ne nf NR e n,free p.1 p.2 NR e n,ne,nf,d⟩
theorem Inv.un {t' :Nat}(I:Inv X pins σ H s)(u:Un X.fs [] H H' s.heap h')(bz:fM X.prog X.w H' h'):Inv X pins σ H' {s with heap:=h',toks:=t' }:=by
 obtain ⟨m,⟨o,es,ep,ho,r⟩,_⟩:=id I.loc
 obtain ⟨sl,hL⟩:=u.any ho I.free (by simp)
 exact I.step (g' :=s.gens) (d' :=s.drawn) (ch:=[]) (fun _ z=>nomatch z) (fun b o _ hb _ e n=>u.keep b o e n hb (by simp)) (fun b o _ hb _ e n=>u.slot b o e n hb (by simp)) (fun b o _ e n=>u.free b o e n (by simp)) (fun b o _ e=>u.there b o e (by simp)) u.gs u.gj u.gu (fun m' hm=>by
  obtain ⟨o',WT,va,KY,r'⟩:=hm
  rw [ho] at KY;cases KY
  exact ⟨_,WT,va,hL,r'⟩) bz I.bare
theorem Inv.call {g' :Array GenState}{t' :Nat}{d' :Drawn}{ch:List Addr}(I:Inv X pins σ H s)(u:Un (h_ X.stack) ch H H' s.heap h')(bz:fM X.prog X.w H' h')(hg:AllBare g')
  (DT:∀b∈ch,(b∈X.ex∨X.s₀.heap.objs.size≤b)∧b≠X.env.locals∧(∀x c,X.env.cells.lookup x=some c→c≠b)∧∀p∈X.pn++pins,p.1≠b):
  Inv X pins σ H' {s with heap:=h',gens:=g',drawn:=d',toks:=t' }:=by
 obtain ⟨m,⟨o,es,ep,ho,r⟩,_⟩:=id I.loc
 obtain ⟨sl,hL⟩:=u.any ho I.free fun z=>(DT _ z).2.1 rfl
 exact I.step (ch:=ch) DT (fun b o hL hb hc e n=>u.keep b o e n (fun z=>(afK.mp (I.oZ b z)).elim hL hb) hc) (fun b o _ _ hc e n=>u.any e n hc) (fun b o hc e n=>u.free b o e n hc) (fun b o hc e=>u.there b o e hc) u.gs u.gj u.gu (fun m' hm=>by
  obtain ⟨o',WT,va,KY,r'⟩:=hm
  rw [ho] at KY;cases KY
  exact ⟨_,WT,va,hL,r'⟩) bz hg
theorem Inv.turned {t' :Nat}{it:Addr}(I:Inv X pins σ H s)(k:∀b o,b≠it→s.heap.get? b=some o→h'.get? b=some o)(hn:H it=none)(hL:it≠X.env.locals)
  (h1:it∈X.ex∨X.s₀.heap.objs.size≤it) (h2:∀x c,X.env.cells.lookup x=some c→c≠it) (h3:∀p∈X.pn++pins,p.1≠it):Inv X pins σ H {s with heap:=h',toks:=t' }:=by
 have IZ:∀b u,H b=some u→b≠it:=fun b u e z=>by rw [z,hn] at e;cases e
 refine I.step (g' :=s.gens) (d' :=s.drawn) (ch:=[it]) (fun b hb=> ?_) (fun b o _ _ hc e _=>k b o (fun z=>hc (by simp [z])) e) (fun b o _ _ hc e _=>⟨o.slots,k b o (fun z=>hc (by simp [z])) e⟩) (fun _ _ _ _ n=>n)
  (fun b o hc e=>⟨o,k b o (fun z=>hc (by simp [z])) e⟩) (fun _ _ e=>e) (fun _ _ _ e=>e) (fun b ps e=>⟨#[],by rw [e];simp⟩) (fun m hm=> ?_) (fun b u e=> ?_) I.bare
 ·have e:b=it:=by simpa using hb
  subst e
  exact ⟨h1,hL,h2,h3⟩
 ·obtain ⟨o,es,ep,ho,r⟩:=hm
  exact ⟨o,es,ep,k _ o (afO hL) ho,r⟩
 ·refine (I.bz b u e).jz (fun c v hc q=>k c v ?_ q) (fun _ q=>q) fun _ _ q=>q
  rcases hc with z | z
  ·rw [z];exact IZ b u e
  ·exact IZ c _ z
theorem Inv.tok (I:Inv X pins σ H s)(t:Nat):Inv X pins σ H {s with toks:=t}:=I.un (h' :=s.heap) (t' :=t) Un.refl I.bz
theorem Inv.kept {t' :Nat}(I:Inv X pins σ H s)(k:∀b u,s.heap.get? b=some u→h'.get? b=some u):Inv X pins σ H {s with heap:=h',toks:=t' }:=I.un (Un.kept k) (I.bz.kept k)
theorem Inv.laid {a:Addr}{o:HO}{t' :Nat}(I:Inv X pins σ H s)(k:∀b u,s.heap.get? b=some u→h'.get? b=some u)(hp:s.heap.objs.size≤a)(new:bE X.prog X.w (upd H a o) h' a o):
  Inv X pins σ (upd H a o) {s with heap:=h',toks:=t' }:=I.un (Un.laid k hp (I.bz.fresh hp)) (I.bz.laid k hp new)
theorem Inv.write {x e:Addr}{o:HO}{t' :Nat}(I:Inv X pins σ H s)(mu:NL (H x))(he:e=x∨H e=some (.own x))(k:∀b u,b≠e→s.heap.get? b=some u→h'.get? b=some u)(Nh:∃u,h'.get? e=some u)
  (new:bE X.prog X.w (upd H x o) h' x o):Inv X pins σ (upd H x o) {s with heap:=h',toks:=t' }:=I.un (Un.write mu he k Nh) (I.bz.write mu he k Nh new)
theorem Inv.vb {I_ :List (Addr×Obj)}(I:Inv X pins σ H s)(h:∀p∈I_,s.heap.get? p.1=some p.2∧H p.1=none∧p.1≠X.env.locals∧p.1∉X.fs∧∀v,p.2.data≠.cell v):Inv X I_ σ H s:=
 ⟨I.ok,I.os,I.bare,I.base,I.loc,I.cell,I.free,I.dZ,fun p hp=>(afM.mp hp).elim (fun z=>I.pin p (agX _ z)) (h p),I.bz,I.len⟩
theorem dA {N:List Str}(hN:N.Nodup){i j:Nat}{x:Str}(a:N[i]? =some x)(b:N[j]? =some x):i=j:=by
 obtain ⟨h1,e1⟩:=ir.mp a
 obtain ⟨h2,e2⟩:=ir.mp b
 exact (apK hN).mp (e1.trans e2.symm)
theorem nZ {M:Model}{A:Around}{E:Value→Shared→Prop}{i:Nat}{x:Str}{v:V}{u:Value}{Q:Unit→Shared→Prop}(I:Inv X pins σ H s)(hN:X.N.Nodup)(hi:X.N[i]? =some x)(hx:Loc X.env.scope x)(r:RelV v u)
  (h:∀s',Inv X pins (σ.set i (some v)) H s' →(∃a,Heap.SameBut a s.heap s'.heap∧(a=X.env.locals∨X.env.cells.lookup x=some a))→Q () s') (hf:X.fn x=true∨X.env.scope.names.lookup x=some .local:=by first | exact .inl rfl | exact .inr rfl | assumption):wpAny M A (storeName X.env x u) Q E s:=by
 obtain ⟨m,hn,hl⟩:=id I.loc
 have yX:(X.env.scope.kind==.class || (X.env.scope.kind==.module && X.env.locals !=X.env.globals))=false:=by rw [I.ok.kind];rfl
 have VT:i < σ.length:=by rw [I.len];exact (ir.mp hi).1
 have yW:=I.yW
 have tracked:∀{a:Addr} {h' :Heap},(∃o,s.heap.get? a=some o∧H a=none)→Heap.SameBut a s.heap h' →fM X.prog X.w H h' :=fun {a h'} ha hs b ob e=>by
  obtain ⟨_,_,rg⟩:=ha
  refine (I.bz b ob e).jz (fun c w' hc q=>(hs.2 c ?_).trans q) (fun _ q=>q) fun _ _ q=>q
  rintro rfl
  rcases hc with rfl | hc
  ·rw [rg] at e;cases e
  ·rw [rg] at hc;cases hc
 rcases hx with hk | hk
 ·refine wpAny_storeName_local hk hn (fun h' NS hs=> ?_) yX
  obtain ⟨oL,_,_,hoL,_⟩:=id hn
  refine h _ ⟨I.ok,I.os,I.bare,⟨fun b o e n hb hx=> ?_,fun b o e n hb hx=> ?_,I.base.free,fun b o e hx=> ?_,I.base.gs,I.base.gj,I.base.gu⟩,⟨_,NS,fun j y v' e1 e2 e3=> ?_⟩,fun y c e=> ?_,I.free,I.dZ,fun p hp=> ?_,tracked ⟨oL,hoL,I.free⟩ hs,by simpa using I.len⟩ ⟨_,hs,.inl rfl⟩
  ·exact (hs.2 b (afJ (afw (Heap.lt_size e) I.ok.above))).trans (I.base.keep b o e n hb hx)
  ·obtain ⟨sl,e1⟩:=I.base.slot b o e n hb hx
   exact ⟨sl,(hs.2 b (afJ (afw (Heap.lt_size e) I.ok.above))).trans e1⟩
  ·obtain ⟨o',e1⟩:=I.base.there b o e hx
   exact ⟨o',(hs.2 b (afJ (afw (Heap.lt_size e) I.ok.above))).trans e1⟩
  ·by_cases hj:j=i
   ·subst hj
    rw [hi] at e1;cases e1
    rw [agI VT] at e2
    cases e2
    exact ⟨u,r,.inl ⟨hk,by simp⟩⟩
   ·rw [agY (afO hj)] at e2
    obtain ⟨u',r',q⟩:=hl j y v' e1 e2 e3
    refine ⟨u',r',?_⟩
    rcases q with ⟨k,e⟩ | ⟨k,c,e,z⟩
    ·refine .inl ⟨k,?_⟩
     have:y≠x:=fun e=>hj (dA hN e1 (e▸hi))
     simp [this,e]
    ·exact .inr ⟨k,c,e,z.sameBut hs (yW y c e)⟩
  ·obtain ⟨w',z⟩:=I.cell y c e
   exact ⟨w',z.sameBut hs (yW y c e)⟩
  ·obtain ⟨e,n,ne,nf,d⟩:=I.pin p hp
   exact ⟨(hs.2 p.1 ne).trans e,n,ne,nf,d⟩
 ·have WU:X.fn x=true:=by
   rcases hf with z | z
   ·exact z
   ·rw [z] at hk;cases hk
  obtain ⟨c,hc⟩:=I.ok.has x (.inl hk)
  obtain ⟨w',z⟩:=I.cell x c hc
  refine wpAny_storeName_cell I.ok.kind hk hc z (fun h' nA hs=> ?_)
  obtain ⟨oc,hoc,WV⟩:=id z
  refine h {s with heap:=h' } ⟨I.ok,I.os,I.bare,⟨fun b o e n hb hx=> ?_,fun b o e n hb hx=> ?_,I.base.free,fun b o e hx=> ?_,I.base.gs,I.base.gj,I.base.gu⟩,⟨m,hn.sameBut hs (afO (yW x c hc)),fun j y v' e1 e2 e3=> ?_⟩,fun y c' e=> ?_,I.free,I.dZ,fun p hp=> ?_,tracked ⟨oc,hoc,I.dZ x c hc⟩ hs,by simpa using I.len⟩ ⟨c,hs,.inr hc⟩
  ·exact (hs.2 b (afJ (afw (Heap.lt_size e) (I.ok.Nj x c WU hc)))).trans (I.base.keep b o e n hb hx)
  ·obtain ⟨sl,e1⟩:=I.base.slot b o e n hb hx
   exact ⟨sl,(hs.2 b (afJ (afw (Heap.lt_size e) (I.ok.Nj x c WU hc)))).trans e1⟩
  ·obtain ⟨o',e1⟩:=I.base.there b o e hx
   exact ⟨o',(hs.2 b (afJ (afw (Heap.lt_size e) (I.ok.Nj x c WU hc)))).trans e1⟩
  ·by_cases hj:j=i
   ·subst hj
    rw [hi] at e1;cases e1
    rw [agI VT] at e2
    cases e2
    exact ⟨u,r,.inr ⟨.inl hk,c,hc,nA⟩⟩
   ·rw [agY (afO hj)] at e2
    obtain ⟨u',r',q⟩:=hl j y v' e1 e2 e3
    refine ⟨u',r',?_⟩
    rcases q with q | ⟨k,c',e,z'⟩
    ·exact .inl q
    ·refine .inr ⟨k,c',e,z'.sameBut hs ?_⟩
     rintro rfl
     exact hj (dA hN e1 (I.ok.inj _ _ _ e hc▸hi))
  ·by_cases VU:c' =c
   ·subst VU;exact ⟨_,nA⟩
   ·obtain ⟨w2,z2⟩:=I.cell y c' e
    exact ⟨w2,z2.sameBut hs VU⟩
  ·obtain ⟨e,n,ne,nf,d⟩:=I.pin p hp
   refine ⟨(hs.2 p.1 ?_).trans e,n,ne,nf,d⟩
   intro q
   rw [q,hoc] at e
   have q' :oc=p.2:=afB e
   exact d w' (by rw [← q'];exact WV)
theorem gv {M:Model}{A:Around}{E:Value→Shared→Prop}{i:Nat}{x:Str}{v:V}{u:Value}{Q:Unit→Shared→Prop}(I:Inv X pins σ H s)(hN:X.N.Nodup)(hi:X.N[i]? =some x)(hx:Loc X.env.scope x)(r:RelV v u)
  (h:∀s',Inv X pins (σ.set i (some v)) H s' →Q () s') (hf:X.fn x=true∨X.env.scope.names.lookup x=some .local:=by first | exact .inl rfl | exact .inr rfl | assumption):wpAny M A (storeName X.env x u) Q E s:=
 nZ I hN hi hx r (fun s' I' _=>h s' I') hf
theorem Inv.vc {s' :Shared}{ch:List Addr}(I:Inv X pins σ H s)(ho:s'.os=s.os)(u:Un (h_ X.stack) ch H H' s.heap s'.heap)(bz:fM X.prog X.w H' s'.heap)(hg:AllBare s'.gens)
  (DT:∀b∈ch,(b∈X.ex∨X.s₀.heap.objs.size≤b)∧b≠X.env.locals∧(∀x c,X.env.cells.lookup x=some c→c≠b)∧∀p∈X.pn++pins,p.1≠b):Inv X pins σ H' s' :=by
 obtain ⟨h',g',d',t',o'⟩:=s'
 have e:o' =s.os:=ho
 subst e
 exact I.call (g' :=g') (t' :=t') (d' :=d') u bz hg DT
end
abbrev XK:=Value→Option Addr→Hp→Prop
abbrev St:=List (Option V)
abbrev VK:=V→Hp→Prop
abbrev TE:=St→Hp→VK→Prop
abbrev TT:=St→Hp→(Bool→Hp→Prop)→Prop
abbrev TA:=St→Hp→(List V→Hp→Prop)→Prop
structure Ends where
 nx:St→Hp→Prop
 rt:VK
 bk:St→Hp→Prop:=fun _ _=>False
 ct:St→Hp→Prop:=fun _ _=>False
abbrev TS:=Ends→St→Hp→Prop
def EP (X:Cx)(pins:List (Addr×Obj))(σ:St)(Q:VK)(u:Value)(s' :Shared):Prop:=∃v H',Inv X pins σ H' s' ∧RelV v u∧Q v H'
def TP (X:Cx)(pins:List (Addr×Obj))(σ:St)(Q:Bool→Hp→Prop)(b:Bool)(s' :Shared):Prop:=∃H',Inv X pins σ H' s' ∧Q b H'
def AP (X:Cx)(pins:List (Addr×Obj))(σ:St)(Q:List V→Hp→Prop)(us:List Value)(s' :Shared):Prop:=∃vs H',Inv X pins σ H' s' ∧Vals vs us∧Q vs H'
def SP (X:Cx)(pins:List (Addr×Obj))(D:Ends)(f:Flow)(s' :Shared):Prop:=
 match f with
 | .next=>∃σ' H',Inv X pins σ' H' s' ∧D.nx σ' H'
 | .brk=>∃σ' H',Inv X pins σ' H' s' ∧D.bk σ' H'
 | .cont=>∃σ' H',Inv X pins σ' H' s' ∧D.ct σ' H'
 | .ret u=>∃v σ' H',Inv X pins σ' H' s' ∧RelV v u∧D.rt v H'
def PE (X:Cx)(e:Expr)(t:TE):Prop:=
 ∀(pins:List (Addr×Obj)) (s:Shared) (σ:St) (H:Hp) (Q:VK),Inv X pins σ H s→t σ H Q→wpAny (model X.prog X.w) X.A (eval e X.env) (EP X pins σ Q) X.xe s
def PT (X:Cx)(e:Expr)(t:TT):Prop:=
 ∀(pins:List (Addr×Obj)) (s:Shared) (σ:St) (H:Hp) (Q:Bool→Hp→Prop),Inv X pins σ H s→t σ H Q→wpAny (model X.prog X.w) X.A (isTrue e X.env (eval e X.env)) (TP X pins σ Q) X.xe s
def PW (X:Cx)(e:Expr)(t:TT):Prop:=
 ∀(whole:Sem Value) (pins:List (Addr×Obj)) (s:Shared) (σ:St) (H:Hp) (Q:Bool→Hp→Prop),Inv X pins σ H s→t σ H Q→wpAny (model X.prog X.w) X.A (isTrue e X.env whole) (TP X pins σ Q) X.xe s
theorem PW.pt {X:Cx}{e:Expr}{t:TT}(h:PW X e t):PT X e t:=h _
def PA (X:Cx)(es:List Expr)(t:TA):Prop:=
 ∀(pos:Pos) (pins:List (Addr×Obj)) (s:Shared) (σ:St) (H:Hp) (Q:List V→Hp→Prop),Inv X pins σ H s→t σ H Q→wpAny (model X.prog X.w) X.A (spliced (backTo pos (starEach es X.env))) (AP X pins σ Q) X.xe s
def PS (X:Cx)(st:Stmt)(t:TS):Prop:=
 ∀(pins:List (Addr×Obj)) (s:Shared) (σ:St) (H:Hp) (D:Ends),Inv X pins σ H s→t D σ H→wpAny (model X.prog X.w) X.A (exec st X.env) (SP X pins D) X.xe s
def PSs (X:Cx)(st:List Stmt)(t:TS):Prop:=
 ∀(pins:List (Addr×Obj)) (s:Shared) (σ:St) (H:Hp) (D:Ends),Inv X pins σ H s→t D σ H→wpAny (model X.prog X.w) X.A (execs st X.env) (SP X pins D) X.xe s
theorem bZ {α:Type}{t:Sem α}{Q Q' :α→Shared→Prop}{M:Model}{A:Around}{E:Value→Shared→Prop}{s:Shared}(h:wpAny M A t Q E s)(hQ:∀a s,Q a s→Q' a s):wpAny M A t Q' E s:=wpAny_mono h hQ fun _ _ x=>x
end L2
namespace L2
open PySem PySem.Spec PyProof.Rows
section
variable {X:Cx}
inductive EH (i:Nat)(σ:St)(H:Hp)(Q:VK):Prop where
 | mk (v:_) (_:σ[i]? =some (some v)) (_:Q v H):EH i σ H Q
def tC (v:V):TE:=fun _ H Q=>Q v H
theorem KZ {i:Nat}{x:Str}{pos:Pos}(hN:X.N[i]? =some x)(hv:WO X.env.scope x)(hd:(x==("__debug__":Str))=false:=by decide)(lL:(x==("__classdict__":Str))=false:=by decide):PE X (.Name x pos) (EH i):=by
 intro pins s σ H Q I h
 obtain ⟨v,e,h⟩:=h
 obtain ⟨m,hn,hl⟩:=I.loc
 obtain ⟨u,r,l⟩:=hl i x v hN e hv
 have fin:EP X pins σ Q u s:=⟨v,H,I,r,h⟩
 rcases l with ⟨hk,hm⟩ | ⟨hk,c,hc,hcell⟩
 ·exact wpAny_Name (wpAny_loadName_local I.ok.kind hk hn hm fin) hd
 ·rcases hk with hk | hk
  ·exact wpAny_Name (wpAny_loadName_cell I.ok.kind hk hc hcell fin) hd
  ·exact wpAny_Name (wpAny_loadName_free I.ok.kind hk hc hcell fin lL) hd
theorem ag {i j pos}:PE X (.Constant (.int i) j pos) (tC (.int i)):=fun _ _ _ H _ I h=>wpAny_Constant_int ⟨.int i,H,I.tok _,⟨_,rfl⟩,h⟩
theorem ck {b j pos}:PE X (.Constant (.bool b) j pos) (tC (.bl b)):=fun _ _ _ H _ I h=>Constant_bool ⟨.bl b,H,I,rfl,h⟩
theorem lM {j pos}:PE X (.Constant .none j pos) (tC .cj):=fun _ _ _ H _ I h=>Constant_none ⟨.cj,H,I,rfl,h⟩
theorem cL {x j pos}:PE X (.Constant (.str x) j pos) (tC (.str x)):=fun _ _ _ H _ I h=>Calls.Constant_str ⟨.str x,H,I.tok _,⟨_,rfl⟩,h⟩
def Gl (X:Cx)(x:Str):Prop:=X.env.kindOf x=some .globalImplicit
theorem dQ {E:Value→Shared→Prop}{pins:List (Addr×Obj)}{s:Shared}{σ:St}{H:Hp}{x:Str}{u:Value}{pos:Pos}{Q:Value→Shared→Prop}(I:Inv X pins σ H s)(hg:Gl X x)(hm:X.mg x=some u)(h:Q u s)
  (hd:(x==("__debug__":Str))=false:=by decide):wpAny (model X.prog X.w) X.A (eval (.Name x pos) X.env) Q E s:=
 Calls.Name_function_global I.ok.kind hg (Calls.loadGlobal_global (by rw [I.ok.glob];exact I.mod.glob.keeps I.bk) hm h) hd
theorem gw {E:Value→Shared→Prop}{pins:List (Addr×Obj)}{s:Shared}{σ:St}{H:Hp}{x:Str}{u:Value}{pos:Pos}{Q:Value→Shared→Prop}(I:Inv X pins σ H s)(hg:Gl X x)(hm:X.mg x=none)(hv:bootBuiltins x=some u)(h:Q u s)
  (hn:x≠ "__name__":=by decide) (hd:(x==("__debug__":Str))=false:=by decide):wpAny (model X.prog X.w) X.A (eval (.Name x pos) X.env) Q E s:=by
 obtain ⟨mb,h1,h2⟩:=I.mod.blt
 exact Calls.Name_function_global I.ok.kind hg (Calls.loadGlobal_builtin (by rw [I.ok.glob];exact I.mod.glob.keeps I.bk) hm (by rw [I.ok.blt];exact h1.keeps I.bk) ((h2 x hn).trans hv) h) hd
theorem gR {x:Str}{v:V}{u:Value}{pos:Pos}(hg:Gl X x)(hm:X.mg x=some u)(r:RelV v u)(hd:(x==("__debug__":Str))=false:=by decide):PE X (.Name x pos) (tC v):=
 fun _ _ _ H _ I h=>dQ I hg hm ⟨v,H,I,r,h⟩ hd
theorem EI {x:Str}{v:V}{u:Value}{pos:Pos}(hg:Gl X x)(hm:X.mg x=none)(hv:bootBuiltins x=some u)(r:RelV v u)(hn:x≠ "__name__":=by decide)(hd:(x==("__debug__":Str))=false:=by decide):PE X (.Name x pos) (tC v):=
 fun _ _ _ H _ I h=>gw I hg hm hv ⟨v,H,I,r,h⟩ hn hd
variable {a b:Expr}{ta tb:TE}{pos:Pos}
def PC (X:Cx)(op:CmpOp)(a b:Expr)(t:TE):Prop:=
 ∀(pins:List (Addr×Obj)) (s:Shared) (σ:St) (H:Hp) (Q:VK),Inv X pins σ H s→t σ H Q→
  wpAny (model X.prog X.w) X.A (eval a X.env) (fun v s₁=>wpAny (model X.prog X.w) X.A (eval b X.env) (fun u s₂=>wpAny (model X.prog X.w) X.A (compareOp op v u) (EP X pins σ Q) X.xe s₂) X.xe s₁) X.xe s
inductive tB_ (Q:(Bool→Hp→Prop))(x:V)(H1:Hp):Prop where
 | mk (c:_) (_:x=.bl c) (_:Q c H1):tB_ Q x H1
def tB (t:TE):TT:=fun σ H Q=>t σ H fun x H1=>tB_ Q x H1
theorem o_ {op:CmpOp}{t:TE}(h:PC X op a b t)(h1:behindInMarks op b=false:=by first | exact nobehind _ (by decide) (by decide) | rfl):PT X (.Compare a [op] [b] pos) (tB t):=by
 intro pins s σ H Q I hw
 refine wpAny_isTrue_Compare1 (bZ (h pins s σ H _ I hw) fun v s1 h1=>bZ h1 fun u s2 h2=>bZ h2 fun c s3 ⟨x,H1,I1,r1,q1⟩=> ?_) h1
 obtain ⟨d,rfl,q⟩:=q1
 cases r1
 exact wpAny_truthy_bool ⟨H1,I1,q⟩
theorem bR {e:Expr}{t:TE}(h:PE X e t)(he:∀whole,isTrue e X.env whole=(do let v ← whole;standAt e.pos;holding [v] (truthy v)):=by intro _;rfl):PT X e (tB t):=by
 intro pins s σ H Q I hw
 refine isTrue_plain (bZ (h pins s σ H _ I hw) fun v s1 ⟨x,H1,I1,r1,q1⟩=> ?_) (he _)
 obtain ⟨d,rfl,q⟩:=q1
 cases r1
 exact wpAny_truthy_bool ⟨H1,I1,q⟩
variable {tA VW :TT}{rest:List Expr}
def WW (t u:TT):TT:=fun σ H Q=>t σ H fun c H1=>if c=true then u σ H1 Q else Q false H1
def tOr (t u:TT):TT:=fun σ H Q=>t σ H fun c H1=>if c=true then Q true H1 else u σ H1 Q
def WX (t:TT):TT:=fun σ H Q=>t σ H fun c H1=>Q (!c) H1
theorem iR (ha:PT X a tA):PW X (.BoolOp .And [a] pos) tA:=by
 intro wh pins s σ H Q I h
 refine isTrue_and (bZ (ha pins s σ H Q I h) fun c s1 e=> ?_)
 cases c with
 | true=>exact isTrue_and_nil e
 | false=>exact e
theorem dm (ha:PT X a tA):PW X (.BoolOp .Or [a] pos) tA:=by
 intro wh pins s σ H Q I h
 refine isTrue_or (bZ (ha pins s σ H Q I h) fun c s1 e=> ?_)
 cases c with
 | false=>exact isTrue_or_nil e
 | true=>exact e
theorem jB (ha:PT X a tA)(hb:PW X (.BoolOp .And (b::rest) pos) VW):PW X (.BoolOp .And (a::b::rest) pos) (WW tA VW):=by
 intro wh pins s σ H Q I h
 refine isTrue_and (bZ (ha pins s σ H _ I h) fun c s1 ⟨H1,I1,q1⟩=> ?_)
 cases c with
 | true=>exact hb wh pins s1 σ H1 Q I1 q1
 | false=>exact ⟨H1,I1,q1⟩
theorem d3 (ha:PT X a tA)(hb:PW X (.BoolOp .Or (b::rest) pos) VW):PW X (.BoolOp .Or (a::b::rest) pos) (tOr tA VW):=by
 intro wh pins s σ H Q I h
 refine isTrue_or (bZ (ha pins s σ H _ I h) fun c s1 ⟨H1,I1,q1⟩=> ?_)
 cases c with
 | true=>exact ⟨H1,I1,q1⟩
 | false=>exact hb wh pins s1 σ H1 Q I1 q1
theorem cC (ha:PT X a tA):PT X (.UnaryOp .Not a pos) (WX tA):=by
 intro pins s σ H Q I h
 exact isTrue_not (ha pins s σ H (fun c H1=>Q (!c) H1) I h)
def NT (ta tb:TE):TE:=fun σ H Q=>ta σ H fun x H1=>∃c,x=.bl c∧if c=true then tb σ H1 Q else Q (.bl false) H1
theorem yY {op}{t:TE}(h:PE X a t):PE X (.BoolOp op [a] pos) t:=fun pins s σ H Q I hw=>BoolOp_one (h pins s σ H Q I hw)
theorem yZ (ha:PE X a ta)(hb:PE X (.BoolOp .And (b::rest) pos) tb):PE X (.BoolOp .And (a::b::rest) pos) (NT ta tb):=by
 intro pins s σ H Q I h
 refine BoolOp_and (bZ (ha pins s σ H _ I h) fun v s1 ⟨x,H1,I1,r1,q1⟩=> ?_)
 obtain ⟨c,rfl,q1⟩:=q1
 cases r1
 refine wpAny_truthy_bool ?_
 cases c with
 | true=>exact hb pins s1 σ H1 Q I1 q1
 | false=>exact ⟨.bl false,H1,I1,rfl,q1⟩
def tIf (t:TT)(ta tb:TE):TE:=fun σ H Q=>t σ H fun c H1=>if c=true then ta σ H1 Q else tb σ H1 Q
theorem rh {c:Expr}(hc:PT X c tA)(ha:PE X a ta)(hb:PE X b tb):PE X (.IfExp c a b pos) (tIf tA ta tb):=by
 intro pins s σ H Q I h
 refine wpAny_IfExp (bZ (hc pins s σ H _ I h) fun d s1 ⟨H1,I1,q1⟩=> ?_)
 cases d with
 | true=>exact ha pins s1 σ H1 Q I1 q1
 | false=>exact hb pins s1 σ H1 Q I1 q1
end
end L2
namespace L2
open PySem PySem.Spec PyProof.Rows
def aR (K:Frag)(H:Hp)(a:Addr)(xs:List V):Prop:=
 Rd H a (.lst xs)∨
  ∃(o:Obj) (its:Array Value) (n:Nat),K.lookup a=some o∧o.cls=.type "list"∧o.dict=none∧o.data=.seq its n∧its.size≤sizeLine∧Vals xs its.toList
def bF (K:Frag)(H:Hp)(a:Addr)(xs:List V):Prop:=
 Rd H a (.tup xs)∨
  ∃(o:Obj) (its:Array Value) (n:Nat),K.lookup a=some o∧o.cls=.type "tuple"∧o.data=.seq its n∧its.size≤sizeLine∧Vals xs its.toList
def WY:Value→Option V
 | .none=>some .cj
 | .bool b=>some (.bl b)
 | .int i _=>some (.int i)
 | .str x _=>some (.str x)
 | .bytes b _=>some (.byt b)
 | .float b _=>some (.KU b)
 | .ref a=>some (.ref a)
 | .type n=>some (.ty n)
 | _=>none
theorem RelV.abs {x:V}{u:Value}(r:RelV x u):WY u=some x:=by
 cases x with
 | cj=>cases r;rfl
 | bl _=>cases r;rfl
 | int _=>obtain ⟨t,rfl⟩:=r;rfl
 | str _=>obtain ⟨t,rfl⟩:=r;rfl
 | byt _=>obtain ⟨t,rfl⟩:=r;rfl
 | KU _=>obtain ⟨t,rfl⟩:=r;rfl
 | ref _=>cases r;rfl
 | ty _=>cases r;rfl
theorem RelV.inj {x y:V}{u:Value}(r:RelV x u)(q:RelV y u):x=y:=afB (r.abs.symm.trans q.abs)
theorem Vals.inj:∀{xs ys:List V} {us:List Value},Vals xs us→Vals ys us→xs=ys
 | _,_,_,.nil,.nil=>rfl
 | _,_,_,.cons r t,.cons r' t' =>by rw [r.inj r',Vals.inj t t']
section
variable {X:Cx}{pins:List (Addr×Obj)}{σ:St}{H:Hp}{s:Shared}{a:Addr}{xs ys:List V}
theorem aR.of {K:Frag}(h:H a=some (.lst xs)):aR K H a xs:=.inl (.inl h)
theorem bF.of {K:Frag}(h:H a=some (.tup xs)):bF K H a xs:=.inl (.inl h)
theorem Inv.list (I:Inv X pins σ H s)(h:aR X.K H a xs):∃its:List Value,Vals xs its∧PlainL s.heap a its.toArray∧xs.length≤sizeLine:=by
 rcases h with h | ⟨o,its,n,hk,hc,hd,hs,hz,r⟩
 ·obtain ⟨z,its,n,r,e⟩:=h.ok I.bz
  exact ⟨its,r,⟨_,n,e,rfl,rfl,rfl⟩,z⟩
 ·refine ⟨its.toList,r,⟨o,n,I.dX a o hk,hc,hd,by simpa using hs⟩,?_⟩
  have e:=r.length
  simp only [ag3] at e
  omega
theorem Inv.tuple (I:Inv X pins σ H s)(h:bF X.K H a xs):∃its:List Value,Vals xs its∧IsTup s.heap a its.toArray∧xs.length≤sizeLine:=by
 rcases h with h | ⟨o,its,n,hk,hc,hs,hz,r⟩
 ·obtain ⟨z,its,r,p⟩:=h.ok I.bz
  exact ⟨its,r,p,z⟩
 ·refine ⟨its.toList,r,⟨o,I.dX a o hk,hc,n,by simpa using hs⟩,?_⟩
  have e:=r.length
  simp only [ag3] at e
  omega
theorem Inv.gx (I:Inv X pins σ H s)(h:aR X.K H a xs)(h' :aR X.K H a ys):xs=ys:=by
 obtain ⟨its,r,⟨o,n,e,_,_,d⟩,_⟩:=I.list h
 obtain ⟨its',r',⟨o',n',e',_,_,d'⟩,_⟩:=I.list h'
 rw [e] at e';cases e'
 rw [d] at d'
 injection d' with d1 _
 have:its=its' :=by simpa using congrArg aqf d1
 subst this
 exact r.inj r'
theorem Inv.fq (I:Inv X pins σ H s)(h:bF X.K H a xs)(h' :bF X.K H a ys):xs=ys:=by
 obtain ⟨its,r,⟨o,e,_,n,d⟩,_⟩:=I.tuple h
 obtain ⟨its',r',⟨o',e',_,n',d'⟩,_⟩:=I.tuple h'
 rw [e] at e';cases e'
 rw [d] at d'
 injection d' with d1 _
 have:its=its' :=by simpa using congrArg aqf d1
 subst this
 exact r.inj r'
end
abbrev Cx.kA (X:Cx)(E:Value→Shared→Prop):Cx:={X with xe:=E}
abbrev Cx.tN (X:Cx):Cx:=X.kA fun _ _=>False
theorem Cx.Ok.kA {X:Cx}(ok:X.Ok)(E:Value→Shared→Prop):(X.kA E).Ok:=
 ⟨ok.mod,ok.kind,ok.glob,ok.blt,ok.above,ok.inj,ok.has,ok.Nj,ok.hd,ok.frames,ok.NP,ok.WQ,ok.bs,ok.DS,ok.wj,ok.yV,ok.jA,ok.IY⟩
theorem Cx.Ok.fe {X:Cx}{E:Value→Shared→Prop}(ok:(X.kA E).Ok):X.Ok:=
 ⟨ok.mod,ok.kind,ok.glob,ok.blt,ok.above,ok.inj,ok.has,ok.Nj,ok.hd,ok.frames,ok.NP,ok.WQ,ok.bs,ok.DS,ok.wj,ok.yV,ok.jA,ok.IY⟩
section
variable {X:Cx}{pins:List (Addr×Obj)}{σ:St}{H:Hp}{s:Shared}{E:Value→Shared→Prop}
theorem Inv.kA (I:Inv X pins σ H s)(E:Value→Shared→Prop):Inv (X.kA E) pins σ H s:=⟨I.ok.kA E,I.os,I.bare,I.base,I.loc,I.cell,I.free,I.dZ,I.pin,I.bz,I.len⟩
theorem Inv.fe (I:Inv (X.kA E) pins σ H s):Inv X pins σ H s:=⟨I.ok.fe,I.os,I.bare,I.base,I.loc,I.cell,I.free,I.dZ,I.pin,I.bz,I.len⟩
theorem SP.fe {D:Ends}{f:Flow}{s' :Shared}(h:SP (X.kA E) pins D f s'):SP X pins D f s' :=by
 cases f with
 | next=>obtain ⟨σ',H',I,q⟩:=h;exact ⟨σ',H',I.fe,q⟩
 | brk=>obtain ⟨σ',H',I,q⟩:=h;exact ⟨σ',H',I.fe,q⟩
 | cont=>obtain ⟨σ',H',I,q⟩:=h;exact ⟨σ',H',I.fe,q⟩
 | ret u=>obtain ⟨v,σ',H',I,r,q⟩:=h;exact ⟨v,σ',H',I.fe,r,q⟩
theorem PSs.tN {st:List Stmt}{t:TS}(h:PSs X.tN st t):PSs X st t:=fun pins s σ H D I hw=>
 wpAny_mono (h pins s σ H D (I.kA _) hw) (fun _ _ q=>q.fe) fun _ _ z=>False.elim z
end
section
variable {X:Cx}{st:Stmt}{rest:List Stmt}{t u:TS}{e:Expr}{te:TE}{pos:Pos}
def vd:TS:=fun D σ H=>D.nx σ H
def NU (t u:TS):TS:=fun D σ H=>t {D with nx:=u D} σ H
theorem aI:PSs X [] vd:=fun _ _ σ H _ I h=>wpAny_execs_nil ⟨σ,H,I,h⟩
theorem ae (h1:PS X st t)(h2:PSs X rest u):PSs X (st::rest) (NU t u):=by
 intro pins s σ H D I h
 refine wpAny_execs_cons (bZ (h1 pins s σ H {D with nx:=u D} I h) fun f s1 q=> ?_)
 cases f with
 | next=>
  obtain ⟨σ',H',I',q⟩:=q
  exact h2 pins s1 σ' H' D I' q
 | ret v=>exact q
 | brk=>exact q
 | cont=>exact q
theorem ah (h1:PS X st t):PSs X [st] t:=by
 intro pins s σ H D I h
 refine wpAny_execs_cons (bZ (h1 pins s σ H D I h) fun f s1 q=> ?_)
 cases f with
 | next=>exact wpAny_execs_nil q
 | ret v=>exact q
 | brk=>exact q
 | cont=>exact q
def NV:TS:=fun D σ H=>D.ct σ H
theorem rj:PS X (.Continue pos) NV:=fun _ _ σ H _ I h=>wpAny_Continue ⟨σ,H,I,h⟩
theorem Inv.quiet {pins:List (Addr×Obj)}{σ:St}{H:Hp}{s:Shared}(I:Inv X pins σ H s):interactive X.env=false:=by simp [interactive,I.ok.kind]
def NW (te:TE):TS:=fun D σ H=>te σ H fun _ H1=>D.nx σ H1
theorem bK (he:PE X e te)(hs:swapsWith e none pos.line X.env=pure false:=by rfl):PS X (.Expr e pos) (NW te):=by
 intro pins s σ H D I h
 exact wpAny_Expr_any (bZ (he pins s σ H _ I h) fun v s1 ⟨x,H1,I1,r1,q1⟩=>⟨σ,H1,I1,q1⟩) I.quiet hs
def WZ (te:TE):TS:=fun D σ H=>te σ H D.rt
theorem aw (he:PE X e te):PS X (.Return (some e) pos) (WZ te):=by
 intro pins s σ H D I h
 exact wpAny_Return_some (bZ (he pins s σ H _ I h) fun v s1 ⟨x,H1,I1,r1,q1⟩=>⟨x,σ,H1,I1,r1,q1⟩)
def W0 (c:TT)(t u:TS):TS:=fun D σ H=>c σ H fun b H1=>if b=true then t D σ H1 else u D σ H1
theorem ba {c:Expr}{a b:List Stmt}{tc:TT}(hc:PT X c tc)(ha:PSs X a t)(hb:PSs X b u):PS X (.If c a b pos) (W0 tc t u):=by
 intro pins s σ H D I h
 refine wpAny_If (bZ (hc pins s σ H _ I h) fun d s1 ⟨H1,I1,q1⟩=> ?_)
 cases d with
 | true=>exact ha pins s1 σ H1 D I1 q1
 | false=>exact hb pins s1 σ H1 D I1 q1
def K0:TS:=fun _ _ _=>False
theorem cX:PS X st K0:=fun _ _ _ _ _ _ h=>h.elim
end
abbrev TG:=V→St→Hp→(St→Hp→Prop)→Prop
abbrev Jv:=List V→St→Hp→(St→Hp→Prop)→Prop
def PG (X:Cx)(target:Expr)(t:TG):Prop:=
 ∀(pins:List (Addr×Obj)) (s:Shared) (σ:St) (H:Hp) (v:V) (u:Value) (Q:St→Hp→Prop),Inv X pins σ H s→RelV v u→t v σ H Q→
  wpAny (model X.prog X.w) X.A (assign target X.env u) (fun _ s' =>∃σ' H',Inv X pins σ' H' s' ∧Q σ' H') X.xe s
def NX (X:Cx)(ts:List Expr)(t:Jv):Prop:=
 ∀(pins:List (Addr×Obj)) (s:Shared) (σ:St) (H:Hp) (vs:List V) (us:List Value) (Q:St→Hp→Prop),Inv X pins σ H s→Vals vs us→t vs σ H Q→
  wpAny (model X.prog X.w) X.A (assignInOrder ((assignEach ts X.env).map (·.2)) us) (fun _ s' =>∃σ' H',Inv X pins σ' H' s' ∧Q σ' H') X.xe s
abbrev K1:=V→V→V→Hp→(Hp→Prop)→Prop
def NY (X:Cx)(t:K1):Prop:=
 ∀(pins:List (Addr×Obj)) (s:Shared) (σ:St) (H:Hp) (o i v:V) (ov iv u:Value) (Q:Hp→Prop),Inv X pins σ H s→RelV o ov→RelV i iv→RelV v u→t o i v H Q→
  wpAny (model X.prog X.w) X.A (setItem ov iv u) (fun _ s' =>∃H',Inv X pins σ H' s' ∧Q H') X.xe s
section
variable {X:Cx}{pos:Pos}
def cY (i:Nat):TG:=fun v σ H Q=>Q (σ.set i (some v)) H
theorem au {i:Nat}{x:Str}(hN:X.N.Nodup)(hi:X.N[i]? =some x)(hx:Loc X.env.scope x)(hf:X.fn x=true∨X.env.scope.names.lookup x=some .local:=by first | exact .inl rfl | exact .inr rfl | assumption):PG X (.Name x pos) (cY i):=by
 intro pins s σ H v u Q I r h
 exact wpAny_assign_Name (gv I hN hi hx r (fun s' I' =>⟨_,H,I',h⟩) hf)
def K2:Jv:=fun vs σ H Q=>vs=[]∧Q σ H
def rl (t:TG)(u:Jv):Jv:=fun vs σ H Q=>∃v r,vs=v::r∧t v σ H fun σ' H' =>u r σ' H' Q
theorem cz:NX X [] K2:=by
 intro pins s σ H vs us Q I r h
 obtain ⟨e,h⟩:=h
 subst e
 cases r
 exact assignInOrder_nil ⟨σ,H,I,h⟩
theorem aU {e:Expr}{es:List Expr}{t:TG}{u:Jv}(h1:PG X e t)(h2:NX X es u)
  (hs:(assignEach (e::es) X.env).map (·.2)=assign e X.env::(assignEach es X.env).map (·.2):=by rfl):NX X (e::es) (rl t u):=by
 intro pins s σ H vs us Q I r h
 obtain ⟨v,vr,e1,h⟩:=h
 subst e1
 cases r with
 | cons r rr=>
  rw [hs]
  refine assignInOrder_cons (bZ (h1 pins s σ H _ _ _ I r h) fun _ s1 ⟨σ1,H1,I1,q1⟩=> ?_)
  exact h2 pins s1 σ1 H1 _ _ Q I1 rr q1
inductive y4 (K:Frag)(n:Nat)(t:Jv)(v:V)(σ:St)(H:Hp)(Q:(St→Hp→Prop)):Prop where
 | mk (a xs:_) (_:v=.ref a) (_:bF K H a xs) (_:xs.length=n) (_:t xs σ H Q):y4 K n t v σ H Q
theorem dI {es:List Expr}{k:Nat}{t:Jv}{n:Nat}(hc:X.calm=true)(h:NX X es t)
  (hn:(assignEach es X.env).length=n:=by rfl) (y6:(assignEach es X.env).findIdx? (·.1)=none:=by rfl):PG X (.Tuple es k pos) (y4 X.K n t):=by
 intro pins s σ H v u Q I r hw
 obtain ⟨a,xs,e1,hq,hl,hw⟩:=hw
 subst e1
 cases r
 obtain ⟨its,rv,ht,hz⟩:=I.tuple hq
 refine assign_Tuple_tuple (I.ok.hd hc) ht (by simp [hn, ← hl,rv.length]) y6 fun h' hx=> ?_
 have I1:Inv X pins σ H {s with heap:=h' }:=I.kept (t' :=s.toks) fun b o e=>hx b o (afJ (Heap.lt_size e)) e
 exact h pins _ σ H xs _ Q I1 (by simpa using rv) hw
def W5 (to ti:TE)(t:K1):TG:=fun v σ H Q=>to σ H fun o H1=>ti σ H1 fun i H2=>t o i v H2 fun H3=>Q σ H3
theorem tR {o i:Expr}{to ti:TE}{t:K1}(ho:PE X o to)(hi:PE X i ti)(hs:NY X t)
  (ha:∀v,assign (.Subscript o i pos) X.env v=(do
   let ov ← holding [v] (eval o X.env)
   let iv ← holding [v,ov] (eval i X.env)
   standAt pos
   holding [v,ov,iv] (setItem ov iv v)
   release [v,ov,iv] []):=by intro _;rfl):PG X (.Subscript o i pos) (W5 to ti t):=by
 intro pins s σ H v u Q I r h
 rw [ha]
 refine wpAny_bind (wpAny_holding (bZ (ho pins s σ H _ I h) fun ov s1 ⟨x,H1,I1,r1,q1⟩=> ?_))
 refine wpAny_bind (wpAny_holding (bZ (hi pins s1 σ H1 _ I1 q1) fun iv s2 ⟨y,H2,I2,r2,q2⟩=> ?_))
 refine wpAny_bind (wpAny_standAt (wpAny_bind (wpAny_holding (bZ (hs pins s2 σ H2 x y v ov iv u _ I2 r1 r2 r q2) fun _ s3 ⟨H3,I3,q3⟩=> ?_))))
 exact wpAny_release ⟨σ,H3,I3,q3⟩
def K3 (te:TE)(g:TG):TS:=fun D σ H=>te σ H fun x H1=>g x σ H1 D.nx
theorem tS {tg e:Expr}{te:TE}{g:TG}(he:PE X e te)(hg:PG X tg g)(hs:swapsWithSole [tg] e pos.line X.env=pure false:=by rfl)(hw:swappedStores [tg] e X.env=pure none:=by rfl)
  (h1:(assignEach [tg] X.env).map (·.2)=[assign tg X.env]:=by rfl):PS X (.Assign [tg] e pos) (K3 te g):=by
 intro pins s σ H D I h
 refine wpAny_Assign_stores (bZ (he pins s σ H _ I h) fun v s1 ⟨x,H1,I1,r1,q1⟩=> ?_) hs hw
 rw [h1]
 exact bZ (hg pins s1 σ H1 x v _ I1 r1 q1) fun _ s2 q=>q
theorem aG {i:Nat}{x:Str}{e:Expr}{te:TE}{pos' :Pos}(hN:X.N.Nodup)(hi:X.N[i]? =some x)(hx:Loc X.env.scope x)(he:PE X e te)(hs:swapsWith e (some (.Name x pos')) pos.line X.env=pure false:=by rfl)(hf:X.fn x=true∨X.env.scope.names.lookup x=some .local:=by first | exact .inl rfl | exact .inr rfl | assumption):
  PS X (.Assign [.Name x pos'] e pos) (K3 te (cY i)):=by
 intro pins s σ H D I h
 refine wpAny_Assign_Name (bZ (he pins s σ H _ I h) fun v s1 ⟨y,H1,I1,r1,q1⟩=> ?_) hs
 exact gv I1 hN hi hx r1 (fun s2 I2=>⟨_,H1,I2,q1⟩) hf
inductive Jw (i:Nat)(j:Nat)(D:Ends)(σ:St)(vs:List V)(H1:Hp):Prop where
 | mk (v w:_) (_:vs=[v,w]) (_:D.nx ((σ.set i (some v)).set j (some w)) H1):Jw i j D σ vs H1
def W7 (i j:Nat)(ta:TA):TS:=fun D σ H=>ta σ H fun vs H1=>Jw i j D σ vs H1
theorem K4 {i j:Nat}{x y:Str}{a b:Expr}{ta:TA}{px py pt:Pos}{kt k2 W9}(hc:X.calm=true)(hN:X.N.Nodup)(hi:X.N[i]? =some x)(hj:X.N[j]? =some y)(hij:i≠j)
  (hx:X.env.scope.names.lookup x=some .local) (hy:X.env.scope.names.lookup y=some .local) (ha:PA X [a,b] ta)
  (hw:swappedStores [.Tuple [.Name x px,.Name y py] kt pt] (.Tuple [a,b] k2 W9) X.env=pure (some [x,y]))
  (hs:swapsWithSole [.Tuple [.Name x px,.Name y py] kt pt] (.Tuple [a,b] k2 W9) pos.line X.env=pure false:=by rfl):
  PS X (.Assign [.Tuple [.Name x px,.Name y py] kt pt] (.Tuple [a,b] k2 W9) pos) (W7 i j ta):=by
 intro pins s σ H D I h
 rw [exec_Assign_arm]
 refine wpAny_bind (wpAny_standAt ?_)
 rw [hs]
 refine wpAny_bind (wpAny_pure ?_)
 rw [if_neg (by decide)]
 refine wpAny_bind (Tuple_ (bZ (ha _ pins s σ H _ I h) fun us s1 ⟨vs,H1,I1,r1,q1⟩=> ?_))
 obtain ⟨v,w,e1,q1⟩:=q1
 subst e1
 obtain ⟨u1,u2,rfl,rv,qZ⟩:∃u1 u2,us=[u1,u2]∧RelV v u1∧RelV w u2:=by
  cases r1 with
  | cons p q=>
   cases q with
   | cons p' q' =>
    cases q'
    exact ⟨_,_,rfl,p,p'⟩
 refine wpAny_newObj_type ?_ (by show 2≤sizeLine;decide)
 have I2:Inv X pins σ H1 {s1 with heap:=s1.heap.push {cls:=.type "tuple",data:=.seq [u1,u2].toArray}}:=I1.kept (t' :=s1.toks) fun b o e=>Heap.get?_push_of_some _ e
 rw [hw]
 refine wpAny_bind (wpAny_pure ?_)
 show wpAny (model X.prog X.w) X.A (do rule "assign.swapped-stores";let items ← unpackItems (.ref s1.heap.objs.size) 2 none;assignInOrder [fun v=>bindName X.env y v,fun v=>bindName X.env x v] items.reverse;pure Flow.next) _ _ _
 refine wpAny_bind (wpAny_rule (wpAny_bind (unpackItems_tuple (items:= #[u1,u2]) (I.ok.hd hc) (IsTup.new s1.heap _) fun h' DU => ?_)))
 have I3:=I2.kept (h' :=h') (t' :=s1.toks) fun b o e=>DU b o (afJ (Heap.lt_size e)) e
 show wpAny _ _ (assignInOrder [fun v=>bindName X.env y v,fun v=>bindName X.env x v] [u2,u1] >>=fun _=>pure Flow.next) _ _ _
 refine wpAny_bind (assignInOrder_cons (wpAny_bindName (gv I3 hN hj (.inl hy) qZ (fun s2 I4=> ?_) (.inr hy))))
 refine assignInOrder_cons (wpAny_bindName (gv I4 hN hi (.inl hx) rv (fun s3 I5=>assignInOrder_nil (wpAny_pure ?_)) (.inr hx)))
 rw [List.set_comm _ _ (afO hij)] at I5
 exact ⟨_,H1,I5,q1⟩
end
section
variable {X:Cx}{pos:Pos}
def y8 (c:TT)(tb:TS):TS:=fun D σ H=>∃W:Nat→St→Hp→Prop,(∃m,W m σ H)∧∀m σ H,W m σ H→
 c σ H fun b H1=>if b=true then ∃N:St→Hp→Prop,(∀σ' H',N σ' H' →∃m',m' < m∧W m' σ' H')∧tb {D with nx:=N,ct:=N,bk:=D.nx} σ H1 else D.nx σ H1
theorem lO {c:Expr}{body:List Stmt}{tc:TT}{tb:TS}(hp:PassesOwn (model X.prog X.w) X.A X.env X.xe)(hc:PT X c tc)(hb:PSs X body tb):PS X (.While c body [] pos) (y8 tc tb):=by
 intro pins s σ H D I h
 obtain ⟨W,⟨m0,w0⟩,turn⟩:=h
 refine wpAny_While (codeAny_whileLoop (fun n s' =>∃σ' H',Inv X pins σ' H' s' ∧W n σ' H') ?_ m0 ⟨σ,H,I,w0⟩)
 rintro n s1 ⟨σ1,H1,I1,w1⟩
 refine wpAny_passesOwn hp (bZ (hc pins s1 σ1 H1 _ I1 (turn n σ1 H1 w1)) fun b s2 ⟨H2,I2,q2⟩=> ?_)
 cases b with
 | true=>
  obtain ⟨N,hN,q2⟩:=q2
  rw [if_pos rfl]
  refine wpAny_passesOwn hp (bZ (hb pins s2 σ1 H2 _ I2 q2) fun f s3 q3=> ?_)
  cases f with
  | next=>
   obtain ⟨σ3,H3,I3,n3⟩:=q3
   obtain ⟨m',hm,w3⟩:=hN σ3 H3 n3
   exact ⟨m',hm,σ3,H3,I3,w3⟩
  | cont=>
   obtain ⟨σ3,H3,I3,n3⟩:=q3
   obtain ⟨m',hm,w3⟩:=hN σ3 H3 n3
   exact ⟨m',hm,σ3,H3,I3,w3⟩
  | brk=>exact q3
  | ret v=>exact q3
 | false=>
  rw [if_neg afx]
  exact wpAny_execs_nil ⟨σ1,H2,I2,q2⟩
end
structure It where
 go:Nat→Hp→Prop
 y9:Nat→Hp→V→Hp→Prop
 stop:Nat→Hp→Prop
def jC (X:Cx)(pins:List (Addr×Obj))(H:Hp)(b:Addr):Prop:=
 H b=none∧b≠X.env.locals∧b∉X.fs∧(b∈X.ex∨X.s₀.heap.objs.size≤b)∧(∀x c,X.env.cells.lookup x=some c→c≠b)∧∀p∈X.pn++pins,p.1≠b
theorem Inv.nE {X:Cx}{pins:List (Addr×Obj)}{σ:St}{H H' :Hp}{s:Shared}{b:Addr}(I:Inv X pins σ H s)(hb:s.heap.objs.size≤b)(hn:H' b=none):jC X pins H' b:=by
 refine ⟨hn,ag4 (afw I.lt hb),I.WS hb,.inr (ac_ I.sz hb),fun x c e z=> ?_,fun p hp z=> ?_⟩
 ·obtain ⟨v,q⟩:=I.cell x c e
  exact absurd (afw q.lt (by rw [z];exact hb)) (afY _)
 ·exact absurd (afw (Heap.lt_size (I.pin p hp).1) (by rw [z];exact hb)) (afY _)
structure Turn (P:Program)(w:World)(K:Frag)(tg:Expr)(J:It)(fp:List Addr)(it:Addr)(tn:Nat→Heap→Prop):Prop where
 mem:it∈fp
 obj:∀i h,tn i h→∀b∈fp,∃o,h.get? b=some o∧∀v,o.data≠.cell v
 keep:∀i h h',tn i h→(∀b∈fp,∀o,h.get? b=some o→h'.get? b=some o)→tn i h'
 item:∀(X:Cx),X.prog=P→X.w=w→X.K=K→X.calm=true→∀(i:Nat) (pins:List (Addr×Obj)) (s:Shared) (σ:St) (H:Hp) (E:Value→Shared→Prop),Inv X pins σ H s→(∀b∈fp,jC X pins H b)→tn i s.heap→J.go i H→
  wpAny (model P w) X.A (pyNext (.ref it)) (fun r s1=>∃u,r=some u∧
   wpAny (model P w) X.A (letOwnedTupleGo tg (.ref it) u) (fun _ s2=>∃x H',Inv X pins σ H' s2∧RelV x u∧J.y9 i H x H' ∧tn (i+1) s2.heap∧∀b∈fp,H' b=none) E s1) E s
 done:∀(X:Cx),X.prog=P→X.w=w→X.K=K→X.calm=true→∀(i:Nat) (pins:List (Addr×Obj)) (s:Shared) (σ:St) (H:Hp) (E:Value→Shared→Prop),Inv X pins σ H s→(∀b∈fp,jC X pins H b)→tn i s.heap→J.stop i H→
  wpAny (model P w) X.A (pyNext (.ref it)) (fun r s1=>r=none∧Inv X pins σ H s1) E s
 self:∀(A:Around) (i:Nat) (s:Shared) (Q:Value→Shared→Prop) (E:Value→Shared→Prop),tn i s.heap→Q (.ref it) s→wpAny (model P w) A (pyIter (.ref it)) Q E s
abbrev TI:=St→Hp→(It→Hp→Prop)→Prop
def PIE (X:Cx)(pins:List (Addr×Obj))(σ:St)(tg:Expr)(R:It→Hp→Prop)(VX:Value)(s2:Shared):Prop:=
 ∃(it:Addr) (fp:List Addr) (tn:Nat→Heap→Prop) (J:It) (H' :Hp),VX=.ref it∧Inv X pins σ H' s2∧Turn X.prog X.w X.K tg J fp it tn∧tn 0 s2.heap∧(∀b∈fp,jC X pins H' b)∧R J H'
def PI (X:Cx)(tg iter:Expr)(wi:TI):Prop:=
 ∀(pins:List (Addr×Obj)) (s:Shared) (σ:St) (H:Hp) (R:It→Hp→Prop),Inv X pins σ H s→wi σ H R→
  wpAny (model X.prog X.w) X.A (eval iter X.env) (fun v s1=>wpAny (model X.prog X.w) X.A (pyIter v) (PIE X pins σ tg R) X.xe s1) X.xe s
theorem y_ {M : Model} {A : Around} {E : Value → Shared → Prop} {s : Shared} {tg : Expr} {it : Addr} {u : Value} {o : Obj} {n : String} {vs : Array Value} {Q : Unit → Shared → Prop} (ho : s.heap.get? it = some o) (hc : o.cls = .type n) (hd : o.data = .fields vs)
    (hn : ["enumerate", "zip", "dict_itemiterator", "dict_reverseitemiterator", "odict_iterator", "itertools.zip_longest", "itertools.pairwise"].contains n = false) (hQ : Q () s) : wpAny M A (letOwnedTupleGo tg (.ref it) u) Q E s := by
  unfold letOwnedTupleGo
  cases tg <;> first
    | exact wpAny_pure hQ
    | (cases u <;> first
        | exact wpAny_pure hQ
        | (refine wpAny_bind (wpAny_load ho ?_)
           rw [hc, hd]
           show wpAny M A (if (["enumerate", "zip", "dict_itemiterator", "dict_reverseitemiterator", "odict_iterator", "itertools.zip_longest", "itertools.pairwise"].contains n && vs[0]? == some (rawInt _)) = true then _ else _) Q E s
           rw [if_neg (by intro h; rw [hn, Bool.false_and] at h; cases h)]
           exact wpAny_pure hQ))
def DV (K:Frag)(a:Addr):It:=
 ⟨fun i H=>∃xs x,aR K H a xs∧xs[i]? =some x,fun i H x H' =>H' =H∧∀xs,aR K H a xs→xs[i]? =some x,fun i H=>∃xs,aR K H a xs∧xs.length≤i⟩
def NZ (K:Frag)(a:Addr):It:=
 ⟨fun i H=>∃xs x,bF K H a xs∧xs[i]? =some x,fun i H x H' =>H' =H∧∀xs,bF K H a xs→xs[i]? =some x,fun i H=>∃xs,bF K H a xs∧xs.length≤i⟩
def K5 (lo:Int)(n:Nat):It:=⟨fun i _=>i < n,fun i H x H' =>H' =H∧x=.int (lo+i),fun i _=>n≤i⟩
theorem wm {P:Program}{w:World}{K:Frag}{tg:Expr}(a it:Addr):Turn P w K tg (DV K a) [it] it (fun i h=>h.IsListIter it a i) where
 mem:=by simp
 obj:=fun i h st b hb=>by
  have e:b=it:=by simpa using hb
  subst e
  obtain ⟨o,e,c,d⟩:=st
  exact ⟨o,e,fun v z=>by rw [d] at z;cases z⟩
 keep:=fun i h h' st k=>st.at fun o e=>k it (by simp) o e
 item:=by
  intro X hP hw hK hc i pins s σ H E I hf st hg
  subst hP hw hK
  obtain ⟨xs,x,hq,hx⟩:=hg
  obtain ⟨its,rv,p,hz⟩:=I.list hq
  obtain ⟨u,hu,ru⟩:=rv.get hx
  obtain ⟨f0,f1,f2,f3,f4,f5⟩:=hf it (by simp)
  refine wpAny_pyNext_list_item st p.isList (x:=u) (by simpa using hu) fun h' DW sb=> ?_
  have I1:Inv X pins σ H {s with heap:=h' }:=I.turned (t' :=s.toks) (fun b o hb e=>(sb.2 b hb).trans e) f0 f1 f3 f4 f5
  obtain ⟨o,e,c,d⟩:=id DW
  exact ⟨u,rfl,y_ (s:={s with heap:=h' }) e c d (by decide) ⟨x,H,I1,ru,⟨rfl,fun ys hy=>by rw [I.gx hy hq];exact hx⟩,DW,fun b hb=>(hf b hb).1⟩⟩
 done:=by
  intro X hP hw hK hc i pins s σ H E I hf st hg
  subst hP hw hK
  obtain ⟨xs,hq,hx⟩:=hg
  obtain ⟨its,rv,p,hz⟩:=I.list hq
  obtain ⟨f0,f1,f2,f3,f4,f5⟩:=hf it (by simp)
  have hl:=rv.length
  exact wpAny_pyNext_list_end (I.ok.hd hc) st p.isList (by simp;omega) fun h' eb=>⟨rfl,I.turned (t' :=s.toks) (fun b o hb e=>eb b o hb e) f0 f1 f3 f4 f5⟩
 self:=fun _ _ _ _ _ st h=>wpAny_pyIter_listiter st h
theorem tV {P:Program}{w:World}{K:Frag}{tg:Expr}(a it:Addr):Turn P w K tg (NZ K a) [it] it (fun i h=>h.IsTupleIter it a i) where
 mem:=by simp
 obj:=fun i h st b hb=>by
  have e:b=it:=by simpa using hb
  subst e
  obtain ⟨o,e,c,d⟩:=st
  exact ⟨o,e,fun v z=>by rw [d] at z;cases z⟩
 keep:=fun i h h' st k=>st.at fun o e=>k it (by simp) o e
 item:=by
  intro X hP hw hK hc i pins s σ H E I hf st hg
  subst hP hw hK
  obtain ⟨xs,x,hq,hx⟩:=hg
  obtain ⟨its,rv,p,hz⟩:=I.tuple hq
  obtain ⟨u,hu,ru⟩:=rv.get hx
  obtain ⟨f0,f1,f2,f3,f4,f5⟩:=hf it (by simp)
  refine wpAny_pyNext_tuple_item st (show s.heap.IsTuple a its.toArray from p) (x:=u) (by simpa using hu) fun h' DW sb=> ?_
  have I1:Inv X pins σ H {s with heap:=h' }:=I.turned (t' :=s.toks) (fun b o hb e=>(sb.2 b hb).trans e) f0 f1 f3 f4 f5
  obtain ⟨o,e,c,d⟩:=id DW
  exact ⟨u,rfl,y_ (s:={s with heap:=h' }) e c d (by decide) ⟨x,H,I1,ru,⟨rfl,fun ys hy=>by rw [I.fq hy hq];exact hx⟩,DW,fun b hb=>(hf b hb).1⟩⟩
 done:=by
  intro X hP hw hK hc i pins s σ H E I hf st hg
  subst hP hw hK
  obtain ⟨xs,hq,hx⟩:=hg
  obtain ⟨its,rv,p,hz⟩:=I.tuple hq
  obtain ⟨f0,f1,f2,f3,f4,f5⟩:=hf it (by simp)
  have hl:=rv.length
  exact wpAny_pyNext_tuple_end (I.ok.hd hc) st (show s.heap.IsTuple a its.toArray from p) (by simp;omega) fun h' eb=>⟨rfl,I.turned (t' :=s.toks) (fun b o hb e=>eb b o hb e) f0 f1 f3 f4 f5⟩
 self:=fun _ _ _ _ _ st h=>wpAny_pyIter_tupleiter st h
theorem tW {P:Program}{w:World}{K:Frag}{tg:Expr}(it:Addr)(lo:Int)(n:Nat):Turn P w K tg (K5 lo n) [it] it (fun i h=>IsRangeIter h it (lo+(i:Nat)*1) ((n:Int) - (i:Nat)) 1) where
 mem:=by simp
 obj:=fun i h st b hb=>by
  have e:b=it:=by simpa using hb
  subst e
  exact ⟨_,st,fun v z=>by
   have z' :Data.fields _=Data.cell v:=z
   cases z'⟩
 keep:=fun i h h' st k=>k it (by simp) _ st
 item:=by
  intro X hP hw hK hc i pins s σ H E I hf st hg
  subst hP hw hK
  obtain ⟨f0,f1,f2,f3,f4,f5⟩:=hf it (by simp)
  have W:=Walks.range (prog:=X.prog) (w:=X.w) (I.ok.hd hc) it lo 1 n
  refine W.item i s _ _ hg st fun v h' tk hv DW kk=> ?_
  obtain ⟨t,rfl⟩:=hv
  have I1:Inv X pins σ H {s with heap:=h',toks:=tk}:=I.turned (fun b o hb e=>kk b o (by simpa using hb) e) f0 f1 f3 f4 f5
  refine ⟨_,rfl,y_ (s:={s with heap:=h',toks:=tk}) (n:="range_iterator") DW rfl rfl (by decide) ⟨.int (lo+i),H,I1,⟨t,?_⟩,⟨rfl,rfl⟩,DW,fun b hb=>(hf b hb).1⟩⟩
  rw [Int.mul_one]
 done:=by
  intro X hP hw hK hc i pins s σ H E I hf st hg
  subst hP hw hK
  obtain ⟨f0,f1,f2,f3,f4,f5⟩:=hf it (by simp)
  exact wpAny_pyNext_range_end (I.ok.hd hc) st (by have:n≤i:=hg;omega) fun h' eb=>⟨rfl,I.turned (t' :=s.toks) (fun b o hb e=>eb b o hb e) f0 f1 f3 f4 f5⟩
 self:=fun _ _ _ _ _ st h=>wpAny_pyIter_rangeiter st h
end L2
namespace L2
open PySem PySem.Spec PyProof.Rows
section
variable {X:Cx}{tg:Expr}
inductive za (K:Frag)(R:(It→Hp→Prop))(x:V)(H1:Hp):Prop where
 | mk (a:_) (_:x=.ref a) (_:(∃xs,aR K H1 a xs)) (_:R (DV K a) H1):za K R x H1
def N0 (K:Frag)(tl:TE):TI:=fun σ H R=>tl σ H fun x H1=>za K R x H1
inductive Jx (K:Frag)(R:(It→Hp→Prop))(x:V)(H1:Hp):Prop where
 | mk (a:_) (_:x=.ref a) (_:(∃xs,bF K H1 a xs)) (_:R (NZ K a) H1):Jx K R x H1
def W_ (K:Frag)(tl:TE):TI:=fun σ H R=>tl σ H fun x H1=>Jx K R x H1
theorem aY {l:Expr}{tl:TE}(hl:PE X l tl):PI X tg l (N0 X.K tl):=by
 intro pins s σ H R I h
 refine bZ (hl pins s σ H _ I h) fun v s1 ⟨x,H1,I1,r1,q1⟩=> ?_
 obtain ⟨a,e,⟨xs,hq⟩,q⟩:=q1
 subst e
 cases r1
 obtain ⟨its,rv,p,hz⟩:=I1.list hq
 refine wpAny_pyIter_list p.isList ?_
 refine ⟨s1.heap.objs.size,[s1.heap.objs.size],_,_,H1,rfl,I1.kept (t' :=s1.toks) fun b o e=>Heap.get?_push_of_some _ e,wm a _,⟨_,Heap.get?_push_size _ rfl,rfl,rfl⟩,fun b hb=> ?_,q⟩
 have e:b=s1.heap.objs.size:=by simpa using hb
 subst e
 exact I1.nE (ad_ _) (I1.bz.fresh (ad_ _))
theorem ze {l:Expr}{tl:TE}(hl:PE X l tl):PI X tg l (W_ X.K tl):=by
 intro pins s σ H R I h
 refine bZ (hl pins s σ H _ I h) fun v s1 ⟨x,H1,I1,r1,q1⟩=> ?_
 obtain ⟨a,e,⟨xs,hq⟩,q⟩:=q1
 subst e
 cases r1
 obtain ⟨its,rv,p,hz⟩:=I1.tuple hq
 refine wpAny_pyIter_tuple (show s1.heap.IsTuple a its.toArray from p) ?_
 refine ⟨s1.heap.objs.size,[s1.heap.objs.size],_,_,H1,rfl,I1.kept (t' :=s1.toks) fun b o e=>Heap.get?_push_of_some _ e,tV a _,⟨_,Heap.get?_push_size _ rfl,rfl,rfl⟩,fun b hb=> ?_,q⟩
 have e:b=s1.heap.objs.size:=by simpa using hb
 subst e
 exact I1.nE (ad_ _) (I1.bz.fresh (ad_ _))
theorem zf {pins:List (Addr×Obj)}{σ:St}{H:Hp}{s:Shared}{R:It→Hp→Prop}{E:Value→Shared→Prop}{lo hi:Int}{t u v:Tok}{tk:Nat}(I:Inv X pins σ H s)(h1: -(2^62)≤lo)(h2:lo < 2^62)(h3: -(2^62)≤hi)(h4:hi < 2^62)
  (q:R (K5 lo (hi - lo).toNat) H):wpAny (model X.prog X.w) X.A (pyIter (.ref s.heap.objs.size)) (PIE X pins σ tg R) E {s with heap:=s.heap.push {cls:=.type "range",data:=.fields #[.int lo t,.int hi u,.int 1 v]},toks:=tk}:=by
 refine wpAny_pyIter_range (IsRange.new ..) (small_one h1 h2 h3 h4) ?_
 have I1:Inv X pins σ H {s with heap:=s.heap.push {cls:=.type "range",data:=.fields #[.int lo t,.int hi u,.int 1 v]},toks:=tk}:=I.kept fun b o e=>Heap.get?_push_of_some _ e
 refine ⟨(s.heap.push {cls:=.type "range",data:=.fields #[.int lo t,.int hi u,.int 1 v]}).objs.size,[(s.heap.push {cls:=.type "range",data:=.fields #[.int lo t,.int hi u,.int 1 v]}).objs.size],_,_,H,rfl,
  I1.kept (t' :=tk) fun b o e=>Heap.get?_push_of_some _ e,tW _ lo (hi - lo).toNat,?_,fun b hb=> ?_,q⟩
 ·have e1:lo+((0:Nat):Int)*1=lo:=by simp
  have e2:(((hi - lo).toNat:Nat):Int) - ((0:Nat):Int)=Builtin.Range.rangeSize lo hi 1:=by rw [rangeSize_one];split <;> omega
  show IsRangeIter _ _ (lo+((0:Nat):Int)*1) ((((hi - lo).toNat:Nat):Int) - ((0:Nat):Int)) 1
  rw [e1,e2]
  exact Heap.get?_push_size _ rfl
 ·have e:b=(s.heap.push {cls:=.type "range",data:=.fields #[.int lo t,.int hi u,.int 1 v]}).objs.size:=by simpa using hb
  subst e
  exact I1.nE (ad_ _) (I1.bz.fresh (ad_ _))
inductive zg (R:(It→Hp→Prop))(vs:List V)(H1:Hp):Prop where
 | mk (j:Int) (_:vs=[.int j]) (_: -(2^62)≤j) (_:j < 2^62) (_:R (K5 0 j.toNat) H1):zg R vs H1
def N1 (ta:TA):TI:=fun σ H R=>ta σ H fun vs H1=>zg R vs H1
theorem b9 {a:Expr}{ta:TA}{p pos:Pos}(hg:Gl X "range")(hm:X.mg "range"=none)(ha:PA X [a] ta)(hs:starEach [a] X.env=[(false,eval a X.env)]:=by rfl):PI X tg (.Call (.Name "range" p) [a] [] pos) (N1 ta):=by
 intro pins s σ H R I h
 refine Call_ (gw I hg hm boot_range (PyProof.Rows.callWith_type1 (bZ (ha pos pins s σ H _ I h) fun us s1 ⟨vs,H1,I1,r1,q1⟩=> ?_) hs rfl))
 obtain ⟨j,e,q1,q2,q⟩:=q1
 subst e
 cases r1 with
 | cons r rr=>
  cases rr
  obtain ⟨t,rfl⟩:=r
  exact call_range_1 (zf I1 (by omega) (by omega) q1 q2 (by simpa using q))
def Xa (wi:TI)(g:TG)(tb:TS):TS:=fun D σ H=>wi σ H fun J H1=>∃W:Nat→Nat→St→Hp→Prop,(∃m,W 0 m σ H1)∧∀i m σ H,W i m σ H→
 (J.stop i H∧D.nx σ H)∨(J.go i H∧∃N:St→Hp→Prop,(∀σ' H',N σ' H' →∃m',m' < m∧W (i+1) m' σ' H')∧∀x H',J.y9 i H x H' →g x σ H' fun σ2 H2=>tb {D with nx:=N,ct:=N,bk:=D.nx} σ2 H2)
def lQ (fp:List Addr)(h:Heap):List (Addr×Obj):=fp.filterMap fun b=>(h.get? b).map fun o=>(b,o)
theorem fO {fp:List Addr}{h:Heap}{b:Addr}{o:Obj}(hb:b∈fp)(e:h.get? b=some o):(b,o)∈lQ fp h:=agf.mpr ⟨b,hb,by rw [e];rfl⟩
theorem wo {fp:List Addr}{h:Heap}{p:Addr×Obj}(hp:p∈lQ fp h):p.1∈fp∧h.get? p.1=some p.2:=by
 obtain ⟨b,hb,e⟩:=agf.mp hp
 cases q:h.get? b with
 | none=>rw [q] at e;cases e
 | some o=>
  rw [q] at e
  have e' :(b,o)=p:=afB e
  subst e'
  exact ⟨hb,q⟩
theorem Inv.pinned {pins:List (Addr×Obj)}{σ:St}{H:Hp}{s:Shared}{fp:List Addr}(I:Inv X pins σ H s)(hf:∀b∈fp,jC X pins H b)(ho:∀b∈fp,∃o,s.heap.get? b=some o∧∀v,o.data≠.cell v):Inv X (pins++lQ fp s.heap) σ H s:=
 I.vb fun p hp=>(afM.mp hp).elim (fun z=>I.pin p (afQ _ z)) fun z=>by
  obtain ⟨hb,e⟩:=wo z
  obtain ⟨f0,f1,f2,_⟩:=hf p.1 hb
  obtain ⟨o,e',d⟩:=ho p.1 hb
  rw [e] at e';cases e'
  exact ⟨e,f0,f1,f2,d⟩
theorem Inv.gy {pins pl:List (Addr×Obj)}{σ:St}{H:Hp}{s:Shared}(I:Inv X (pins++pl) σ H s):Inv X pins σ H s:=I.vb fun p hp=>I.pin p (afQ _ (agX _ hp))
theorem bh {iter:Expr}{body:List Stmt}{wi:TI}{g:TG}{tb:TS}{pos:Pos}(hp:PassesOwn (model X.prog X.w) X.A X.env X.xe)(hc:X.calm=true)(hi:PI X tg iter wi)(hg:PG X tg g)(hb:PSs X body tb)
  (hs:∀x,foldedSetIterable iter X.env x=pure x:=by intro _;rfl):PS X (.For tg iter body [] pos) (Xa wi g tb):=by
 intro pins s σ H D I h
 refine wpAny_For (bZ (hi pins s σ H _ I h) fun v s1 h1=>bZ h1 fun VX s2 h2=> ?_) hs
 obtain ⟨it,fp,tn,J,H2,e,I2,T,Jy,f2,W,⟨m0,w0⟩,turn⟩:=h2
 subst e
 have stat:∀{H' :Hp},(∀b∈fp,H' b=none)→∀b∈fp,jC X pins H' b:=fun hn b hb=>⟨hn b hb,(f2 b hb).2⟩
 refine codeAny_forLoop_any (fun n s' =>∃i σ' H',Inv X pins σ' H' s' ∧tn i s'.heap∧(∀b∈fp,H' b=none)∧W i n σ' H') ?_ m0 ⟨0,σ,H2,I2,Jy,fun b hb=>(f2 b hb).1,w0⟩
 rintro n s3 ⟨i,σ3,H3,I3,N2,q0,w3⟩
 rcases turn i n σ3 H3 w3 with ⟨stop,qn⟩ | ⟨go,N,hN,step⟩
 ·refine wpAny_passesOwn hp (bZ (T.done X rfl rfl rfl hc i pins s3 σ3 H3 X.xe I3 (stat q0) N2 stop) fun r s4 ⟨hr,I4⟩=> ?_)
  subst hr
  exact wpAny_execs_nil ⟨σ3,H3,I4,qn⟩
 ·refine wpAny_passesOwn hp (bZ (T.item X rfl rfl rfl hc i pins s3 σ3 H3 X.xe I3 (stat q0) N2 go) fun r s4 ⟨u,hr,h4⟩=> ?_)
  subst hr
  refine wpAny_passesOwn hp (bZ h4 fun _ s5 ⟨x,H5,I5,r5,y5,Nk,Jz⟩=> ?_)
  have I5' :=I5.pinned (stat Jz) (T.obj _ _ Nk)
  refine wpAny_passesOwn hp (bZ (hg _ s5 σ3 H5 x u _ I5' r5 (step x H5 y5)) fun _ s6 ⟨σ6,H6,I6,q6⟩=> ?_)
  refine wpAny_passesOwn hp (bZ (hb _ s6 σ6 H6 _ I6 q6) fun f s7 q7=> ?_)
  have again:∀{σ7:St} {H7:Hp},Inv X (pins++lQ fp s5.heap) σ7 H7 s7→N σ7 H7→∃m,m < n∧∃i σ' H',Inv X pins σ' H' s7∧tn i s7.heap∧(∀b∈fp,H' b=none)∧W i m σ' H' :=fun {σ7 H7} I7 n7=>by
   obtain ⟨m',hm,w7⟩:=hN σ7 H7 n7
   refine ⟨m',hm,i+1,σ7,H7,I7.gy,T.keep _ _ _ Nk fun b hb o e=>(I7.pin (b,o) (afQ _ (afQ _ (fO hb e)))).1,fun b hb=> ?_,w7⟩
   obtain ⟨o,e,d⟩:=T.obj _ _ Nk b hb
   exact (I7.pin (b,o) (afQ _ (afQ _ (fO hb e)))).2.1
  cases f with
  | next=>obtain ⟨σ7,H7,I7,n7⟩:=q7;exact again I7 n7
  | cont=>obtain ⟨σ7,H7,I7,n7⟩:=q7;exact again I7 n7
  | brk=>obtain ⟨σ7,H7,I7,q7⟩:=q7;exact ⟨σ7,H7,I7.gy,q7⟩
  | ret v=>obtain ⟨x7,σ7,H7,I7,r7,q7⟩:=q7;exact ⟨x7,σ7,H7,I7.gy,r7,q7⟩
end
theorem bI {K:Frag}{a:Addr}{xs:List V}{g:TG}{tb:TS}{D:Ends}{σ:St}{H:Hp}(Pv:Nat→St→Hp→Prop)(h0:Pv 0 σ H)(hl:∀i σ H,i≤xs.length→Pv i σ H→aR K H a xs)
  (hs:∀i x σ H,xs[i]? =some x→Pv i σ H→g x σ H fun σ2 H2=>tb {D with nx:=Pv (i+1),ct:=Pv (i+1),bk:=D.nx} σ2 H2) (hd:∀σ H,Pv xs.length σ H→D.nx σ H):
  ∃W:Nat→Nat→St→Hp→Prop,(∃m,W 0 m σ H)∧∀i m σ H,W i m σ H→
   ((DV K a).stop i H∧D.nx σ H)∨((DV K a).go i H∧∃N:St→Hp→Prop,(∀σ' H',N σ' H' →∃m',m' < m∧W (i+1) m' σ' H')∧∀x H',(DV K a).y9 i H x H' →g x σ H' fun σ2 H2=>tb {D with nx:=N,ct:=N,bk:=D.nx} σ2 H2):=by
 refine ⟨fun i m σ H=>m=xs.length - i∧i≤xs.length∧Pv i σ H,⟨xs.length,by simp,afU _,h0⟩,?_⟩
 rintro i m σ H ⟨rfl,hi,p⟩
 have q:=hl i σ H hi p
 by_cases j6:i < xs.length
 ·refine .inr ⟨⟨xs,xs[i],q,by simp [j6]⟩,Pv (i+1),fun σ' H' p' =>⟨xs.length - (i+1),by omega,rfl,j6,p'⟩,fun x H' y=> ?_⟩
  obtain ⟨e,y⟩:=y
  subst e
  exact hs i x σ _ (y xs q) p
 ·have e:i=xs.length:=by omega
  subst e
  exact .inl ⟨⟨xs,q,ad_ _⟩,hd σ H p⟩
theorem ve {K:Frag}{a:Addr}{xs:List V}{g:TG}{tb:TS}{D:Ends}{σ:St}{H:Hp}(Pv:Nat→St→Hp→Prop)(h0:Pv 0 σ H)(hl:∀i σ H,i≤xs.length→Pv i σ H→bF K H a xs)
  (hs:∀i x σ H,xs[i]? =some x→Pv i σ H→g x σ H fun σ2 H2=>tb {D with nx:=Pv (i+1),ct:=Pv (i+1),bk:=D.nx} σ2 H2) (hd:∀σ H,Pv xs.length σ H→D.nx σ H):
  ∃W:Nat→Nat→St→Hp→Prop,(∃m,W 0 m σ H)∧∀i m σ H,W i m σ H→
   ((NZ K a).stop i H∧D.nx σ H)∨((NZ K a).go i H∧∃N:St→Hp→Prop,(∀σ' H',N σ' H' →∃m',m' < m∧W (i+1) m' σ' H')∧∀x H',(NZ K a).y9 i H x H' →g x σ H' fun σ2 H2=>tb {D with nx:=N,ct:=N,bk:=D.nx} σ2 H2):=by
 refine ⟨fun i m σ H=>m=xs.length - i∧i≤xs.length∧Pv i σ H,⟨xs.length,by simp,afU _,h0⟩,?_⟩
 rintro i m σ H ⟨rfl,hi,p⟩
 have q:=hl i σ H hi p
 by_cases j6:i < xs.length
 ·refine .inr ⟨⟨xs,xs[i],q,by simp [j6]⟩,Pv (i+1),fun σ' H' p' =>⟨xs.length - (i+1),by omega,rfl,j6,p'⟩,fun x H' y=> ?_⟩
  obtain ⟨e,y⟩:=y
  subst e
  exact hs i x σ _ (y xs q) p
 ·have e:i=xs.length:=by omega
  subst e
  exact .inl ⟨⟨xs,q,ad_ _⟩,hd σ H p⟩
theorem cn {lo:Int}{n:Nat}{g:TG}{tb:TS}{D:Ends}{σ:St}{H:Hp}(Pv:Nat→St→Hp→Prop)(h0:Pv 0 σ H)
  (hs:∀i σ H,i < n→Pv i σ H→g (.int (lo+i)) σ H fun σ2 H2=>tb {D with nx:=Pv (i+1),ct:=Pv (i+1),bk:=D.nx} σ2 H2) (hd:∀σ H,Pv n σ H→D.nx σ H):
  ∃W:Nat→Nat→St→Hp→Prop,(∃m,W 0 m σ H)∧∀i m σ H,W i m σ H→
   ((K5 lo n).stop i H∧D.nx σ H)∨((K5 lo n).go i H∧∃N:St→Hp→Prop,(∀σ' H',N σ' H' →∃m',m' < m∧W (i+1) m' σ' H')∧∀x H',(K5 lo n).y9 i H x H' →g x σ H' fun σ2 H2=>tb {D with nx:=N,ct:=N,bk:=D.nx} σ2 H2):=by
 refine ⟨fun i m σ H=>m=n - i∧i≤n∧Pv i σ H,⟨n,by simp,afU _,h0⟩,?_⟩
 rintro i m σ H ⟨rfl,hi,p⟩
 by_cases j6:i < n
 ·refine .inr ⟨j6,Pv (i+1),fun σ' H' p' =>⟨n - (i+1),by omega,rfl,j6,p'⟩,fun x H' y=> ?_⟩
  obtain ⟨e,y⟩:=y
  subst e y
  exact hs i σ _ j6 p
 ·have e:i=n:=by omega
  subst e
  exact .inl ⟨ad_ _,hd σ H p⟩
theorem rm {c:TT}{tb:TS}{D:Ends}{σ:St}{H:Hp}(Pv:St→Hp→Prop)(μ:St→Hp→Nat)(h0:Pv σ H)
  (hs:∀σ H,Pv σ H→c σ H fun b H1=>if b=true then tb {D with nx:=fun σ' H' =>Pv σ' H' ∧μ σ' H' < μ σ H,ct:=fun σ' H' =>Pv σ' H' ∧μ σ' H' < μ σ H,bk:=D.nx} σ H1 else D.nx σ H1)
  (mono:∀σ H Q Q',(∀b H1,Q b H1→Q' b H1)→c σ H Q→c σ H Q'):y8 c tb D σ H:=by
 refine ⟨fun m σ H=>m=μ σ H∧Pv σ H,⟨_,rfl,h0⟩,?_⟩
 rintro m σ H ⟨rfl,p⟩
 refine mono σ H _ _ (fun b H1 q=> ?_) (hs σ H p)
 cases b with
 | true=>exact ⟨_,fun σ' H' ⟨p',l⟩=>⟨_,l,rfl,p'⟩,q⟩
 | false=>exact q
end L2
namespace L2
open PySem PySem.Spec PyProof.Rows
abbrev R2:=V→V→Hp→VK→Prop
def iO (X:Cx)(f:Value→Value→Sem Value)(r:R2):Prop:=
 ∀(pins:List (Addr×Obj)) (s:Shared) (σ:St) (H:Hp) (x y:V) (v u:Value) (Q:VK),Inv X pins σ H s→RelV x v→RelV y u→r x y H Q→
  wpAny (model X.prog X.w) X.A (f v u) (EP X pins σ Q) X.xe s
def Xb (X:Cx)(f:Value→Sem Value)(r:V→Hp→VK→Prop):Prop:=
 ∀(pins:List (Addr×Obj)) (s:Shared) (σ:St) (H:Hp) (x:V) (v:Value) (Q:VK),Inv X pins σ H s→RelV x v→r x H Q→
  wpAny (model X.prog X.w) X.A (f v) (EP X pins σ Q) X.xe s
def eO (X:Cx)(f:Value)(r:List V→Hp→VK→Prop):Prop:=
 ∀(pins:List (Addr×Obj)) (s:Shared) (σ:St) (H:Hp) (xs:List V) (us:List Value) (Q:VK),Inv X pins σ H s→Vals xs us→r xs H Q→
  wpAny (model X.prog X.w) X.A (call f us) (EP X pins σ Q) X.xe s
def K6 (r:R2)(ta tb:TE):TE:=fun σ H Q=>ta σ H fun x H1=>tb σ H1 fun y H2=>r x y H2 Q
def tUn (r:V→Hp→VK→Prop)(ta:TE):TE:=fun σ H Q=>ta σ H fun x H1=>r x H1 Q
inductive rI (C:Int→Int→Prop)(g:Int→Int→V)(x:V)(y:V)(H:Hp)(Q:VK):Prop where
 | mk (i j:_) (_:x=.int i) (_:y=.int j) (_:C i j) (_:Q (g i j) H):rI C g x y H Q
inductive JA (g:Int→Int→V)(x:V)(y:V)(H:Hp)(Q:VK):Prop where
 | mk (i j:_) (_:x=.int i) (_:y=.int j) (_:Q (g i j) H):JA g x y H Q
inductive rU (g:Int→V)(x:V)(H:Hp)(Q:VK):Prop where
 | mk (i:_) (_:x=.int i) (_:Q (g i) H):rU g x H Q
section
variable {X:Cx}{a b c:Expr}{ta tb tc:TE}{pos:Pos}
theorem K7 (ha:PE X a ta)(hb:PE X b tb){pins:List (Addr×Obj)}{s:Shared}{σ:St}{H:Hp}{R:V→V→Hp→Prop}(I:Inv X pins σ H s)
  (h:ta σ H fun x H1=>tb σ H1 fun y H2=>R x y H2) {Q:Value→Shared→Prop} {f:Value→Value→Sem Value}
  (hf:∀v u s2 x y H2,Inv X pins σ H2 s2→RelV x v→RelV y u→R x y H2→wpAny (model X.prog X.w) X.A (f v u) Q X.xe s2):
  wpAny (model X.prog X.w) X.A (eval a X.env) (fun v s₁=>wpAny (model X.prog X.w) X.A (eval b X.env) (fun u s₂=>wpAny (model X.prog X.w) X.A (f v u) Q X.xe s₂) X.xe s₁) X.xe s:=by
 refine bZ (ha pins s σ H _ I h) fun v s1 ⟨x,H1,I1,r1,q1⟩=> ?_
 refine bZ (hb pins s1 σ H1 _ I1 q1) fun u s2 ⟨y,H2,I2,r2,q2⟩=> ?_
 exact hf v u s2 x y H2 I2 r1 r2 q2
theorem aO {op:Operator}{r:R2}(ho:iO X (binaryOp op) r)(ha:PE X a ta)(hb:PE X b tb):PE X (.BinOp a op b pos) (K6 r ta tb):=by
 intro pins s σ H Q I h
 exact wpAny_BinOp (K7 ha hb I h fun v u s2 x y H2 I2 rx ry q=>ho pins s2 σ H2 x y v u Q I2 rx ry q)
theorem vf {op:UnaryOp}{r:V→Hp→VK→Prop}(ho:Xb X (unaryOp op) r)(ha:PE X a ta):PE X (.UnaryOp op a pos) (tUn r ta):=by
 intro pins s σ H Q I h
 exact UnaryOp_ (bZ (ha pins s σ H _ I h) fun v s1 ⟨x,H1,I1,r1,q1⟩=>ho pins s1 σ H1 x v Q I1 r1 q1)
theorem VY {f:Value→Value→Sem Value}{C:Int→Int→Prop}{g:Int→Int→Int}
  (rule:∀(i j:Int) (t u:Tok) (s:Shared) (Q:Value→Shared→Prop) (E:Value→Shared→Prop),C i j→Q (.int (g i j) s.toks) {s with toks:=s.toks+1}→wpAny (model X.prog X.w) X.A (f (.int i t) (.int j u)) Q E s):
  iO X f (rI C fun i j=>.int (g i j)):=by
 intro pins s σ H x y v u Q I rx ry h
 obtain ⟨i,j,rfl,rfl,hc,q⟩:=h
 obtain ⟨t,rfl⟩:=rx
 obtain ⟨t',rfl⟩:=ry
 exact rule i j t t' s _ _ hc ⟨.int (g i j),H,I.tok _,⟨_,rfl⟩,q⟩
theorem N3 {f:Value→Value→Sem Value}{g:Int→Int→Int}
  (rule:∀(i j:Int) (t u:Tok) (s:Shared) (Q:Value→Shared→Prop) (E:Value→Shared→Prop),Q (.int (g i j) s.toks) {s with toks:=s.toks+1}→wpAny (model X.prog X.w) X.A (f (.int i t) (.int j u)) Q E s):
  iO X f (JA fun i j=>.int (g i j)):=by
 intro pins s σ H x y v u Q I rx ry h
 obtain ⟨i,j,rfl,rfl,q⟩:=h
 obtain ⟨t,rfl⟩:=rx
 obtain ⟨t',rfl⟩:=ry
 exact rule i j t t' s _ _ ⟨.int (g i j),H,I.tok _,⟨_,rfl⟩,q⟩
theorem K8 {f:Value→Value→Sem Value}{g:Int→Int→Bool}
  (rule:∀(i j:Int) (t u:Tok) (s:Shared) (Q:Value→Shared→Prop) (E:Value→Shared→Prop),Q (.bool (g i j)) s→wpAny (model X.prog X.w) X.A (f (.int i t) (.int j u)) Q E s):
  iO X f (JA fun i j=>.bl (g i j)):=by
 intro pins s σ H x y v u Q I rx ry h
 obtain ⟨i,j,rfl,rfl,q⟩:=h
 obtain ⟨t,rfl⟩:=rx
 obtain ⟨t',rfl⟩:=ry
 exact rule i j t t' s _ _ ⟨.bl (g i j),H,I,rfl,q⟩
theorem b7:iO X (binaryOp .Add) (JA fun i j=>.int (i+j)):=N3 fun _ _ _ _ _ _ _ q=>add_int q
theorem dJ:iO X (binaryOp .Sub) (JA fun i j=>.int (i - j)):=N3 fun _ _ _ _ _ _ _ q=>sub_int q
theorem EJ:iO X (binaryOp .Mod) (rI (fun _ j=>j≠0) fun i j=>.int (i.fmod j)):=VY fun _ _ _ _ _ _ _ hc q=>mod_int' hc q
theorem unI {f:Value→Sem Value}{g:Int→Int}
  (rule:∀(i:Int) (t:Tok) (s:Shared) (Q:Value→Shared→Prop) (E:Value→Shared→Prop),Q (.int (g i) s.toks) {s with toks:=s.toks+1}→wpAny (model X.prog X.w) X.A (f (.int i t)) Q E s):
  Xb X f (rU fun i=>.int (g i)):=by
 intro pins s σ H x v Q I rx h
 obtain ⟨i,rfl,q⟩:=h
 obtain ⟨t,rfl⟩:=rx
 exact rule i t s _ _ ⟨.int (g i),H,I.tok _,⟨_,rfl⟩,q⟩
theorem pd:Xb X (unaryOp .USub) (rU fun i=>.int (-i)):=unI fun _ _ _ _ _ q=>neg_int q
end
def N4:V→V→Bool
 | .cj,.cj=>true | .cj,.int _=>true | .int _,.cj=>true | .cj,.bl _=>true | .bl _,.cj=>true | .cj,.str _=>true | .str _,.cj=>true
 | .int _,.int _=>true | .bl _,.bl _=>true | .str _,.str _=>true | .byt _,.byt _=>true
 | .int _,.str _=>true | .str _,.int _=>true | .bl _,.str _=>true | .str _,.bl _=>true
 | _,_=>false
def rEq:R2:=fun x y H Q=>N4 x y=true∧Q (.bl (decide (x=y))) H
def rNe:R2:=fun x y H Q=>N4 x y=true∧Q (.bl (!decide (x=y))) H
theorem vg {i j:Int}:decide (V.int i=V.int j)=(i==j):=by
 rw [agr]
 simp
theorem zh {i j:Bool}:decide (V.bl i=V.bl j)=(i==j):=by
 rw [agr]
 simp
theorem vh {i j:Str}:decide (V.str i=V.str j)=(i==j):=by
 rw [agr]
 simp
theorem vi {i j:Array UInt8}:decide (V.byt i=V.byt j)=(i.toList==j.toList):=by
 rw [agr]
 cases i
 cases j
 simp
section
variable {X:Cx}{a b c:Expr}{ta tb tc:TE}{pos:Pos}
theorem bx {pins:List (Addr×Obj)}{σ:St}{H:Hp}{s:Shared}{Q:VK}{k k' :Bool}(I:Inv X pins σ H s)(q:Q (.bl k) H)(e:k=k'):EP X pins σ Q (.bool k') s:=by
 subst e
 exact ⟨.bl k,H,I,rfl,q⟩
theorem cP:iO X (compareOp .Eq) rEq:=by
 intro pins s σ H x y v u Q I rx ry h
 obtain ⟨hs,q⟩:=h
 cases x with
 | cj=>
  cases rx
  cases y with
  | cj=>cases ry;exact PySem.EqNone.eq_none_none (bx I q (by simp))
  | bl j=>cases ry;exact PySem.EqNone.eq_none_bool (bx I q (by simp))
  | int j=>obtain ⟨t',rfl⟩:=ry;exact PySem.EqNone.eq_none_int (bx I q (by simp))
  | str j=>obtain ⟨t',rfl⟩:=ry;exact PySem.EqNone.eq_none_str (bx I q (by simp))
  | _=>exact absurd (show false=true from hs) afx
 | bl i=>
  cases rx
  cases y with
  | cj=>cases ry;exact PySem.EqNone.eq_bool_none (bx I q (by simp))
  | bl j=>cases ry;exact eq_bool (bx I q zh)
  | str j=>obtain ⟨t',rfl⟩:=ry;exact PySem.EqMixed.eq_bool_str (bx I q (by simp))
  | _=>exact absurd (show false=true from hs) afx
 | int i=>
  obtain ⟨t,rfl⟩:=rx
  cases y with
  | cj=>cases ry;exact PySem.EqNone.eq_int_none (bx I q (by simp))
  | int j=>obtain ⟨t',rfl⟩:=ry;exact eq_int (bx I q vg)
  | str j=>obtain ⟨t',rfl⟩:=ry;exact PySem.EqMixed.eq_int_str (bx I q (by simp))
  | _=>exact absurd (show false=true from hs) afx
 | str i=>
  obtain ⟨t,rfl⟩:=rx
  cases y with
  | cj=>cases ry;exact PySem.EqNone.eq_str_none (bx I q (by simp))
  | bl j=>cases ry;exact PySem.EqMixed.eq_str_bool (bx I q (by simp))
  | int j=>obtain ⟨t',rfl⟩:=ry;exact PySem.EqMixed.eq_str_int (bx I q (by simp))
  | str j=>obtain ⟨t',rfl⟩:=ry;exact eq_str (bx I q vh)
  | _=>exact absurd (show false=true from hs) afx
 | byt i=>
  obtain ⟨t,rfl⟩:=rx
  cases y with
  | byt j=>obtain ⟨t',rfl⟩:=ry;exact PySem.W.eq_bytes (bx I q vi)
  | _=>exact absurd (show false=true from hs) afx
 | _=>cases y <;> exact absurd (show false=true from hs) afx
theorem d5:iO X (compareOp .NotEq) rNe:=by
 intro pins s σ H x y v u Q I rx ry h
 obtain ⟨hs,q⟩:=h
 cases x with
 | cj=>
  cases rx
  cases y with
  | cj=>cases ry;exact PySem.EqNone.ne_none_none (bx I q (by simp))
  | bl j=>cases ry;exact PySem.EqNone.ne_none_bool (bx I q (by simp))
  | int j=>obtain ⟨t',rfl⟩:=ry;exact PySem.EqNone.ne_none_int (bx I q (by simp))
  | str j=>obtain ⟨t',rfl⟩:=ry;exact PySem.EqNone.ne_none_str (bx I q (by simp))
  | _=>exact absurd (show false=true from hs) afx
 | bl i=>
  cases rx
  cases y with
  | cj=>cases ry;exact PySem.EqNone.ne_bool_none (bx I q (by simp))
  | bl j=>cases ry;exact ne_bool (bx I q (congrArg not zh))
  | str j=>obtain ⟨t',rfl⟩:=ry;exact PySem.EqMixed.ne_bool_str (bx I q (by simp))
  | _=>exact absurd (show false=true from hs) afx
 | int i=>
  obtain ⟨t,rfl⟩:=rx
  cases y with
  | cj=>cases ry;exact PySem.EqNone.ne_int_none (bx I q (by simp))
  | int j=>obtain ⟨t',rfl⟩:=ry;exact ne_int (bx I q (congrArg not vg))
  | str j=>obtain ⟨t',rfl⟩:=ry;exact PySem.EqMixed.ne_int_str (bx I q (by simp))
  | _=>exact absurd (show false=true from hs) afx
 | str i=>
  obtain ⟨t,rfl⟩:=rx
  cases y with
  | cj=>cases ry;exact PySem.EqNone.ne_str_none (bx I q (by simp))
  | bl j=>cases ry;exact PySem.EqMixed.ne_str_bool (bx I q (by simp))
  | int j=>obtain ⟨t',rfl⟩:=ry;exact PySem.EqMixed.ne_str_int (bx I q (by simp))
  | str j=>obtain ⟨t',rfl⟩:=ry;exact ne_str (bx I q (congrArg not vh))
  | _=>exact absurd (show false=true from hs) afx
 | byt i=>
  obtain ⟨t,rfl⟩:=rx
  cases y with
  | byt j=>obtain ⟨t',rfl⟩:=ry;exact PySem.W.ne_bytes (bx I q (congrArg not vi))
  | _=>exact absurd (show false=true from hs) afx
 | _=>cases y <;> exact absurd (show false=true from hs) afx
theorem rn:iO X (compareOp .Lt) (JA fun i j=>.bl (decide (i < j))):=K8 fun _ _ _ _ _ _ _ q=>lt_int q
theorem zi:iO X (compareOp .Gt) (JA fun i j=>.bl (decide (j < i))):=K8 fun _ _ _ _ _ _ _ q=>gt_int q
theorem JB:iO X (compareOp .GtE) (JA fun i j=>.bl (decide (j≤i))):=K8 fun _ _ _ _ _ _ _ q=>ge_int q
theorem zk:iO X (compareOp .Is) (fun x y H Q=>y=.cj∧Q (.bl (decide (x=.cj))) H):=by
 intro pins s σ H x y v u Q I rx ry h
 obtain ⟨rfl,q⟩:=h
 cases ry
 refine is_none_gen (bx I q ?_)
 cases x <;> first
  | (cases rx;rfl)
  | (obtain ⟨t,rfl⟩:=rx;rfl)
theorem EK:iO X (compareOp .IsNot) (fun x y H Q=>y=.cj∧Q (.bl (!decide (x=.cj))) H):=by
 intro pins s σ H x y v u Q I rx ry h
 obtain ⟨rfl,q⟩:=h
 cases ry
 refine isnot_none_gen (bx I q ?_)
 cases x <;> first
  | (cases rx;rfl)
  | (obtain ⟨t,rfl⟩:=rx;rfl)
theorem aQ (b:Expr){op:CmpOp}(h:op≠.In:=by decide)(h2:op≠.NotIn:=by decide):behindInMarks op b=false:=by
 have e1:(op==CmpOp.In)=false:=by cases op <;> first | rfl | exact absurd rfl h
 have e2:(op==CmpOp.NotIn)=false:=by cases op <;> first | rfl | exact absurd rfl h2
 cases b <;> simp [behindInMarks,e1,e2]
theorem gS {op:CmpOp}{r:R2}(ho:iO X (compareOp op) r)(ha:PE X a ta)(hb:PE X b tb)(hm:behindInMarks op b=false):PE X (.Compare a [op] [b] pos) (K6 r ta tb):=by
 intro pins s σ H Q I h
 exact wpAny_Compare1 (K7 ha hb I h fun v u s2 x y H2 I2 rx ry q=>ho pins s2 σ H2 x y v u Q I2 rx ry q) hm
inductive zo (Q:(Bool→Hp→Prop))(x:V)(H' :Hp):Prop where
 | mk (k:_) (_:x=.bl k) (_:Q k H'):zo Q x H'
def N5 (t:TE):TT:=fun σ H Q=>t σ H fun x H' =>zo Q x H'
theorem aJ {op:CmpOp}{r:R2}(ho:iO X (compareOp op) r)(ha:PE X a ta)(hb:PE X b tb)(hm:behindInMarks op b=false):PT X (.Compare a [op] [b] pos) (N5 (K6 r ta tb)):=by
 intro pins s σ H Q I h
 refine wpAny_isTrue_Compare1 (bZ (ha pins s σ H _ I h) fun v s1 ⟨x,H1,I1,r1,q1⟩=>bZ (hb pins s1 σ H1 _ I1 q1) fun u s2 ⟨y,H2,I2,r2,q2⟩=>
  bZ (ho pins s2 σ H2 x y v u _ I2 r1 r2 q2) fun c s3 ⟨z,H3,I3,r3,k,e,q3⟩=> ?_) hm
 subst e
 cases r3
 exact wpAny_truthy_bool ⟨H3,I3,q3⟩
theorem lR:(sizeLine:Nat) < 2^63:=by rw [sizeLine_eq];decide
theorem iq:iO X (binaryOp .Add) (fun x y H Q=>∃i j,x=.str i∧y=.str j∧i.length+j.length≤sizeLine∧Q (.str (i++j)) H):=by
 intro pins s σ H x y v u Q I rx ry h
 obtain ⟨i,j,rfl,rfl,hz,q⟩:=h
 obtain ⟨t,rfl⟩:=rx
 obtain ⟨t',rfl⟩:=ry
 exact add_str (fun t' tk=>⟨.str (i++j),H,I.tok _,⟨_,rfl⟩,q⟩) hz
theorem vals1 {x:V}{us:List Value}(r:Vals [x] us):∃u,us=[u]∧RelV x u:=by
 cases r with
 | cons r1 r2=>cases r2;exact ⟨_,rfl,r1⟩
theorem vals2 {x y:V}{us:List Value}(r:Vals [x,y] us):∃u w',us=[u,w']∧RelV x u∧RelV y w' :=by
 cases r with
 | cons r1 r2=>
  cases r2 with
  | cons r3 r4=>cases r4;exact ⟨_,_,rfl,r1,r3⟩
theorem rq:eO X (.builtin "abs") (fun xs H Q=>∃i,xs=[.int i]∧Q (.int (if i < 0 then -i else i)) H):=by
 intro pins s σ H xs us Q I r h
 obtain ⟨i,rfl,q⟩:=h
 obtain ⟨u,rfl,t,rfl⟩:=vals1 r
 exact call_abs_int fun u tk=>⟨.int (if i < 0 then -i else i),H,I.tok _,⟨_,rfl⟩,q⟩
theorem wu (hc:X.calm=true):eO X (.builtin "min") (fun xs H Q=>∃i j,xs=[.int i,.int j]∧Q (.int (if j < i then j else i)) H):=by
 intro pins s σ H xs us Q I r h
 obtain ⟨i,j,rfl,q⟩:=h
 obtain ⟨u,w',rfl,⟨t,rfl⟩,⟨t',rfl⟩⟩:=vals2 r
 refine min_two_ints (I.ok.hd hc) fun h' tk k=>⟨_,H,I.kept k,?_,q⟩
 by_cases hj:j < i
 ·rw [if_pos hj,if_pos hj];exact ⟨_,rfl⟩
 ·rw [if_neg hj,if_neg hj];exact ⟨_,rfl⟩
theorem pe:eO X (.type "str") (fun xs H Q=>∃i,xs=[.int i]∧i.natAbs.log2 < 1920∧Q (.str (toString i)) H):=by
 intro pins s σ H xs us Q I r h
 obtain ⟨i,rfl,hz,q⟩:=h
 obtain ⟨u,rfl,t,rfl⟩:=vals1 r
 exact PySem.P.str_of_int hz ⟨.str _,H,I.tok _,⟨_,rfl⟩,q⟩
end
end L2
namespace L2
open PySem PySem.Spec PyProof.Rows
structure tX (h:Heap)(x dx C:Addr)(mA:Str→Option Value):Prop where
 obj:h.get? x=some (PySem.W.instObj C dx)
 ns:h.Ns1 dx mA
 ne:dx≠x
theorem n_ {h:Heap}{dx:Addr}{mA:Str→Option Value}(n:h.Ns1 dx mA):∃od,h.get? dx=some od∧∀name,PySem.W.lookIn name od=some (mA name):=by
 obtain ⟨o,es,ep,ho,hd,hk,_,hm⟩:=n
 refine ⟨o,ho,fun name=> ?_⟩
 have e:=hm name
 unfold nsFind findBy at e
 rw [← Array.find?_toList] at e
 unfold PySem.W.lookIn
 rw [hd]
 dsimp only
 split
 ·rename_i y q
  rw [q] at e
  exact congrArg some e
 ·rename_i q
  rw [q] at e
  have a:es.toList.any (·.refKey)=false:=by
   rw [List.any_eq_false]
   intro y hy
   obtain ⟨z,t,K9⟩:=hk y (Array.mem_toList_iff.mp hy)
   simp [DictEntry.refKey,K9]
  have a' :¬ es.toList.any (·.refKey)=true:=by rw [a];exact afx
  rw [if_neg a']
  exact congrArg some e
theorem tX.look {h:Heap}{x dx C:Addr}{mA:Str→Option Value}(I:tX h x dx C mA):∃od,PySem.W.InstAt h x (PySem.W.instObj C dx) C (some od)∧∀name,PySem.W.lookIn name od=some (mA name):=
 let ⟨od,ho,hl⟩:=n_ I.ns
 ⟨od,⟨I.obj,rfl,rfl,ho⟩,hl⟩
section
variable {prog:Program}{w:World}{A:Around}{E:Value→Shared→Prop}{s:Shared}{K:Frag}{x dx C f:Addr}{mA:Str→Option Value}{name:Str}{v:Value}
theorem get_map {expr:Bool}{Q:Value→Shared→Prop}(X:K.In s.heap)(I:tX s.heap x dx C mA)(hg:PySem.W.plainGet K C name=true)(hh:PySem.W.hasDictIn K C=true)
  (ha:PySem.W.findIn K (.ref C) name=some none) (hv:mA name=some v) (K_ :PySem.W.handedIn v=true) (h:Q v {s with toks:=s.toks+1}):
  wpAny (model prog w) A (getAttr (.ref x) name expr) Q E s:=by
 obtain ⟨od,J,hl⟩:=I.look
 exact PySem.W.get_value X J (PySem.W.plainGet_of hg).1 (PySem.W.findObj_own hh ha rfl (by rw [hl,hv])) K_ h
theorem zq {pl:Sem Bool}{Q:Value×List Value→Shared→Prop}(X:K.In s.heap)(I:tX s.heap x dx C mA)(hg:PySem.W.plainGet K C name=true)
  (hf:PySem.W.findIn K (.ref C) name=some (some (.ref f))) (ht:PySem.W.isFn K (.ref f)=true) (hv:mA name=none) (h:Q (.ref f,[.ref x]) s):
  wpAny (model prog w) A (getMethod (.ref x) name pl) Q E s:=by
 obtain ⟨od,J,hl⟩:=I.look
 exact PySem.W.method_fn X J (PySem.W.plainGet_of hg).1 (PySem.W.plainGet_of hg).2 hf (beq_iff_eq.mp ht) (by show (PySem.W.lookIn name od).map (·.isSome)=some false;rw [hl,hv];rfl) h
theorem EL {ns:List Str}{Q:Unit→Shared→Prop}(X:K.In s.heap)(I:tX s.heap x dx C mA)
  (hs:PySem.W.findIn K (.ref C) "__setattr__"=some (some (.builtin "object.__setattr__"))) (hp:PySem.W.plainOver K C=true) (ht:PySem.W.takerIn K C name=some none) (hh:PySem.W.hasDictIn K C=true)
  (hw:PySem.Within mA ns) (hsz:ns.length≤sizeLine)
  (h:∀h',tX h' x dx C (fun y=>if y=name then some v else mA y)→Heap.SameBut dx s.heap h' →Q () {s with heap:=h',toks:=s.toks+2}):
  wpAny (model prog w) A (setAttr (.ref x) name v) Q E s:=by
 obtain ⟨od,J,hl⟩:=I.look
 refine PySem.W.set_plain X J hs (PySem.W.osa_open (s:={s with toks:=s.toks+1}) (r:=none) X J hp ht fun b=> ?_)
 obtain ⟨cd,hc,NQ⟩:=PySem.W.any_some hh
 have hx:s.heap.get? x=some ⟨.ref C,some dx,.plain, #[]⟩:=I.obj
 refine wpAny_bind (wpAny_pure (wpAny_bind (wpAny_bind (wpAny_loadPart hx (wpAny_bind (PySem.W.Looks.here (s:={s with toks:=s.toks+1}) (PySem.W.looks_clsIn X hc) ?_))))))
 rw [NQ]
 refine wpAny_pure (a:=some dx) (wpAny_bind (wpAny_pure (wpAny_bind ?_)))
 refine wpAny_nsSet1 (s:={s with toks:=s.toks+1}) I.ns fun h' yN tY=> ?_
 obtain ⟨oD,VZ,V0,N6,N7,N8⟩:=yN.count (PySem.Within.cons name v hw)
 refine wpAny_bind (wpAny_lookBehind N6 (by rw [N7];exact pastItsLine_dict (ac_ N8 (by rw [afL];omega))) ?_)
 exact wpAny_pure (h _ ⟨(tY.2 _ (afO I.ne)).trans I.obj,yN,I.ne⟩ tY)
theorem zr {R:Result→Shared→Prop}{vs:List Value}{kw:List (Str×Value)}(X:K.In s.heap)(hm:PySem.W.makesIn K C=true)
  (hi:PySem.W.findIn K (.ref C) "__init__"=some (some (.ref f))) (hf:PySem.W.typeIn K (.ref f)=some (.type "function"))
  (h:codeAny (model prog w) (A.under (.builtin "type.__call__" ⟨.ref C::vs,kw⟩)) (.call (.ref f) ⟨.ref (s.heap.objs.size+1)::vs,kw⟩) (PySem.W.InitBack (s.heap.objs.size+1) R)
   {s with heap:=(s.heap.push PySem.W.emptyDict).push (PySem.W.instObj C s.heap.objs.size)}):
  codeAny (model prog w) A (.call (.ref C) ⟨vs,kw⟩) R s:=by
 obtain ⟨hh,g,d,t,os⟩:=s
 exact PySem.W.make_core (PySem.W.makes_of X hm) (PySem.W.looks_findIn X hi) (fun self=>PySem.W.bind_fn X self hf) (.inl rfl) h
theorem wz {R:Result→Shared→Prop}(X:K.In s.heap)(hm:PySem.W.makesIn K C=true)
  (hi:PySem.W.findIn K (.ref C) "__init__"=some (some (.builtin "object.__init__")))
  (hb:∀self,PySem.W.Looks (model prog w) s.heap (bindSpecial (.builtin "object.__init__") self) (.builtin "object.__init__",[self]))
  (h:codeAny (model prog w) (A.under (.builtin "type.__call__" ⟨[.ref C],[]⟩)) (.call (.builtin "object.__init__") ⟨[.ref (s.heap.objs.size+1)],[]⟩) (PySem.W.InitBack (s.heap.objs.size+1) R)
   {s with heap:=(s.heap.push PySem.W.emptyDict).push (PySem.W.instObj C s.heap.objs.size)}):
  codeAny (model prog w) A (.call (.ref C) ⟨[],[]⟩) R s:=by
 obtain ⟨hh,g,d,t,os⟩:=s
 exact PySem.W.make_core (PySem.W.makes_of X hm) (PySem.W.looks_findIn X hi) hb (.inr ⟨rfl,rfl⟩) h
end
def cQ (f:Str)(v:V):List (Str×V)→List (Str×V)
 | []=>[(f,v)]
 | (g,x)::r=>if g=f then (g,v)::r else (g,x)::cQ f v r
theorem gA (f g:Str)(v:V):∀fs:List (Str×V),(cQ f v fs).lookup g=if g=f then some v else fs.lookup g
 | []=>by
  show af2 g [(f,v)]=_
  by_cases h:g=f
  ·have hb:(g==f)=true:=beq_iff_eq.mpr h
   simp only [af2,hb,if_pos h]
  ·have hb:(g==f)=false:=beq_eq_false_iff_ne.mpr h
   simp only [af2,hb,if_neg h]
 | (k,x)::r=>by
  have ih:=gA f g v r
  rw [show cQ f v ((k,x)::r)=(if k=f then (k,v)::r else (k,x)::cQ f v r) from rfl]
  by_cases hk:k=f
  ·rw [if_pos hk]
   by_cases h:g=k
   ·have hb:(g==k)=true:=beq_iff_eq.mpr h
    simp only [af2,hb,if_pos (h.trans hk)]
   ·have hb:(g==k)=false:=beq_eq_false_iff_ne.mpr h
    simp only [af2,hb,if_neg (fun e:g=f=>h (e.trans hk.symm))]
  ·rw [if_neg hk]
   by_cases h:g=k
   ·have hb:(g==k)=true:=beq_iff_eq.mpr h
    simp only [af2,hb,if_neg (fun e:g=f=>hk (h.symm.trans e))]
   ·have hb:(g==k)=false:=beq_eq_false_iff_ne.mpr h
    simp only [af2,hb]
    exact ih
theorem jD (f:Str)(v:V):∀fs:List (Str×V),f∈(cQ f v fs).map (·.1)∧∀g,g∈fs.map (·.1)→g∈(cQ f v fs).map (·.1)
 | []=>⟨by simp [cQ],fun g h=>by simp at h⟩
 | (k,x)::r=>by
  obtain ⟨i1,i2⟩:=jD f v r
  rw [show cQ f v ((k,x)::r)=(if k=f then (k,v)::r else (k,x)::cQ f v r) from rfl]
  by_cases hk:k=f
  ·rw [if_pos hk]
   subst hk
   exact ⟨by simp,fun g h=>by simpa using h⟩
  ·rw [if_neg hk]
   refine ⟨?_,fun g h=> ?_⟩
   ·rw [afp]
    exact aft _ i1
   ·rw [afp] at h ⊢
    rcases afK.mp h with e | e
    ·exact afK.mpr (.inl e)
    ·exact aft _ (i2 g e)
theorem j7 (f:Str)(v:V):∀fs:List (Str×V),(cQ f v fs).length≤fs.length+1
 | []=>by simp [cQ]
 | (k,x)::r=>by
  have ih:=j7 f v r
  rw [show cQ f v ((k,x)::r)=(if k=f then (k,v)::r else (k,x)::cQ f v r) from rfl]
  by_cases hk:k=f
  ·rw [if_pos hk,afL,afL];omega
  ·rw [if_neg hk,afL,afL];omega
theorem dP.some_of {v:V}{o:Option Value}(r:dP (some v) o):∃u,o=some u∧RelV v u:=by
 cases o with
 | none=>exact (show False from r).elim
 | some u=>exact ⟨u,rfl,r⟩
theorem dP.none_of {o:Option Value}(r:dP none o):o=none:=by
 cases o with
 | none=>rfl
 | some u=>exact (show False from r).elim
theorem oa {v:V}{u:Value}(r:RelV v u):PySem.W.handedIn u=true:=by
 cases v with
 | cj=>cases (show u=Value.none from r);rfl
 | bl b=>cases (show u=Value.bool b from r);rfl
 | int i=>obtain ⟨t,e⟩:=(show ∃t,u=Value.int i t from r);cases e;rfl
 | str x=>obtain ⟨t,e⟩:=(show ∃t,u=Value.str x t from r);cases e;rfl
 | byt b=>obtain ⟨t,e⟩:=(show ∃t,u=Value.bytes b t from r);cases e;rfl
 | KU b=>obtain ⟨t,e⟩:=(show ∃t,u=Value.float b t from r);cases e;rfl
 | ref a=>cases (show u=Value.ref a from r);rfl
 | ty n=>cases (show u=Value.type n from r);rfl
section
variable {P:Program}{w:World}{H H' :Hp}{h h' :Heap}{a C dx:Addr}{fs Ni :List (Str×V)}
theorem kR (bz:fM P w H h)(e:H a=some (.ins C dx fs)):∃mA,tX h a dx C mA∧(∀f,dP (fs.lookup f) (mA f))∧PySem.Within mA (fs.map (·.1))∧fs.length≤1000∧H dx=some (.own a):=by
 obtain ⟨d,z,ne,ob,mA,n,r,q⟩:=(show bE P w H h a (.ins C dx fs) from bz a _ e)
 exact ⟨mA,⟨ob,n,ne⟩,r,q,z,d⟩
end
structure rA (K:Frag)(C:Addr):Prop where
 pg:PySem.W.plainGet K C Str.empty=true
 hd:PySem.W.hasDictIn K C=true
 po:PySem.W.plainOver K C=true
 sa:PySem.W.findIn K (.ref C) "__setattr__"=some (some (.builtin "object.__setattr__"))
theorem rA.get {K:Frag}{C:Addr}(c:rA K C)(f:Str):PySem.W.plainGet K C f=true:=c.pg
def d6 (K:Frag)(C:Addr)(f:Str):Prop:=PySem.W.findIn K (.ref C) f=some none
theorem d6.N9 {K:Frag}{C:Addr}{f:Str}(n:d6 K C f):PySem.W.takerIn K C f=some none:=by
 unfold PySem.W.takerIn
 rw [show PySem.W.findIn K (.ref C) f=some none from n]
 rfl
structure Meth (K:Frag)(C:Addr)(m:Str)(f:Addr):Prop where
 at_:PySem.W.findIn K (.ref C) m=some (some (.ref f))
 fn:PySem.W.isFn K (.ref f)=true
 kp:keepIn K (.ref f)=true
section
variable {X:Cx}{pins:List (Addr×Obj)}{σ:St}{H:Hp}{s:Shared}{a C dx:Addr}{fs:List (Str×V)}{f:Str}{v:V}{A:Around}{E:Value→Shared→Prop}
theorem tZ {b:Bool}{Q:Value→Shared→Prop}(I:Inv X pins σ H s)(e:H a=some (.ins C dx fs))(c:rA X.K C)(n:d6 X.K C f)(l:fs.lookup f=some v)
  (h:∀u s',Inv X pins σ H s' →RelV v u→Q u s'):wpAny (model X.prog X.w) A (getAttr (.ref a) f b) Q E s:=by
 obtain ⟨mA,O,r,_,_,_⟩:=kR I.bz e
 obtain ⟨u,hu,ru⟩:=dP.some_of (v:=v) (o:=mA f) (by rw [← l];exact r f)
 exact get_map I.dX O (c.get f) c.hd n hu (oa ru) (h u _ (I.tok _) ru)
theorem iu {m:Str}{g:Addr}{pl:Sem Bool}{Q:Value×List Value→Shared→Prop}(I:Inv X pins σ H s)(e:H a=some (.ins C dx fs))(c:rA X.K C)(k:Meth X.K C m g)(l:fs.lookup m=none)
  (h:Q (.ref g,[.ref a]) s):wpAny (model X.prog X.w) A (getMethod (.ref a) m pl) Q E s:=by
 obtain ⟨mA,O,r,_,_,_⟩:=kR I.bz e
 have hn:mA m=none:=dP.none_of (by rw [← l];exact r m)
 exact zq I.dX O (c.get m) k.at_ k.fn hn h
theorem t7 {y:V}{u:Value}{Q:Unit→Shared→Prop}(I:Inv X pins σ H s)(e:H a=some (.ins C dx fs))(c:rA X.K C)(n:d6 X.K C f)(hl:fs.length < 1000)(ry:RelV y u)
  (h:∀s',Inv X pins σ (upd H a (.ins C dx (cQ f y fs))) s' →Q () s'):wpAny (model X.prog X.w) A (setAttr (.ref a) f u) Q E s:=by
 obtain ⟨mA,O,r,wi,_,ho⟩:=kR I.bz e
 have hz:(fs.map (·.1)).length≤sizeLine:=by rw [Wp,sizeLine_eq];omega
 refine EL I.dX O c.sa c.po n.N9 c.hd wi hz fun h' O' sb=>h _ ?_
 have hd:∃o,h'.get? dx=some o:=let ⟨o,_,_,e',_⟩:=O'.ns;⟨o,e'⟩
 refine I.write (x:=a) (e:=dx) (by rw [e];exact True.intro) (.inr ho) (fun b q hb z=>(sb.2 b hb).trans z) hd ?_
 refine ⟨by rw [aj O.ne];exact ho,?_,O.ne,O'.obj,_,O'.ns,fun g=> ?_,fun g hg=> ?_⟩
 ·have:=j7 f y fs;omega
 ·show dP ((cQ f y fs).lookup g) (if g=f then some u else mA g)
  rw [gA]
  by_cases q:g=f
  ·rw [if_pos q,if_pos q];exact ry
  ·rw [if_neg q,if_neg q];exact r g
 ·by_cases q:g=f
  ·rw [q];exact (jD f y fs).1
  ·refine (jD f y fs).2 g (wi g fun z=>hg ?_)
   show (if g=f then some u else mA g)=none
   rw [if_neg q];exact z
theorem Inv.made (I:Inv X pins σ H s):Inv X pins σ (upd (upd H s.heap.objs.size (.own (s.heap.objs.size+1))) (s.heap.objs.size+1) (.ins C s.heap.objs.size []))
  {s with heap:=(s.heap.push PySem.W.emptyDict).push (PySem.W.instObj C s.heap.objs.size)}:=by
 have e1:(s.heap.push PySem.W.emptyDict).get? s.heap.objs.size=some PySem.W.emptyDict:=Heap.get?_push_size s.heap rfl
 have e2:((s.heap.push PySem.W.emptyDict).push (PySem.W.instObj C s.heap.objs.size)).get? (s.heap.objs.size+1)=some (PySem.W.instObj C s.heap.objs.size):=by
  have:=Heap.get?_push_size (s.heap.push PySem.W.emptyDict) (o:=PySem.W.instObj C s.heap.objs.size) rfl
  rwa [Heap.size_push] at this
 have e3:(s.heap.push PySem.W.emptyDict).Ns s.heap.objs.size (fun _=>none):=⟨PySem.W.emptyDict, #[],_,e1,rfl,(fun e he=>absurd he (by simp)),fun _=>rfl⟩
 have I1:=I.laid (a:=s.heap.objs.size) (o:=.own (s.heap.objs.size+1)) (h' :=s.heap.push PySem.W.emptyDict) (t' :=s.toks) (fun b u q=>Heap.get?_push_of_some _ q) (ad_ _) ⟨_,e1⟩
 refine I1.laid (a:=s.heap.objs.size+1) (o:=.ins C s.heap.objs.size []) (t' :=s.toks) (fun b u q=>Heap.get?_push_of_some _ q) (apB (Heap.size_push _ _)) ?_
 have ne:s.heap.objs.size≠s.heap.objs.size+1:=afJ (af4 _)
 refine ⟨by rw [aj ne,ai],afU _,ne,e2,fun _=>none,(Heap.Ns1.of_empty e3).at fun o q=>Heap.get?_push_of_some _ q,fun _=>True.intro,fun y hy=>absurd rfl hy⟩
theorem vj {prog:Program}{w:World}{env:Env}{e:Expr}{f:Str}{pos:Pos}{s:Shared}{Q:Value→Shared→Prop}(hb:attributeBase e f env (eval e env)=eval e env)
  (h:wpAny (model prog w) A (eval e env) (fun o s₁=>wpAny (model prog w) A (getAttr o f true) Q E s₁) E s):wpAny (model prog w) A (eval (.Attribute e f pos) env) Q E s:=
 Attribute_any_ h (by rw [arm_eval_Attribute,hb])
end
inductive JC (K:Frag)(f:Str)(Q:VK)(x:V)(H1:Hp):Prop where
 | mk (a C dx fs v:_) (_:x=.ref a) (_:H1 a=some (.ins C dx fs)) (_:rA K C) (_:d6 K C f) (_:fs.lookup f=some v) (_:Q v H1):JC K f Q x H1
def Xc (K:Frag)(ta:TE)(f:Str):TE:=fun σ H Q=>ta σ H fun x H1=>JC K f Q x H1
inductive JD (K:Frag)(f:Str)(D:Ends)(σ:St)(y:V)(x:V)(H2:Hp):Prop where
 | mk (a C dx fs:_) (_:x=.ref a) (_:H2 a=some (.ins C dx fs)) (_:rA K C) (_:d6 K C f) (_:fs.length < 1000) (_:D.nx σ (upd H2 a (.ins C dx (cQ f y fs)))):JD K f D σ y x H2
def Xd (K:Frag)(ta tv:TE)(f:Str):TS:=fun D σ H=>tv σ H fun y H1=>ta σ H1 fun x H2=>JD K f D σ y x H2
section
variable {X:Cx}{o e value:Expr}{f:Str}{pos pos' t_:Pos}{ta tv:TE}
theorem cM (he:PE X e ta)(hb:attributeBase e f X.env (eval e X.env)=eval e X.env):PE X (.Attribute e f pos) (Xc X.K ta f):=by
 intro pins s σ H Q I h
 refine vj hb (bZ (he pins s σ H _ I h) fun u s1 ⟨x,H1,I1,rx,a,C,dx,fs,v,ex,ea,c,n,l,q⟩=> ?_)
 subst ex
 obtain rfl:u=Value.ref a:=rx
 exact tZ I1 ea c n l fun u' s2 I2 ru=>⟨v,H1,I2,ru,q⟩
theorem ph (ha:PE X o ta)(hv:PE X value tv)(hs:swapsWith value (some (.Attribute o f pos')) pos.line X.env=pure false):PS X (.Assign [.Attribute o f pos'] value pos) (Xd X.K ta tv f):=by
 intro pins s σ H D I h
 refine plainObj_wpAny_Assign_Attribute (bZ (hv pins s σ H _ I h) fun u s1 ⟨y,H1,I1,ry,q⟩=>bZ (ha pins s1 σ H1 _ I1 q) fun ov s2 ⟨x,H2,I2,rx,a,C,dx,fs,ex,ea,c,n,l,q2⟩=> ?_) hs
 subst ex
 obtain rfl:ov=Value.ref a:=rx
 exact t7 I2 ea c n l ry fun s3 I3=>⟨σ,_,I3,q2⟩
end
section
variable {X:Cx}{pins:List (Addr×Obj)}{σ:St}{H:Hp}{s:Shared}{A:Around}{E:Value→Shared→Prop}{Q:Value→Shared→Prop}{c:Value}{b:Bool}
inductive jE (K:Frag)(H:Hp):V→Value→Prop where
 | cj:jE K H .cj (.type "NoneType")
 | bl (x:Bool):jE K H (.bl x) (.type "bool")
 | int (i:Int):jE K H (.int i) (.type "int")
 | str (x:Str):jE K H (.str x) (.type "str")
 | KU (x:UInt64):jE K H (.KU x) (.type "float")
 | lst {a:Addr} {xs:List V} (e:H a=some (.lst xs)):jE K H (.ref a) (.type "list")
 | ip {a:Addr} {o:Obj} {xs:List V} (e:H a=some (.ip o (.lst xs))):jE K H (.ref a) (.type "list")
 | tup {a:Addr} {xs:List V} (e:H a=some (.tup xs)):jE K H (.ref a) (.type "tuple")
 | dK {a:Addr} {kvs:List (Key×V)} (e:H a=some (.dK kvs)):jE K H (.ref a) (.type "dict")
 | dT {a:Addr} {kvs:List (List Key×V)} (e:H a=some (.dT kvs)):jE K H (.ref a) (.type "dict")
 | ins {a C dx:Addr} {fs:List (Str×V)} (e:H a=some (.ins C dx fs)) (cl:rA K C) (ha:PySem.W.findIn K (.ref C) "__class__"=some (some (.builtin "object.__class__")))
   (hn:PySem.W.specialIn K (.builtin "object.__class__") "__get__"=some (some (.builtin "getset_descriptor.__get__"))) (htk:PySem.W.takesIn K (.builtin "object.__class__")=some true)
   (hm:PySem.W.mroIn K C (.type "object")=some true):jE K H (.ref a) (.ref C)
theorem wA {x:V}{u t:Value}(I:Inv X pins σ H s)(rx:RelV x u)(ty:jE X.K H x t)(e:PySem.W.kitOne X.K t c=some b)(h:∀tk,Q (.bool b) {s with toks:=tk}):
  wpAny (model X.prog X.w) A (call (.builtin "isinstance") [u,c]) Q E s:=by
 cases ty with
 | cj=>cases (show u=Value.none from rx);exact PySem.W.kia_one PySem.W.kitx_none I.dX True.intro e (fun z=>nomatch z) h
 | bl y=>cases (show u=Value.bool y from rx);exact PySem.W.kia_one PySem.W.kitx_bool I.dX True.intro e (fun z=>nomatch z) h
 | int i=>obtain ⟨t,q⟩:=(show ∃t,u=Value.int i t from rx);cases q;exact PySem.W.kia_one PySem.W.kitx_int I.dX True.intro e (fun z=>nomatch z) h
 | str y=>obtain ⟨t,q⟩:=(show ∃t,u=Value.str y t from rx);cases q;exact PySem.W.kia_one PySem.W.kitx_str I.dX True.intro e (fun z=>nomatch z) h
 | KU y=>obtain ⟨t,q⟩:=(show ∃t,u=Value.float y t from rx);cases q;exact PySem.W.kia_one PySem.W.kitx_float I.dX True.intro e (fun z=>nomatch z) h
 | @lst a xs ea=>
  cases (show u=Value.ref a from rx)
  obtain ⟨_,_,n,_,h1⟩:=(show bE X.prog X.w H s.heap a (.lst xs) from I.bz a _ ea)
  exact PySem.W.kia_one PySem.W.kitx_list I.dX ⟨_,h1,rfl⟩ e (fun z=>nomatch z) h
 | @ip a ob xs ea=>
  cases (show u=Value.ref a from rx)
  obtain ⟨_,_,_,n,_,h1⟩:=(show bE X.prog X.w H s.heap a (.ip ob (.lst xs)) from I.bz a _ ea)
  exact PySem.W.kia_one PySem.W.kitx_list I.dX ⟨_,h1,rfl⟩ e (fun z=>nomatch z) h
 | @tup a xs ea=>
  cases (show u=Value.ref a from rx)
  obtain ⟨_,_,_,p⟩:=(show bE X.prog X.w H s.heap a (.tup xs) from I.bz a _ ea)
  obtain ⟨o,h1,h2,_⟩:=p
  exact PySem.W.kia_one PySem.W.kitx_tuple I.dX ⟨o,h1,h2⟩ e (fun z=>nomatch z) h
 | @dK a kvs ea=>
  cases (show u=Value.ref a from rx)
  obtain ⟨_,_,vs,_,p⟩:=(show bE X.prog X.w H s.heap a (.dK kvs) from I.bz a _ ea)
  obtain ⟨o,es,ep,h1,h2,_⟩:=p
  exact PySem.W.kia_one PySem.W.kitx_dict I.dX ⟨o,h1,h2.1⟩ e (fun z=>nomatch z) h
 | @dT a kvs ea=>
  cases (show u=Value.ref a from rx)
  obtain ⟨_,_,xs,_,o,es,ep,h1,h2,_⟩:=(show bE X.prog X.w H s.heap a (.dT kvs) from I.bz a _ ea)
  exact PySem.W.kia_one PySem.W.kitx_dict I.dX ⟨o,h1,h2.1⟩ e (fun z=>nomatch z) h
 | @ins a C dx fs ea cl ha hn htk hm=>
  cases (show u=Value.ref a from rx)
  obtain ⟨mA,O,_⟩:=kR I.bz ea
  obtain ⟨od,J,_⟩:=O.look
  exact PySem.W.kia_one (PySem.W.kitx_own (cl.get _) cl.hd ha hn htk hm) I.dX J e (fun z=>nomatch z) h
end
end L2
namespace L2
open PySem PySem.Spec PyProof.Rows
structure bY (k:Nat)(A:Around):Prop where
 hd:A.handled=none
 dp:A.depth+3*k+5 < recursionLimit
 un:A.units+16*k+200 < cLine
theorem bY.mono {j k:Nat}{A:Around}(r:bY k A)(h:j≤k):bY j A:=⟨r.hd,by have:=r.dp;omega,by have:=r.un;omega⟩
theorem bY.deeper {k:Nat}{A:Around}(r:bY (k+1) A)(env:Env):bY k (A.deeper env):=
 ⟨r.hd,by have:=r.dp;show A.depth+1+3*k+5 < _;omega,by have:=r.un;show A.units+3+16*k+200 < _;omega⟩
theorem ua {A:Around}{C:Addr}{us:List Value}{kw:List (Str×Value)}:(A.under (.builtin "type.__call__" ⟨.ref C::us,kw⟩)).depth=A.depth+1:=by
 first | rfl | simp [Around.under,Code.weight,Code.isCreation,Code.isGuard,Code.isCaller,Code.frames,Code.isFrame,guardIds]
theorem uc {A:Around}{C:Addr}{us:List Value}{kw:List (Str×Value)}:(A.under (.builtin "type.__call__" ⟨.ref C::us,kw⟩)).units=A.units+1:=by
 first | rfl | simp [Around.under,Code.cUnits,Code.frames,Code.isFrame]
theorem bY.make {k:Nat}{A:Around}(r:bY (k+1) A)(C:Addr)(us:List Value)(kw:List (Str×Value)):bY k (A.under (.builtin "type.__call__" ⟨.ref C::us,kw⟩)):=
 ⟨r.hd,by have:=r.dp;rw [ua];omega,by have:=r.un;rw [uc];omega⟩
theorem bY.depth {k:Nat}{A:Around}(r:bY k A):A.depth < recursionLimit:=by have:=r.dp;omega
theorem bY.units {k:Nat}{A:Around}(r:bY k A):A.units+64 < cLine:=by have:=r.un;omega
def gk:TA:=fun _ H Q=>Q [] H
def JE (ta:TE)(tr:TA):TA:=fun σ H Q=>ta σ H fun x H1=>tr σ H1 fun xs H2=>Q (x::xs) H2
section
variable {X:Cx}{e:Expr}{es:List Expr}{te:TE}{t:TA}{pos:Pos}
theorem aa:PA X [] gk:=fun _ _ _ _ H Q I h=>Calls.spliced_nil ⟨[],H,I,.nil,h⟩
theorem EM (ha:PE X e te)(hr:PA X es t)(hs:starEach (e::es) X.env=(false,eval e X.env)::starEach es X.env:=by rfl):PA X (e::es) (JE te t):=by
 intro pos pins s σ H Q I h
 rw [hs]
 show wpAny _ _ (spliced ((false,eval e X.env)::backTo pos (starEach es X.env))) _ _ s
 refine Calls.spliced_cons (bZ (ha pins s σ H _ I h) fun u s1 ⟨x,H1,I1,r1,q1⟩=> ?_)
 exact bZ (hr pos pins s1 σ H1 _ I1 q1) fun us s2 ⟨xs,H2,I2,r2,q2⟩=>⟨x::xs,H2,I2,.cons r1 r2,q2⟩
def Xe (t:TA):TE:=fun σ H Q=>t σ H fun xs H1=>xs.length≤sizeLine∧∀p,H1 p=none→Q (.ref p) (upd H1 p (.tup xs))
def Xf (t:TA):TE:=fun σ H Q=>t σ H fun xs H1=>xs.length≤sizeLine∧∀p,H1 p=none→Q (.ref p) (upd H1 p (.lst xs))
theorem aV {x1}(h:PA X es t):PE X (.Tuple es x1 pos) (Xe t):=by
 intro pins s σ H Q I hq
 refine wpAny_Tuple_spliced (bZ (h pos pins s σ H _ I hq) fun us s1 ⟨xs,H1,I1,r,z,q⟩=>⟨by rw [← r.length];exact z,?_⟩)
 have hf:H1 s1.heap.objs.size=none:=I1.bz.fresh (ad_ _)
 refine ⟨.ref s1.heap.objs.size,upd H1 s1.heap.objs.size (.tup xs),I1.laid (t' :=s1.toks) (fun b u e=>Heap.get?_push_of_some _ e) (ad_ _) ?_,rfl,q _ hf⟩
 exact ⟨z,us,r,⟨_,Heap.get?_push_size _ rfl,rfl,_,rfl⟩⟩
theorem bS (h:PA X es t):PE X (.List es pos) (Xf t):=by
 intro pins s σ H Q I hq
 refine wpAny_List_spliced (bZ (h pos pins s σ H _ I hq) fun us s1 ⟨xs,H1,I1,r,z,q⟩=>⟨by rw [← r.length];exact z,?_⟩)
 have hf:H1 s1.heap.objs.size=none:=I1.bz.fresh (ad_ _)
 refine ⟨.ref s1.heap.objs.size,upd H1 s1.heap.objs.size (.lst xs),I1.laid (t' :=s1.toks) (fun b u e=>Heap.get?_push_of_some _ e) (ad_ _) ?_,rfl,q _ hf⟩
 exact ⟨z,us,0,r,Heap.get?_push_size _ rfl⟩
end
abbrev Sp:=List V→Hp→VK→XK→Prop
abbrev jw:=List Env→Hp→Shared→XK→Value→Shared→Prop
structure ud (P:Program)(w:World)(K:Frag)(mg:Str→Option Value)(base:Heap)(A:Around)(outer:List Env)(s:Shared)(H:Hp):Prop where
 frames:A.frames=some outer
 mod:Mod K mg base
 bs:∀b o,base.get? b=some o→s.heap.get? b=some o∧H b=none
 DS:base.objs.size≤s.heap.objs.size
 jA:s.heap.FunFrames base outer
 IY:∀b∈h_ outer,H b=none
 bz:fM P w H s.heap
 bare:AllBare s.gens
def CE (outer:List Env)(P:Program)(w:World)(H:Hp)(s:Shared)(Q:VK)(u:Value)(s' :Shared):Prop:=
 ∃v H',s'.os=s.os∧AllBare s'.gens∧Un (h_ outer) [] H H' s.heap s'.heap∧fM P w H' s'.heap∧RelV v u∧Q v H'
def CR (CX:jw)(outer:List Env)(P:Program)(w:World)(H:Hp)(s:Shared)(Q:VK)(E:XK)(r:Result)(s' :Shared):Prop:=
 match r with
 | .ok (.ret u)=>CE outer P w H s Q u s'
 | .ok _=>False
 | .error e=>CX outer H s E e s'
structure cp (P:Program)(w:World)(K:Frag)(mg:Str→Option Value)(base:Heap)(CX:jw)(k:Nat)(f:Addr)(fd:FuncData)(ps:List Str)(sp:Sp):Prop where
 len:∀vs H Q E,sp vs H Q E→vs.length=ps.length
 run:∀(A:Around) (outer:List Env) (s:Shared) (H:Hp) (args:Args) (us:List Value) (vs:List V) (Q:VK) (E:XK),bY k A→ud P w K mg base A outer s H→BindsTo s fd args (ps.zip us)→Vals vs us→sp vs H Q E→
  codeAny (model P w) A (.call (.ref f) args) (CR CX outer P w H s Q E) s
theorem cp.mono {P:Program}{w:World}{K:Frag}{mg:Str→Option Value}{base:Heap}{CX:jw}{j k:Nat}{f:Addr}{fd:FuncData}{ps:List Str}{sp:Sp}(F:cp P w K mg base CX j f fd ps sp)(h:j≤k):
  cp P w K mg base CX k f fd ps sp:=⟨F.len,fun A outer s H args us vs Q E hr=>F.run A outer s H args us vs Q E (hr.mono h)⟩
theorem cp.imp {P:Program}{w:World}{K:Frag}{mg:Str→Option Value}{base:Heap}{CX:jw}{k:Nat}{f:Addr}{fd:FuncData}{ps:List Str}{sp sp' :Sp}(F:cp P w K mg base CX k f fd ps sp)
  (h:∀vs H Q E,sp' vs H Q E→sp vs H Q E):cp P w K mg base CX k f fd ps sp' :=
 ⟨fun vs H Q E q=>F.len vs H Q E (h _ _ _ _ q),fun A outer s H args us vs Q E hr he hb hv hs=>F.run A outer s H args us vs Q E hr he hb hv (h _ _ _ _ hs)⟩
theorem ud.make {P:Program}{w:World}{K:Frag}{mg:Str→Option Value}{base:Heap}{A:Around}{outer:List Env}{s:Shared}{H:Hp}(e:ud P w K mg base A outer s H)(C:Addr)(us:List Value)(kw:List (Str×Value)):
  ud P w K mg base (A.under (.builtin "type.__call__" ⟨.ref C::us,kw⟩)) outer s H:=⟨by first | exact e.frames | (simpa [Around.under,Code.envs,Code.isFrame,pushEnvs] using e.frames),e.mod,e.bs,e.DS,e.jA,e.IY,e.bz,e.bare⟩
section
variable {X:Cx}{pins:List (Addr×Obj)}{σ:St}{H:Hp}{s s' :Shared}
theorem Inv.EN (I:Inv X pins σ H s):ud X.prog X.w X.K X.mg X.base X.A X.stack s H:=
 ⟨I.ok.frames,I.ok.mod,I.bs,ac_ I.ok.DS I.sz,I.stack,I.kQ,I.bz,I.bare⟩
theorem Inv.after {Q:VK}{u:Value}(I:Inv X pins σ H s)(h:CE X.stack X.prog X.w H s Q u s'):EP X pins σ Q u s' :=by
 obtain ⟨v,H',os,bare,un,bz,r,q⟩:=h
 obtain ⟨hh,g,d,t,V1⟩:=s'
 obtain rfl:V1 =s.os:=os
 exact ⟨v,H',I.call (h' :=hh) (g' :=g) (d' :=d) (t' :=t) (ch:=[]) un bz bare (fun b z=>absurd z (by simp)),r,q⟩
end
def JF (sp:Sp)(dvs:List V)(E:XK)(t:TA):TE:=fun σ H Q=>t σ H fun vs H1=>sp (vs++dvs) H1 Q E
def JG (C:Addr)(sp:Sp)(dvs:List V)(E:XK)(t:TA):TE:=fun σ H Q=>t σ H fun vs H1=>∀x dx,H1 x=none→H1 dx=none→dx≠x→
 sp (.ref x::(vs++dvs)) (upd (upd H1 dx (.own x)) x (.ins C dx [])) (fun v H2=>v=.cj∧Q (.ref x) H2) E
def Binds (K:Frag)(fd:FuncData)(ps:List Str)(ds:List Value):Prop:=
 ∀(s:Shared) (us:List Value),K.In s.heap→(us++ds).length=ps.length→BindsTo s fd ⟨us,[]⟩ (ps.zip (us++ds))
theorem Binds.all {K:Frag}{fd:FuncData}{ps:List Str}(h:∀us:List Value,us.length=ps.length→bindArgs fd ⟨us,[]⟩=pure (ps.zip us)):Binds K fd ps []:=fun s us _ hl=>by
 rw [agc] at hl ⊢
 exact .of_eq (h us hl)
def Passes (CX:jw)(X:Cx)(E:XK):Prop:=∀(pins:List (Addr×Obj)) (σ:St) (H:Hp) (s:Shared) (e:Value) (s' :Shared),Inv X pins σ H s→CX X.stack H s E e s' →X.xe e s'
section
variable {X:Cx}{CX:jw}{k:Nat}{f C:Addr}{fd:FuncData}{ps:List Str}{sp:Sp}{dvs:List V}{ds:List Value}{E:XK}{x m:Str}{p pos apos:Pos}{e o:Expr}{es:List Expr}{ta:TE}{t:TA}
theorem pj {pins:List (Addr×Obj)}{σ:St}{H:Hp}{s:Shared}{Q:VK}{us:List Value}{vs:List V}(F:cp X.prog X.w X.K X.mg X.base CX k f fd ps sp)(hr:bY k X.A)(hb:Binds X.K fd ps ds)(hd:Vals dvs ds)(hx:Passes CX X E)
  (I:Inv X pins σ H s) (r:Vals vs us) (h:sp (vs++dvs) H Q E):wpAny (model X.prog X.w) X.A (call (.ref f) us) (EP X pins σ Q) X.xe s:=by
 have r2:Vals (vs++dvs) (us++ds):=r.append hd
 have hl:(us++ds).length=ps.length:=by rw [← r2.length];exact F.len _ _ _ _ h
 refine wpAny_call (codeAny_mono (F.run X.A X.stack s H ⟨us,[]⟩ (us++ds) (vs++dvs) Q E hr I.EN (hb s us I.dX hl) r2 h) fun r s' hq=> ?_)
 cases r with
 | error e=>exact hx pins σ H s e s' I hq
 | ok fl=>
  cases fl with
  | ret u=>exact I.after hq
  | next=>exact False.elim hq
  | brk=>exact False.elim hq
  | cont=>exact False.elim hq
theorem EO (F:cp X.prog X.w X.K X.mg X.base CX k f fd ps sp)(hr:bY k X.A)(hg:Gl X x)(hm:X.mg x=some (.ref f))(hk:keepIn X.K (.ref f)=true)(hb:Binds X.K fd ps ds)(hd:Vals dvs ds)(hx:Passes CX X E)
  (ha:PA X (e::es) t) (rB:(x==("__debug__":Str))=false:=by decide) (he:starEach (e::es) X.env=(false,eval e X.env)::starEach es X.env:=by rfl) (q4:(backTo pos (starEach es X.env)).any (·.1)=false:=by rfl):
  PE X (.Call (.Name x p) (e::es) [] pos) (JF sp dvs E t):=by
 intro pins s σ H Q I h
 refine wpAny_Call_Name_kw (dQ I hg hm ?_ rB)
 refine PySem.W.callWith_K (h₀:=X.base) I.ok.mod.IX hk (bZ (ha pos pins s σ H _ I h) fun us s1 ⟨vs,H1,I1,r,q⟩=>⟨I1.dX,?_⟩) he q4
 exact pj F hr hb hd hx I1 r q
structure Mk (K:Frag)(C f:Addr):Prop where
 makes:PySem.W.makesIn K C=true
 init:PySem.W.findIn K (.ref C) "__init__"=some (some (.ref f))
 fn:PySem.W.isFn K (.ref f)=true
 kp:keepIn K (.ref C)=true
theorem rC {pins:List (Addr×Obj)}{σ:St}{H:Hp}{s:Shared}{Q:VK}{us:List Value}{vs:List V}(M:Mk X.K C f)(F:cp X.prog X.w X.K X.mg X.base CX k f fd ps sp)(hr:bY (k+1) X.A)(hb:Binds X.K fd ps ds)(hd:Vals dvs ds)
  (hx:Passes CX X E) (I:Inv X pins σ H s) (r:Vals vs us)
  (h:∀x dx,H x=none→H dx=none→dx≠x→sp (.ref x::(vs++dvs)) (upd (upd H dx (.own x)) x (.ins C dx [])) (fun v H2=>v=.cj∧Q (.ref x) H2) E):
  wpAny (model X.prog X.w) X.A (call (.ref C) us) (EP X pins σ Q) X.xe s:=by
 have hq:=h (s.heap.objs.size+1) s.heap.objs.size (I.bz.fresh (agG _)) (I.bz.fresh (ad_ _)) (afJ (af4 _))
 have I2:=Inv.made (C:=C) I
 have r2:Vals (V.ref (s.heap.objs.size+1)::(vs++dvs)) (Value.ref (s.heap.objs.size+1)::(us++ds)):=.cons rfl (r.append hd)
 have hl:(Value.ref (s.heap.objs.size+1)::us++ds).length=ps.length:=by
  have e:=r2.length
  rw [F.len _ _ _ _ hq] at e
  exact e.symm
 refine wpAny_call (zr (f:=f) I.dX M.makes M.init (beq_iff_eq.mp M.fn) (codeAny_mono (F.run _ X.stack _ _ ⟨Value.ref (s.heap.objs.size+1)::us,[]⟩ (Value.ref (s.heap.objs.size+1)::(us++ds)) _ _ E (hr.make C us [])
  (I2.EN.make C us []) (hb _ (Value.ref (s.heap.objs.size+1)::us) I2.dX hl) r2 hq) fun r s' iw => ?_))
 cases r with
 | error e=>exact hx pins σ _ _ e s' I2 iw
 | ok fl=>
  cases fl with
  | ret u=>
   obtain ⟨v,H',I3,rv,ev,q3⟩:=I2.after iw
   subst ev
   exact ⟨rv,⟨V.ref (s.heap.objs.size+1),H',I3,rfl,q3⟩⟩
  | next=>exact False.elim iw
  | brk=>exact False.elim iw
  | cont=>exact False.elim iw
theorem ER (M:Mk X.K C f)(F:cp X.prog X.w X.K X.mg X.base CX k f fd ps sp)(hr:bY (k+1) X.A)(hg:Gl X x)(hm:X.mg x=some (.ref C))(hb:Binds X.K fd ps ds)(hd:Vals dvs ds)(hx:Passes CX X E)
  (ha:PA X (e::es) t) (rB:(x==("__debug__":Str))=false:=by decide) (he:starEach (e::es) X.env=(false,eval e X.env)::starEach es X.env:=by rfl) (q4:(backTo pos (starEach es X.env)).any (·.1)=false:=by rfl):
  PE X (.Call (.Name x p) (e::es) [] pos) (JG C sp dvs E t):=by
 intro pins s σ H Q I h
 refine wpAny_Call_Name_kw (dQ I hg hm ?_ rB)
 refine PySem.W.callWith_K (h₀:=X.base) I.ok.mod.IX M.kp (bZ (ha pos pins s σ H _ I h) fun us s1 ⟨vs,H1,I1,r,q⟩=>⟨I1.dX,?_⟩) he q4
 exact rC M F hr hb hd hx I1 r q
theorem zt (M:Mk X.K C f)(F:cp X.prog X.w X.K X.mg X.base CX k f fd ps sp)(hr:bY (k+1) X.A)(hg:Gl X x)(hm:X.mg x=some (.ref C))(hb:Binds X.K fd ps ds)(hd:Vals dvs ds)(hx:Passes CX X E)
  (rB:(x==("__debug__":Str))=false:=by decide):PE X (.Call (.Name x p) [] [] pos) (JG C sp dvs E gk):=by
 intro pins s σ H Q I h
 refine wpAny_Call_Name_kw (dQ I hg hm ?_ rB)
 exact PySem.W.callWith_K0 I.dX M.kp (rC (us:=[]) M F hr hb hd hx I .nil h)
end
section
variable {X:Cx}{CX:jw}{k:Nat}{f C:Addr}{fd:FuncData}{ps ks:List Str}{sp:Sp}{E:XK}{x m:Str}{p pos apos apz:Pos}{e o:Expr}{es:List Expr}{kws:List Keyword}{te ta:TE}{t tk:TA}{nm:Option Str}
variable {g:List Value→List Value→List Value}{gV:List V→List V→List V}
end
structure ay (N P:List Str)(sc:Scope):Prop where
 kind:sc.kind=.function
 co:sc.isCoroutine=false
 gen:sc.isGenerator=false
 nd:N.Nodup
 pre:N.take P.length=P
 par:∀x∈P,sc.names.lookup x=some .local∨sc.names.lookup x=some .cell
 K':∀y∈sc.names,y.2≠.free
theorem og {kindOf:Str→Option NameKind}{x:Str}:∀{binds:List (Str×Value)} {m:Str→Option Value},(∀v,(x,v)∉binds)→bindL kindOf binds m x=m x
 | [],_,_=>rfl
 | (n,v)::r,m,h=>by
  unfold bindL
  rw [og fun w hw=>h w (aft _ hw)]
  split
  ·have:x≠n:=by rintro rfl;exact h v afD
   simp [this]
  ·rfl
theorem oh {kindOf:Str→Option NameKind}{x:Str}:∀{binds:List (Str×Value)} {m:Str→Option Value},(∀v,(x,v)∉binds)→bindC kindOf binds m x=m x
 | [],_,_=>rfl
 | (n,v)::r,m,h=>by
  unfold bindC
  rw [oh fun w hw=>h w (aft _ hw)]
  split
  ·rfl
  ·have:x≠n:=by rintro rfl;exact h v afD
   simp [this]
theorem oi {kindOf:Str→Option NameKind}{x:Str}{v:Value}:∀{P:List Str} {vs:List Value} {i:Nat} {m:Str→Option Value},P.Nodup→P[i]? =some x→vs[i]? =some v→kindOf x=some .local→
  bindL kindOf (P.zip vs) m x=some v
 | [],_,_,_,_,h,_,_=>by simp at h
 | _::_,[],_,_,_,_,h,_=>by simp at h
 | p::P,w::vs,0,m,nd,h1,h2,hk=>by
  simp at h1 h2;subst h1;subst h2
  show bindL kindOf ((p,w)::P.zip vs) m p=_
  unfold bindL
  rw [og fun v hv=>(afX.mp nd).1 (apk hv).1,if_pos hk]
  simp
 | p::P,w::vs,i+1,m,nd,h1,h2,hk=>by
  show bindL kindOf ((p,w)::P.zip vs) m x=_
  unfold bindL
  exact oi (i:=i) (afX.mp nd).2 (by simpa using h1) (by simpa using h2) hk
theorem oj {kindOf:Str→Option NameKind}{x:Str}{v:Value}:∀{P:List Str} {vs:List Value} {i:Nat} {m:Str→Option Value},P.Nodup→P[i]? =some x→vs[i]? =some v→kindOf x≠some .local→
  bindC kindOf (P.zip vs) m x=some v
 | [],_,_,_,_,h,_,_=>by simp at h
 | _::_,[],_,_,_,_,h,_=>by simp at h
 | p::P,w::vs,0,m,nd,h1,h2,hk=>by
  simp at h1 h2;subst h1;subst h2
  show bindC kindOf ((p,w)::P.zip vs) m p=_
  unfold bindC
  rw [oh fun v hv=>(afX.mp nd).1 (apk hv).1,if_neg hk]
  simp
 | p::P,w::vs,i+1,m,nd,h1,h2,hk=>by
  show bindC kindOf ((p,w)::P.zip vs) m x=_
  unfold bindC
  exact oj (i:=i) (afX.mp nd).2 (by simpa using h1) (by simpa using h2) hk
def start (N:List Str)(vs:List V):St:=vs.map some++afz (N.length - vs.length) none
def kD (CX:jw)(P:Program)(w:World)(K:Frag)(mg:Str→Option Value)(base:Heap)(N:List Str)(qual:Str)(scope:Scope)(f:Addr)(cd:Value)(A:Around)(outer:List Env)(s:Shared)(H:Hp)(E:XK):Cx where
 prog:=P
 w:=w
 K:=K
 mg:=mg
 base:=base
 A:=A.deeper (envOfC qual scope s.heap.objs.size f cd)
 N:=N
 s₀:=s
 H₀:=H
 env:=envOfC qual scope s.heap.objs.size f cd
 outer:=outer
 stack:=envOfC qual scope s.heap.objs.size f cd::outer
 ex:=[]
 calm:=true
 fn:=fun _=>true
 pn:=[]
 xe:=fun e s' =>wpAny (model P w) (A.deeper (envOfC qual scope s.heap.objs.size f cd)) (leaving (envOfC qual scope s.heap.objs.size f cd) e) (fun _ N_ =>CX outer H s E e N_) (fun e' N_ =>CX outer H s E e' N_) s'
theorem rE {sc:Scope}{n:Nat}{x:Str}(h:sc.names.lookup x=some .cell):∃c,(cellsFrom n sc.names []).lookup x=some c:=by
 have q:=PySem.W.cellsFrom_some sc.names n [] (.inl h)
 exact agB.mp q
theorem wB {CX:jw}{P:Program}{w:World}{K:Frag}{mg:Str→Option Value}{base:Heap}{N ps:List Str}{qual:Str}{scope:Scope}{f:Addr}{cd:Value}{A:Around}{outer:List Env}{s s1:Shared}{H:Hp}{E:XK}{us:List Value}{vs:List V}
  (S:ay N ps scope) (hd:A.handled=none) (e0:ud P w K mg base A outer s H) (hl:vs.length=ps.length) (r:Vals vs us)
  (x:InCallC s s.heap.objs.size (bindL (envOfC qual scope s.heap.objs.size f cd).kindOf (ps.zip us) fun _=>none) (cellsFrom (s.heap.objs.size+1) scope.names []) (bindC (envOfC qual scope s.heap.objs.size f cd).kindOf (ps.zip us) fun _=>none) s1):
  Inv (kD CX P w K mg base N qual scope f cd A outer s H E) [] (start N vs) H s1:=by
 have q4:ps.length≤N.length:=by have:=congrArg ago S.pre;rw [afN] at this;omega
 obtain ⟨h1,tk,rfl,hk⟩:=x.done
 have N':∀b:Addr,b∉(kD CX P w K mg base N qual scope f cd A outer s H E).ex:=fun b z=>absurd (show b∈([]:List Addr) from z) (by simp)
 refine ⟨⟨e0.mod,S.kind,rfl,rfl,ad_ _,fun y z c h1 h2=> ?_,fun y hy=> ?_,fun y c _ h=> ?_,fun _=>hd,Around.frames_deeper e0.frames,.inr ⟨rfl,rfl⟩,fun b z=>absurd z (N' b),e0.bs,e0.DS,fun b _ _=>N' b,fun b z=>absurd z (N' b),e0.jA,e0.IY⟩,
  rfl,e0.bare,Un.kept hk,⟨_,x.toInCall.ns,fun i y v h1 h2 h3=> ?_⟩,fun y c h=>⟨_,x.cell y c h⟩,e0.bz.fresh (ad_ _),fun y c h=> ?_,fun p hp=>absurd (show p∈([]:List (Addr×Obj)) from hp) (by simp),e0.bz.kept hk,?_⟩
 ·exact name_of_addr x.apart (PySem.mem_of_lookup h1) (PySem.mem_of_lookup h2)
 ·have hy:scope.names.lookup y=some .cell∨scope.names.lookup y=some .free:=hy
  rcases hy with hy | hy
  ·exact rE hy
  ·exact absurd rfl (S.K' _ (PySem.mem_of_lookup hy))
 ·exact agh (x.above y c (PySem.mem_of_lookup h))
 ·have hi:i < vs.length:=by
   unfold start at h2
   by_cases hi:i < vs.length
   ·exact hi
   ·rw [afy (by simpa using hi)] at h2
    rw [af9] at h2
    split at h2 <;> cases h2
  have ha:vs[i]? =some v:=by
   unfold start at h2
   rw [afv (by simpa using hi),aa_] at h2
   cases e:vs[i]? with
   | none=>rw [e] at h2;cases h2
   | some a=>rw [e] at h2;cases h2;rfl
  obtain ⟨u,hu,rv⟩:=r.get ha
  have hp:ps[i]? =some y:=by
   rw [← S.pre,List.getElem?_take_of_lt (by omega)];exact h1
  have ndP:ps.Nodup:=by rw [← S.pre];exact S.nd.sublist (List.take_sublist _ _)
  refine ⟨u,rv,?_⟩
  rcases S.par y (abt hp) with k | k
  ·exact .inl ⟨k,oi ndP hp hu k⟩
  ·obtain ⟨c,e⟩:=rE (n:=s.heap.objs.size+1) k
   refine .inr ⟨.inl k,c,e,?_⟩
   have q:=x.cell y c e
   rw [oj ndP hp hu (by show scope.names.lookup y≠_;rw [k];decide)] at q
   exact q
 ·exact e0.bz.fresh (agh (x.above y c (PySem.mem_of_lookup h)))
 ·unfold start
  show _=N.length
  rw [afq,Wp,agg]
  omega
theorem rF {CX:jw}{P:Program}{w:World}{K:Frag}{mg:Str→Option Value}{base:Heap}{k:Nat}{f:Addr}{name qual:Str}{params:Arguments}{body:List Stmt}{scope:Scope}{dV kV doc pm bf ct oc:Value}{an od:Option Addr}
  {jF:Array (Option Value)} {N ps:List Str} {sp:Sp} (lk:K.lookup f=some ⟨oc,od,.func (fnOf name qual params body scope dV kV doc pm an bf ct),jF⟩) (lL:codeIn K bf qual=true) (S:ay N ps scope)
  (len:∀vs H Q E,sp vs H Q E→vs.length=ps.length)
  (gB:∀(A:Around) (outer:List Env) (s:Shared) (H:Hp) (vs:List V) (Q:VK) (E:XK),bY k (A.deeper (envOfC qual scope s.heap.objs.size f bf))→sp vs H Q E→
   ∃t,PSs (kD CX P w K mg base N qual scope f bf A outer s H E) body t∧t {nx:=fun _ H' =>Q .cj H',rt:=Q} (start N vs) H):
  cp P w K mg base CX (k+1) f (fnOf name qual params body scope dV kV doc pm an bf ct) ps sp:=by
 refine ⟨len,fun A outer s H args us vs Q E hr e0 hb r q5=> ?_⟩
 have hl:=len _ _ _ _ q5
 have KX:K.In s.heap:=e0.mod.IX.keeps fun b o e=>(e0.bs b o e).1
 have lim:s.heap.NoLimit:=e0.mod.nolimit.keeps fun b o e=>(e0.bs b o e).1
 have Oa:∀y∈ps.zip us,scope.names.lookup y.1=some .local∨(scope.names.lookup y.1=some .cell∧((cellsFrom (s.heap.objs.size+1) scope.names []).lookup y.1).isSome=true):=fun ⟨n,v⟩ hy=>by
  rcases S.par n (apk hy).1 with q | q
  ·exact .inl q
  ·exact .inr ⟨q,PySem.W.cellsFrom_some _ _ _ (.inl q)⟩
 refine codeAny_call_function hr.depth (KX _ _ lk) rfl S.co S.gen rfl (PySem.W.codeRec_of KX lL) (hb _ _ _ _ ?_)
 refine wpAny_newFunctionEnv_cells S.kind Oa fun env he s1 x=> ?_
 subst he
 refine ⟨lim.keeps x.toInCall.keep,codeAny_func ?_⟩
 obtain ⟨t,ht,hq⟩:=gB A outer s H vs Q E (hr.deeper _) q5
 have I:Inv (kD CX P w K mg base N qual scope f bf A outer s H E) [] (start N vs) H s1:=wB S hr.hd e0 hl r x
 refine wpAny_mono (ht [] s1 (start N vs) H _ I hq) (fun fl s' hs=> ?_) fun e s' hs=>hs
 have fin:∀{σ' :St} {H' :Hp} {v:V} {u:Value},Inv (kD CX P w K mg base N qual scope f bf A outer s H E) [] σ' H' s' →RelV v u→Q v H' →CE outer P w H s Q u s' :=
  fun {σ' H' v u} J rv q=>⟨v,H',J.os,J.bare,J.base,J.bz,rv,q⟩
 cases fl with
 | ret u=>
  obtain ⟨v,σ',H',J,rv,q⟩:=hs
  exact fin J rv q
 | next=>
  obtain ⟨σ',H',J,q⟩:=hs
  exact fin (v:=V.cj) (u:=Value.none) J rfl q
 | brk=>
  obtain ⟨_,_,_,q⟩:=hs
  exact False.elim q
 | cont=>
  obtain ⟨_,_,_,q⟩:=hs
  exact False.elim q
end L2
namespace L2
open PySem PySem.Spec PyProof.Rows
section
variable {X:Cx}{x:Str}{p pos:Pos}{e:Expr}{es:List Expr}{t:TA}{id T:String}{r:List V→Hp→VK→Prop}
def tCB (r:List V→Hp→VK→Prop)(t:TA):TE:=fun σ H Q=>t σ H fun vs H1=>r vs H1 Q
theorem aD (hc:eO X (.builtin id) r)(hg:Gl X x)(hm:X.mg x=none)(hv:bootBuiltins x=some (.builtin id))(ha:PA X (e::es) t)(hn:x≠ "__name__":=by decide)(rB:(x==("__debug__":Str))=false:=by decide)
  (he:starEach (e::es) X.env=(false,eval e X.env)::starEach es X.env:=by rfl) (q4:(backTo pos (starEach es X.env)).any (·.1)=false:=by rfl):PE X (.Call (.Name x p) (e::es) [] pos) (tCB r t):=by
 intro pins s σ H Q I h
 refine wpAny_Call_Name_kw (gw I hg hm hv ?_ hn rB)
 exact PyProof.Rows.callWith_builtin1 (bZ (ha pos pins s σ H _ I h) fun us s1 ⟨vs,H1,I1,r1,q1⟩=>hc pins s1 σ H1 vs us Q I1 r1 q1) he q4
theorem cG (hc:eO X (.type T) r)(hg:Gl X x)(hm:X.mg x=none)(hv:bootBuiltins x=some (.type T))(ha:PA X (e::es) t)(hn:x≠ "__name__":=by decide)(rB:(x==("__debug__":Str))=false:=by decide)
  (he:starEach (e::es) X.env=(false,eval e X.env)::starEach es X.env:=by rfl) (q4:(backTo pos (starEach es X.env)).any (·.1)=false:=by rfl):PE X (.Call (.Name x p) (e::es) [] pos) (tCB r t):=by
 intro pins s σ H Q I h
 refine wpAny_Call_Name_kw (gw I hg hm hv ?_ hn rB)
 exact PyProof.Rows.callWith_type1 (bZ (ha pos pins s σ H _ I h) fun us s1 ⟨vs,H1,I1,r1,q1⟩=>hc pins s1 σ H1 vs us Q I1 r1 q1) he q4
end
end L2
namespace HT
open PySem PyProof.Rows
section
open PySem.SeqAt
open PySem.AutoSeq1 (wpAny_loadPart')
open PySem.MeetsSeq PySem.MeetsSeq2 PySem.MeetsSeq3
end
section
variable {prog:Program}{w:World}{A:Around}{E:Value→Shared→Prop}{s:Shared}
def dc (n d:Nat):Option Int→Nat
 | none=>d
 | some v=>if v < 0 then (v+(n:Int)).toNat else min v.toNat n
theorem rG (n d:Nat):dc n d none=d:=rfl
theorem kX (n d k:Nat):dc n d (some (k:Int))=min k n:=by
 show (if (k:Int) < 0 then ((k:Int)+(n:Int)).toNat else min (k:Int).toNat n)=min k n
 rw [if_neg (by omega),Int.toNat_natCast]
theorem La (n d:Nat)(hd:d≤n)(o:Option Int):dc n d o≤n:=by
 cases o with
 | none=>exact hd
 | some v=>
  show (if v < 0 then (v+(n:Int)).toNat else min v.toNat n)≤n
  by_cases hv:v < 0
  ·rw [if_pos hv];omega
  ·rw [if_neg hv];exact Nat.min_le_right _ _
theorem vk (v:Int)(n d:Nat):(if v < 0 then max (v+(n:Int)) 0 else min v (n:Int))=((dc n d (some v):Nat):Int):=by
 show (if v < 0 then max (v+(n:Int)) 0 else min v (n:Int))=(((if v < 0 then (v+(n:Int)).toNat else min v.toNat n):Nat):Int)
 by_cases hv:v < 0
 ·simp only [if_pos hv];omega
 ·simp only [if_neg hv];omega
theorem ue (lo hi:Option Int)(n:Nat):Builtin.Slice.sliceAdjust lo hi 1 (n:Int)=(((dc n 0 lo:Nat):Int),((dc n n hi:Nat):Int)):=by
 have h1:¬ ((1:Int) < 0):=by omega
 unfold Builtin.Slice.sliceAdjust
 simp only [h1,if_false]
 refine aku ?_ ?_
 ·cases lo with
  | none=>rfl
  | some v=>exact vk v n 0
 ·cases hi with
  | none=>rfl
  | some v=>exact vk v n n
theorem uf (i j:Nat):Builtin.Slice.slicePlaces (i:Int) (j:Int) 1=j - i:=by
 unfold Builtin.Slice.slicePlaces
 have h1:(1:Int) > 0:=by omega
 simp only [h1,if_true,Int.ediv_one]
 split <;> omega
theorem lS {v:Value}{o:Option Int}{Q:Option Int→Shared→Prop}(p:IsPart v o)(h:Q o s):wpAny (model prog w) A (Builtin.Slice.slicePartIndex v) Q E s:=by
 cases p with
 | none=>exact slicePart_none h
 | int i t=>exact slicePart_int h
theorem jG {sl:Addr}{vl vu:Value}{lo hi:Option Int}{n:Nat}{Q:Int×Int×Nat→Shared→Prop}(hs:s.heap.IsSliceOf sl vl vu .none)(pl:IsPart vl lo)(pu:IsPart vu hi)
  (h:Q (((dc n 0 lo:Nat):Int),1,dc n n hi - dc n 0 lo) s):wpAny (model prog w) A (Builtin.Slice.sliceApplied (.ref sl) (pure (n:Int))) Q E s:=by
 obtain ⟨os,Ob,hcs,JH⟩:=id hs
 unfold Builtin.Slice.sliceApplied Builtin.Slice.sliceFields
 refine wpAny_bind (wpAny_bind (wpAny_field Ob JH (x:=vl) rfl (wpAny_bind (wpAny_field Ob JH (x:=vu) rfl (wpAny_bind (wpAny_field Ob JH (x:=.none) rfl (wpAny_pure ?_)))))))
 refine wpAny_bind (slicePart_none ?_)
 show wpAny _ _ (if ((1:Int)==0)=true then _ else _) _ _ s
 rw [if_neg (by decide)]
 refine wpAny_bind (lS pl (wpAny_bind (lS pu (wpAny_bind (wpAny_pure ?_)))))
 show wpAny _ _ (match Builtin.Slice.sliceAdjust lo hi 1 (n:Int) with | (lo,hi)=>pure (lo,(1:Int),Builtin.Slice.slicePlaces lo hi 1)) _ _ s
 rw [ue lo hi n]
 show wpAny _ _ (pure (((dc n 0 lo:Nat):Int),(1:Int),Builtin.Slice.slicePlaces ((dc n 0 lo:Nat):Int) ((dc n n hi:Nat):Int) 1)) _ _ s
 rw [uf]
 exact wpAny_pure h
theorem zu (xs:Array Value)(i k:Nat):((agx k).filterMap fun (m:Nat)=>xs[((i:Int)+(m:Int)*1).toNat]?).toArray=((xs.toList.drop i).take k).toArray:=by
 have e:(fun (m:Nat)=>xs[((i:Int)+(m:Int)*1).toNat]?)=fun m=>xs[i+m]? :=by
  funext m
  have:((i:Int)+(m:Int)*1).toNat=i+m:=by omega
  rw [this]
 rw [e]
 have:=pick_run xs i k
 rw [List.filterMap_map] at this
 have e2:((fun x=>xs[x]?) ∘ fun x=>i+x)=fun m=>xs[i+m]? :=rfl
 rw [e2] at this
 rw [this]
theorem iS {t sl:Addr}{items:Array Value}{vl vu:Value}{lo hi:Option Int}{Q:Value→Shared→Prop}(ht:IsTup s.heap t items)(hs:s.heap.IsSliceOf sl vl vu .none)(pl:IsPart vl lo)(pu:IsPart vu hi)
  (hw:¬ (dc items.size 0 lo=0∧dc items.size items.size hi=items.size))
  (h:Q (.ref s.heap.objs.size) {s with heap:=s.heap.push {cls:=.type "tuple",data:=.seq ((items.toList.drop (dc items.size 0 lo)).take (dc items.size items.size hi - dc items.size 0 lo)).toArray}})
  (hsz:items.size≤sizeLine):wpAny (model prog w) A (getItem (.ref t) (.ref sl)) Q E s:=by
 have vm:sizeOk (.seq ((items.toList.drop (dc items.size 0 lo)).take (dc items.size items.size hi - dc items.size 0 lo)).toArray):=by
  show ((items.toList.drop (dc items.size 0 lo)).take (dc items.size items.size hi - dc items.size 0 lo)).toArray.size≤sizeLine
  rw [afC,afN,agT,ag3]
  omega
 have hj:dc items.size items.size hi≤items.size:=La _ _ (ad_ _) hi
 obtain ⟨os,Ob,hcs,JH⟩:=id hs
 have hTs:s.TypeIs (.ref sl) "slice":=⟨os,Ob,hcs⟩
 unfold getItem
 try with_reducible refine wpAny_holding ?_
 first | refine wpAny_bind (wpAny_pure ?_) | skip
 refine wpAny_bind (wpAny_sequenceKey ht.typeIs (by decide) ?_)
 refine wpAny_bind (wpAny_callSpecial?_slot (name:=Str.ofString "__getitem__") ht.typeIs PyProof.Rows.slot_tuple_getitem
  (wpAny_call_entry PyProof.Rows.slot_tuple_getitem ht.typeIs entry_tuple_getitem ?_ (args_tuple_getitem _ _)))
 show wpAny _ _ (Builtin.Tuple.tupleItemsOf (.ref t) >>=_) _ _ s
 refine wpAny_bind (tupleItemsOf_ ht ?_)
 refine wpAny_bind (wpAny_typeOf hTs ?_)
 rw [if_pos (by decide)]
 refine wpAny_bind (jG hs pl pu ?_)
 have Xg:¬ ((((dc items.size 0 lo:Nat):Int)==0 && (1:Int)==1 && (dc items.size items.size hi - dc items.size 0 lo)==items.size)=true):=by
  intro q
  rw [af_,af_] at q
  have q1:((dc items.size 0 lo:Nat):Int)=0:=eq_of_beq q.1.1
  have q2:dc items.size items.size hi - dc items.size 0 lo=items.size:=eq_of_beq q.2
  exact hw ⟨by omega,by omega⟩
 show wpAny _ _ (if (((dc items.size 0 lo:Nat):Int)==0 && (1:Int)==1 && (dc items.size items.size hi - dc items.size 0 lo)==items.size)=true then _ else _) _ _ s
 rw [if_neg Xg,zu]
 first
  | exact wpAny_bind (m:=Builtin.Tuple.tupleExact _) (wpAny_newObj_type (wpAny_pure ⟨_,rfl,wpAny_pure h⟩) vm)
  | exact wpAny_bind (m:=Builtin.Tuple.tupleExact _) (wpAny_newObj_type (wpAny_bind (wpAny_pure (wpAny_pure ⟨_,rfl,wpAny_pure h⟩))) vm)
  | exact wpAny_bind (wpAny_bind (m:=Builtin.Tuple.tupleExact _) (wpAny_newObj_type (wpAny_pure (wpAny_pure ⟨_,rfl,wpAny_pure h⟩)) vm))
  | exact wpAny_bind (wpAny_bind (m:=Builtin.Tuple.tupleExact _) (wpAny_newObj_type (wpAny_pure ⟨_,rfl,wpAny_pure h⟩) vm))
end
end HT
namespace L2
open PySem PySem.Spec PyProof.Rows
abbrev TO:=St→Hp→(Option Int→Hp→Prop)→Prop
def PO (X:Cx)(e:Option Expr)(t:TO):Prop:=
 ∀(pins:List (Addr×Obj)) (s:Shared) (σ:St) (H:Hp) (Q:Option Int→Hp→Prop),Inv X pins σ H s→t σ H Q→
  wpAny (model X.prog X.w) X.A (evalPart e X.env) (fun u s' =>∃o H',Inv X pins σ H' s' ∧IsPart u o∧Q o H') X.xe s
def ES:TO:=fun _ H Q=>Q none H
inductive zv (Q:(Option Int→Hp→Prop))(x:V)(H1:Hp):Prop where
 | mk (i:_) (_:x=.int i) (_:Q (some i) H1):zv Q x H1
def Oc (t:TE):TO:=fun σ H Q=>t σ H fun x H1=>zv Q x H1
section
variable {X:Cx}{e:Expr}{te:TE}{lo hi:Option Expr}{tl th:TO}{pos p2:Pos}
theorem gT:PO X none ES:=by
 intro pins s σ H Q I h
 rw [evalPart_none]
 exact wpAny_pure ⟨none,H,I,.none,h⟩
theorem eQ (h:PE X e te):PO X (some e) (Oc te):=by
 intro pins s σ H Q I hw
 rw [evalPart_some]
 refine bZ (h pins s σ H _ I hw) fun u s1 ⟨x,H1,I1,r1,q1⟩=> ?_
 obtain ⟨i,rfl,q⟩:=q1
 obtain ⟨t,rfl⟩:=r1
 exact ⟨some i,H1,I1,.int i t,q⟩
def V2 (X:Cx)(r:V→Option Int→Option Int→Hp→VK→Prop):Prop:=
 ∀(pins:List (Addr×Obj)) (s:Shared) (σ:St) (H:Hp) (x:V) (v vl vu:Value) (lo hi:Option Int) (sl:Addr) (Q:VK),Inv X pins σ H s→RelV x v→s.heap.IsSliceOf sl vl vu .none→IsPart vl lo→IsPart vu hi→r x lo hi H Q→
  ∃T id,typeLookup (.type T) "__getitem__"=pure (some (.builtin id))∧s.TypeIs v T∧wpAny (model X.prog X.w) X.A (getItem v (.ref sl)) (EP X pins σ Q) X.xe s
def tSl (r:V→Option Int→Option Int→Hp→VK→Prop)(te:TE)(tl th:TO):TE:=fun σ H Q=>te σ H fun x H1=>tl σ H1 fun l H2=>th σ H2 fun u H3=>r x l u H3 Q
theorem d7 {r:V→Option Int→Option Int→Hp→VK→Prop}(hr:V2 X r)(he:PE X e te)(hl:PO X lo tl)(hu:PO X hi th):PE X (.Subscript e (.Slice lo hi none p2) pos) (tSl r te tl th):=by
 intro pins s σ H Q I h
 refine Subscript_ (bZ (he pins s σ H _ I h) fun v s1 ⟨x,H1,I1,r1,q1⟩=> ?_)
 refine wpAny_Slice (bZ (hl pins s1 σ H1 _ I1 q1) fun vl s2 ⟨l,H2,I2,pl,q2⟩=>bZ (hu pins s2 σ H2 _ I2 q2) fun vu s3 ⟨u,H3,I3,pu,q3⟩=> ?_)
 rw [evalPart_none]
 refine wpAny_pure ?_
 have I4:Inv X pins σ H3 {s3 with heap:=s3.heap.push {cls:=.type "slice",data:=.fields #[vl,vu,.none]}}:=I3.kept (t' :=s3.toks) fun b ob q=>Heap.get?_push_of_some _ q
 obtain ⟨T,id,hT,ht,hg⟩:=hr pins {s3 with heap:=s3.heap.push {cls:=.type "slice",data:=.fields #[vl,vu,.none]}} σ H3 x v vl vu l u s3.heap.objs.size Q I4 r1 (Heap.IsSliceOf.new ..) pl pu q3
 show wpAny (model X.prog X.w) X.A (subscriptTail e (.Slice lo hi none p2) v (.ref s3.heap.objs.size)) (EP X pins σ Q) X.xe {s3 with heap:=s3.heap.push {cls:=.type "slice",data:=.fields #[vl,vu,.none]}}
 exact tail_any (ops:=[.ref s3.heap.objs.size,v]) ht hT hg (by with_unfolding_all rfl)
def d9 (xs:List V)(lo hi:Option Int):List V:=(xs.drop (HT.dc xs.length 0 lo)).take (HT.dc xs.length xs.length hi - HT.dc xs.length 0 lo)
theorem j8 (xs:List V)(lo hi:Option Int):(d9 xs lo hi).length≤xs.length:=by
 unfold d9
 rw [afN,agT]
 omega
inductive Od (K:Frag)(x:V)(lo:Option Int)(hi:Option Int)(H:Hp)(Q:VK):Prop where
 | mk (a xs:_) (_:x=.ref a) (_:bF K H a xs) (_:¬ (HT.dc xs.length 0 lo=0∧HT.dc xs.length xs.length hi=xs.length)) (_:∀p,H p=none→Q (.ref p) (upd H p (.tup (d9 xs lo hi)))):Od K x lo hi H Q
theorem Lb:V2 X (Od X.K):=by
 intro pins s σ H x v vl vu lo hi sl Q I rx hs pl pu h
 obtain ⟨a,xs,rfl,hx,hw,q⟩:=h
 cases rx
 obtain ⟨its,r,ht,hz⟩:=I.tuple hx
 have hlen:its.toArray.size=xs.length:=by rw [afC];exact r.length.symm
 refine ⟨"tuple",_,PyProof.Rows.slot_tuple_getitem.lookup,ht.typeIs,?_⟩
 refine HT.iS ht hs pl pu (by rw [hlen];exact hw) ?_ (by rw [hlen];exact hz)
 rw [hlen]
 refine ⟨.ref s.heap.objs.size,_,I.laid (t' :=s.toks) (o:=.tup (d9 xs lo hi)) (fun b ob q=>Heap.get?_push_of_some _ q) (ad_ _) ?_,rfl,q _ (I.bz.fresh (ad_ _))⟩
 exact ⟨ac_ (j8 xs lo hi) hz,_,(r.drop (HT.dc xs.length 0 lo)).take (HT.dc xs.length xs.length hi - HT.dc xs.length 0 lo),IsTup.new _ _⟩
end
end L2
namespace L2
open PySem PySem.Spec PyProof.Rows
def vn (n:Nat)(i:Int):Option Nat:=if 0≤i then (if i < n then some i.toNat else none) else if -(n:Int)≤i then some (i+n).toNat else none
def ft {α:Type}(xs:List α)(i:Int):Option α:=(vn xs.length i).bind fun j=>xs[j]?
theorem vo {n:Nat}{i:Int}{j:Nat}(h:vn n i=some j):seqIndex? i n=some j∧j < n∧ -(n:Int)≤i∧i < n:=by
 unfold vn at h
 by_cases h0:0≤i
 ·rw [if_pos h0] at h
  by_cases h1:i < n
  ·rw [if_pos h1] at h
   have e:i.toNat=j:=afB h
   exact ⟨by rw [seqIndex_of h0 h1,e],by omega,by omega,h1⟩
  ·rw [if_neg h1] at h;cases h
 ·rw [if_neg h0] at h
  by_cases h1: -(n:Int)≤i
  ·rw [if_pos h1] at h
   have e:(i+n).toNat=j:=afB h
   exact ⟨by rw [seqIndex_neg (by omega) h1,e],by omega,h1,by omega⟩
  ·rw [if_neg h1] at h;cases h
theorem pC {α:Type}{xs:List α}{i:Int}{v:α}(h:ft xs i=some v):∃j,seqIndex? i xs.length=some j∧xs[j]? =some v∧j < xs.length∧ -(xs.length:Int)≤i∧i < xs.length:=by
 unfold ft at h
 cases e:vn xs.length i with
 | none=>rw [e] at h;cases h
 | some j=>
  rw [e] at h
  obtain ⟨h1,h2,h3,h4⟩:=vo e
  exact ⟨j,h1,h,h2,h3,h4⟩
theorem bH {α:Type}{xs:List α}{j:Nat}{v:α}(h:xs[j]? =some v):ft xs (j:Int)=some v:=by
 have hj:j < xs.length:=(ir.mp h).1
 have e:vn xs.length (j:Int)=some j:=by
  unfold vn
  rw [if_pos (by omega),if_pos (by omega)];simp
 unfold ft;rw [e];exact h
theorem zA {α:Type}(xs:List α)(v:α):ft (xs++[v]) (-1)=some v:=by
 have hl:(xs++[v]).length=xs.length+1:=by simp
 have e:vn (xs++[v]).length (-1)=some xs.length:=by
  unfold vn
  rw [hl,if_neg (by decide),if_pos (by omega)]
  congr 1
  omega
 unfold ft
 rw [e]
 show (xs++[v])[xs.length]? =some v
 simp
def ET (b:Expr):Prop:=∀o i,subscripted b false o i=operate [o,i] (getItem o i)
def Lc (X:Cx)(r:R2):Prop:=
 ∀(value slice:Expr) (pins:List (Addr×Obj)) (s:Shared) (σ:St) (H:Hp) (x y:V) (v u:Value) (Q:VK),Inv X pins σ H s→RelV x v→RelV y u→r x y H Q→
  subscripted slice false v u=operate [v,u] (getItem v u)→wpAny (model X.prog X.w) X.A (subscriptTail value slice v u) (EP X pins σ Q) X.xe s
def Xh (X:Cx)(id:String)(r:V→List V→Hp→VK→Prop):Prop:=
 ∀(pins:List (Addr×Obj)) (s:Shared) (σ:St) (H:Hp) (x:V) (xs:List V) (v:Value) (us:List Value) (Q:VK),Inv X pins σ H s→RelV x v→Vals xs us→r x xs H Q→
  wpAny (model X.prog X.w) X.A (call (.builtin id) (v::us)) (EP X pins σ Q) X.xe s
section
variable {X:Cx}{a b:Expr}{ta tb:TE}{pos:Pos}
theorem aT {r:R2}(hr:Lc X r)(ha:PE X a ta)(hb:PE X b tb)(hs:ET b):PE X (.Subscript a b pos) (K6 r ta tb):=by
 intro pins s σ H Q I h
 exact Subscript_ (K7 ha hb I h fun v u s2 x y H2 I2 rx ry q=>hr a b pins s2 σ H2 x y v u Q I2 rx ry q (hs _ _))
inductive EU (K:Frag)(x:V)(y:V)(H:Hp)(Q:VK):Prop where
 | mk (p xs i v:_) (_:x=.ref p) (_:y=.int i) (_:aR K H p xs) (_:ft xs i=some v) (_:Q v H):EU K x y H Q
inductive zB (K:Frag)(x:V)(y:V)(H:Hp)(Q:VK):Prop where
 | mk (p xs i v:_) (_:x=.ref p) (_:y=.int i) (_:bF K H p xs) (_:ft xs i=some v) (_:Q v H):zB K x y H Q
inductive Oe (x:V)(y:V)(H:Hp)(Q:VK):Prop where
 | mk (z i c:_) (_:x=.str z) (_:y=.int i) (_:z.length≤sizeLine) (_:ft z.cps.toList i=some c) (_:Q (.str ⟨#[c]⟩) H):Oe x y H Q
theorem aS:Lc X (EU X.K):=by
 intro value slice pins s σ H x y v u Q I rx ry h hs
 obtain ⟨p,xs,i,z,rfl,rfl,hq,he,q⟩:=h
 cases rx
 obtain ⟨t,rfl⟩:=ry
 obtain ⟨its,r,pl,hz⟩:=I.list hq
 obtain ⟨j,h1,h2,h3,h4,h5⟩:=pC he
 obtain ⟨w,ew,qZ⟩:=r.get h2
 have hl:=r.length
 have hn:=lR
 have fin:EP X pins σ Q w s:=⟨z,H,I,qZ,q⟩
 by_cases h0:0≤i
 ·have hj:i.toNat=j:=by
   rw [seqIndex_of h0 h5] at h1
   exact afB h1
  exact item_listR pl.isList h0 (by omega) (by rw [hj];simpa using ew) fin hs
 ·have hj:(i+(its.toArray.size:Int)).toNat=j:=by
   rw [seqIndex_neg (by omega) h4] at h1
   rw [afC, ← hl]
   exact afB h1
  exact subscriptTail_builtinR (x:=w) pl.isList.typeIs slot_list_getitem.lookup
   (wpAny_getItem_list_neg (Q:=fun r s' =>r=w∧EP X pins σ Q r s') pl.isList (by omega) (by rw [afC] <;> omega) (by omega) (by rw [hj];simpa using ew) ⟨rfl,fin⟩) hs
theorem iy:Lc X (zB X.K):=by
 intro value slice pins s σ H x y v u Q I rx ry h hs
 obtain ⟨p,xs,i,z,rfl,rfl,hq,he,q⟩:=h
 cases rx
 obtain ⟨t,rfl⟩:=ry
 obtain ⟨its,r,pl,hz⟩:=I.tuple hq
 obtain ⟨j,h1,h2,h3,h4,h5⟩:=pC he
 obtain ⟨w,ew,qZ⟩:=r.get h2
 have hl:=r.length
 have hn:=lR
 have fin:EP X pins σ Q w s:=⟨z,H,I,qZ,q⟩
 exact subscriptTail_builtinR (x:=w) pl.typeIs slot_tuple_getitem.lookup
  (getItem_tuple (j:=j) (Q:=fun r s' =>r=w∧EP X pins σ Q r s') pl (by omega) (by omega) (by rw [afC, ← hl];exact h1) (by simpa using ew) ⟨rfl,fin⟩) hs
theorem Le:Lc X Oe:=by
 intro value slice pins s σ H x y v u Q I rx ry h hs
 obtain ⟨z,i,c,rfl,rfl,hz,he,q⟩:=h
 obtain ⟨t,rfl⟩:=rx
 obtain ⟨t',rfl⟩:=ry
 obtain ⟨j,h1,h2,h3,h4,h5⟩:=pC he
 have hl:z.cps.toList.length=z.length:=by simp [Str.length]
 rw [hl] at h1 h4 h5
 have hn:=lR
 exact tail_any (typeIs_str s z t) slot_str_getitem.lookup (getItem_str (c:=c) (by
  have e1:decide (i < -(2^63:Int))=false:=decide_eq_false (by omega)
  have e2:decide (i≥2^63)=false:=decide_eq_false (by omega)
  rw [e1,e2,aqa]) (by rw [h1];simpa using h2) ⟨.str ⟨#[c]⟩,H,I.tok _,⟨_,rfl⟩,q⟩) hs
theorem ug (its:List Value)(n j:Nat)(u:Value):Obj.mapSeq (·.setIfInBounds j u) {cls:=.type "list",data:=.seq its.toArray n}={cls:=.type "list",data:=.seq (its.set j u).toArray n}:=by
 simp [Obj.mapSeq]
theorem Inv.lst {pins:List (Addr×Obj)}{σ:St}{H:Hp}{s:Shared}{p:Addr}{xs:List V}(I:Inv X pins σ H s)(h:H p=some (.lst xs)):
  ∃(its:List Value) (n:Nat),Vals xs its∧s.heap.get? p=some {cls:=.type "list",data:=.seq its.toArray n}∧xs.length≤sizeLine:=by
 obtain ⟨z,its,n,r,e⟩:=I.bz p _ h
 exact ⟨its,n,r,e,z⟩
theorem Inv.Lf {pins:List (Addr×Obj)}{σ:St}{H:Hp}{s:Shared}{p:Addr}{xs ys:List V}{its its' :List Value}{n n' :Nat}{f:Obj→Obj}(I:Inv X pins σ H s)(h:H p=some (.lst xs))
  (ho:s.heap.get? p=some {cls:=.type "list",data:=.seq its.toArray n}) (hf:f {cls:=.type "list",data:=.seq its.toArray n}={cls:=.type "list",data:=.seq its'.toArray n' }) (r:Vals ys its') (hz:ys.length≤sizeLine) (t:Nat):
  Inv X pins σ (upd H p (.lst ys)) {s with heap:=s.heap.update p f,toks:=t}:=by
 have e:(s.heap.update p f).get? p=some {cls:=.type "list",data:=.seq its'.toArray n' }:=by
  rw [Heap.get?_update_self f ho (by rw [hf] <;> rfl),hf]
 refine I.write (x:=p) (e:=p) (by rw [h];trivial) (.inl rfl) (fun b u hb q=>(Heap.get?_update_other _ _ (afO hb)).trans q) ⟨_,e⟩ ?_
 exact ⟨hz,its',n',r,e⟩
inductive JI (o:V)(i:V)(v:V)(H:Hp)(Q:(Hp→Prop)):Prop where
 | mk (p xs k j:_) (_:o=.ref p) (_:i=.int k) (_:H p=some (.lst xs)) (_:vn xs.length k=some j) (_:Q (upd H p (.lst (xs.set j v)))):JI o i v H Q
theorem set_list:NY X JI:=by
 intro pins s σ H o i v ov iv u Q I ro ri rv h
 obtain ⟨p,xs,k,j,rfl,rfl,hp,hj,q⟩:=h
 cases ro
 obtain ⟨t,rfl⟩:=ri
 obtain ⟨its,n,r,ho,hz⟩:=I.lst hp
 obtain ⟨h1,h2,h3,h4⟩:=vo hj
 have hl:=r.length
 have hn:=lR
 have I' :Inv X pins σ (upd H p (.lst (xs.set j v))) {s with heap:=s.heap.update p (Obj.mapSeq (·.setIfInBounds j u))}:=
  I.Lf hp ho (ug its n j u) (r.set rv j) (by rw [List.length_set];exact hz) s.toks
 by_cases h0:0≤k
 ·have hk:k.toNat=j:=by
   rw [seqIndex_of h0 h4] at h1
   exact afB h1
  exact PySem.W.ki_setAt ho h0 (by omega) (by rw [afC, ← hl];exact h4) (by rw [hk];exact ⟨_,I',q⟩)
 ·have hk:(k+(its.toArray.size:Int)).toNat=j:=by
   rw [seqIndex_neg (by omega) h3] at h1
   rw [afC, ← hl]
   exact afB h1
  exact PySem.W.ki_setBack ho (by omega) (by rw [afC, ← hl];exact h3) (by omega) (by rw [hk];exact ⟨_,I',q⟩)
theorem pD (lo hi:Option Int)(n:Nat):(sliceBounds lo hi none n).1=((HT.dc n 0 lo:Nat):Int)∧(sliceBounds lo hi none n).2.1=((HT.dc n n hi:Nat):Int)∧(sliceBounds lo hi none n).2.2=1:=by
 refine ⟨?_,?_,rfl⟩
 ·cases lo with
  | none=>simp [sliceBounds,HT.dc]
  | some i=>
   simp only [sliceBounds,HT.dc,apL,show (1:Int) > 0 by decide,if_true]
   by_cases h:i < 0
   ·simp only [h,if_true] <;> omega
   ·simp only [h,if_false] <;> omega
 ·cases hi with
  | none=>simp [sliceBounds,HT.dc]
  | some i=>
   simp only [sliceBounds,HT.dc,apL,show (1:Int) > 0 by decide,if_true]
   by_cases h:i < 0
   ·simp only [h,if_true] <;> omega
   ·simp only [h,if_false] <;> omega
theorem nF (its:List Value)(lo hi:Option Int):slicePick its.toArray lo hi none=((its.drop (HT.dc its.length 0 lo)).take (HT.dc its.length its.length hi - HT.dc its.length 0 lo)).toArray:=by
 obtain ⟨h1,h2,h3⟩:=pD lo hi its.toArray.size
 unfold slicePick
 rw [h1,h2,h3]
 simp only [sliceRange_one,pick_run,afC] <;> rfl
inductive Of (K:Frag)(x:V)(lo:Option Int)(hi:Option Int)(H:Hp)(Q:VK):Prop where
 | mk (a xs:_) (_:x=.ref a) (_:aR K H a xs) (_:∀p,H p=none→Q (.ref p) (upd H p (.lst (d9 xs lo hi)))):Of K x lo hi H Q
theorem iT:V2 X (Of X.K):=by
 intro pins s σ H x v vl vu lo hi sl Q I rx hs pl pu h
 obtain ⟨a,xs,rfl,hx,q⟩:=h
 cases rx
 obtain ⟨its,r,ht,hz⟩:=I.list hx
 have hlen:=r.length
 refine ⟨"list",_,slot_list_getitem.lookup,ht.isList.typeIs,?_⟩
 refine wpAny_getItem_list_slice ht.isList hs pl pu .none (by simp) ?_ (by rw [afC] <;> omega)
 rw [nF, ← hlen]
 refine ⟨.ref s.heap.objs.size,_,I.laid (t' :=s.toks) (o:=.lst (d9 xs lo hi)) (fun b ob q=>Heap.get?_push_of_some _ q) (ad_ _) ?_,rfl,q _ (I.bz.fresh (ad_ _))⟩
 exact ⟨ac_ (j8 xs lo hi) hz,_,0,(r.drop (HT.dc xs.length 0 lo)).take (HT.dc xs.length xs.length hi - HT.dc xs.length 0 lo),Heap.get?_push_size _ rfl⟩
def gC:V→Bool
 | .cj=>true
 | .bl _=>true
 | .int _=>true
 | .str _=>true
 | _=>false
def ia:V→V→Bool
 | .cj,.cj=>true
 | .bl a,.bl b=>a==b
 | .bl a,.int b=>(if a then 1 else 0)==b
 | .int a,.bl b=>a==(if b then 1 else 0)
 | .int a,.int b=>a==b
 | .str a,.str b=>a==b
 | _,_=>false
theorem zC {A:Around}{s:Shared}{y x:V}{u v:Value}(ry:RelV y u)(rx:RelV x v)(fy:gC y=true)(fx:gC x=true):SeqAt.EqAt A s u v (ia y x):=by
 cases y with
 | cj=>
  cases ry
  cases x with
  | cj=>cases rx;exact SeqAt.EqAt.same _
  | bl b=>cases rx;exact SeqAt.EqAt.none_bool b
  | int b=>obtain ⟨t,rfl⟩:=rx;exact SeqAt.EqAt.none_int b t
  | str b=>obtain ⟨t,rfl⟩:=rx;exact SeqAt.EqAt.none_str b t
  | _=>exact absurd (show false=true from fx) afx
 | bl a=>
  cases ry
  cases x with
  | cj=>cases rx;exact SeqAt.EqAt.bool_none a
  | bl b=>cases rx;exact SeqAt.EqAt.bool_bool a b
  | int b=>obtain ⟨t,rfl⟩:=rx;exact SeqAt.EqAt.bool_int a b t
  | str b=>obtain ⟨t,rfl⟩:=rx;exact SeqAt.EqAt.bool_str a b t
  | _=>exact absurd (show false=true from fx) afx
 | int a=>
  obtain ⟨t',rfl⟩:=ry
  cases x with
  | cj=>cases rx;exact SeqAt.EqAt.int_none a t'
  | bl b=>cases rx;exact SeqAt.EqAt.int_bool a t' b
  | int b=>obtain ⟨t,rfl⟩:=rx;exact SeqAt.EqAt.int_int a t' b t
  | str b=>obtain ⟨t,rfl⟩:=rx;exact SeqAt.EqAt.int_str a t' b t
  | _=>exact absurd (show false=true from fx) afx
 | str a=>
  obtain ⟨t',rfl⟩:=ry
  cases x with
  | cj=>cases rx;exact SeqAt.EqAt.str_none a t'
  | bl b=>cases rx;exact SeqAt.EqAt.str_bool a t' b
  | int b=>obtain ⟨t,rfl⟩:=rx;exact SeqAt.EqAt.str_int a t' b t
  | str b=>obtain ⟨t,rfl⟩:=rx;exact SeqAt.EqAt.str_str a t' b t
  | _=>exact absurd (show false=true from fx) afx
 | _=>exact absurd (show false=true from fy) afx
def EV (x:V)(u:Value):Bool:=match u with
 | .none=>ia .cj x
 | .bool b=>ia (.bl b) x
 | .int i _=>ia (.int i) x
 | .str z _=>ia (.str z) x
 | _=>false
theorem zD {x y:V}{u:Value}(r:RelV y u)(f:gC y=true):EV x u=ia y x:=by
 cases y with
 | cj=>cases r;rfl
 | bl b=>cases r;rfl
 | int i=>obtain ⟨t,rfl⟩:=r;rfl
 | str z=>obtain ⟨t,rfl⟩:=r;rfl
 | _=>exact absurd (show false=true from f) afx
theorem pE {x:V}:∀{xs:List V} {us:List Value},Vals xs us→xs.all gC=true→us.any (EV x)=xs.any fun y=>ia y x
 | _,_,.nil,_=>rfl
 | y::xs,u::us,.cons r t,f=>by
  rw [agW,af_] at f
  rw [agC,agC,zD r f.1,pE t f.2]
theorem lT {A:Around}{s:Shared}{x:V}{v:Value}(rx:RelV x v)(fx:gC x=true):∀{xs:List V} {us:List Value},Vals xs us→xs.all gC=true→∀u∈us,SeqAt.EqAt A s u v (EV x u)
 | _,_,.nil,_=>fun u hu=>by cases hu
 | y::xs,u::us,.cons r t,f=>fun u' hu=>by
  rw [agW,af_] at f
  rcases afK.mp hu with rfl | hu
  ·rw [zD r f.1];exact zC r rx f.1 fx
  ·exact lT rx fx t f.2 u' hu
def yO (x:V)(xs:List V):Bool:=xs.any fun y=>ia y x
inductive Xi (K:Frag)(neg:Bool)(x:V)(y:V)(H:Hp)(Q:VK):Prop where
 | mk (p xs:_) (_:y=.ref p) (_:(aR K H p xs∨bF K H p xs)) (_:gC x=true) (_:xs.all gC=true) (_:Q (.bl (if neg then !yO x xs else yO x xs)) H):Xi K neg x y H Q
theorem fP:iO X (compareOp .NotIn) (Xi X.K true):=by
 intro pins s σ H x y v u Q I rx ry h
 obtain ⟨p,xs,rfl,hq,fx,fs,q⟩:=h
 cases ry
 rcases hq with hq | hq
 ·obtain ⟨its,r,pl,hz⟩:=I.list hq
  refine SeqAt.notIn_listAt (EV x) pl.isList (fun w hw=>lT rx fx r fs w (by simpa using hw)) ⟨.bl _,H,I,rfl,?_⟩
  rw [show its.toArray.any (EV x)=its.any (EV x) by simp,pE r fs]
  exact q
 ·obtain ⟨its,r,pl,hz⟩:=I.tuple hq
  refine SeqAt.notIn_tupleAt (EV x) pl (fun w hw=>lT rx fx r fs w (by simpa using hw)) ⟨.bl _,H,I,rfl,?_⟩
  rw [show its.toArray.any (EV x)=its.any (EV x) by simp,pE r fs]
  exact q
theorem aF:eO X (.builtin "len") (fun xs H Q=>∃p ys,xs=[.ref p]∧(aR X.K H p ys∨bF X.K H p ys)∧Q (.int ys.length) H):=by
 intro pins s σ H xs us Q I r h
 obtain ⟨p,ys,rfl,hq,q⟩:=h
 obtain ⟨u,rfl,rx⟩:=vals1 r
 cases rx
 have hn:=lR
 rcases hq with hq | hq
 ·obtain ⟨its,r',pl,hz⟩:=I.list hq
  have hlen:=r'.length
  exact Calls.call_len_list pl.isList (by simp only [afC] <;> omega) ⟨.int ys.length,H,I.tok _,⟨s.toks+1,by rw [afC,hlen]⟩,q⟩
 ·obtain ⟨its,r',pl,hz⟩:=I.tuple hq
  have hlen:=r'.length
  exact len_tuple pl (by simp only [afC] <;> omega) ⟨.int ys.length,H,I.tok _,⟨s.toks+1,by rw [afC,hlen]⟩,q⟩
def tyV (K:Frag)(T:String)(x:V)(H:Hp):Prop:=match x with
 | .str _=>T="str"
 | .int _=>T="int"
 | .ref p=>(T="list"∧∃xs,aR K H p xs)∨(T="tuple"∧∃o,K.lookup p=some o∧o.cls=.type "tuple"∧o.dict=none)∨
   (T="dict"∧((∃kvs,H p=some (.dK kvs))∨∃kvs,H p=some (.dT kvs)))∨(T="set"∧∃S n,H p=some (.set S n))
 | _=>False
theorem zE {pins:List (Addr×Obj)}{σ:St}{H:Hp}{s:Shared}{T:String}{x:V}{v:Value}(I:Inv X pins σ H s)(r:RelV x v)(ty:tyV X.K T x H):
  s.TypeIs v T∧∀a,v=.ref a→∃ob,s.heap.get? a=some ob∧ob.dict=none:=by
 cases x with
 | str z=>
  obtain ⟨t,rfl⟩:=r
  cases (show T="str" from ty)
  exact ⟨typeIs_str s z t,fun _ e=>nomatch e⟩
 | int i=>
  obtain ⟨t,rfl⟩:=r
  cases (show T="int" from ty)
  exact ⟨typeIs_int s i t,fun _ e=>nomatch e⟩
 | ref p=>
  cases r
  rcases ty with ⟨rfl,xs,hq⟩ | ⟨rfl,o,hk,hc,hd⟩ | ⟨rfl,hk⟩ | ⟨rfl,S,n,hk⟩
  ·obtain ⟨its,_,pl,_⟩:=I.list hq
   refine ⟨pl.isList.typeIs,fun a e=> ?_⟩
   cases e
   obtain ⟨o,n,e,c,hd,_⟩:=pl
   exact ⟨o,e,hd⟩
  ·refine ⟨⟨o,I.dX p o hk,hc⟩,fun a e=> ?_⟩
   cases e
   exact ⟨o,I.dX _ o hk,hd⟩
  ·have z:∃o,s.heap.get? p=some o∧o.ExactDict:=by
    rcases hk with ⟨kvs,hk⟩ | ⟨kvs,hk⟩
    ·obtain ⟨_,_,_,_,o,_,_,e,ex,_⟩:=I.bz p _ hk
     exact ⟨o,e,ex⟩
    ·obtain ⟨_,_,_,_,o,_,_,e,ex,_⟩:=I.bz p _ hk
     exact ⟨o,e,ex⟩
   obtain ⟨o,e,ex⟩:=z
   refine ⟨⟨o,e,ex.1⟩,fun a e2=> ?_⟩
   cases e2
   exact ⟨o,e,ex.2.1⟩
  ·obtain ⟨o,_,_,_,e,ex,_⟩:=I.bz p _ hk
   refine ⟨⟨o,e,ex.1⟩,fun a e2=> ?_⟩
   cases e2
   exact ⟨o,e,ex.2.1⟩
 | _=>exact False.elim ty
def tBM (K:Frag)(T:String)(r:V→List V→Hp→VK→Prop)(to:TE)(t:TA):TE:=fun σ H Q=>to σ H fun x H1=>tyV K T x H1∧t σ H1 fun xs H2=>r x xs H2 Q
variable {o e:Expr}{es:List Expr}{to:TE}{t:TA}{name:Str}{apos dB:Pos}{T id:String}{r:V→List V→Hp→VK→Prop}
theorem j9 (pa:PlainAttrs T)(slot:Slot T name id)(hty:typeOf (.builtin id)=pure (.type "method_descriptor"))(hm:Xh X id r)(ho:PE X o to)(ha:PA X (e::es) t)
  (iU:attributeBase o name X.env (eval o X.env)=eval o X.env:=by rfl)
  (Xj:((backTo dB (starEach (e::es) X.env)).all (fun x=> !x.1) && (backToKw dB (keywordEach [] X.env)).all (fun x=>x.1.isSome)
   && decide ((e::es).length+([]:List Keyword).length+(if ([]:List Keyword).isEmpty then 0 else 1) < 30))=true:=by rfl)
  (rH:(apos.endLine==dB.line)=true:=by rfl) (hs:starEach (e::es) X.env=(false,eval e X.env)::starEach es X.env:=by rfl) (Lg:(backTo dB (starEach es X.env)).any (·.1)=false:=by rfl):
  PE X (.Call (.Attribute o name apos) (e::es) [] dB) (tBM X.K T r to t):=by
 intro pins s σ H Q I h
 refine wpAny_Call_method_late iU Xj rH rfl (bZ (ho pins s σ H _ I h) fun v s1 ⟨x,H1,I1,r1,ty,q1⟩=> ?_)
 obtain ⟨h1,h2⟩:=zE I1 r1 ty
 refine ⟨T,id,pa,slot,hty,h1,h2,?_⟩
 have hA:=ha dB pins s1 σ H1 _ I1 q1
 rw [hs] at hA ⊢
 refine Calls.callWith_builtin (by show (false || (backTo dB (starEach es X.env)).any (·.1))=false;rw [Lg] <;> rfl) (Calls.evalArgs_plain ?_)
 exact bZ hA fun us s2 ⟨vs,H2,I2,r2,q2⟩=>hm pins s2 σ H2 x vs v us Q I2 r1 r2 q2
end
end L2
namespace L2
open PySem PySem.Spec PyProof.Rows
def MtM (X:Cx)(id:String)(r:V→List V→Hp→VK→Prop):Prop:=
 ∀(pins:List (Addr×Obj)) (s:Shared) (σ:St) (H:Hp) (x:V) (xs:List V) (v:Value) (us:List Value) (Q:VK),Inv X pins σ H s→RelV x v→Vals xs us→r x xs H Q→
  wpAny (model X.prog X.w) X.A (call (.builtin id) (v::us)) (EP X pins σ Q) X.xe s
theorem Vals.one:∀{x:V} {us:List Value},Vals [x] us→∃u,us=[u]∧RelV x u
 | _,_,.cons r .nil=>⟨_,rfl,r⟩
theorem Vals.rep {xs:List V}{us:List Value}(h:Vals xs us):∀k:Nat,Vals (afz k xs).flatten (afz k us).flatten
 | 0=>.nil
 | k+1=>by
  rw [aga,aga,agJ,agJ]
  exact Vals.append h (Vals.rep h k)
theorem foldl_rep (its:List Value):∀(k:Nat) (acc:List Value),
  apX (fun x1 x2=>x1++x2) acc.toArray (afz k its.toArray)=(acc++(afz k its).flatten).toArray
 | 0,acc=>by simp
 | k+1,acc=>by
  have e:acc.toArray++its.toArray=(acc++its).toArray:=by simp
  have e2:(acc++its)++(afz k its).flatten=acc++(afz (k+1) its).flatten:=by
   rw [aga,agJ,agt]
  rw [← e2, ← foldl_rep its k (acc++its), ← e,aga,List.foldl_cons]
section
variable {X:Cx}{pins:List (Addr×Obj)}{σ:St}{H:Hp}{s:Shared}{l b:Addr}{xs ys zs:List V}
theorem Inv.Og {its its' :List Value}{n:Nat}{f:Array Value→Array Value}{t' :Nat}(I:Inv X pins σ H s)(hH:H l=some (.lst xs))
  (e:s.heap.get? l=some {cls:=.type "list",data:=.seq its.toArray n}) (hf:f its.toArray=its'.toArray) (hv:Vals ys its') (hz:ys.length≤sizeLine):
  Inv X pins σ (upd H l (.lst ys)) {s with heap:=s.heap.update l (Obj.mapSeq f),toks:=t' }:=by
 have q:=PySem.IsL.update e f
 rw [hf] at q
 refine I.write (x:=l) (e:=l) (by rw [hH];exact trivial) (.inl rfl) (fun b' u hb hu=>(Heap.get?_update_other s.heap (Obj.mapSeq f) (afO hb)).trans hu) ⟨_,q⟩ ?_
 exact ⟨hz,its',_,hv,q⟩
theorem Inv.Lh {its:List Value}{t' :Nat}(I:Inv X pins σ H s)(hv:Vals ys its)(hz:ys.length≤sizeLine):
  Inv X pins σ (upd H s.heap.objs.size (.lst ys)) {s with heap:=s.heap.push {cls:=.type "list",data:=.seq its.toArray},toks:=t' }:=
 I.laid (fun _ _ q=>Heap.get?_push_of_some _ q) (ad_ _) ⟨hz,its,0,hv,Heap.get?_push_size _ rfl⟩
theorem Inv.fresh (I:Inv X pins σ H s):H s.heap.objs.size=none:=I.bz.fresh (ad_ _)
theorem Inv.kE (I:Inv X pins σ H s)(hH:H l=some (.lst xs)):xs.length≤sizeLine∧∃(its:List Value) (n:Nat),Vals xs its∧xs.length=its.length∧s.heap.get? l=some {cls:=.type "list",data:=.seq its.toArray n}:=by
 obtain ⟨z,its,n,r,e⟩:=I.bz l _ hH
 exact ⟨z,its,n,r,r.length,e⟩
theorem rJ {n:Nat}(h:n≤sizeLine):Builtin.List.listTooLong n=false:=by
 unfold Builtin.List.listTooLong
 exact decide_eq_false (by omega)
end
section
variable {X:Cx}
inductive vp (x:V)(vs:List V)(H:Hp)(Q:VK):Prop where
 | mk (l xs y:_) (_:x=.ref l) (_:vs=[y]) (_:H l=some (.lst xs)) (_:xs.length < sizeLine) (_:Q .cj (upd H l (.lst (xs++[y])))):vp x vs H Q
theorem dq:MtM X "list.append" vp:=by
 intro pins s σ H x vs v us Q I rx rv h
 obtain ⟨l,xs,y,rfl,rfl,hH,hz,q⟩:=h
 cases rx
 obtain ⟨u,rfl,ru⟩:=rv.one
 obtain ⟨z,its,n,r,hl,e⟩:=I.kE hH
 refine call_meets F.slot_list_append ⟨_,e,rfl⟩ F.entry_list_append (F.args_list_append_2 _ _) (PySem.list_append l its.toArray n u (by rw [afC];omega)) ⟨e,?_⟩
 refine ⟨.cj,_,I.Og (its' :=its++[u]) hH e (by simp) (r.append (.cons ru .nil)) ?_,rfl,q⟩
 rw [afq,List.length_singleton]
 omega
inductive Oh (x:V)(y:V)(H:Hp)(Q:VK):Prop where
 | mk (l b xs zs:_) (_:x=.ref l) (_:y=.ref b) (_:H l=some (.lst xs)) (_:H b=some (.lst zs)) (_:xs.length+zs.length≤sizeLine) (_:∀p,H p=none→Q (.ref p) (upd H p (.lst (xs++zs)))):Oh x y H Q
theorem jH:iO X (binaryOp .Add) Oh:=by
 intro pins s σ H x y v u Q I rx ry h
 obtain ⟨l,b,xs,zs,rfl,rfl,hH,hB,hz,q⟩:=h
 cases rx
 cases ry
 obtain ⟨z,its,n,r,hl,e⟩:=I.kE hH
 obtain ⟨z2,dh,n2,r2,rK,e2⟩:=I.kE hB
 refine PySem.P.add_list e e2 ?_ (by rw [afC,afC];omega)
 have ea:its.toArray++dh.toArray=(its++dh).toArray:=by simp
 rw [ea]
 exact ⟨.ref _,_,I.Lh (t' :=s.toks) (r.append r2) (by rw [afq];omega),rfl,q _ I.fresh⟩
inductive Oi (x:V)(y:V)(H:Hp)(Q:VK):Prop where
 | mk (l k xs:_) (_:x=.ref l) (_:y=.int k) (_:H l=some (.lst xs)) (_: -(2^63)≤k) (_:k < 2^63) (_:xs.length*k.toNat≤sizeLine) (_:∀p,H p=none→Q (.ref p) (upd H p (.lst (afz k.toNat xs).flatten))):Oi x y H Q
theorem len_rep {α:Type}(xs:List α)(k:Nat):(afz k xs).flatten.length=k*xs.length:=by
 induction k with
 | zero=>simp
 | succ k ih=>rw [aga,agJ,afq,ih,Nat.succ_mul,an_]
theorem zF:iO X (binaryOp .Mult) Oi:=by
 intro pins s σ H x y v u Q I rx ry h
 obtain ⟨l,k,xs,rfl,rfl,hH,h1,h2,hz,q⟩:=h
 cases rx
 obtain ⟨t,rfl⟩:=ry
 obtain ⟨z,its,n,r,hl,e⟩:=I.kE hH
 have hlen:its.toArray.size*k.toNat≤sizeLine:=by rw [afC, ← hl];exact hz
 have Xk:¬ its.toArray.size*k.toNat > (2^63 - 1) / 8:=by
  have:(sizeLine:Nat)≤(2^63 - 1) / 8:=by decide
  omega
 have Xl:¬ (!Builtin.List.listFitsIndex k)=true:=by
  rw [fitsIndex_both h1 h2]
  exact afx
 have zG:¬ Builtin.List.listTooLong (its.toArray.size*k.toNat)=true:=by
  rw [rJ hlen]
  exact afx
 have Xm:apX (fun x1 x2=>x1++x2) #[] (afz (if its.toArray.isEmpty=true then 0 else k.toNat) its.toArray)=(afz k.toNat its).flatten.toArray:=by
  have f0:∀m:Nat,apX (fun x1 x2=>x1++x2) #[] (afz m its.toArray)=(afz m its).flatten.toArray:=fun m=>by
   have:=foldl_rep its m []
   rw [agD] at this
   exact this
  rw [f0]
  cases its with
  | nil=>simp
  | cons a r' =>rw [if_neg (by simp)]
 refine wpAny_binaryOp_repeat_ref (T:="list") (U:="int") (by decide) ⟨_,e,rfl⟩ (fun s' =>typeIs_int s' k t) noFill_list_mul F.fills_int_mul F.slot_int_rmul repeat_list F.slot_int_index.lookup
  (call_meets F.slot_int_rmul (typeIs_int s k t) F.entry_int_rmul (F.args_int_rmul_2 _ _) (int___rmul___int_list k t l its.toArray n)
   ⟨e,rfl,⟨_,e,rfl⟩,call_meets F.slot_list_mul ⟨_,e,rfl⟩ F.entry_list_mul (F.args_list_mul_2 _ _) (AutoListH.list___mul___list_int_3 l its.toArray n k t Xl Xk zG) ⟨e,?_⟩⟩)
 rw [Xm]
 exact ⟨.ref _,_,I.Lh (t' :=s.toks) (r.rep k.toNat) (by rw [len_rep,Nat.mul_comm];exact hz),rfl,q _ I.fresh⟩
end
section
variable {prog:Program}{w:World}{A:Around}{E:Value→Shared→Prop}{s:Shared}
set_option maxRecDepth 100000 in
end
section
variable {X:Cx}
end
end L2
namespace Att
open PySem PySem.W PySem.Calls PyProof.Rows
theorem kF {P:Params}{h:Heap}:∀(ns:List Int) (vs:List Value),WellAll P h vs (ns.map WData.int)→IntsAre vs ns:=by
 intro ns
 induction ns with
 | nil=>
  intro vs w
  rw [agi] at w
  cases w
  exact .nil
 | cons n ns ih=>
  intro vs w
  rw [afp] at w
  cases w with
  | cons a b=>
   cases a
   exact .cons _ _ (ih _ b)
theorem wC {l:OpenLaw}{n:Nat}(hn:l.most=some n){P:Params}{h:Heap}{args:List WData}{vals:List Value}
  (EW:l.row.toRowW.claim.pre args=true) (Xn:WellAll P h vals args):
  ∃a vs ns,vals=[Value.ref a]∧args=[WData.list (ns.map WData.int)]∧h.get? a=some {cls:=.type "list",data:=.seq vs.toArray}∧IntsAre vs ns∧ns.length≤n:=by
 have hsh:WShape.hasAll [] args [.list .int]=true:=(pre_splitW EW).1
 have hc:l.pre.holds [] {args:=args}=true:=(pre_splitW EW).2
 obtain ⟨d,r,rfl,h1,h2⟩:=hasAllW_cons hsh
 obtain rfl:=hasAllW_nil h2
 obtain ⟨xs,rfl,h3⟩:=hasW_list h1
 obtain ⟨ns,rfl⟩:=items_int h3
 have hlen:ns.length≤n:=by
  unfold OpenLaw.pre at hc
  have h4:(WTm.not (.lt (.lit (.int (n:Int))) (.len (.arg 0)))).holds [] {args:=[.list (ns.map .int)]}=true:=by
   have h4:=(holds_andW hc).1
   rw [hn] at h4
   exact h4
  have h5:=condW_of h4 (w_not (w_lt w_lit (w_len_list (w_arg rfl))))
  rw [Wp] at h5
  refine ak_ fun q=> ?_
  have q' :(n:Int) < ((ns.length:Nat):Int):=by omega
  first
   | (rw [decide_eq_true q'] at h5;exact absurd h5 (by decide))
   | (simp at h5;omega)
 cases Xn with
 | cons w1 w2=>
  cases w2
  cases w1 with
  | list ho zH=>exact ⟨_,_,ns,rfl,rfl,ho,kF ns _ zH,hlen⟩
theorem wD (l:OpenLaw)(args:List WData):l.row.toRowW.claim.post args (.bool true) args=true:=
 postW_of (r:=l.row.toRowW) (X:=(true==true))
  (show WShape.has [] (.bool true) .bool=true by first | rfl | decide | simp [WShape.has,WShape.arms,WShape.armsAll])
  (show (WTm.eq .res (.lit (.bool true))).value [] {args:=args,res:=some (.bool true),after:=args}=some (.bool (true==true)) from w_eq_bool (w_res rfl) w_lit) rfl
section
variable {prog:Program}{w:World}{A:Around}{E:Value→Shared→Prop}{s:Shared}{K:Frag}
end
end Att
namespace L2
open PySem PySem.Spec PyProof.Rows
theorem om:∀{vs:List Value} {ns:List Int},IntsAre vs ns→Vals (ns.map V.int) vs
 | _,_,.nil=>.nil
 | _,_,.cons n t h=>.cons ⟨t,rfl⟩ (om h)
def Oj (H:Hp):Prop:=∀b,H b=none∨∃o xs,H b=some (.ip o (.lst xs))
theorem zI {P:Program}{w:World}{K:Frag}{mg mb:Str→Option Value}{CX:jw}{k:Nat}{fa a:Addr}{fd:FuncData}{x:Str}{sp:Sp}{s₁:Shared}{vs:List Value}{ns:List Int}
  (KX:K.In s₁.heap) (Ol:s₁.heap.Ns mainGlobals mg) (hb:s₁.heap.Ns builtinsNs mb) (hbb:∀x:Str,x≠ "__name__"→mb x=bootBuiltins x) (Xo:s₁.heap.NoLimit) (EX:s₁.heap.NoSeer) (hg:s₁.gens= #[])
  (ha:s₁.heap.get? a=some {cls:=.type "list",data:=.seq vs.toArray}) (hi:IntsAre vs ns) (hl:ns.length≤sizeLine) (hr:bY k callerA)
  (F:∀base:Heap,K.In base→base.Ns mainGlobals mg→cp P w K mg base CX k fa fd [x] sp) (Om:∀(s:Shared) (u:Value),BindsTo s fd ⟨[u],[]⟩ [(x,u)])
  (q5:∀H:Hp,Oj H→aR K H a (ns.map V.int)→sp [.ref a] H (fun v _=>v=.bl true) fun _ _ _=>False)
  (hCX:∀H e s',CX [] H s₁ (fun _ _ _=>False) e s' →False):
  codeAny (model P w) callerA (.call (.ref fa) ⟨[.ref a],[]⟩) (fun r s' =>r=.ok (.ret (.bool true))∧OldK s₁.heap s'.heap∧s'.os=s₁.os∧AllBare s'.gens) s₁:=by
 have rv:=om hi
 have Xp:=hi.length
 have core:∀H:Hp,Oj H→aR K H a (ns.map V.int)→fM P w H s₁.heap→(∀b,H b≠none→b=a)→(H a≠none→K.lookup a=none)→
   codeAny (model P w) callerA (.call (.ref fa) ⟨[.ref a],[]⟩) (fun r s' =>r=.ok (.ret (.bool true))∧OldK s₁.heap s'.heap∧s'.os=s₁.os∧AllBare s'.gens) s₁:=by
  intro H hO hS bz hA hK
  have pF:∀{b:Addr} {o:Obj},s₁.heap.get? b=some o→H b=none→(oY s₁.heap H).get? b=some o:=fun e n=>yU e n
  have N':∀{b:Addr} {o:Obj} {es:Array DictEntry} {ep:Nat},s₁.heap.get? b=some o→o.data=.dict es ep→H b=none:=fun {b o es ep} e d=>by
   cases q:H b with
   | none=>rfl
   | some u=>
    have e' :b=a:=hA b (by rw [q];simp)
    subst e'
    rw [ha] at e;cases e
    have d' :Data.seq vs.toArray _=Data.dict es ep:=d
    cases d'
  have JJ:∀{b:Addr} {m:Str→Option Value},s₁.heap.Ns b m→(oY s₁.heap H).Ns b m:=fun {b m} ⟨o,es,ep,e,d,r⟩=>⟨o,es,ep,pF e (N' e d),d,r⟩
  have hKb:K.In (oY s₁.heap H):=fun b o e=>pF (KX b o e) (by
   cases q:H b with
   | none=>rfl
   | some u=>
    have e' :b=a:=hA b (by rw [q];simp)
    subst e'
    rw [hK (by rw [q];simp)] at e;cases e)
  have hM:Mod K mg (oY s₁.heap H):=⟨hKb,JJ Ol,⟨mb,JJ hb,hbb⟩,let ⟨mc,h1,h2⟩:=Xo;⟨mc,JJ h1,h2⟩,
   ⟨let ⟨mc,h1,h2⟩:=EX.statics;⟨mc,JJ h1,h2⟩,let ⟨mc,h1,h2⟩:=EX.mods;⟨mc,JJ h1,h2⟩,let ⟨mc,h1,h2⟩:=EX.imp;⟨mc,JJ h1,h2⟩,
    let ⟨mg',bm,ob,h1,h2,h3,h4,h5⟩:=EX.main;⟨mg',bm,ob,JJ h1,h2,pF h3 (by
     cases q:H bm with
     | none=>rfl
     | some u=>
      have e' :bm=a:=hA bm (by rw [q];simp)
      subst e'
      rw [ha] at h3
      cases h3
      have h4' :Value.type "list"=Value.type "module":=h4
      injection h4' with e9
      exact absurd e9 (by decide)),h4,h5⟩⟩⟩
  have e0:ud P w K mg (oY s₁.heap H) callerA [] s₁ H:=⟨rfl,hM,fun b o e=>EF e,apB (wg _ _),trivial,fun b hb=>absurd (show b∈([]:List Addr) from hb) (by simp),bz,.of_eq hg⟩
  refine codeAny_mono ((F _ hKb (JJ Ol)).run callerA [] s₁ H ⟨[.ref a],[]⟩ [.ref a] [.ref a] _ _ hr e0 (Om s₁ (.ref a)) (.cons rfl .nil) (q5 H hO hS)) fun r s' h=> ?_
  cases r with
  | error e=>exact (hCX H e s' h).elim
  | ok fl=>
   cases fl with
   | next=>exact False.elim h
   | brk=>exact False.elim h
   | cont=>exact False.elim h
   | ret u=>
    obtain ⟨v,H',os,bare,un,wG,r',q⟩:=h
    have q' :v=.bl true:=q
    subst q'
    obtain rfl:u=Value.bool true:=r'
    refine ⟨rfl,OldK.of_keep fun b o e=> ?_,os,bare⟩
    cases q:H b with
    | none=>exact un.keep b o e q (by intro z;exact absurd (show b∈([]:List Addr) from z) (by simp)) (by simp)
    | some u=>
     rcases hO b with z | ⟨ob,xs,z⟩
     ·rw [q] at z;cases z
     ·have z2:=un.gj b ob _ z
      obtain ⟨e1,_⟩:=bz b _ z
      obtain ⟨e2,_⟩:=wG b _ z2
      rw [e] at e1;cases e1
      exact e2
 cases hk:K.lookup a with
 | some o=>
  have e:=KX a o hk
  rw [ha] at e
  cases e
  refine core (fun _=>none) (fun _=>.inl rfl) (.inr ⟨_,vs.toArray,_,hk,rfl,rfl,rfl,by rw [afC,Xp];exact hl,by simpa using rv⟩) (fun b u z=>by have z' :(none:Option HO)=some u:=z;cases z') (fun b z=>absurd rfl z) fun z=>absurd rfl z
 | none=>
  refine core (fun b=>if b=a then some (.ip {cls:=.type "list",data:=.seq vs.toArray} (.lst (ns.map V.int))) else none) (fun b=> ?_) (.inl (.inr ⟨{cls:=.type "list",data:=.seq vs.toArray},if_pos rfl⟩)) (fun b u z=> ?_) (fun b z=> ?_) fun _=>hk
  ·by_cases hb:b=a
   ·exact .inr ⟨_,_,if_pos hb⟩
   ·exact .inl (if_neg hb)
  ·by_cases hb:b=a
   ·have z' :=(if_pos hb).symm.trans z
    cases z'
    subst hb
    exact ⟨ha,by rw [Wp];exact hl,vs,_,rv,ha⟩
   ·have z' :=(if_neg hb).symm.trans z
    cases z'
  ·by_cases hb:b=a
   ·exact hb
   ·exact absurd (if_neg hb) z
end L2
namespace L2
open PySem PySem.Spec PyProof.Rows
abbrev KOf {K:Frag}{h:Heap}(_:K.In h):Frag:=K
end L2
namespace L2
open PySem PySem.Spec PyProof.Rows
def inClass (s:Stmt)(j:Nat):Stmt:=match s with
 | .ClassDef _ _ _ body _ _ _ _ _ _ _=>body.getD j (.Pass ⟨0,0,0,0⟩)
 | _=>.Pass ⟨0,0,0,0⟩
def av (s:Stmt):Arguments:=match s with
 | .FunctionDef _ a _ _ _ _ _ _ _ _=>a
 | _=>{posonlyargs:=[],args:=[],vararg:=none,kwonlyargs:=[],kw_defaults:=[],kwarg:=none,defaults:=[]}
def ar (s:Stmt):List Stmt:=match s with
 | .FunctionDef _ _ b _ _ _ _ _ _ _=>b
 | _=>[]
def af (s:Stmt):Scope:=match s with
 | .FunctionDef _ _ _ _ _ _ sc _ _ _=>sc
 | _=>{kind:=.function,names:=[],isGenerator:=false,isCoroutine:=false}
abbrev E0:XK:=fun _ _ _=>False
structure lV (K:Frag)(x qual:Str)(st:Stmt)(f:Addr)(fd:FuncData):Prop where
 ex:∃(oc:Value) (od:Option Addr) (kV doc pm:Value) (an:Option Addr) (bf ct:Value) (jF:Array (Option Value)),
  fd=fnOf x qual (av st) (ar st) (af st) .none kV doc pm an bf ct∧K.lookup f=some ⟨oc,od,.func fd,jF⟩∧codeIn K bf qual=true
 kp:keepIn K (.ref f)=true
section
variable {P:Program}{w:World}{K:Frag}{mg:Str→Option Value}{base:Heap}
theorem lV.binds {x qual:Str}{st:Stmt}{f:Addr}{fd:FuncData}{ps:List Str}(F:lV K x qual st f fd)
  (h:∀(kV doc pm:Value) (an:Option Addr) (bf ct:Value) (us:List Value),us.length=ps.length→bindArgs (fnOf x qual (av st) (ar st) (af st) .none kV doc pm an bf ct) ⟨us,[]⟩=pure (ps.zip us)):Binds K fd ps []:=by
 obtain ⟨oc,od,kV,doc,pm,an,bf,ct,jF,rfl,lk,lL⟩:=F.ex
 exact .all (h kV doc pm an bf ct)
theorem cD {x qual:Str}{st:Stmt}{f:Addr}{oc:Value}{od an:Option Addr}{jF:Array (Option Value)}{kV doc pm bf ct:Value}(l:K.lookup f=some ⟨oc,od,.func (fnOf x qual (av st) (ar st) (af st) .none kV doc pm an bf ct),jF⟩)
  (c:codeIn K bf qual=true) (k:keepIn K (.ref f)=true):lV K x qual st f (fnOf x qual (av st) (ar st) (af st) .none kV doc pm an bf ct):=⟨⟨oc,od,kV,doc,pm,an,bf,ct,jF,rfl,l,c⟩,k⟩
end
theorem bN {A:Around}{k:Nat}(hr:bY k A):A.units+1 < cLine:=afs (Nat.add_le_add_left (by decide:1≤64) _) hr.units
section
variable {X:Cx}
theorem pv (i:Nat){x:Str}{pos:Pos}(hN:X.N[i]? =some x:=by rfl)(hv:WO X.env.scope x:=by first | exact ab_ rfl | exact afT (ab_ rfl) | exact afT (afT rfl))(hd:(x==("__debug__":Str))=false:=by decide)
  (lL:(x==("__classdict__":Str))=false:=by decide):PE X (.Name x pos) (EH i):=KZ hN hv hd lL
end
theorem Li {A B:Prop}(h:B):if false=true then A else B:=by
 rw [if_neg afx]
 exact h
theorem Oo {A B:Prop}(h:A):if true=true then A else B:=by
 rw [if_pos rfl]
 exact h
theorem a8 {c A B:Prop}[Decidable c](h1:c→A)(h2:¬ c→B):if c then A else B:=by
 by_cases h:c
 ·rw [if_pos h]
  exact h1 h
 ·rw [if_neg h]
  exact h2 h
theorem zJ {c A B:Prop}[Decidable c](hc:c)(h:B):if (!decide c)=true then A else B:=by
 rw [decide_eq_true hc]
 exact Li h
def aq (H H' :Hp):Prop:=∀b o,H b=some o→H' b=some o
theorem aq.refl (H:Hp):aq H H:=fun _ _ h=>h
theorem aq.trans {H H1 H2:Hp}(a:aq H H1)(b:aq H1 H2):aq H H2:=fun c o h=>b c o (a c o h)
theorem aq.free {H H' :Hp}(e:aq H H'){l:Addr}(h:H' l=aqr):H l=aqr:=by
 cases q:H l with
 | none=>rfl
 | some o=>
  rw [e l o q] at h
  cases h
theorem aq.seq {K:Frag}{H H' :Hp}{a:Addr}{xs:List V}(e:aq H H')(h:aR K H a xs):aR K H' a xs:=by
 rcases h with (h | ⟨o,h⟩) | h
 ·exact .inl (.inl (e _ _ h))
 ·exact .inl (.inr ⟨o,e _ _ h⟩)
 ·exact .inr h
end L2
namespace Ty
def gz (t b:Int):Int:=(afW t b:Nat)
def sg (t b:Int):Int:=if b < 0 then -gz t b else gz t b
def low (t b:Int):Int×Int:=(t.fdiv (sg t b),b.fdiv (sg t b))
theorem rL (a b:Int):afW b (a.fmod b)=afW a b:=by
 rw [apC,Int.gcd_sub_mul_left_right,Int.gcd_comm]
theorem oq {a b:Int}(h:b≠0):(a.fmod b).natAbs < b.natAbs:=by
 rcases aha b 0 with q | q | q
 ·have h1:(-a).fmod (-b)= -(a.fmod b):=by
   rw [apC,apC,Int.neg_fdiv_neg,Int.neg_mul]
   omega
  have h2:=agp (-a) (show 0 < -b by omega)
  have h3:=ag7 (-a) (show 0 < -b by omega)
  omega
 ·exact absurd q h
 ·have h2:=agp a q
  have h3:=ag7 a q
  omega
theorem pG {t b:Int}(h:b≠0):0 < gz t b:=by
 have:=apT.mpr (afT h:t≠0∨b≠0)
 show (0:Int) < ((afW t b:Nat):Int)
 omega
theorem Oq {t b:Int}(h:b≠0):(gz t b).natAbs≤b.natAbs:=by
 have h1:afW t b ∣ b.natAbs:=Int.natAbs_dvd_natAbs.mpr (agj t b)
 have h2:=Nat.le_of_dvd (by omega) h1
 show ((afW t b:Nat):Int).natAbs≤_
 omega
theorem lW {t b:Int}(h:b≠0):sg t b≠0:=by
 have:=pG (t:=t) h
 unfold sg
 split <;> omega
theorem Lj {t b:Int}:(sg t b).natAbs=(gz t b).natAbs:=by
 unfold sg
 split
 ·exact apm _
 ·rfl
theorem rM (t b:Int):sg t b ∣ t:=by
 unfold sg gz
 split
 ·exact Int.neg_dvd.mpr (agl t b)
 ·exact agl t b
theorem pH (t b:Int):sg t b ∣ b:=by
 unfold sg gz
 split
 ·exact Int.neg_dvd.mpr (agj t b)
 ·exact agj t b
theorem cb {a g:Int}(h:g≠0)(d:g ∣ a):a=g*a.fdiv g:=by
 obtain ⟨c,hc⟩:=d
 have:=agu h hc
 rw [this]
 exact hc
theorem kY {t b:Int}(h:b≠0):t=sg t b*(low t b).1:=cb (lW h) (rM t b)
theorem iV {t b:Int}(h:b≠0):b=sg t b*(low t b).2:=cb (lW h) (pH t b)
theorem iW {t b:Int}(h:b≠0):0 < (low t b).2:=by
 have e:=iV (t:=t) h
 have g:=pG (t:=t) h
 rcases aha (low t b).2 0 with q | q | q
 ·exfalso
  by_cases c:b < 0
  ·have s:sg t b= -gz t b:=by unfold sg;rw [if_pos c]
   rw [s] at e
   have:=Int.mul_pos_of_neg_of_neg (show -gz t b < 0 by omega) q
   omega
  ·have s:sg t b=gz t b:=by unfold sg;rw [if_neg c]
   rw [s] at e
   have:=ag_ g q
   omega
 ·exfalso
  rw [q,agK] at e
  exact h e
 ·exact q
theorem wH {t b:Int}(h:b≠0):(low t b).1*b=t*(low t b).2:=by
 have e1:=kY (t:=t) h
 have e2:=iV (t:=t) h
 calc (low t b).1*b=(low t b).1*(sg t b*(low t b).2):=by rw [← e2]
  _=sg t b*(low t b).1*(low t b).2:=by rw [← ai_,agL (low t b).1]
  _=t*(low t b).2:=by rw [← e1]
theorem kZ {t b:Int}(h:b≠0):afW (low t b).1 (low t b).2=1:=by
 have e1:=kY (t:=t) h
 have e2:=iV (t:=t) h
 have k:afW t b=(sg t b).natAbs*afW (low t b).1 (low t b).2:=by
  have q:=apM (sg t b) (low t b).1 (low t b).2
  rw [← e1, ← e2] at q
  exact q
 have g:(sg t b).natAbs=afW t b:=by
  rw [Lj]
  rfl
 have p:=apT.mpr (afT h:t≠0∨b≠0)
 rw [g] at k
 have k' :afW t b*1=afW t b*afW (low t b).1 (low t b).2:=by rw [Nat.mul_one];exact k
 exact (Nat.eq_of_mul_eq_mul_left p k').symm
theorem cR {g a:Int}(h:g≠0):a.natAbs≤(g*a).natAbs:=by
 rw [ag8]
 have:1≤g.natAbs:=by omega
 have:=afR a.natAbs this
 omega
theorem lX {t b:Int}(h:b≠0):(low t b).1.natAbs≤t.natAbs:=by
 have e:=kY (t:=t) h
 have:=cR (g:=sg t b) (a:=(low t b).1) (lW h)
 rw [← e] at this
 exact this
theorem lY {t b:Int}(h:b≠0):(low t b).2.natAbs≤b.natAbs:=by
 have e:=iV (t:=t) h
 have:=cR (g:=sg t b) (a:=(low t b).2) (lW h)
 rw [← e] at this
 exact this
theorem zK {t b g x y:Int}(hg:g≠0)(ht:t=g*x)(hb:b=g*y)(hy:0 < y)(h1:afW x y=1):low t b=(x,y):=by
 have hbn:b≠0:=by
  rw [hb]
  exact apU hg (by omega)
 have gg:afW t b=g.natAbs:=by
  rw [ht,hb,apM,h1,Nat.mul_one]
 have s:sg t b=g:=by
  unfold sg gz
  rw [gg]
  by_cases c:g < 0
  ·have:b < 0:=by rw [hb];exact Int.mul_neg_of_neg_of_pos c hy
   rw [if_pos this]
   omega
  ·have:¬ b < 0:=by
    have:=Int.mul_nonneg (show 0≤g by omega) (show 0≤y by omega)
    omega
   rw [if_neg this]
   omega
 unfold low
 rw [s]
 rw [agu hg ht,agu hg hb]
theorem lZ {x y:Int}(hy:0 < y)(h:afW x y=1):low x y=(x,y):=zK (g:=1) (by decide) (by omega) (by omega) hy h
theorem ot {t b k:Int}(hk:k≠0)(h:b≠0):low (k*t) (k*b)=low t b:=by
 refine zK (g:=k*sg t b) (apU hk (lW h)) ?_ ?_ (iW h) (kZ h)
 ·rw [ai_]
  exact congrArg (k*·) (kY h)
 ·rw [ai_]
  exact congrArg (k*·) (iV h)
theorem nG {t b u c:Int}(hb:b≠0)(hc:c≠0)(h:t*c=u*b):low t b=low u c:=by
 rw [← ot (t:=t) (b:=b) hc hb, ← ot (t:=u) (b:=c) hb hc]
 rw [agL c t,h,agL u b,agL c b]
end Ty
set_option maxHeartbeats 4000000
namespace Ty
open PySem PySem.Spec PyProof.Rows L2
open Builtin.Int (intBits)
section
variable {X:Cx}
def rN (i j:Int):Prop:=intBits i≤33554432∧intBits j≤33554432
theorem cA:iO X (binaryOp .Mult) (rI rN fun i j=>.int (i*j)):=
 VY fun _ _ _ _ _ _ _ hc q=>mul_int q (IntMulOk.of_le hc.1 hc.2 (by decide))
def Ot (i j:Int):Prop:=j≠0∧intBits j≤9000
theorem Xq {i j:Int}(h:intBits j≤9000):Builtin.divisionGoesByPylong i j=false:=by
 refine PyProof.noPylong_of_log2 ?_
 have h1:=intBits_le_iff.mp h
 by_cases h0:j.natAbs=0
 ·rw [h0]
  decide+kernel
 ·exact (Nat.log2_lt h0).mpr h1
theorem rO:iO X (binaryOp .FloorDiv) (rI Ot fun i j=>.int (i.fdiv j)):=
 VY fun _ _ _ _ _ _ _ hc q=>floordiv_int hc.1 q (.inl (Xq hc.2))
end
inductive Da where
 | v (x:V)
 | t (ds:List Da)
 | l (ds:List Da)
mutual
def Is (K:Frag)(H:Hp):Da→V→Prop
 | .v x,u=>u=x∧gC x=true
 | .t ds,u=>∃p xs,u=.ref p∧bF K H p xs∧gU K H ds xs
 | .l ds,u=>∃p xs,u=.ref p∧aR K H p xs∧gU K H ds xs
def gU (K:Frag)(H:Hp):List Da→List V→Prop
 | [],[]=>True
 | d::ds,x::xs=>Is K H d x∧gU K H ds xs
 | _,_=>False
end
mutual
def g_:Da→Da→Bool
 | .v x,.v y=>ia x y
 | .t ds,.t es=>cK ds es
 | .l ds,.l es=>cK ds es
 | _,_=>false
def cK:List Da→List Da→Bool
 | [],[]=>true
 | d::ds,e::es=>g_ d e && cK ds es
 | _,_=>false
end
mutual
def alike:Da→Da→Bool
 | .v _,.v _=>true
 | .t ds,.t es=>cV ds es
 | .l ds,.l es=>cV ds es
 | _,_=>false
def cV:List Da→List Da→Bool
 | d::ds,e::es=>alike d e && cV ds es
 | _,_=>true
end
mutual
def dep:Da→Nat
 | .v _=>0
 | .t ds=>hG ds+1
 | .l ds=>hG ds+1
def hG:List Da→Nat
 | []=>0
 | d::ds=>max (dep d) (hG ds)
end
theorem gU.length {K:Frag}{H:Hp}:∀{ds:List Da} {xs:List V},gU K H ds xs→ds.length=xs.length
 | [],[],_=>rfl
 | _::_,_::_,h=>congrArg (·+1) (gU.length (by unfold gU at h;exact h.2))
 | [],_::_,h=>by unfold gU at h;exact h.elim
 | _::_,[],h=>by unfold gU at h;exact h.elim
def gD (ds es:List Da)(j:Nat):Bool:=match ds[j]?,es[j]? with
 | some d,some e=>g_ d e
 | _,_=>true
theorem cE:∀ds es:List Da,cK ds es=((agx (min ds.length es.length)).all (gD ds es) && ds.length==es.length)
 | [],[]=>rfl
 | [],_::_=>by simp [cK]
 | _::_,[]=>by simp [cK]
 | d::ds,e::es=>by
  have ih:=cE ds es
  have r:min (d::ds).length (e::es).length=min ds.length es.length+1:=by simp [Nat.succ_min_succ]
  rw [r,ao_,agW,apD]
  have b0:gD (d::ds) (e::es) 0=g_ d e:=rfl
  have b1:(gD (d::ds) (e::es) ∘ Nat.succ)=gD ds es:=by
   funext j
   rfl
  have l1:((d::ds).length==(e::es).length)=(ds.length==es.length):=by simp
  rw [b0,b1,l1,Bool.and_assoc, ← ih]
  rfl
section
variable {X:Cx}{pins:List (Addr×Obj)}{σ:L2.St}{H:Hp}{s:Shared}
theorem zM {x:V}(h:gC x=true):ia x x=true:=by
 cases x <;> first | rfl | (simp [ia];done) | (cases h;done)
mutual
theorem pI (I:Inv X pins σ H s):∀(d e:Da) (x:V),Is X.K H d x→Is X.K H e x→alike d e=true→g_ d e=true
 | .v a,.v b,x,h1,h2,_=>by
  unfold Is at h1 h2
  obtain ⟨rfl,f⟩:=h1
  obtain ⟨rfl,_⟩:=h2
  unfold g_
  exact zM f
 | .t ds,.t es,x,h1,h2,a=>by
  unfold Is at h1 h2
  obtain ⟨p,xs,rfl,q1,k1⟩:=h1
  obtain ⟨p',ys,e',q2,k2⟩:=h2
  cases e'
  cases I.fq q1 q2
  unfold g_
  unfold alike at a
  exact l_ I ds es xs k1 k2 a
 | .l ds,.l es,x,h1,h2,a=>by
  unfold Is at h1 h2
  obtain ⟨p,xs,rfl,q1,k1⟩:=h1
  obtain ⟨p',ys,e',q2,k2⟩:=h2
  cases e'
  cases I.gx q1 q2
  unfold g_
  unfold alike at a
  exact l_ I ds es xs k1 k2 a
 | .v _,.t _,_,_,_,a=>by unfold alike at a;cases a
 | .v _,.l _,_,_,_,a=>by unfold alike at a;cases a
 | .t _,.v _,_,_,_,a=>by unfold alike at a;cases a
 | .t _,.l _,_,_,_,a=>by unfold alike at a;cases a
 | .l _,.v _,_,_,_,a=>by unfold alike at a;cases a
 | .l _,.t _,_,_,_,a=>by unfold alike at a;cases a
theorem l_ (I:Inv X pins σ H s):∀(ds es:List Da) (xs:List V),gU X.K H ds xs→gU X.K H es xs→cV ds es=true→cK ds es=true
 | [],[],_,_,_,_=>by unfold cK;rfl
 | d::ds,e::es,x::xs,h1,h2,a=>by
  unfold gU at h1 h2
  unfold cV at a
  rw [af_] at a
  unfold cK
  rw [pI I d e x h1.1 h2.1 a.1,l_ I ds es xs h1.2 h2.2 a.2]
  rfl
 | [],_::_,[],_,h2,_=>by unfold gU at h2;exact h2.elim
 | [],_::_,_::_,h1,_,_=>by unfold gU at h1;exact h1.elim
 | _::_,[],[],h1,_,_=>by unfold gU at h1;exact h1.elim
 | _::_,[],_::_,_,h2,_=>by unfold gU at h2;exact h2.elim
 | _::_,_::_,[],h1,_,_=>by unfold gU at h1;exact h1.elim
end
theorem in1_units (A:Around):A.in1.units=A.units+1:=rfl
mutual
theorem vq (I:Inv X pins σ H s):∀(d e:Da) (x y:V) (u w:Value) (A:Around),Is X.K H d x→Is X.K H e y→alike d e=true→RelV x u→RelV y w→A.units+dep d < cLine→SeqAt.EqAt A s u w (g_ d e)
 | .v a,.v b,x,y,u,w,A,h1,h2,_,r1,r2,_=>by
  unfold Is at h1 h2
  obtain ⟨rfl,f1⟩:=h1
  obtain ⟨rfl,f2⟩:=h2
  unfold g_
  exact zC r1 r2 f1 f2
 | .t ds,.t es,x,y,u,w,A,h1,h2,a,r1,r2,hu=>by
  have hV :=h1
  have Xr :=h2
  unfold Is at h1 h2
  obtain ⟨p,xs,rfl,q1,k1⟩:=h1
  obtain ⟨p',ys,rfl,q2,k2⟩:=h2
  cases r1
  cases r2
  by_cases e:p=p'
  ·subst e
   rw [pI I _ _ _ hV Xr a]
   exact .same _
  ·refine .of_refs e ?_
   obtain ⟨its,v1,t1,_⟩:=I.tuple q1
   obtain ⟨dh,v2,t2,_⟩:=I.tuple q2
   unfold g_
   rw [cE,k1.length,k2.length,v1.length,v2.length]
   have z:=SeqAt.RcAt.tuples (A:=A) (e:=gD ds es) t1 t2 (by unfold dep at hu;omega) fun j g1 g2=>by
    unfold dep at hu
    unfold alike at a
    exact d_ I ds es xs ys its dh A.in1 k1 k2 a v1 v2 (by rw [in1_units];omega) j (by simpa using g1) (by simpa using g2)
   simpa using z
 | .l ds,.l es,x,y,u,w,A,h1,h2,a,r1,r2,hu=>by
  have hV :=h1
  have Xr :=h2
  unfold Is at h1 h2
  obtain ⟨p,xs,rfl,q1,k1⟩:=h1
  obtain ⟨p',ys,rfl,q2,k2⟩:=h2
  cases r1
  cases r2
  by_cases e:p=p'
  ·subst e
   rw [pI I _ _ _ hV Xr a]
   exact .same _
  ·refine .of_refs e ?_
   obtain ⟨its,v1,t1,_⟩:=I.list q1
   obtain ⟨dh,v2,t2,_⟩:=I.list q2
   unfold g_
   unfold dep at hu
   unfold alike at a
   by_cases el:its.length=dh.length
   ·rw [cE,k1.length,k2.length,v1.length,v2.length]
    have z:=SeqAt.RcAt.lists (A:=A) (e:=gD ds es) t1.isList t2.isList (by simpa using el) (by omega) fun j g1 g2=>
     d_ I ds es xs ys its dh A.in1 k1 k2 a v1 v2 (by rw [in1_units];omega) j (by simpa using g1) (by simpa using g2)
    rw [el,apE,beq_self_eq_true,apr]
    rw [afC,el] at z
    exact z
   ·have ne:cK ds es=false:=by
     rw [cE,k1.length,k2.length,v1.length,v2.length,beq_eq_false_iff_ne.mpr el,ag9]
    rw [ne]
    exact SeqAt.RcAt.lists_lengths t1.isList t2.isList (by simpa using el) (by omega)
 | .v _,.t _,_,_,_,_,_,_,_,a,_,_,_=>by unfold alike at a;cases a
 | .v _,.l _,_,_,_,_,_,_,_,a,_,_,_=>by unfold alike at a;cases a
 | .t _,.v _,_,_,_,_,_,_,_,a,_,_,_=>by unfold alike at a;cases a
 | .t _,.l _,_,_,_,_,_,_,_,a,_,_,_=>by unfold alike at a;cases a
 | .l _,.v _,_,_,_,_,_,_,_,a,_,_,_=>by unfold alike at a;cases a
 | .l _,.t _,_,_,_,_,_,_,_,a,_,_,_=>by unfold alike at a;cases a
theorem d_ (I:Inv X pins σ H s):∀(ds es:List Da) (xs ys:List V) (us ws:List Value) (A:Around),gU X.K H ds xs→gU X.K H es ys→cV ds es=true→Vals xs us→Vals ys ws→A.units+hG ds < cLine→
  ∀(j:Nat) (h1:j < us.length) (h2:j < ws.length),SeqAt.EqAt A s us[j] ws[j] (gD ds es j)
 | d::ds,e::es,x::xs,y::ys,u::us,w::ws,A,k1,k2,a,.cons r1 v1,.cons r2 v2,hu,0,_,_=>by
  unfold gU at k1 k2
  unfold cV at a
  rw [af_] at a
  unfold hG at hu
  exact vq I d e x y u w A k1.1 k2.1 a.1 r1 r2 (by omega)
 | d::ds,e::es,x::xs,y::ys,u::us,w::ws,A,k1,k2,a,.cons r1 v1,.cons r2 v2,hu,j+1,h1,h2=>by
  unfold gU at k1 k2
  unfold cV at a
  rw [af_] at a
  unfold hG at hu
  exact d_ I ds es xs ys us ws A k1.2 k2.2 a.2 v1 v2 (by omega) j (by simpa using h1) (by simpa using h2)
 | [],_,[],_,_,_,_,_,_,_,.nil,_,_,_,h1,_=>absurd h1 (agd _)
 | _,[],_,[],_,_,_,_,_,_,_,.nil,_,_,_,h2=>absurd h2 (agd _)
 | [],_,_::_,_,_,_,_,k1,_,_,_,_,_,_,_,_=>by unfold gU at k1;exact k1.elim
 | _::_,_,[],_,_,_,_,k1,_,_,_,_,_,_,_,_=>by unfold gU at k1;exact k1.elim
 | _,[],_,_::_,_,_,_,_,k2,_,_,_,_,_,_,_=>by unfold gU at k2;exact k2.elim
 | _,_::_,_,[],_,_,_,_,k2,_,_,_,_,_,_,_=>by unfold gU at k2;exact k2.elim
end
end
section
variable {X:Cx}
inductive zN (K:Frag)(x:V)(y:V)(H:Hp)(Q:VK):Prop where
 | mk (ds es:_) (_:((Is K H (.t ds) x∧Is K H (.t es) y)∨(Is K H (.l ds) x∧Is K H (.l es) y))) (_:cV ds es=true) (_:hG ds≤60) (_:Q (.bl (cK ds es)) H):zN K x y H Q
inductive vt (K:Frag)(x:V)(y:V)(H:Hp)(Q:VK):Prop where
 | mk (ds es:_) (_:((Is K H (.t ds) x∧Is K H (.t es) y)∨(Is K H (.l ds) x∧Is K H (.l es) y))) (_:cV ds es=true) (_:hG ds≤60) (_:Q (.bl (!cK ds es)) H):vt K x y H Q
theorem k_ (hu:X.A.units+64 < cLine):iO X (compareOp .Eq) (zN X.K):=by
 intro pins s σ H x y v u Q I rx ry h
 obtain ⟨ds,es,h,a,hd,q⟩:=h
 rcases h with ⟨h1,h2⟩ | ⟨h1,h2⟩
 ·unfold Is at h1 h2
  obtain ⟨p,xs,rfl,q1,k1⟩:=h1
  obtain ⟨p',ys,rfl,q2,k2⟩:=h2
  cases rx
  cases ry
  obtain ⟨its,v1,t1,_⟩:=I.tuple q1
  obtain ⟨dh,v2,t2,_⟩:=I.tuple q2
  have z:=SeqAt.RcAt.tuples (A:=X.A) (e:=gD ds es) t1 t2 (by omega) fun j g1 g2=>
   d_ I ds es xs ys its dh X.A.in1 k1 k2 a v1 v2 (by rw [in1_units];omega) j (by simpa using g1) (by simpa using g2)
  refine z X.prog X.w X.xe _ ⟨.bl _,H,I,rfl,?_⟩
  have e:=cE ds es
  rw [k1.length,k2.length,v1.length,v2.length] at e
  simpa [e] using q
 ·unfold Is at h1 h2
  obtain ⟨p,xs,rfl,q1,k1⟩:=h1
  obtain ⟨p',ys,rfl,q2,k2⟩:=h2
  cases rx
  cases ry
  obtain ⟨its,v1,t1,_⟩:=I.list q1
  obtain ⟨dh,v2,t2,_⟩:=I.list q2
  have e:=cE ds es
  rw [k1.length,k2.length,v1.length,v2.length] at e
  by_cases el:its.length=dh.length
  ·have z:=SeqAt.RcAt.lists (A:=X.A) (e:=gD ds es) t1.isList t2.isList (by simpa using el) (by omega) fun j g1 g2=>
    d_ I ds es xs ys its dh X.A.in1 k1 k2 a v1 v2 (by rw [in1_units];omega) j (by simpa using g1) (by simpa using g2)
   refine z X.prog X.w X.xe _ ⟨.bl _,H,I,rfl,?_⟩
   rw [el,apE,beq_self_eq_true,apr] at e
   simpa [e,el] using q
  ·have ne:cK ds es=false:=by rw [e,beq_eq_false_iff_ne.mpr el,ag9]
   rw [ne] at q
   exact SeqAt.RcAt.lists_lengths t1.isList t2.isList (by simpa using el) (by omega) X.prog X.w X.xe _ ⟨.bl _,H,I,rfl,q⟩
theorem lh (hu:X.A.units+64 < cLine):iO X (compareOp .NotEq) (vt X.K):=by
 intro pins s σ H x y v u Q I rx ry h
 obtain ⟨ds,es,h,a,hd,q⟩:=h
 rcases h with ⟨h1,h2⟩ | ⟨h1,h2⟩
 ·unfold Is at h1 h2
  obtain ⟨p,xs,rfl,q1,k1⟩:=h1
  obtain ⟨p',ys,rfl,q2,k2⟩:=h2
  cases rx
  cases ry
  obtain ⟨its,v1,t1,_⟩:=I.tuple q1
  obtain ⟨dh,v2,t2,_⟩:=I.tuple q2
  have z:=SeqAt.RcNeAt.tuples (A:=X.A) (e:=gD ds es) t1 t2 (by omega) fun j g1 g2=>
   d_ I ds es xs ys its dh X.A.in1 k1 k2 a v1 v2 (by rw [in1_units];omega) j (by simpa using g1) (by simpa using g2)
  refine z X.prog X.w X.xe _ ⟨.bl _,H,I,rfl,?_⟩
  have e:=cE ds es
  rw [k1.length,k2.length,v1.length,v2.length] at e
  simpa [e] using q
 ·unfold Is at h1 h2
  obtain ⟨p,xs,rfl,q1,k1⟩:=h1
  obtain ⟨p',ys,rfl,q2,k2⟩:=h2
  cases rx
  cases ry
  obtain ⟨its,v1,t1,_⟩:=I.list q1
  obtain ⟨dh,v2,t2,_⟩:=I.list q2
  have e:=cE ds es
  rw [k1.length,k2.length,v1.length,v2.length] at e
  by_cases el:its.length=dh.length
  ·have z:=SeqAt.RcNeAt.lists (A:=X.A) (e:=gD ds es) t1.isList t2.isList (by simpa using el) (by omega) fun j g1 g2=>
    d_ I ds es xs ys its dh X.A.in1 k1 k2 a v1 v2 (by rw [in1_units];omega) j (by simpa using g1) (by simpa using g2)
   refine z X.prog X.w X.xe _ ⟨.bl _,H,I,rfl,?_⟩
   rw [el,apE,beq_self_eq_true,apr] at e
   simpa [e,el] using q
  ·have ne:cK ds es=false:=by rw [e,beq_eq_false_iff_ne.mpr el,ag9]
   rw [ne] at q
   exact SeqAt.RcNeAt.lists_lengths t1.isList t2.isList (by simpa using el) (by omega) X.prog X.w X.xe _ ⟨.bl _,H,I,rfl,q⟩
def EY:V→Value
 | .ty n=>.type n
 | .ref a=>.ref a
 | _=>.none
def zO:V→Bool
 | .ty _=>true
 | .ref _=>true
 | _=>false
theorem pJ {c:V}{u:Value}(h:zO c=true)(r:RelV c u):u=EY c:=by
 cases c <;> first | exact r | (cases h;done)
inductive Ou (K:Frag)(xs:List V)(H:Hp)(Q:VK):Prop where
 | mk (x c t b:_) (_:xs=[x,c]) (_:zO c=true) (_:jE K H x t) (_:PySem.W.kitOne K t (EY c)=some b) (_:Q (.bl b) H):Ou K xs H Q
theorem dC:eO X (.builtin "isinstance") (Ou X.K):=by
 intro pins s σ H xs us Q I r h
 obtain ⟨x,c,t,b,rfl,hc,ty,e,q⟩:=h
 obtain ⟨u,w,rfl,r1,r2⟩:=vals2 r
 obtain rfl:=pJ hc r2
 exact wA I r1 ty e fun tk=>⟨.bl b,H,I.tok tk,rfl,q⟩
end
section
variable {K:Frag}
theorem zP {a b:String}{v:Bool}(h:((Value.type a==Value.type b)=true→v=true)∧((Value.type a==Value.type b)=false→PySem.W.kitMeta b=true∧(fastBuiltinMro a).map (·.contains (Value.type b))=some v)):PySem.W.kitOne K (.type a) (.type b)=some v:=by
 unfold PySem.W.kitOne
 by_cases e:(Value.type a==Value.type b)=true
 ·rw [if_pos e,h.1 e]
 ·rw [if_neg e]
  obtain ⟨h1,h2⟩:=h.2 (by simpa using e)
  unfold PySem.W.kitCls
  dsimp only
  rw [if_pos h1]
  exact h2
end
theorem bQ:bootBuiltins "len"=some (.builtin "len"):=by decide+kernel
theorem JK:bootBuiltins "abs"=some (.builtin "abs"):=by decide+kernel
theorem bo:bootBuiltins "isinstance"=some (.builtin "isinstance"):=by decide+kernel
theorem JL:bootBuiltins "all"=some (.builtin "all"):=by decide+kernel
theorem Ov:bootBuiltins "int"=some (.type "int"):=by decide+kernel
theorem Lk:bootBuiltins "bool"=some (.type "bool"):=by decide+kernel
theorem Ow:bootBuiltins "str"=some (.type "str"):=by decide+kernel
theorem fQ:bootBuiltins "list"=some (.type "list"):=by decide+kernel
theorem pK:bootBuiltins "tuple"=some (.type "tuple"):=by decide+kernel
theorem uh:bootBuiltins "dict"=some (.type "dict"):=by decide+kernel
theorem pM:bootBuiltins "ValueError"=some (.type "ValueError"):=by decide+kernel
theorem ib {X:Cx}{x:Str}{n:String}{pos:Pos}(hg:Gl X x)(hm:X.mg x=none)(hv:bootBuiltins x=some (.type n))(hn:x≠ "__name__":=by decide)(hd:(x==("__debug__":Str))=false:=by decide):PE X (.Name x pos) (tC (.ty n)):=EI (v:=.ty n) hg hm hv rfl hn hd
def Ll (_ j:Int):Prop:=j≠0
theorem nz {i j:Int}(h:j≠0):Ll i j:=h
theorem eR {X:Cx}:iO X (binaryOp .Mod) (rI Ll fun i j=>.int (i.fmod j)):=EJ
theorem vv {a b:V}:hG [.v a,.v b]≤60:=by simp [hG,dep]
end Ty
set_option maxHeartbeats 4000000
namespace TyAtt
open PySem PySem.W PySem.Calls PyProof.Rows
open Builtin.Int (intBits)
theorem wI {ns:List Int}{n:Int}(h:(WData.list (ns.map WData.int)).layable=true)(hn:n∈ns):intBits n≤1048576:=by
 obtain ⟨_,_,hw⟩:=layableW_iff.mp h
 have a:∀(l:List Int),n∈l→intBits n≤WData.weightAll (l.map WData.int):=by
  intro l
  induction l with
  | nil=>intro q;cases q
  | cons y r ih=>
   intro q
   rw [afp]
   unfold WData.weightAll
   rcases afK.mp q with z | z
   ·subst z
    have:intBits n≤WData.weight (.int n):=by
     unfold WData.weight
     exact ad_ _
    omega
   ·have:=ih z
    omega
 have b:=a ns hn
 unfold WData.weight at hw
 omega
theorem rP {l:OpenLaw}{n:Nat}{q:Program}{loose:List Str}{XP:(Str→Option Value)→Heap→Prop}{YP:World→Heap→Prop}{d:DefRec}
  (hn:l.most=some n) (Xs:d.params.defaults=[])
  (call:∀(w:World) (s₀ s₁:Shared) (mg mb:Str→Option Value) (fa:Addr) (o:Obj) (pm cd doc:Value) (a:Addr) (vs:List Value) (ns:List Int),
   Ground q loose [] XP w s₀ mg mb s₁.heap→YP w s₁.heap→
   s₁.heap.get? fa=some o→o.data=.func (docDef d.name d.params d.body d.scope pm cd doc)→s₁.heap.CodeRec cd d.name→mg d.name=some (.ref fa)→
   s₁.heap.get? a=some {cls:=.type "list",data:=.seq vs.toArray}→IntsAre vs ns→ns.length≤n→(∀i∈ns,intBits i≤1048576)→s₁.gens= #[]→
   codeAny (model l.prog w) callerA (.call (.ref fa) ⟨[.ref a],[]⟩) (fun r s' =>r=.ok (.ret (.bool true))∧OldK s₁.heap s'.heap∧s'.os=s₁.os∧AllBare s'.gens) s₁):
  WalkO q loose XP YP l.row.toRowW d [] (fun f vs=>PySem.call f vs):=by
 intro w s₀ s₁ mg mb G Y fa o pm cd doc dV kV ho hd lL hD Ox hg args vals as EW hlay hrd Xn hlo
 obtain rfl:dV=.none:=Dflts.none hD Xs
 obtain rfl:kV=.none:=Dflts.noKw hD
 obtain ⟨a,vs,ns,rfl,rfl,Lm,hints,hlen⟩:=Att.wC hn EW Xn
 have hb:∀i∈ns,intBits i≤1048576:=fun i hi=>wI (layW_cons hlay).1 hi
 refine enter_call (codeAny_mono (call w s₀ s₁ mg mb fa o pm cd doc a vs ns G Y ho (fd_plain hd) lL Ox Lm hints hlen hb hg) fun r s' hq=> ?_)
 obtain ⟨rfl,h2,h3,h4⟩:=hq
 exact ⟨.inl ⟨.bool true,.bool true,[],rfl,fun _=>rfl,.bool true,Att.wD l _,fun _=>⟨List.Pairwise.nil,fun _ hm=>(nomatch hm)⟩⟩,h2,h3,h4⟩
end TyAtt
namespace Ty
open PySem PySem.Spec PyProof.Rows L2
open Builtin.Int (intBits)
structure Fn (P:Program)(w:World)(K:Frag)(mg:Str→Option Value)(base:Heap)(CX:jw)(k:Nat)(x:Str)(ps:List Str)(sp:Sp):Prop where
 ex:∃(f:Addr) (fd:FuncData),cp P w K mg base CX k f fd ps sp∧Binds K fd ps []∧mg x=some (.ref f)∧keepIn K (.ref f)=true
structure Def (K:Frag)(mg:Str→Option Value)(x:Str)(st:Stmt)(ps:List Str):Prop where
 ex:∃(f:Addr) (dV oc:Value) (od:Option Addr) (kV doc pm:Value) (an:Option Addr) (bf ct:Value) (jF:Array (Option Value)),
  K.lookup f=some ⟨oc,od,.func (fnOf x x (av st) (ar st) (af st) dV kV doc pm an bf ct),jF⟩∧codeIn K bf x=true∧keepIn K (.ref f)=true∧
  Binds K (fnOf x x (av st) (ar st) (af st) dV kV doc pm an bf ct) ps []∧mg x=some (.ref f)
theorem Def.of {K:Frag}{mg:Str→Option Value}{x:Str}{st:Stmt}{ps:List Str}{f:Addr}{fd:FuncData}(F:lV K x x st f fd)(b:Binds K fd ps [])(m:mg x=some (.ref f)):Def K mg x st ps:=by
 obtain ⟨oc,od,kV,doc,pm,an,bf,ct,jF,rfl,lk,lL⟩:=F.ex
 exact ⟨f,.none,oc,od,kV,doc,pm,an,bf,ct,jF,lk,lL,F.kp,b,m⟩
section
variable {P:Program}{w:World}{K:Frag}{mg:Str→Option Value}{base:Heap}{CX:jw}
theorem Def.ok {x:Str}{st:Stmt}{N ps:List Str}{k:Nat}{sp:Sp}(D:Def K mg x st ps)(S:ay N ps (af st))(len:∀vs H Q E,sp vs H Q E→vs.length=ps.length)
  (gB:∀(f:Addr) (bf:Value) (A:Around) (outer:List Env) (s:Shared) (H:Hp) (vs:List V) (Q:VK) (E:XK),bY k (A.deeper (envOfC x (af st) s.heap.objs.size f bf))→sp vs H Q E→
   ∃t,PSs (kD CX P w K mg base N x (af st) f bf A outer s H E).tN (ar st) t∧t {nx:=fun _ H' =>Q .cj H',rt:=Q} (start N vs) H):Fn P w K mg base CX (k+1) x ps sp:=by
 obtain ⟨f,dV,oc,od,kV,doc,pm,an,bf,ct,jF,lk,lL,kp,b,m⟩:=D.ex
 refine ⟨f,_,rF lk lL S len fun A outer s H vs Q E hr q5=> ?_,b,m,kp⟩
 obtain ⟨t,h,q⟩:=gB f bf A outer s H vs Q E hr q5
 exact ⟨t,h.tN,q⟩
theorem _root_.L2.lV.okG {x:Str}{st:Stmt}{f:Addr}{fd:FuncData}{N ps:List Str}{k:Nat}{sp:Sp}(F:lV K x x st f fd)(S:ay N ps (af st))(len:∀vs H Q E,sp vs H Q E→vs.length=ps.length)
  (gB:∀(bf:Value) (A:Around) (outer:List Env) (s:Shared) (H:Hp) (vs:List V) (Q:VK) (E:XK),bY k (A.deeper (envOfC x (af st) s.heap.objs.size f bf))→sp vs H Q E→
   ∃t,PSs (kD CX P w K mg base N x (af st) f bf A outer s H E).tN (ar st) t∧t {nx:=fun _ H' =>Q .cj H',rt:=Q} (start N vs) H):cp P w K mg base CX (k+1) f fd ps sp:=by
 obtain ⟨oc,od,kV,doc,pm,an,bf,ct,jF,rfl,lk,lL⟩:=F.ex
 refine rF lk lL S len fun A outer s H vs Q E hr q5=> ?_
 obtain ⟨t,h,q⟩:=gB bf A outer s H vs Q E hr q5
 exact ⟨t,h.tN,q⟩
def rQ (CX:jw):Prop:=∀outer H s e s',CX outer H s E0 e s' →False
theorem rR {X:Cx}(h:rQ CX):Passes CX X.tN E0:=fun _ _ _ _ _ _ _ q=>(h _ _ _ _ _ q).elim
section
variable {X:Cx}{k:Nat}{ps:List Str}{sp:Sp}{E:XK}{x:Str}{p pos:Pos}{e:Expr}{es:List Expr}{t:TA}
theorem aA (F:Fn X.prog X.w X.K X.mg X.base CX k x ps sp)(hr:bY k X.A)(hx:Passes CX X E)(ha:PA X (e::es) t)(hg:Gl X x:=by rfl)(rB:(x==("__debug__":Str))=false:=by decide)
  (he:starEach (e::es) X.env=(false,eval e X.env)::starEach es X.env:=by rfl) (q4:(backTo pos (starEach es X.env)).any (·.1)=false:=by rfl):PE X (.Call (.Name x p) (e::es) [] pos) (JF sp [] E t):=by
 obtain ⟨f,fd,G,b,m,kp⟩:=F.ex
 exact EO G hr hg m kp b .nil hx ha rB he q4
end
end
def zQ (K:Frag):Sp:=fun vs H Q _=>∃(a:Addr) (ns:List Int),vs=[.ref a]∧aR K H a (ns.map V.int)∧ns.length≤63∧(∀i∈ns,intBits i≤1048576)∧∀H',Q (.bl true) H'
theorem walk {l:PySem.W.OpenLaw}{q:Program}{loose:List Str}{XP:(Str→Option Value)→Heap→Prop}{YP:World→Heap→Prop}{d:DefRec}{K:Params→Frag}{CX:World→jw}{x:Str}{k:Nat}
  (hn:l.most=some 63) (Xs:d.params.defaults=[]) (hi:importsNone q=true) (hr:bY k callerA)
  (hY:∀(w:World) (h:Heap),YP w h→(K w.params).In h) (hm:∀w,rQ (CX w))
  (F:∀(w:World) (mg:Str→Option Value) (fa:Addr) (h:Heap),(K w.params).In h→h.Ns mainGlobals mg→mg d.name=some (.ref fa)→
   ∃fd:FuncData,(∀(s:Shared) (u:Value),BindsTo s fd ⟨[u],[]⟩ [(x,u)])∧
    ∀base:Heap,(K w.params).In base→base.Ns mainGlobals mg→cp l.prog w (K w.params) mg base (CX w) k fa fd [x] (zQ (K w.params))):
  PySem.W.WalkO q loose XP YP l.row.toRowW d [] (fun f vs=>PySem.call f vs):=by
 refine TyAtt.rP hn Xs fun w s₀ s₁ mg mb fa o pm cd doc a vs ns G Y ho hd lL Ox Lm hints hlen hb hg=> ?_
 have KX:=hY w _ Y
 obtain ⟨fd,hbd,hF⟩:=F w mg fa _ KX G.T.g Ox
 exact zI KX G.T.g G.T.b G.T.builtins G.T.nolimit (G.T.seer hi) hg Lm hints (ac_ hlen (by decide)) hr hF hbd (fun H hO hS=>⟨a,ns,rfl,hS,hlen,hb,fun _=>rfl⟩) fun H e s' =>hm w [] H s₁ e s'
end Ty
set_option maxHeartbeats 4000000
namespace Ty
open PySem PySem.Spec PyProof.Rows
def KD (h h' :Heap):Prop:=∀b o,h.get? b=some o→∃o',h'.get? b=some o' ∧o'.dict=o.dict
theorem KD.refl {h:Heap}:KD h h:=fun b o e=>⟨o,e,rfl⟩
theorem KD.trans {h1 h2 h3:Heap}(a:KD h1 h2)(b:KD h2 h3):KD h1 h3:=fun c o e=>by
 obtain ⟨o1,e1,d1⟩:=a c o e
 obtain ⟨o2,e2,d2⟩:=b c o1 e1
 exact ⟨o2,e2,d2.trans d1⟩
theorem KD.keeps {h h' :Heap}(k:∀b o,h.get? b=some o→h'.get? b=some o):KD h h' :=fun b o e=>⟨o,k b o e,rfl⟩
theorem ou {h:Heap}{a:Addr}{o:Obj}(e:h.get? a=some o):o.isFreed=false:=by
 unfold Heap.get? at e
 split at e
 ·cases e
 ·rename_i o' hn
  unfold Obj.isFreed
  split
  ·rename_i c d sl
   exact absurd e (hn c d sl)
  ·rfl
theorem KD.update {h:Heap}{a:Addr}{f:Obj→Obj}(hf:∀o,(f o).dict=o.dict∧(f o).isFreed=o.isFreed):KD h (h.update a f):=fun b o e=>by
 by_cases c:b=a
 ·subst c
  exact ⟨f o,Heap.get?_update_self f e ((hf o).2.trans (ou e)),(hf o).1⟩
 ·exact ⟨o,(Heap.get?_update_other h f (fun z=>c z.symm)).trans e,rfl⟩
def Kp {α:Type}:Sem α→Prop
 | .pure _=>True
 | .raise _=>True
 | .unsupported _=>True
 | .finish _=>True
 | .rule _ k=>Kp (k ())
 | .at _ k=>Kp (k ())
 | .load _ _ k=>∀o,Kp (k o)
 | .update _ _ f k=>(∀o,(f o).dict=o.dict∧(f o).isFreed=o.isFreed)∧Kp (k ())
 | .alloc _ k=>∀a,Kp (k a)
 | .loadIfAlive _ k=>∀o,Kp (k o)
 | .point _ k=>Kp (k ())
 | .fresh k=>∀t,Kp (k t)
 | .ask k=>∀t,Kp (k t)
 | .handled _ k=>∀t,Kp (k t)
 | .stack k=>∀t,Kp (k t)
 | .thread k=>∀t,Kp (k t)
 | _=>False
theorem Kp.bind {α β:Type}:∀{m:Sem α} {f:α→Sem β},Kp m→(∀a,Kp (f a))→Kp (m.bind f):=by
 intro m f
 induction m with
 | pure a=>exact fun _ h=>h a
 | raise e=>exact fun _ _=>trivial
 | unsupported w=>exact fun _ _=>trivial
 | finish e=>exact fun _ _=>trivial
 | rule t k ih=>exact fun h hf=>ih () h hf
 | «at» p k ih=>exact fun h hf=>ih () h hf
 | load a p k ih=>exact fun h hf o=>ih o (h o) hf
 | update a p g k ih=>exact fun h hf=>⟨h.1,ih () h.2 hf⟩
 | alloc o k ih=>exact fun h hf a=>ih a (h a) hf
 | loadIfAlive a k ih=>exact fun h hf o=>ih o (h o) hf
 | point l k ih=>exact fun h hf=>ih () h hf
 | fresh k ih=>exact fun h hf o=>ih o (h o) hf
 | ask k ih=>exact fun h hf o=>ih o (h o) hf
 | handled o k ih=>exact fun h hf o=>ih o (h o) hf
 | stack k ih=>exact fun h hf o=>ih o (h o) hf
 | thread k ih=>exact fun h hf o=>ih o (h o) hf
 | _=>exact fun h=>h.elim
theorem Kp.wp {α:Type}{M:Model}{Γ:PySem.Ctx}:∀{t:Sem α} {P:α→Pos→Shared→Prop} {E:Value→Pos→Shared→Prop} {p:Pos} {s:Shared} {h0:Heap},Kp t→KD h0 s.heap→Sem.wp M Γ t P E p s→Sem.wp M Γ t (fun a p' s' =>P a p' s' ∧KD h0 s'.heap) E p s:=by
 intro t
 induction t with
 | pure a=>exact fun _ kd h=>⟨h,kd⟩
 | raise e=>exact fun _ _ h=>h
 | unsupported w=>exact fun _ _ h=>h
 | finish e=>exact fun _ _ h=>h
 | rule t k ih=>exact fun hk kd h=>ih () hk kd h
 | «at» p k ih=>exact fun hk kd h=>ih () hk kd h
 | load a p k ih=>exact fun hk kd h=>by obtain ⟨o,e,h⟩:=h;exact ⟨o,e,ih o (hk o) kd h⟩
 | update a p g k ih=>exact fun hk kd h=>⟨h.1,ih () hk.2 (kd.trans (KD.update hk.1)) h.2⟩
 | alloc o k ih=>exact fun hk kd h=>ih _ (hk _) (kd.trans (KD.keeps fun b o e=>Heap.get?_push_of_some _ e)) h
 | loadIfAlive a k ih=>exact fun hk kd h=>ih _ (hk _) kd h
 | point l k ih=>exact fun hk kd h=>ih () hk kd h
 | fresh k ih=>exact fun hk kd h=>ih _ (hk _) kd h
 | ask k ih=>exact fun hk kd h=>ih _ (hk _) kd h
 | handled o k ih=>exact fun hk kd h=>ih _ (hk _) kd h
 | stack k ih=>exact fun hk kd h=>ih _ (hk _) kd h
 | thread k ih=>exact fun hk kd h=>ih _ (hk _) kd h
 | _=>exact fun hk=>hk.elim
theorem Kp.any {α:Type}{M:Model}{A:Around}{t:Sem α}{Q:α→Shared→Prop}{E:Value→Shared→Prop}{s:Shared}(k:Kp t)(h:wpAny M A t Q E s):wpAny M A t (fun a s' =>Q a s' ∧KD s.heap s'.heap) E s:=
 fun Γ p hΓ=>Kp.wp k KD.refl (h Γ p hΓ)
theorem cf {α:Type}{a:α}:Kp (pure a:Sem α):=trivial
theorem ie {α:Type}{w:String}:Kp (unsupported w:Sem α):=trivial
theorem bq {α β:Type}{m:Sem α}{f:α→Sem β}(h:Kp m)(hf:∀a,Kp (f a)):Kp (m >>=f):=Kp.bind h hf
theorem fS {α:Type}{c:Prop}[Decidable c]{a b:Sem α}(h1:Kp a)(h2:Kp b):Kp (if c then a else b):=by
 split
 ·exact h1
 ·exact h2
theorem pN {a:Addr}:Kp (load a):=fun _=>trivial
theorem ma:Kp stack:=fun _=>trivial
theorem eT {e x:Value}{i:Nat}:Kp (setField e i x):=by
 unfold setField
 split
 ·unfold updateField
  refine bq pN fun o=> ?_
  split
  ·refine fS ⟨fun o=> ?_,trivial⟩ ie
   unfold Obj.mapFields
   split <;> exact ⟨rfl,rfl⟩
  ·exact ie
 ·exact ie
theorem iX {e:Value}{i:Nat}:Kp (field e i):=by
 unfold field
 refine bq ?_ fun vs=> ?_
 ·unfold fieldsOf
  split
  ·refine bq pN fun o=> ?_
   split
   ·exact cf
   ·exact ie
  ·exact ie
 ·split
  ·exact cf
  ·exact ie
theorem fT {e:Value}{f:Option Addr}:Kp (setFlight e f):=by
 unfold setFlight
 exact bq iX fun tb=>fS eT cf
theorem wJ {env:Env}{outer:List Env}:Kp (behindIsImport env outer):=by
 unfold behindIsImport
 exact fS cf (fS cf (bq iX fun _=>cf))
theorem rS {env:Env}{b:Bool}{outer:List Env}:Kp (keptBack env b outer):=by
 unfold keptBack
 split
 ·refine fS cf (bq ?_ fun _=>cf)
  unfold underTheClaimsCaller
  exact bq ma fun _=>cf
 ·exact cf
theorem gF:∀l:List Env,Kp (readyFrames l)
 | []=>trivial
 | env::outer=>by
  rw [readyFrames.eq_2]
  split
  ·refine bq pN fun o=>fS cf (bq wJ fun _=>bq rS fun _=>bq ⟨fun o=>⟨rfl,?_⟩,trivial⟩ fun _=>gF outer)
   obtain ⟨c,d,dt,sl⟩:=o
   cases dt <;> rfl
  ·exact ie
theorem mf {env:Env}:Kp (PySem.frameOf env):=by
 unfold PySem.frameOf
 refine bq ?_ fun l=>bq ?_ fun o=> ?_
 ·unfold frameEnvs
  exact bq ma fun _=>cf
 ·unfold frameObject
  split
  ·exact cf
  ·exact bq (gF _) fun _=>cf
 ·split
  ·exact cf
  ·exact ie
theorem gh {f:Addr}{b:Bool}:Kp (entryPlaceOf f b):=by
 unfold entryPlaceOf
 refine bq ma fun a=> ?_
 dsimp only
 split <;> exact cf
theorem j_ {a b c d e:Value}{l:List Value}:Kp (EntryCells.newEntry a b c d e l):=by
 unfold EntryCells.newEntry newFields newObj
 dsimp only
 refine fS (bq ie fun _=> ?_) ?_
 ·exact fun _=>trivial
 ·exact fun _=>trivial
theorem iY {e:Value}{env:Env}:Kp (noteFrame e env):=by
 unfold noteFrame
 split
 ·refine bq iX fun head=>fS (bq iX fun x=>fS cf (bq eT fun _=> ?_)) ?_
  ·exact bq mf fun _=>bq gh fun _=>bq j_ fun _=>eT
  ·exact bq mf fun _=>bq gh fun _=>bq j_ fun _=>eT
 ·exact ie
theorem mh {e:Value}{env:Env}:Kp (leaving env e):=by
 unfold leaving
 exact bq iY fun _=>fT
end Ty
set_option maxHeartbeats 4000000
namespace Ty
open PySem PySem.Spec PyProof.Rows L2
theorem Un.shrink {fs Ni ex:List Addr}{H H' :Hp}{h h' :Heap}(u:Un Ni ex H H' h h')(hs:∀b o,h.get? b=some o→b∈Ni →b∈fs):Un fs ex H H' h h' :=
 ⟨fun b o e n hb hx=>u.keep b o e n (fun z=>hb (hs b o e z)) hx,fun b o e n hb hx=>u.any e n hx,u.free,u.there,u.gs,u.gj,u.gu⟩
theorem pO {l:List Env}{H H' :Hp}{h h1 h2 B:Heap}(u:Un (h_ l) [] H H' h h1)(s1:B.StaysIn h1)(s2:B.StaysIn h2)(th:∀b o,h.get? b=some o→b∉h_ l→∃o',B.get? b=some o')
  (ff:h1.FunFrames B l) (up:h1.UpToSlots h2):Un (h_ l) [] H H' h h2:=by
 have inB:∀b o,h.get? b=some o→H b=none→b∉h_ l→B.get? b=some o:=fun b o e n hb=>by
  obtain ⟨o',eB⟩:=th b o e hb
  have z:=u.keep b o e n hb (by simp)
  rw [s1 b o' eB] at z
  cases z
  exact eB
 refine ⟨fun b o e n hb _=>s2 b o (inB b o e n hb),fun b o e n hb _=> ?_,fun b o e n _=>u.free b o e n (by simp),fun b o e _=> ?_,u.gs,u.gj,u.gu⟩
 ·obtain ⟨sl,e1⟩:=u.any e n (by simp)
  obtain ⟨_,o',e2,nf⟩:=ff.mem hb
  rw [e1] at e2
  cases e2
  obtain ⟨IW,e3⟩:=up b _ e1 nf
  exact ⟨IW,e3⟩
 ·by_cases hb:b∈h_ l
  ·obtain ⟨_,o',e2,nf⟩:=ff.mem hb
   obtain ⟨IW,e3⟩:=up b _ e2 nf
   exact ⟨_,e3⟩
  ·obtain ⟨o',eB⟩:=th b o e hb
   exact ⟨o',s2 b o' eB⟩
theorem mi {P:Program}{w:World}{H' :Hp}{h1 h2 B:Heap}(ok:fM P w H' h1)(s1:B.StaysIn h1)(s2:B.StaysIn h2)(tr:∀b u,H' b=some u→∃o,B.get? b=some o):fM P w H' h2:=fun b u e=>
 (ok b u e).jz (fun c v hc q=>by
  obtain ⟨o,eB⟩:∃o,B.get? c=some o:=by
   rcases hc with z | z
   ·rw [z]
    exact tr b u e
   ·exact tr c _ z
  rw [s1 c o eB] at q
  cases q
  exact s2 c _ eB) (fun _ q=>q) fun _ _ q=>q
theorem obj_some {P:Program}{w:World}{H:Hp}{h:Heap}{a:Addr}{o:HO}(x:bE P w H h a o):∃ob,h.get? a=some ob:=by
 cases o with
 | lst xs=>obtain ⟨_,_,_,_,e⟩:=x;exact ⟨_,e⟩
 | tup xs=>obtain ⟨_,_,_,ob,e,_⟩:=x;exact ⟨ob,e⟩
 | dK kvs=>obtain ⟨_,_,_,_,ob,_,_,e,_⟩:=x;exact ⟨ob,e⟩
 | dT kvs=>obtain ⟨_,_,_,_,ob,_,_,e,_⟩:=x;exact ⟨ob,e⟩
 | set S n=>obtain ⟨ob,_,_,_,e,_⟩:=x;exact ⟨ob,e⟩
 | ins C dx fs=>obtain ⟨_,_,_,e,_⟩:=x;exact ⟨_,e⟩
 | own y=>exact (show ∃o,h.get? a=some o from x)
 | xd fs=>obtain ⟨_,⟨od,_,_,e,_⟩,_⟩:=x;exact ⟨od,e⟩
 | VQ lo hi=>obtain ⟨_,_,_,e⟩:=x;exact ⟨_,e⟩
 | ip ob u=>exact ⟨ob,x.1⟩
 | IV ps=>exact ⟨_,x⟩
 | met f y=>exact ⟨_,x⟩
 | ext φ=>exact x.2.1
def DictAt (h:Heap)(a:Addr)(dx:Option Addr):Prop:=∃o,h.get? a=some o∧o.dict=dx
theorem DictAt.kd {h h' :Heap}{a:Addr}{dx:Option Addr}(d:DictAt h a dx)(k:KD h h'):DictAt h' a dx:=by
 obtain ⟨o,e,d⟩:=d
 obtain ⟨o',e',d'⟩:=k a o e
 exact ⟨o',e',d'.trans d⟩
def aX (P:Program)(w:World):jw:=fun outer H s E e s' =>∃(a:Addr) (cls a0:Value) (dx:Option Addr) (H' :Hp) (B:Heap),
 e=.ref a∧Heap.FlyingW B outer a cls a0 s'.heap∧DictAt s'.heap a dx∧Un (h_ outer) [] H H' s.heap s'.heap∧fM P w H' s'.heap∧s'.os=s.os∧AllBare s'.gens∧
 (∀b o,s.heap.get? b=some o→b∉h_ outer→∃o',B.get? b=some o')∧(∀b u,H' b=some u→∃o,B.get? b=some o)∧E cls dx H'
theorem aX.kG {P:Program}{w:World}:rQ (aX P w):=fun _ _ _ _ _ ⟨_,_,_,_,_,_,_,_,_,_,_,_,_,_,_,z⟩=>z
section
variable {P:Program}{w:World}{K:Frag}{mg:Str→Option Value}{base:Heap}{N:List Str}{qual:Str}{scope:Scope}{f:Addr}{bf:Value}{A:Around}{outer:List Env}{s0:Shared}{H0:Hp}{E:XK}
abbrev jx (P:Program)(w:World)(K:Frag)(mg:Str→Option Value)(base:Heap)(N:List Str)(qual:Str)(scope:Scope)(f:Addr)(bf:Value)(A:Around)(outer:List Env)(s0:Shared)(H0:Hp)(E:XK):Cx:=kD (aX P w) P w K mg base N qual scope f bf A outer s0 H0 E
theorem zV {pins:List (Addr×Obj)}{σ:L2.St}{H H' :Hp}{s s' :Shared}{a:Addr}{cls a0:Value}{dx:Option Addr}{B h2:Heap}(I:Inv (jx P w K mg base N qual scope f bf A outer s0 H0 E) pins σ H s)
  (fl:Heap.FlyingW B outer a cls a0 h2) (da:DictAt h2 a dx) (ff:s'.heap.FunFrames B (jx P w K mg base N qual scope f bf A outer s0 H0 E).stack) (st:B.StaysIn s'.heap)
  (un:Un (h_ (jx P w K mg base N qual scope f bf A outer s0 H0 E).stack) [] H H' s.heap s'.heap) (ok:fM P w H' s'.heap) (os:s'.os=s.os) (bare:AllBare s'.gens)
  (th:∀b o,s.heap.get? b=some o→b∉h_ (jx P w K mg base N qual scope f bf A outer s0 H0 E).stack→∃o',B.get? b=some o') (tr:∀b u,H' b=some u→∃o,B.get? b=some o) (up:s'.heap.UpToSlots h2) (hE:E cls dx H'):
  aX P w outer H0 s0 E (.ref a) {s' with heap:=h2}:=by
 have sh:∀b o,s0.heap.get? b=some o→b∈h_ (jx P w K mg base N qual scope f bf A outer s0 H0 E).stack→b∈h_ outer:=fun b o e hb=>by
  rcases afK.mp (I.oZ b hb) with z | z
  ·subst z
   exact absurd (afw (Heap.lt_size e) I.ok.above) (afY _)
  ·exact z
 have un2:=pO un st fl.1 th ff up
 have ub:Un (h_ (jx P w K mg base N qual scope f bf A outer s0 H0 E).stack) [] H0 H s0.heap s.heap:=I.base.mono (fun b hb=>by
  obtain ⟨env,he,hf⟩:=agf.mp hb
  exact agf.mpr ⟨env,aft _ he,hf⟩) fun _ z=>z
 refine ⟨a,cls,a0,dx,H',B,rfl,fl,da,Un.shrink (ub.trans un2) sh,mi ok st fl.1 tr,os.trans I.os,bare,fun b o e hb=> ?_,tr,hE⟩
 obtain ⟨o',e'⟩:=I.base.there b o e (fun z=>(nomatch (show b∈([]:List Addr) from z)))
 exact th b o' e' fun z=>hb (sh b o e z)
theorem EZ:Passes (aX P w) (jx P w K mg base N qual scope f bf A outer s0 H0 E) E:=fun pins σ H s e s' I q=>by
 obtain ⟨a,cls,a0,dx,H',B,rfl,fl,da,un,ok,os,bare,th,tr,hE⟩:=q
 show wpAny (model P w) (A.deeper (envOfC qual scope s0.heap.objs.size f bf)) (leaving (envOfC qual scope s0.heap.objs.size f bf) (.ref a)) _ _ s'
 refine wpAny_mono (Kp.any mh (wpAny_leaves_onW (outer:=outer) (Q:=fun _ s2=>∃h2,s2={s' with heap:=h2}∧B.FlyingW outer a cls a0 h2∧s'.heap.UpToSlots h2) (E:=fun _ _=>False) I.ok.frames rfl fl fun h2 Xt up=>⟨h2,rfl,Xt,up⟩)) (fun _ s2 z=> ?_) fun _ _ z=>z.elim
 obtain ⟨⟨h2,rfl,Xt,up⟩,kd⟩:=z
 exact zV I Xt (da.kd kd) fl.2.2.1 fl.1 un ok os bare th tr up hE
end
end Ty
set_option maxHeartbeats 4000000
namespace Ty
open PySem PySem.Spec PyProof.Rows L2
section
variable {X:Cx}{pins:List (Addr×Obj)}{σ:L2.St}{H H' :Hp}{s:Shared}
theorem lj {M:Model}{A:Around}{E:Value→Shared→Prop}{i:Nat}{x:Str}{pos:Pos}{Q:Unit→Shared→Prop}(I:Inv X pins σ H s)(hN:X.N.Nodup)(hi:X.N[i]? =some x)(hk:X.env.scope.names.lookup x=some .local)
  (h:∀s',Inv X pins (σ.set i none) H s' →Q () s'):wpAny M A (do bindName X.env x .none;unbindBehindTheSuite X.env x pos) Q E s:=by
 obtain ⟨m,hn,hl⟩:=id I.loc
 have yX:(X.env.scope.kind==.class || (X.env.scope.kind==.module && X.env.locals !=X.env.globals))=false:=by rw [I.ok.kind];rfl
 have VT:i < σ.length:=by rw [I.len];exact (ir.mp hi).1
 have yW:=I.yW
 refine wpAny_nameGoes_keeps hk hn yX fun h' v0 NS hs=> ?_
 obtain ⟨oL,_,_,hoL,_⟩:=id hn
 have tracked:fM X.prog X.w H h' :=fun b ob e=>by
  refine (I.bz b ob e).jz (fun c w' hc q=>(hs.2 c ?_).trans q) (fun _ q=>q) fun _ _ q=>q
  rintro rfl
  have rg:=I.free
  rcases hc with rfl | hc
  ·rw [rg] at e;cases e
  ·rw [rg] at hc;cases hc
 refine h _ ⟨I.ok,I.os,I.bare,⟨fun b o e n hb hx=> ?_,fun b o e n hb hx=> ?_,I.base.free,fun b o e hx=> ?_,I.base.gs,I.base.gj,I.base.gu⟩,⟨_,NS,fun j y v' e1 e2 e3=> ?_⟩,fun y c e=> ?_,I.free,I.dZ,fun p hp=> ?_,tracked,by simpa using I.len⟩
 ·exact (hs.2 b (afJ (afw (Heap.lt_size e) I.ok.above))).trans (I.base.keep b o e n hb hx)
 ·obtain ⟨sl,e1⟩:=I.base.slot b o e n hb hx
  exact ⟨sl,(hs.2 b (afJ (afw (Heap.lt_size e) I.ok.above))).trans e1⟩
 ·obtain ⟨o',e1⟩:=I.base.there b o e hx
  exact ⟨o',(hs.2 b (afJ (afw (Heap.lt_size e) I.ok.above))).trans e1⟩
 ·by_cases hj:j=i
  ·subst hj
   rw [agI VT] at e2
   cases e2
  ·rw [agY (afO hj)] at e2
   obtain ⟨u',r',q⟩:=hl j y v' e1 e2 e3
   refine ⟨u',r',?_⟩
   rcases q with ⟨k,e⟩ | ⟨k,c,e,z⟩
   ·refine .inl ⟨k,?_⟩
    have:y≠x:=fun e=>hj (dA hN e1 (e▸hi))
    simp [this,e]
   ·exact .inr ⟨k,c,e,z.sameBut hs (yW y c e)⟩
 ·obtain ⟨w',z⟩:=I.cell y c e
  exact ⟨w',z.sameBut hs (yW y c e)⟩
 ·obtain ⟨e,n,ne,nf,d⟩:=I.pin p hp
  exact ⟨(hs.2 p.1 ne).trans e,n,ne,nf,d⟩
abbrev Nl (X:Cx)(a:Addr):Cx:={X with A:=X.A.mark (some (.ref a)),calm:=false,xe:=fun _ _=>False}
theorem Lo {a:Addr}(ok:X.Ok):(Nl X a).Ok:=
 ⟨ok.mod,ok.kind,ok.glob,ok.blt,ok.above,ok.inj,ok.has,ok.Nj,fun z=>(nomatch z),ok.frames,ok.NP,ok.WQ,ok.bs,ok.DS,ok.wj,ok.yV,ok.jA,ok.IY⟩
theorem zW {a:Addr}(I:Inv X pins σ H s):Inv (Nl X a) pins σ H s:=⟨Lo I.ok,I.os,I.bare,I.base,I.loc,I.cell,I.free,I.dZ,I.pin,I.bz,I.len⟩
theorem pQ {a:Addr}(ok:X.Ok)(I:Inv (Nl X a) pins σ H s):Inv X pins σ H s:=⟨ok,I.os,I.bare,I.base,I.loc,I.cell,I.free,I.dZ,I.pin,I.bz,I.len⟩
theorem Oy {a:Addr}{o:HO}(I:Inv X pins σ H s)(fresh:∀ob,X.s₀.heap.get? a≠some ob)(hp:∀p∈X.pn++pins,p.1≠a)(hL:a≠X.env.locals)(hC:∀x c,X.env.cells.lookup x=some c→c≠a)(hn:H a=none)
  (new:bE X.prog X.w (upd H a o) s.heap a o):Inv X pins σ (upd H a o) s:=by
 have ne:∀b u,H b=some u→b≠a:=fun b u e z=>by rw [z,hn] at e;cases e
 refine ⟨I.ok,I.os,I.bare,⟨I.base.keep,I.base.slot,fun b ob e n hx=> ?_,I.base.there,fun b xs e=> ?_,fun b ob u e=> ?_,fun b ps e=> ?_⟩,I.loc,I.cell,?_,fun x c e=> ?_,fun p h=> ?_,fun b u e=> ?_,I.len⟩
 ·rw [aj (fun z=>fresh ob (by rw [← z];exact e))]
  exact I.base.free b ob e n hx
 ·have q:=I.base.gs b xs e
  rw [aj (ne _ _ q)]
  exact q
 ·have q:=I.base.gj b ob u e
  rw [aj (ne _ _ q)]
  exact q
 ·obtain ⟨more,q⟩:=I.base.gu b ps e
  exact ⟨more,by rw [aj (ne _ _ q)];exact q⟩
 ·rw [aj (afO hL)]
  exact I.free
 ·rw [aj (hC x c e)]
  exact I.dZ x c e
 ·obtain ⟨e,n,r⟩:=I.pin p h
  exact ⟨e,by rw [aj (hp p h)];exact n,r⟩
 ·by_cases z:b=a
  ·subst z
   rw [ai] at e
   cases e
   exact new
  ·rw [aj z] at e
   exact (I.bz b u e).jz (fun _ _ _ q=>q) (fun c q=>by rw [aj (ne _ _ q)];exact q) fun c xs q=>by rw [aj (ne _ _ q)];exact q
def kH (cls:Value)(a:Addr)(dx:Option Addr):HO:=.ext fun h=>∃o vs,h.get? a=some o∧o.cls=cls∧o.data=.fields vs∧o.dict=dx
theorem FA {P:Program}{w:World}{cls:Value}{a:Addr}{dx:Option Addr}{h:Heap}{o:Obj}{vs:Array Value}(e:h.get? a=some o)(hc:o.cls=cls)(hd:o.data=.fields vs)(hx:o.dict=dx):bE P w H h a (kH cls a dx):=
 ⟨⟨o,vs,e,hc,hd,hx⟩,⟨o,e⟩,fun _ _ ⟨o',eJ,q,c,d,x⟩ k=>⟨o',eJ,k _ q,c,d,x⟩⟩
structure Ld (X:Cx)(pins:List (Addr×Obj))(σ:L2.St)(H:Hp)(a:Addr)(cls:Value)(dx:Option Addr)(s:Shared):Prop where
 ex:∃(H0:Hp) (s0:Shared) (a0:Value) (B:Heap),Inv X pins σ H0 s0∧Heap.FlyingW B X.stack a cls a0 s.heap∧DictAt s.heap a dx∧Un (h_ X.stack) [] H0 H s0.heap s.heap∧fM X.prog X.w H s.heap∧s.os=s0.os∧AllBare s.gens∧
  (∀b o,s0.heap.get? b=some o→b∉h_ X.stack→∃o',B.get? b=some o')∧(∀b u,H b=some u→∃o,B.get? b=some o)
theorem Ld.inv {a:Addr}{cls:Value}{dx:Option Addr}(L:Ld X pins σ H a cls dx s):Inv X pins σ H s:=by
 obtain ⟨H0,s0,a0,B,I,fl,da,un,ok,os,bare,th,tr⟩:=L.ex
 exact I.vc (ch:=[]) os un ok bare fun b z=>absurd z (by simp)
theorem Ld.free {a:Addr}{cls:Value}{dx:Option Addr}(L:Ld X pins σ H a cls dx s):H a=none:=by
 obtain ⟨H0,s0,a0,B,I,fl,da,un,ok,os,bare,th,tr⟩:=L.ex
 cases q:H a with
 | none=>rfl
 | some u=>
  obtain ⟨o,e⟩:=tr a u q
  rw [fl.2.1] at e
  cases e
abbrev TH:=Value→Option Addr→Ends→L2.St→Hp→Prop
def PH (X:Cx)(hs:List ExceptHandler)(t:TH):Prop:=
 ∀(pins:List (Addr×Obj)) (s:Shared) (σ:L2.St) (H:Hp) (a:Addr) (cls:Value) (dx:Option Addr) (D:Ends),Ld X pins σ H a cls dx s→t cls dx D σ H→wpAny (model X.prog X.w) X.A (handleBy (.ref a) X.env hs) (SP X pins D) X.xe s
theorem zX:PH X [] (fun _ _ _ _ _=>False):=fun _ _ _ _ _ _ _ _ _ h=>h.elim
structure zY (X:Cx)(c:Str)(cv:Value):Prop where
 ld:∀(a:Addr) (pins:List (Addr×Obj)) (s:Shared) (σ:L2.St) (H:Hp) (np:Pos) (Q:Value→Shared→Prop) (E:Value→Shared→Prop),Inv (Nl X a) pins σ H s→Q cv s→wpAny (model X.prog X.w) (X.A.mark (some (.ref a))) (eval (.Name c np) X.env) Q E s
theorem zY.own {c:Str}{C:Addr}(hm:X.mg c=some (.ref C))(hg:Gl X c:=by rfl)(hd:(c==("__debug__":Str))=false:=by decide):zY X c (.ref C):=
 ⟨fun a pins s σ H np Q E I h=>dQ (X:=Nl X a) I hg hm h hd⟩
def tAs (i:Nat)(cv:Value)(K:Frag)(ts:TS)(tr:TH):TH:=fun cls dx D σ H=>∃b,PySem.W.exmOne K cls cv=some b∧
 if b=true then ∀a,H a=none→ts {nx:=fun σ2 H2=>D.nx (σ2.set i none) H2,rt:=D.rt,bk:=fun σ2 H2=>D.bk (σ2.set i none) H2,ct:=fun σ2 H2=>D.ct (σ2.set i none) H2} (σ.set i (some (.ref a))) (upd H a (kH cls a dx)) else tr cls dx D σ H
theorem JM {c n:Str}{cv:Value}{i:Nat}{b₀:Stmt}{JN:List Stmt}{np pos:Pos}{rest:List ExceptHandler}{ts:TS}{tr:TH}(hc:zY X c cv)(hN:X.N.Nodup)(hi:X.N[i]? =some n)(hk:X.env.scope.names.lookup n=some .local)
  (ht:∀a,PSs (Nl X a) (b₀::JN) ts) (hr:PH X rest tr) (hex:X.ex=[]:=by rfl):PH X (.ExceptHandler (some (.Name c np)) (some n) (b₀::JN) pos::rest) (tAs i cv X.K ts tr):=by
 intro pins s σ H a cls dx D L h
 obtain ⟨b,hb,h⟩:=h
 have I:=L.inv
 refine wpAny_handleBy_cons (codeAny_handlers_test (hc.ld a pins s σ H np _ _ (zW I) ?_)) (by intro q;cases q)
 obtain ⟨H0,s0,a0,B,I0,fl,da,un,ok,os,bare,th,tr'⟩:=L.ex
 obtain ⟨ob,hob,yX⟩:=fl.there
 have LT:PySem.W.Looks (model X.prog X.w) s.heap (typeOf (.ref a)) cls:=by
  subst yX
  exact (PySem.W.Looks.ld hob).andThen .now
 refine (PySem.W.exm_one I.dX LT hb).here ?_
 cases b with
 | false=>
  rw [if_neg afx] at h
  exact hr pins s σ H a cls dx D L h
 | true=>
  rw [if_pos rfl] at h
  refine codeAny_handlers_suite_as ?_
  refine wpAny_mono (Kp.any fT (lands_againW (Q:=fun _ s6=>∃h6,s6={s with heap:=h6}∧B.FlyingW X.stack a cls a0 h6∧s.heap.UpToSlots h6) (E:=fun _ _=>False) fl fun h6 Nn up=>⟨h6,rfl,Nn,up⟩)) (fun _ s6 z=> ?_) fun _ _ z=>z.elim
  obtain ⟨⟨h6,rfl,Nn,up⟩,kd⟩:=z
  have da6:DictAt h6 a dx:=da.kd kd
  have un6:=pO un fl.1 Nn.1 th fl.2.2.1 up
  have ok6:=mi ok fl.1 Nn.1 tr'
  have I6:Inv X pins σ H {s with heap:=h6}:=I0.vc (ch:=[]) os un6 ok6 bare fun b z=>absurd z (by simp)
  have fr:=L.free
  obtain ⟨oe,ws,Oz,Xu,FC,_⟩:=Nn.first
  have Xv:oe.dict=dx:=by
   obtain ⟨o',e',d'⟩:=da6
   rw [Oz] at e'
   cases e'
   exact d'
  have ne:∀b u,H b=some u→b≠a:=fun b u e z=>by rw [z,fr] at e;cases e
  have OA:∀o,s0.heap.get? a≠some o:=fun o e=>by
   by_cases hb:a∈h_ X.stack
   ·obtain ⟨_,o',e',nf⟩:=Nn.2.2.1.mem hb
    rw [Oz] at e'
    cases e'
    exact nf _ FC
   ·obtain ⟨o',eB⟩:=th a o e hb
    rw [fl.2.1] at eB
    cases eB
  have I7:Inv X pins σ (upd H a (kH cls a dx)) {s with heap:=h6}:=by
   refine Oy I6 (fun o e=> ?_) (fun p hp z=> ?_) (fun z=> ?_) (fun x c e z=> ?_) fr (FA Oz Xu FC Xv)
   ·obtain ⟨o',e'⟩:=I0.base.there a o e (by rw [hex];simp)
    exact OA o' e'
   ·have q:=(I0.pin p hp).1
    rw [z] at q
    exact OA _ q
   ·obtain ⟨m,⟨oL,es,ep,ho,hd,_⟩,_⟩:=I6.loc
    rw [← z,show ({s with heap:=h6}:Shared).heap.get? a=some oe from Oz] at ho
    cases ho
    rw [FC] at hd
    cases hd
   ·obtain ⟨v,⟨oc,ho,hd⟩⟩:=I6.cell x c e
    rw [z,show ({s with heap:=h6}:Shared).heap.get? a=some oe from Oz] at ho
    cases ho
    rw [FC] at hd
    cases hd
  refine gv I7 hN hi (.inl hk) (v:=.ref a) (u:=.ref a) rfl (fun s8 I8=> ?_) (.inr hk)
  refine wpAny_mono (ht a pins s8 _ _ _ (zW I8) (h a fr)) (fun f s9 q=> ?_) fun _ _ z=>z.elim
  cases f with
  | next=>
   obtain ⟨σ2,H2,J,q⟩:=q
   exact lj (pQ I0.ok J) hN hi hk fun s' J' =>⟨_,_,J',q⟩
  | brk=>
   obtain ⟨σ2,H2,J,q⟩:=q
   exact lj (pQ I0.ok J) hN hi hk fun s' J' =>⟨_,_,J',q⟩
  | cont=>
   obtain ⟨σ2,H2,J,q⟩:=q
   exact lj (pQ I0.ok J) hN hi hk fun s' J' =>⟨_,_,J',q⟩
  | ret u=>
   obtain ⟨v,σ2,H2,J,r,q⟩:=q
   exact lj (pQ I0.ok J) hN hi hk fun s' J' =>⟨v,_,_,J',r,q⟩
def XP (X:Cx)(pins:List (Addr×Obj))(σ:L2.St)(E:XK)(e:Value)(s' :Shared):Prop:=∃H s,Inv X pins σ H s∧aX X.prog X.w X.stack H s E e s'
abbrev TEx:=L2.St→Hp→VK→XK→Prop
abbrev TSx:=Ends→(L2.St→XK)→L2.St→Hp→Prop
def PEx (X:Cx)(e:Expr)(t:TEx):Prop:=
 ∀(pins:List (Addr×Obj)) (s:Shared) (σ:L2.St) (H:Hp) (Q:VK) (E:XK),Inv X pins σ H s→t σ H Q E→wpAny (model X.prog X.w) X.A (eval e X.env) (EP X pins σ Q) (XP X pins σ E) s
def PSx (X:Cx)(st:Stmt)(t:TSx):Prop:=
 ∀(pins:List (Addr×Obj)) (s:Shared) (σ:L2.St) (H:Hp) (D:Ends) (E:L2.St→XK),Inv X pins σ H s→t D E σ H→wpAny (model X.prog X.w) X.A (exec st X.env) (SP X pins D) (fun e s' =>∃σ',XP X pins σ' (E σ') e s') s
theorem JO {k:Nat}{ps:List Str}{sp:Sp}{x:Str}{p pos:Pos}{e:Expr}{es:List Expr}{t:TA}(F:Fn X.prog X.w X.K X.mg X.base (aX X.prog X.w) k x ps sp)(hr:bY k X.A)(ha:PA X.tN (e::es) t)(hg:Gl X x:=by rfl)(rB:(x==("__debug__":Str))=false:=by decide)
  (he:starEach (e::es) X.env=(false,eval e X.env)::starEach es X.env:=by rfl) (q4:(backTo pos (starEach es X.env)).any (·.1)=false:=by rfl):
  PEx X (.Call (.Name x p) (e::es) [] pos) (fun σ H Q E=>t σ H fun vs H1=>sp vs H1 Q E):=by
 intro pins s σ H Q E I h
 obtain ⟨f,fd,G,b,m,kp⟩:=F.ex
 refine wpAny_Call_Name_kw (dQ I hg m ?_ rB)
 refine PySem.W.callWith_K (h₀:=X.base) I.ok.mod.IX kp (wpAny_mono (ha pos pins s σ H _ (I.kA _) h) (fun us s1 ⟨vs,H1,I1,r,q⟩=>⟨I1.dX,?_⟩) fun _ _ z=>z.elim) he q4
 have I2:Inv X pins σ H1 s1:=I1.fe
 have hl:us.length=ps.length:=by rw [← r.length];exact G.len _ _ _ _ q
 have bt:=b s1 us I2.dX (by rw [agc];exact hl)
 rw [agc] at bt
 refine wpAny_call (codeAny_mono (G.run X.A X.stack s1 H1 ⟨us,[]⟩ us vs Q E hr I2.EN bt r q) fun r s' hq=> ?_)
 cases r with
 | error e=>exact ⟨H1,s1,I2,hq⟩
 | ok fl=>
  cases fl with
  | ret u=>exact I2.after hq
  | next=>exact False.elim hq
  | brk=>exact False.elim hq
  | cont=>exact False.elim hq
theorem rT {e:Expr}{te:TEx}{pos:Pos}(he:PEx X e te)(hs:swapsWith e none pos.line X.env=pure false:=by rfl):PSx X (.Expr e pos) (fun D E σ H=>te σ H (fun _ H1=>D.nx σ H1) (E σ)):=by
 intro pins s σ H D E I h
 refine wpAny_Expr_any (wpAny_mono (he pins s σ H _ _ I h) (fun v s1 z=> ?_) fun e s' z=>⟨σ,z⟩) I.quiet hs
 obtain ⟨y,H1,I1,r1,q1⟩:=z
 exact ⟨σ,H1,I1,q1⟩
theorem zZ {st:Stmt}{h₀:ExceptHandler}{hs:List ExceptHandler}{pos:Pos}{tb:TSx}{th:TH}(FD:X.stack=X.env::X.outer∧X.env.frame=some X.env.locals)(hb:PSx X st tb)(hh:PH X (h₀::hs) th):
  PS X (.Try [st] (h₀::hs) [] [] pos) (fun D σ H=>tb D (fun σ' cls dx H' =>th cls dx D σ' H') σ H):=by
 intro pins s σ H D I h
 refine wpAny_Try_except (wpAny_execs_cons (wpAny_mono (hb pins s σ H D _ I h) (fun f s1 q=> ?_) fun e s1 z=> ?_))
 ·cases f with
  | next=>exact wpAny_execs_nil (wpAny_execs_nil q)
  | ret v=>exact q
  | brk=>exact q
  | cont=>exact q
 ·obtain ⟨σ',H0,s0,I0,a,cls,a0,dx,H',B,rfl,fl,da,un,ok,os,bare,th',tr,hE⟩:=z
  have fl' :=fl
  rw [FD.1] at fl'
  have hfr:X.A.frames=some (X.env::X.outer):=by rw [← FD.1];exact I.ok.frames
  refine wpAny_mono (Kp.any iY (wpAny_looks_onW (Q:=fun _ s4=>∃h4,s4={s1 with heap:=h4}∧B.HeldW (X.env::X.outer) a cls a0 X.env.locals h4∧s1.heap.UpToSlots h4) (E:=fun _ _=>False) hfr FD.2 fl' fun h4 z4 Xw=>⟨h4,rfl,z4,Xw⟩)) (fun _ s4 z=> ?_) fun _ _ z=>z.elim
  obtain ⟨⟨h4,rfl,z4,Xw⟩,kd4⟩:=z
  refine wpAny_mono (Kp.any fT (wpAny_landsW (s:={s1 with heap:=h4}) (Q:=fun _ s5=>∃h5,s5={s1 with heap:=h5}∧B.FlyingW (X.env::X.outer) a cls a0 h5∧h4.UpToSlots h5) (E:=fun _ _=>False) z4 fun h5 Np Xx=>⟨h5,rfl,Np,Xx⟩)) (fun _ s5 z=> ?_) fun _ _ z=>z.elim
  obtain ⟨⟨h5,rfl,Np,Xx⟩,kd5⟩:=z
  have da5:DictAt h5 a dx:=(da.kd kd4).kd kd5
  rw [← FD.1] at Np
  have up:=Xw.trans Xx
  exact hh pins {s1 with heap:=h5} σ' H' a cls dx D ⟨H0,s0,a0,B,I0,Np,da5,pO un fl.1 Np.1 th' fl.2.2.1 up,mi ok fl.1 Np.1 tr,os,bare,th',tr⟩ hE
end
end Ty
set_option maxHeartbeats 4000000
namespace TyExc
open PySem PySem.W PySem.Calls PyProof.Rows Builtin Builtin.ObjectAttr Builtin.Getset_descriptor
structure gG (K:Frag)(C:Addr):Prop where
 ga:findIn K (.ref C) "__getattribute__"=some (some (.builtin "BaseException.__getattribute__"))
 gt:findIn K (.ref C) "__getattr__"=some none
 cl:findIn K (.ref C) "__class__"=some (some (.builtin "object.__class__"))
 mo:mroIn K C (.type "object")=some true
 mb:mroIn K C (.type "BaseException")=some true
 is:(clsIn K C).isSome=true
section
variable {prog:Program}{w:World}{A:Around}{E:Value→Shared→Prop}{K:Frag}{h:Heap}{g:Array GenState}{d:Drawn}{t:Nat}{os:OsState}{a C:Addr}{o:Obj}
theorem dR {M:Model}(hx:h.get? a=some o)(hc:o.cls=.ref C):Looks M h (typeOf (.ref a)) (.ref C):=by
 subst_vars
 rw [← hc]
 exact (Looks.ld hx).andThen .now
theorem nH {R:Result→Shared→Prop}{tp:Value}(X:K.In h)(F:gG K C)(hx:h.get? a=some o)(hc:o.cls=.ref C)
  (hq:R (.ok (.ret (.ref C))) ⟨h,g,d,t,os⟩):codeAny (model prog w) A (.call (.builtin "getset_descriptor.__get__") ⟨[.builtin "object.__class__",.ref a,tp],[]⟩) R ⟨h,g,d,t,os⟩:=by
 have L0:=dR (M:=model prog w) hx hc
 have L1:=looks_mroIn (M:=model prog w) X F.mo
 refine codeAny_call_builtin KF.slot_gs.plain KF.entry_gs (KF.slot_gs.check _ _ _ _ _ _ _ _ KF.type_class (KF.args_gs _ _ _) ?_)
 unfold Builtin.«getset_descriptor.__get__» descrGet
 rw [dga_obj]
 refine wpAny_bind (wpAny_pure ?_)
 unfold descrGetter descrCheckInstance descrNameAndClass isInstance
 simp only [KF.owner_class]
 repeat lk
 refine ⟨Code.quiet_builtin _ (by decide+kernel),codeAny_builtin KF.entry_class ?_⟩
 unfold Builtin.«object.__class__» shownTypeOf
 repeat lk
 exact hq
theorem iZ {M:Model}{JP:Value}{Q:Unit→Shared→Prop}(X:K.In h)(F:gG K C)(hx:h.get? a=some o)(hc:o.cls=.ref C)
  (hq:Q () ⟨h,g,d,t,os⟩):wpAny M A (checkBuiltinCall "BaseException.__getattribute__" ⟨[.ref a,JP],[]⟩) Q E ⟨h,g,d,t,os⟩:=by
 have hk:builtinKind "BaseException.__getattribute__"=some .slot:=by decide+kernel
 have Lp:splitId "BaseException.__getattribute__"=some ("BaseException","__getattribute__"):=by decide+kernel
 have ha:=PySem.F.args_bexc_ga (.ref a) JP
 have L0:=dR (M:=M) hx hc
 have L1:=looks_mroIn (M:=M) X F.mb
 simp only [checkBuiltinCall,hk,Lp]
 refine wpAny_bind ?_
 ·unfold isInstance
  repeat (first | lk | wp_step)
  exact hq
theorem kI {tk:Tok}{Q:Fin→Shared→Prop}(X:K.In h)(F:gG K C)(hx:h.get? a=some o)(hc:o.cls=.ref C)
  (hq:Q (.done (.ret (.ref C))) ⟨h,g,d,t,os⟩):wpAny (model prog w) A (Builtin.«object.__getattribute__» ⟨[.ref a,.str "__class__" tk],[]⟩) Q E ⟨h,g,d,t,os⟩:=by
 have L0:=dR (M:=model prog w) hx hc
 have L1:=looks_findIn (M:=model prog w) X F.cl
 have hT5:(⟨h,g,d,t,os⟩:Shared).TypeIs (.builtin "object.__class__") "getset_descriptor":=PySem.F.typeOf_object_class
 have f5:=PySem.F.typeOf_object_class
 have f6:=PySem.F.slot_gs_get.lookup
 have f7:=PySem.F.slot_gs_set.lookup
 repeat (any_goals (first | assumption | with_reducible refine L1.at ?_ | with_reducible refine L0.at ?_ | (with_reducible refine wpAny_loadPart_at hx ?_;rw [hc]) | wp_step))
 refine nH X F hx hc ?_
 repeat (any_goals (first | assumption | wp_step))
theorem mj {tk:Tok}{R:Result→Shared→Prop}(X:K.In h)(F:gG K C)(hx:h.get? a=some o)(hc:o.cls=.ref C)
  (hq:R (.ok (.ret (.ref C))) ⟨h,g,d,t,os⟩):codeAny (model prog w) A (.call (.builtin "BaseException.__getattribute__") ⟨[.ref a,.str "__class__" tk],[]⟩) R ⟨h,g,d,t,os⟩:=
 codeAny_call_builtin PySem.F.attr_ValueError.ga.plain PySem.F.entry_bexc_ga (iZ X F hx hc (kI X F hx hc hq))
theorem pR {tk:Tok}{Q:Value→Shared→Prop}(X:K.In h)(F:gG K C)(hx:h.get? a=some o)(hc:o.cls=.ref C)
  (hq:Q (.ref C) ⟨h,g,d,t,os⟩):wpAny (model prog w) A (getAttrBy (.ref a) (.str "__class__" tk) false) Q E ⟨h,g,d,t,os⟩:=by
 have L0:=dR (M:=model prog w) hx hc
 have L1:=looks_findIn (M:=model prog w) X F.ga
 have L2:=looks_findIn (M:=model prog w) X F.gt
 have f3:=PySem.F.attr_ValueError.ga.bind (.ref a)
 have wK:(Value.builtin "BaseException.__getattribute__"==Value.builtin "object.__getattribute__")=false:=by decide+kernel
 have OB:(onTheHeap (Value.ref C) && Value.builtin "BaseException.__getattribute__"==Value.builtin "object.__getattribute__")=false:=by rw [wK];rfl
 repeat (any_goals (first | assumption | with_reducible refine L1.at ?_ | with_reducible refine L2.at ?_ | with_reducible refine L0.at ?_ | (with_reducible refine wpAny_loadPart_at hx ?_;rw [hc]) | wp_step))
 refine mj X F hx hc ?_
 repeat (any_goals (first | assumption | wp_step))
theorem ml {Q:Option Value→Shared→Prop}(X:K.In h)(F:gG K C)(hx:h.get? a=some o)(hc:o.cls=.ref C)
  (hq:Q (some (.ref C)) ⟨h,g,d,t+1,os⟩):wpAny (model prog w) A (getAttr? (.ref a) "__class__") Q E ⟨h,g,d,t,os⟩:=by
 unfold getAttr? getAttrBy?
 repeat (any_goals (first | assumption | with_reducible apply pR X F hx hc | wp_step))
end
def ExcAt (a C:Addr)(h:Heap):Prop:=∃o vs,h.get? a=some o∧o.cls=.ref C∧o.data=.fields vs
theorem z5 {K:Frag}{a C:Addr}(F:gG K C):KitX K (.ref a) (.ref C) (ExcAt a C) where
 ty:=fun M h _ ⟨o,vs,hx,hc,_⟩=>dR hx hc
 it:=fun M h X _=>by
  have q:=F.is
  unfold clsIn at q
  split at q
  ·rename_i c' d' cd' IW ho
   intro A' Q' E' s' k q
   unfold isType loadHead
   exact wpAny_bind (wpAny_loadPart (k _ _ (X _ _ ho)) (wpAny_pure q))
  ·cases q
 ne:=fun h tp dd its n sl X htp=>by
  have q:=F.is
  refine agv.mpr fun z=> ?_
  have e:C=tp:=Value.ref.inj (beq_iff_eq.mp z)
  subst e
  unfold clsIn at q
  split at q
  ·rename_i c' d' cd' IW ho
   have z:=(X _ _ ho).symm.trans htp
   cases z
  ·cases q
 ca:=fun {prog w A E Q s} X p k=>by
  obtain ⟨h,g,d,t,os⟩:=s
  obtain ⟨o,vs,hx,hc,_⟩:=p
  exact ml X F hx hc k
end TyExc
set_option maxHeartbeats 4000000
namespace Ty
open PySem PySem.Spec PyProof.Rows L2
section
variable {X:Cx}
inductive JQ (K:Frag)(xs:List V)(H:Hp)(Q:VK):Prop where
 | mk (a C c b dx:_) (_:xs=[.ref a,c]) (_:zO c=true) (_:H a=some (kH (.ref C) a dx)) (_:TyExc.gG K C) (_:PySem.W.kitOne K (.ref C) (EY c)=some b) (_:Q (.bl b) H):JQ K xs H Q
theorem gW {K:Frag}(hK:X.K=K):eO X (.builtin "isinstance") (JQ K):=by
 subst hK
 intro pins s σ H xs us Q I r h
 obtain ⟨a,C,c,b,dx,rfl,hc,ha,F,e,q⟩:=h
 obtain ⟨u,w,rfl,r1,r2⟩:=vals2 r
 obtain rfl:=pJ hc r2
 cases r1
 obtain ⟨⟨o,vs,p1,p2,p3,_⟩,_⟩:=(show bE X.prog X.w H s.heap a (kH (.ref C) a dx) from I.bz a _ ha)
 exact PySem.W.kia_one (TyExc.z5 F) I.dX ⟨o,vs,p1,p2,p3⟩ e (fun z=>nomatch z) fun tk=>⟨.bl b,H,I.tok tk,rfl,q⟩
theorem uk {x:Str}{C:Addr}{pos:Pos}(hg:Gl X x)(hm:X.mg x=some (.ref C))(hd:(x==("__debug__":Str))=false:=by decide):PE X (.Name x pos) (tC (.ref C)):=gR (v:=.ref C) hg hm rfl hd
end
theorem Def.okX {P:Program}{w:World}{K:Frag}{mg:Str→Option Value}{base:Heap}{x:Str}{st:Stmt}{N ps:List Str}{k:Nat}{sp:Sp}(D:Def K mg x st ps)(S:ay N ps (af st))(len:∀vs H Q E,sp vs H Q E→vs.length=ps.length)
  (gB:∀(f:Addr) (bf:Value) (A:Around) (outer:List Env) (s:Shared) (H:Hp) (vs:List V) (Q:VK) (E:XK),bY k (A.deeper (envOfC x (af st) s.heap.objs.size f bf))→sp vs H Q E→
   ∃t,PSs (jx P w K mg base N x (af st) f bf A outer s H E) (ar st) t∧t {nx:=fun _ H' =>Q .cj H',rt:=Q} (start N vs) H):Fn P w K mg base (aX P w) (k+1) x ps sp:=by
 obtain ⟨f,dV,oc,od,kV,doc,pm,an,bf,ct,jF,lk,lL,kp,b,m⟩:=D.ex
 exact ⟨f,_,rF lk lL S len fun A outer s H vs Q E hr q5=>gB f bf A outer s H vs Q E hr q5,b,m,kp⟩
end Ty
set_option maxHeartbeats 4000000
namespace TyExc
open PySem PySem.W PySem.Calls PyProof.Rows Builtin Builtin.ObjectAttr Builtin.Getset_descriptor
section
variable {prog:Program}{w:World}{A:Around}{E:Value→Shared→Prop}{K:Frag}{h:Heap}{g:Array GenState}{d:Drawn}{t:Nat}{os:OsState}{a C:Addr}{o:Obj}{od:Option Obj}{name:Str}{v:Value}
theorem wL {tk:Tok}{Q:Fin→Shared→Prop}(X:K.In h)(I:InstAt h a o C od)(hf:findObj K C od name=some (.value v))
  (hq:Q (.done (.ret v)) ⟨h,g,d,t,os⟩):wpAny (model prog w) A (Builtin.«object.__getattribute__» ⟨[.ref a,.str name tk],[]⟩) Q E ⟨h,g,d,t,os⟩:=by
 have L0:=InstAt.type (M:=model prog w) I
 have L1:=looks_find (M:=model prog w) X I hf
 repeat (any_goals (first | assumption | with_reducible refine L1.at ?_ | with_reducible refine L0.at ?_ | wp_step))
theorem z6 {tk:Tok}{R:Result→Shared→Prop}(X:K.In h)(F:gG K C)(I:InstAt h a o C od)(hf:findObj K C od name=some (.value v))
  (hq:R (.ok (.ret v)) ⟨h,g,d,t,os⟩):codeAny (model prog w) A (.call (.builtin "BaseException.__getattribute__") ⟨[.ref a,.str name tk],[]⟩) R ⟨h,g,d,t,os⟩:=
 codeAny_call_builtin PySem.F.attr_ValueError.ga.plain PySem.F.entry_bexc_ga (iZ X F I.at_ I.cls (wL X I hf hq))
theorem Lq {tk:Tok}{fill expr:Bool}{Q:Value→Shared→Prop}(X:K.In h)(F:gG K C)(I:InstAt h a o C od)(hf:findObj K C od name=some (.value v))(hh:handedIn v=true)
  (hq:Q v ⟨h,g,d,t,os⟩):wpAny (model prog w) A (getAttrBy (.ref a) (.str name tk) fill expr) Q E ⟨h,g,d,t,os⟩:=by
 have hx:=I.at_
 have hc:=I.cls
 have L0:=dR (M:=model prog w) hx hc
 have L1:=looks_findIn (M:=model prog w) X F.ga
 have L2:=looks_findIn (M:=model prog w) X F.gt
 have f3:=PySem.F.attr_ValueError.ga.bind (.ref a)
 have wK:(Value.builtin "BaseException.__getattribute__"==Value.builtin "object.__getattribute__")=false:=by decide+kernel
 have OB:(onTheHeap (Value.ref C) && Value.builtin "BaseException.__getattribute__"==Value.builtin "object.__getattribute__")=false:=by rw [wK];rfl
 have ho:=handedOut_of hh
 repeat (any_goals (first | assumption | with_reducible refine L1.at ?_ | with_reducible refine L2.at ?_ | with_reducible refine L0.at ?_ | (with_reducible refine wpAny_loadPart_at hx ?_;rw [hc]) | wp_step))
 have Xy:(expr && onTheHeap (Value.builtin "BaseException.__getattribute__"))=false:=by cases expr <;> rfl
 rw [Xy]
 repeat (any_goals (first | assumption | wp_step))
 refine z6 X F I hf ?_
 repeat (any_goals (first | assumption | (rw [ho];refine wpAny_pure ?_) | wp_step))
theorem rV {b:Bool}{s:Shared}{Q:Value→Shared→Prop}(X:K.In s.heap)(F:gG K C)(I:InstAt s.heap a o C od)(hf:findObj K C od name=some (.value v))(hh:handedIn v=true)
  (hq:Q v {s with toks:=s.toks+1}):wpAny (model prog w) A (getAttr (.ref a) name b) Q E s:=by
 obtain ⟨h,g,d,t,os⟩:=s
 unfold getAttr
 refine wpAny_bind (wpAny_mkText ?_)
 exact Lq X F I hf hh hq
end
end TyExc
set_option maxHeartbeats 4000000
namespace TyExc
open PySem PySem.W PySem.Calls PyProof.Rows Builtin Builtin.ObjectAttr
def OC:Value→Bool
 | .ref _=>true
 | _=>false
def iz (l:List Value):Bool:=l.dropWhile OC==[.type "ValueError",.type "Exception",.type "BaseException",.type "object"]
theorem ka {self:Value}{OD:Str}:∀l:List Value,refuseLoop self OD l=refuseLoop self OD (l.dropWhile OC)
 | []=>rfl
 | v::l=>by
  cases v with
  | ref a=>
   rw [refuseLoop_ref,ka l]
   rfl
  | _=>rfl
theorem nI {self:Value}{l:List Value}(h:iz l=true):refuseLoop self "__setattr__" l=pure ():=by
 rw [ka,beq_iff_eq.mp h]
 exact PySem.F.store_ValueError.passes self
section
variable {prog:Program}{w:World}{A:Around}{E:Value→Shared→Prop}{K:Frag}{s:Shared}{x C:Addr}{ox:Obj}{od:Option Obj}{name:Str}{v:Value}{cd:ClassData}
theorem vw {tk:Tok}{R:Result→Shared→Prop}(X:K.In s.heap)(I:InstAt s.heap x ox C od)(F:gG K C)(hc:clsIn K C=some cd)(ho:iz cd.mro=true)(hn:findIn K (.ref C) name=some none)
  (h:wpAny (model prog w) A.in1 (storeInOwnDict (.ref x) (.ref C) (.str name tk) name v false) (fun fin s' =>match fin with | .done f=>R (.ok f) s' | .again c' =>c'.quiet=true∧codeAny (model prog w) A c' R s') (fun e s' =>R (.error e) s') s):
  codeAny (model prog w) A (.call (.builtin "object.__setattr__") ⟨[.ref x,.str name tk,v],[]⟩) R s:=by
 have SF:=PySem.F.store_object
 have L0:=InstAt.type (M:=model prog w) I
 have sub:=L0.andThen (f:=fun tp=>isSubtype tp (.type "object")) (looks_mroIn (M:=model prog w) X F.mo)
 refine codeAny_call_builtin SF.slot.plain SF.entry (check_slot SF.kind SF.split sub (SF.args _ _ _) ?_)
 have hm:Looks (model prog w) s.heap (mroOf (.ref C)) cd.mro:=(looks_clsIn X hc).andThen .now
 have L1:=looks_findIn (M:=model prog w) X hn
 unfold Builtin.«object.__setattr__»
 dsimp only
 rw [refuse_eq]
 have e:=nI (self:=.ref x) ho
 refine wpAny_ite_false rfl ?_
 refine wpAny_bind (wpAny_bind (L0.here (wpAny_bind (hm.here ?_))))
 rw [e]
 refine wpAny_pure ?_
 repeat (any_goals (first | assumption | with_reducible refine L1.at ?_ | with_reducible refine L0.at ?_ | wp_step))
theorem pS {vs:Array Value}{Q:Unit→Shared→Prop}(X:K.In s.heap)(hx:s.heap.get? x=some ox)(pT:ox.cls=.ref C)(wM:ox.data=.fields vs)(Lr:ox.dict=none)(F:gG K C)
  (hs:findIn K (.ref C) "__setattr__"=some (some (.builtin "object.__setattr__"))) (hc:clsIn K C=some cd) (hh:cd.hasDict=true) (ho:iz cd.mro=true) (hn:findIn K (.ref C) name=some none)
  (h:∀h' tk,h'.get? x=some {ox with dict:=some s.heap.objs.size}→h'.Ns1 s.heap.objs.size (fun y=>if y=name then some v else none)→(∀b o,b≠x→s.heap.get? b=some o→h'.get? b=some o)→Q () {s with heap:=h',toks:=tk}):
  wpAny (model prog w) A (setAttr (.ref x) name v) Q E s:=by
 have I:InstAt s.heap x ox C none:=⟨hx,pT,by unfold notCls;rw [wM],by rw [Lr];trivial⟩
 refine set_plain X I hs (vw (s:={s with toks:=s.toks+1}) X I F hc ho hn ?_)
 have L2:=looks_clsIn (M:=model prog w) X hc
 obtain ⟨oc,odi,odt,jF⟩:=ox
 dsimp only at pT wM Lr
 subst pT wM Lr
 unfold storeInOwnDict
 refine wpAny_bind (wpAny_pure ?_)
 dsimp only
 refine wpAny_ite_false rfl ?_
 refine wpAny_bind ?_
 unfold ownDictForStores instanceDict
 dsimp only
 refine wpAny_bind (wpAny_loadPart hx ?_)
 dsimp only
 refine wpAny_bind (L2.here (s:={s with toks:=s.toks+1}) ?_)
 rw [hh]
 refine wpAny_ite_false rfl ?_
 refine wpAny_ite_false rfl ?_
 refine wpAny_bind (wpAny_alloc ?_)
 have wK:(s.heap.push {cls:=Value.type "dict",data:=Data.dict #[]}).get? x=some ⟨.ref C,none,.fields vs,jF⟩:=Heap.get?_push_of_some _ hx
 refine wpAny_bind (wpAny_update wK ?_)
 refine wpAny_pure ?_
 have ne:s.heap.objs.size≠x:=fun z=>by have:=Heap.lt_size hx;rw [← z] at this;exact afY _ this
 have e1:(s.heap.push {cls:=Value.type "dict",data:=Data.dict #[]}).get? s.heap.objs.size=some {cls:=Value.type "dict",data:=Data.dict #[]}:=Heap.get?_push_size s.heap rfl
 generalize hH:(s.heap.push {cls:=Value.type "dict",data:=Data.dict #[]}).update x (fun o=>{cls:=o.cls,dict:=some s.heap.objs.size,data:=o.data,slots:=o.slots})=h2
 have e2:h2.get? s.heap.objs.size=some {cls:=Value.type "dict",data:=Data.dict #[]}:=by rw [← hH];exact (Heap.get?_update_other _ _ (afO ne)).trans e1
 have x2:h2.get? x=some ⟨.ref C,some s.heap.objs.size,.fields vs,jF⟩:=by rw [← hH];exact Heap.get?_update_self _ wK rfl
 have k2:∀b o,b≠x→s.heap.get? b=some o→h2.get? b=some o:=fun b o n e=>by rw [← hH];exact (Heap.get?_update_other _ _ (afO n)).trans (Heap.get?_push_of_some _ e)
 have n2:h2.Ns s.heap.objs.size (fun _=>none):=⟨_, #[],_,e2,rfl,(fun e he=>absurd he (by simp)),fun _=>rfl⟩
 have n3:=Heap.Ns1.of_empty n2
 dsimp only
 unfold storeInDict
 refine wpAny_bind (wpAny_pure (wpAny_bind ?_))
 refine wpAny_nsSet1 (s:={s with heap:=h2,toks:=s.toks+1}) n3 fun h' yN tY=> ?_
 obtain ⟨oD,VZ,V0,N6,N7,N8⟩:=yN.count (PySem.Within.cons name v (ns:=[]) (fun y hy=>absurd rfl hy))
 refine wpAny_bind (wpAny_lookBehind N6 (by rw [N7];exact pastItsLine_dict (ac_ N8 (Nat.le_add_left 1 _))) ?_)
 refine wpAny_pure (h h' _ ((tY.2 _ (afO ne)).trans x2) yN fun b o n e=> ?_)
 exact (tY.2 b (fun z=>by have:=Heap.lt_size e;rw [z] at this;exact afY _ this)).trans (k2 b o n e)
theorem pU {vs:Array Value}{dx:Addr}{mA:Str→Option Value}{ns:List Str}{Q:Unit→Shared→Prop}(X:K.In s.heap)(hx:s.heap.get? x=some ox)(pT:ox.cls=.ref C)(wM:ox.data=.fields vs)(Lr:ox.dict=some dx)(yP:dx≠x)(Ol:s.heap.Ns1 dx mA)(hwi:PySem.Within mA ns)(hsz:ns.length≤sizeLine)(F:gG K C)
  (hs:findIn K (.ref C) "__setattr__"=some (some (.builtin "object.__setattr__"))) (hc:clsIn K C=some cd) (hh:cd.hasDict=true) (ho:iz cd.mro=true) (hn:findIn K (.ref C) name=some none)
  (h:∀h' tk,h'.Ns1 dx (fun y=>if y=name then some v else mA y)→Heap.SameBut dx s.heap h' →Q () {s with heap:=h',toks:=tk}):
  wpAny (model prog w) A (setAttr (.ref x) name v) Q E s:=by
 obtain ⟨od,eod⟩:∃od,s.heap.get? dx=some od:=by obtain ⟨o,_,_,e,_⟩:=Ol;exact ⟨o,e⟩
 have I:InstAt s.heap x ox C (some od):=⟨hx,pT,by unfold notCls;rw [wM],by rw [Lr];exact eod⟩
 refine set_plain X I hs (vw (s:={s with toks:=s.toks+1}) X I F hc ho hn ?_)
 have L2:=looks_clsIn (M:=model prog w) X hc
 obtain ⟨oc,odi,odt,jF⟩:=ox
 dsimp only at pT wM Lr
 subst pT wM Lr
 unfold storeInOwnDict
 refine wpAny_bind (wpAny_pure ?_)
 dsimp only
 refine wpAny_ite_false rfl ?_
 refine wpAny_bind ?_
 unfold ownDictForStores instanceDict
 dsimp only
 refine wpAny_bind (wpAny_loadPart hx ?_)
 dsimp only
 refine wpAny_bind (L2.here (s:={s with toks:=s.toks+1}) ?_)
 rw [hh]
 refine wpAny_ite_false rfl ?_
 refine wpAny_pure ?_
 dsimp only
 unfold storeInDict
 refine wpAny_bind (wpAny_pure (wpAny_bind ?_))
 refine wpAny_nsSet1 (s:={s with toks:=s.toks+1}) Ol fun h' yN tY=> ?_
 obtain ⟨oD,VZ,V0,N6,N7,N8⟩:=yN.count (PySem.Within.cons name v hwi)
 refine wpAny_bind (wpAny_lookBehind N6 (by rw [N7];exact pastItsLine_dict (ac_ N8 (by rw [afL];omega))) ?_)
 exact wpAny_pure (h h' _ yN tY)
end
end TyExc
set_option maxHeartbeats 400000
namespace TyExc
open PySem PySem.W PySem.Calls PyProof.Rows Builtin
section
variable {prog:Program}{w:World}{A:Around}{K:Frag}{h:Heap}{g:Array GenState}{d:Drawn}{t:Nat}{os:OsState}{e C:Addr}{oe:Obj}{vs:Array Value}{args:List Value}{E:Value→Shared→Prop}
theorem check_init {Q:Unit→Shared→Prop}(X:K.In h)(hx:h.get? e=some oe)(pT:oe.cls=.ref C)(hm:mroIn K C (.type "ValueError")=some true)(hi:(clsIn K C).isSome=true)
  (hq:Q () ⟨h,g,d,t,os⟩):wpAny (model prog w) A (checkBuiltinCall "ValueError.__init__" ⟨.ref e::args,[]⟩) Q E ⟨h,g,d,t,os⟩:=by
 have FB:=PySem.F.excBase_ValueError
 have L0:=dR (M:=model prog w) hx pT
 have L1:=looks_mroIn (M:=model prog w) X hm
 obtain ⟨cd,hc⟩:=agB.mp hi
 have L2:=looks_clsIn (M:=model prog w) X hc
 have fk:=FB.initKind
 have fs:=FB.initSplit
 have fr:=FB.initRow
 have Ls:=FB.noStar
 simp only [checkBuiltinCall,fk,fs,fr]
 refine wpAny_bind ?_
 unfold isInstance
 refine wpAny_bind (L0.here (L1.here ?_))
 refine wpAny_ite_false rfl ?_
 unfold Bind.checkArgs
 dsimp only
 refine wpAny_bind ?_
 unfold Bind.printed
 refine wpAny_ite_false (by decide+kernel) ?_
 unfold Bind.receiverType
 refine wpAny_bind (wpAny_ite_false rfl (L0.here ?_))
 unfold typeNameWhole
 refine wpAny_bind (wpAny_bind (L2.here (wpAny_pure (wpAny_pure ?_))))
 refine wpAny_bind (wpAny_ite_true Ls (wpAny_pure ?_))
 refine wpAny_onRaise ?_
 rw [agi,check_star_args]
 exact wpAny_pure hq
theorem init_exc {R:Result→Shared→Prop}(X:K.In h)(hx:h.get? e=some oe)(pT:oe.cls=.ref C)(wM:oe.data=.fields vs)(h0:0 < vs.size)(hm:mroIn K C (.type "ValueError")=some true)(hi:(clsIn K C).isSome=true)(hl:args.length≤sizeLine)
  (hq:∀h' eJ,h'.get? e=some {oe with data:=.fields eJ }→eJ.size=vs.size→eJ[1]? =vs[1]? →(∃tp,eJ[0]? =some (.ref tp))→(∀b o,b≠e→h.get? b=some o→h'.get? b=some o)→R (.ok (.ret .none)) ⟨h',g,d,t,os⟩):
  codeAny (model prog w) A (.call (.builtin "ValueError.__init__") ⟨.ref e::args,[]⟩) R ⟨h,g,d,t,os⟩:=by
 have FB:=PySem.F.excBase_ValueError
 refine codeAny_call_builtin FB.init.plain FB.initEntry (check_init X hx pT hm hi ?_)
 obtain ⟨c0,d0,dt,sl⟩:=oe
 dsimp only at pT wM
 subst pT wM
 obtain ⟨v0,ev0⟩:∃v0,vs[0]? =some v0:=⟨_,Array.getElem?_eq_getElem h0⟩
 unfold Builtin.«BaseException.__init__»
 dsimp only
 refine wpAny_ite_false rfl ?_
 refine wpAny_bind (wpAny_newTuple ?_ hl)
 have OB:(h.push {cls:=Value.type "tuple",data:=Data.seq args.toArray}).get? e=some ⟨.ref C,d0,.fields vs,sl⟩:=Heap.get?_push_of_some _ hx
 unfold Builtin.BaseException.bexcPut
 refine wpAny_bind (wpAny_bind (wpAny_field OB rfl ev0 (wpAny_bind (wpAny_setField OB rfl h0 ?_))))
 have wK:=Heap.get?_update_self (Obj.mapFields fun x=>x.setIfInBounds 0 (Value.ref h.objs.size)) OB rfl
 have fin:=hq ((h.push {cls:=Value.type "tuple",data:=Data.seq args.toArray}).update e (Obj.mapFields fun x=>x.setIfInBounds 0 (Value.ref h.objs.size))) (vs.setIfInBounds 0 (Value.ref h.objs.size)) wK (by simp) (by simp) ⟨h.objs.size,by simp [h0]⟩ (fun b o n e' =>(Heap.get?_update_other _ _ (afO n)).trans (Heap.get?_push_of_some _ e'))
 have done:wpAny (model prog w) A.in1 (ret Value.none) (fun fin s' =>match fin with | .done f=>R (.ok f) s' | .again c' =>c'.quiet=true∧codeAny (model prog w) A c' R s') (fun e s' =>R (.error e) s') ⟨(h.push {cls:=Value.type "tuple",data:=Data.seq args.toArray}).update e (Obj.mapFields fun x=>x.setIfInBounds 0 (Value.ref h.objs.size)),g,d,t,os⟩:=wpAny_pure fin
 cases v0 with
 | ref a=>exact wpAny_letGo done
 | _=>exact wpAny_pure done
end
end TyExc
set_option maxHeartbeats 400000
namespace TyExc
open PySem PySem.W PySem.Calls PyProof.Rows Builtin
section
variable {prog:Program}{w:World}{A:Around}{K:Frag}{h:Heap}{g:Array GenState}{d:Drawn}{t:Nat}{os:OsState}{nm q:Str}{C N f:Addr}{bs bm V3:List Value}{hdct:Bool}{sn:List Str}{sub:List Value}{ab:Bool}{col:Option Bool}{dd:Option Addr}{k0 k1 k2 k3 k5:Option Value}{B newId z7:String}{rest:List Value}{E:Value→Shared→Prop}
def cZ (h:Heap)(C:Addr)(rest:List Value):Heap:=(h.push {cls:=Value.type "tuple",data:=Data.seq rest.toArray}).push {cls:=Value.ref C,data:=Data.fields #[Value.ref h.objs.size,Value.none,Value.none,Value.none,Value.bool false,Value.none]}
theorem mm:(cZ h C rest).get? (h.objs.size+1)=some {cls:=Value.ref C,data:=Data.fields #[Value.ref h.objs.size,Value.none,Value.none,Value.none,Value.bool false,Value.none]}:=
 Heap.get?_push_at (by rw [Heap.size_push]) rfl
theorem fg {b:Addr}{o:Obj}(e:h.get? b=some o):(cZ h C rest).get? b=some o:=Heap.get?_push_of_some _ (Heap.get?_push_of_some _ e)
theorem nJ {Q:Fin→Shared→Prop}(F:ExcBaseFacts B newId z7 V3)(T:OwnTail h V3 bm)(hC:h.get? C=some (excClassObj nm q C N bs bm hdct sn sub ab col dd k0 k1 k2 k3 k5 newId))(X:K.In h)
  (hi:findIn K (.ref C) "__init__"=some (some (.ref f))) (hf:typeIn K (.ref f)=some (.type "function")) (hl:rest.length≤sizeLine)
  (hq:wpAny (model prog w) A (call (.ref f) (.ref (h.objs.size+1)::rest)) (fun v s' =>v=.none∧Q (.done (.ret (.ref (h.objs.size+1)))) s') E ⟨cZ h C rest,g,d,t,os⟩):
  wpAny (model prog w) A (Builtin.«type.__call__» ⟨.ref C::rest,[]⟩) Q E ⟨h,g,d,t,os⟩:=by
 have hC1:(cZ h C rest).get? C=some (excClassObj nm q C N bs bm hdct sn sub ab col dd k0 k1 k2 k3 k5 newId):=fg hC
 have Xz:=mm (h:=h) (C:=C) (rest:=rest)
 have X1:K.In (cZ h C rest):=X.keeps fun b o e=>fg e
 have L1:=looks_findIn (M:=model prog w) X1 hi
 have L2:=bind_fn (M:=model prog w) X1 (.ref (h.objs.size+1)) hf
 have L0:=dR (M:=model prog w) Xz rfl
 have hcC:(Value.ref C::bm).contains (Value.ref C)=true:=by simp
 unfold Builtin.«type.__call__»
 refine wpAny_ite_false rfl ?_
 refine wpAny_bind (wpAny_mroOf_exc hC ?_)
 refine wpAny_ite_false rfl ?_
 refine wpAny_bind (wpAny_madeBy_exc hC (wpAny_bind (wpAny_pure ?_)))
 refine wpAny_bind (wpAny_holding (wpAny_call (codeAny_call_builtin_code (Code.quiet_builtin _ F.quiet) (wpAny_check_new_subT F T hC (codeAny_exc_new_subT F T hC ?_ hl)))))
 show wpAny (model prog w) A _ Q E ⟨cZ h C rest,g,d,t,os⟩
 refine wpAny_bind ?_
 unfold isInstance
 refine wpAny_bind (L0.here (wpAny_isSubtype_exc hC1 ?_))
 rw [hcC]
 refine wpAny_ite_false rfl ?_
 refine wpAny_bind (wpAny_holding ?_)
 unfold callSpecial?
 refine wpAny_bind ?_
 unfold specialOf
 refine wpAny_bind (L0.here (L1.here ?_))
 refine wpAny_holding (wpAny_bind (L2.here (wpAny_bind (wpAny_mono hq (fun v s' z=> ?_) fun _ _ z=>z))))
 obtain ⟨rfl,z⟩:=z
 refine wpAny_pure ?_
 refine wpAny_ite_false rfl ?_
 exact wpAny_pure z
theorem z8 {Q:Value→Shared→Prop}(F:ExcBaseFacts B newId z7 V3)(T:OwnTail h V3 bm)(hC:h.get? C=some (excClassObj nm q C N bs bm hdct sn sub ab col dd k0 k1 k2 k3 k5 newId))(X:K.In h)
  (hi:findIn K (.ref C) "__init__"=some (some (.ref f))) (hf:typeIn K (.ref f)=some (.type "function")) (hl:rest.length≤sizeLine)
  (hq:wpAny (model prog w) (A.under (.builtin "type.__call__" ⟨.ref C::rest,[]⟩)) (call (.ref f) (.ref (h.objs.size+1)::rest)) (fun v s' =>v=.none∧Q (.ref (h.objs.size+1)) s') E ⟨cZ h C rest,g,d,t,os⟩):
  wpAny (model prog w) A (call (.ref C) rest) Q E ⟨h,g,d,t,os⟩:=by
 have f1:=tc_lookup
 have f2:=tc_bind (Value.ref C)
 have hT:(⟨h,g,d,t,os⟩:Shared).TypeIs (.ref C) "type":=⟨excClassObj nm q C N bs bm hdct sn sub ab col dd k0 k1 k2 k3 k5 newId,hC,rfl⟩
 refine wpAny_call (codeAny_of_tree ?_)
 refine wpAny_bind (wpAny_load' hC ?_)
 refine wpAny_bind (wpAny_specialOf hT f1 (wpAny_bind (wpAny_of_eq f2 (wpAny_bind ?_))))
 refine wpAny_pure (wpAny_ite_true rfl (wpAny_pure ⟨rfl,?_⟩))
 refine codeAny_call_builtin_at (Code.quiet_builtin _ (by decide+kernel)) entry_typeCall (wpAny_check_type_call_sub hC (nJ F T hC X hi hf hl ?_))
 exact wpAny_mono hq (fun v s' z=>z) fun _ _ z=>z
end
end TyExc
set_option maxHeartbeats 400000
namespace TyExc
open PySem PySem.W PySem.Calls PyProof.Rows Builtin
section
variable {M:Model}{A:Around}{E:Value→Shared→Prop}{env:Env}{nm q:Str}{C N:Addr}{bs bm:List Value}{hdct:Bool}{sn:List Str}{sub:List Value}{ab:Bool}{col:Option Bool}{dd:Option Addr}{k0 k1 k2 k3 k5:Option Value}{newId:String}{s:Shared}{x:Sem Value}{Q:Flow→Shared→Prop}
theorem wN (iU:bm.contains (.type "BaseException")=true)(hh:A.handled=none)
  (h:wpAny M A x (fun v s1=>∃e oe vs,v=.ref e∧s1.heap.get? C=some (excClassObj nm q C N bs bm hdct sn sub ab col dd k0 k1 k2 k3 k5 newId)∧s1.heap.get? e=some oe∧oe.cls=.ref C∧oe.data=.fields vs∧vs[1]? =some .none∧E (.ref e) s1) E s):
  wpAny M A (raiseStmt env (some x) none) Q E s:=by
 have hcB:(Value.ref C::bm).contains (.type "BaseException")=true:=by
  rw [List.contains_cons,iU,Bool.or_true]
 unfold raiseStmt
 refine wpAny_bind (wpAny_mono h (fun v s1 z=> ?_) fun _ _ z=>z)
 obtain ⟨e,oe,vs,rfl,hC,he,pT,wM,h1,hE⟩:=z
 obtain ⟨hp,g,d,tk,os⟩:=s1
 obtain ⟨c0,d0,dt,sl⟩:=oe
 dsimp only at pT wM
 subst pT wM
 have L0:=dR (M:=M) he rfl
 have hL:(excClassObj nm q C N bs bm hdct sn sub ab col dd k0 k1 k2 k3 k5 newId).cls=.type "type":=rfl
 refine wpAny_bind (wpAny_pure ?_)
 refine wpAny_bind (wpAny_holding ?_)
 unfold excFromValue isExcClass isType loadHead
 refine wpAny_bind (wpAny_bind (wpAny_bind (wpAny_loadPart_at he (wpAny_pure (wpAny_ite_false rfl (wpAny_pure (wpAny_ite_false rfl ?_)))))))
 refine wpAny_bind ?_
 unfold isInstance
 refine wpAny_bind (L0.here (wpAny_isSubtype_exc hC ?_))
 rw [hcB]
 refine wpAny_ite_true rfl (wpAny_pure ?_)
 dsimp only
 refine wpAny_bind ?_
 refine wpAny_bind (wpAny_loadPart_at he (wpAny_pure (wpAny_ite_false rfl ?_)))
 refine wpAny_bind ?_
 unfold raisedInstance
 have LC:Looks M hp (typeOf (.ref C)) (.type "type"):=(Looks.ld hC).andThen .now
 refine wpAny_bind (L0.here (wpAny_bind (LC.here (wpAny_ite_true rfl (wpAny_pure ?_)))))
 refine wpAny_bind ?_
 unfold setFlight
 refine wpAny_bind (wpAny_field he rfl h1 (wpAny_ite_false rfl (wpAny_pure ?_)))
 exact wpAny_raiseNew_none hh hE
end
end TyExc
set_option maxHeartbeats 400000
namespace TyExc
open PySem PySem.W
structure rW (K:Frag)(C:Addr)(f:Str):Prop where
 k:gG K C
 sa:findIn K (.ref C) "__setattr__"=some (some (.builtin "object.__setattr__"))
 hd:hasDictIn K C=true
 ov:(clsIn K C).any (fun cd=>iz cd.mro)=true
 nf:findIn K (.ref C) f=some none
theorem rW.cd {K:Frag}{C:Addr}{f:Str}(F:rW K C f):∃cd,clsIn K C=some cd∧cd.hasDict=true∧iz cd.mro=true:=by
 obtain ⟨cd,hc,ho⟩:=any_some F.ov
 obtain ⟨cd',nA,hh⟩:=any_some F.hd
 rw [hc] at nA
 cases nA
 exact ⟨cd,hc,hh,ho⟩
end TyExc
namespace Ty
open PySem PySem.Spec PyProof.Rows L2
def fu (C a:Addr)(dx:Option Addr):HO:=.ext fun h=>∃o vs tp,h.get? a=some o∧o.cls=.ref C∧o.data=.fields vs∧o.dict=dx∧vs[0]? =some (.ref tp)∧vs[1]? =some .none
def yQ (d:Addr)(fs:List (Str×V)):HO:=.ext fun h=>∃mA,h.Ns1 d mA∧∀f,dP (fs.lookup f) (mA f)
section
variable {P:Program}{w:World}{H:Hp}{h:Heap}{C a:Addr}{dx:Option Addr}
theorem pV {o:Obj}{vs:Array Value}{tp:Addr}(e:h.get? a=some o)(hc:o.cls=.ref C)(hd:o.data=.fields vs)(hx:o.dict=dx)(h0:vs[0]? =some (.ref tp))(h1:vs[1]? =some .none):bE P w H h a (fu C a dx):=
 ⟨⟨o,vs,tp,e,hc,hd,hx,h0,h1⟩,⟨o,e⟩,fun _ _ ⟨o',eJ,tp',q,r⟩ k=>⟨o',eJ,tp',k _ q,r⟩⟩
theorem z9 {mA:Str→Option Value}{fs:List (Str×V)}(n:h.Ns1 a mA)(r:∀f,dP (fs.lookup f) (mA f)):bE P w H h a (yQ a fs):=by
 obtain ⟨o,_,_,e,_⟩:=id n
 refine ⟨⟨mA,n,r⟩,⟨o,e⟩,fun h1 h2 z k=> ?_⟩
 obtain ⟨mA',⟨o',es,ep,e',rr⟩,r'⟩:=z
 exact ⟨mA',⟨o',es,ep,k _ e',rr⟩,r'⟩
theorem wO {o:HO}(e:H a=some o):upd H a o=H:=by
 funext b
 by_cases c:b=a
 ·subst c
  rw [ai,e]
 ·rw [aj c]
end
section
variable {X:Cx}
inductive z_ (K:Frag)(Q:VK)(vs:List V)(H1:Hp):Prop where
 | mk (a C dx rest:_) (_:vs=.ref a::rest) (_:H1 a=some (fu C a dx)) (_:TyExc.gG K C) (_:PySem.W.mroIn K C (.type "ValueError")=some true) (_:rest.length≤sizeLine) (_:Q .cj H1):z_ K Q vs H1
def OE (K:Frag)(ta:TA):TE:=fun σ H Q=>ta σ H fun vs H1=>z_ K Q vs H1
structure AA (K:Frag)(Y:Addr):Prop where
 ga:PySem.W.specialIn K (.ref Y) "__getattribute__"=some (some (.builtin "type.__getattribute__"))
 rd:PySem.W.readsIn K Y (.type "type")=true
 fi:PySem.W.findCls K (.ref Y) (.type "type") "__init__"=some (.val (.builtin "ValueError.__init__"))
theorem FE {y:Str}{Y:Addr}{np apos pos:Pos}{e:Expr}{es:List Expr}{t:TA}{pl:Sem Bool}(hY:AA X.K Y)(hm:X.mg y=some (.ref Y))(ha:PA X (e::es) t)(hg:Gl X y:=by rfl)(rB:(y==("__debug__":Str))=false:=by decide)
  (y6:starEach (e::es) X.env=(false,eval e X.env)::starEach es X.env:=by rfl) (q4:(backTo pos (starEach es X.env)).any (·.1)=false:=by rfl)
  (ht:eval (.Call (.Attribute (.Name y np) "__init__" apos) (e::es) [] pos) X.env=(do
   let ov ← eval (.Name y np) X.env
   standAt apos.atName
   let (f,first) ← holding [ov] (getMethod ov "__init__" pl)
   callWith pos f first (backTo pos (starEach (e::es) X.env)) (backToKw pos (keywordEach [] X.env))):=by rfl):
  PE X (.Call (.Attribute (.Name y np) "__init__" apos) (e::es) [] pos) (OE X.K t):=by
 intro pins s σ H Q I h
 refine PySem.W.methodCall_KW (pl:=pl) (dQ I hg hm ?_ rB) ht
 refine PySem.W.method_cls I.dX hY.ga (PySem.W.cls_value I.dX hY.rd hY.fi rfl ?_)
 have I1:=I.tok (s.toks+1)
 refine PyProof.Rows.callWith_method1 (first:=[]) (bZ (ha pos pins _ σ H _ I1 h) fun us s2 ⟨vs,H2,I2,r,q⟩=> ?_) y6 q4
 obtain ⟨a,C,dx,rest,rfl,ea,F,hv,hl,q⟩:=q
 cases r with
 | @cons _ u _ jI r1 rr=>
  cases (show u=Value.ref a from r1)
  obtain ⟨⟨o,ws,tp,e1,e2,e3,e4,e5,e6⟩,_⟩:=(show bE X.prog X.w H2 s2.heap a (fu C a dx) from I2.bz a _ ea)
  have h0:0 < ws.size:=by
   have:=(Array.getElem?_eq_some_iff.mp e5).1
   omega
  obtain ⟨hp,g,d,tk,os⟩:=s2
  refine wpAny_call (TyExc.init_exc I2.dX e1 e2 e3 h0 hv F.is (by rw [← rr.length];exact hl) fun h' eJ k1 k2 k3 k4 k5=> ?_)
  obtain ⟨tp',k4⟩:=k4
  have I3:=I2.write (x:=a) (e:=a) (o:=fu C a dx) (h' :=h') (t' :=tk) (by rw [ea];exact True.intro) (.inl rfl) (fun b q hb z=>k5 b q hb z) ⟨_,k1⟩ (pV k1 e2 rfl e4 k4 (k3.trans e6))
  rw [wO ea] at I3
  exact ⟨.cj,H2,I3,rfl,q⟩
def OF (K:Frag)(ta tv:TE)(f:Str):TS:=fun D σ H=>tv σ H fun y H1=>ta σ H1 fun x H2=>∃a C,x=.ref a∧TyExc.rW K C f∧
 ((H2 a=some (fu C a none)∧∀d,H2 d=none→d≠a→D.nx σ (upd (upd H2 d (yQ d [(f,y)])) a (fu C a (some d))))∨
  (∃dx fs,H2 a=some (fu C a (some dx))∧dx≠a∧H2 dx=some (yQ dx fs)∧fs.length < 1000∧D.nx σ (upd H2 dx (yQ dx (cQ f y fs)))))
theorem FF {o value:Expr}{f:Str}{pos pos' :Pos}{ta tv:TE}(ha:PE X o ta)(hv:PE X value tv)(hs:swapsWith value (some (.Attribute o f pos')) pos.line X.env=pure false):PS X (.Assign [.Attribute o f pos'] value pos) (OF X.K ta tv f):=by
 intro pins s σ H D I h
 refine plainObj_wpAny_Assign_Attribute (bZ (hv pins s σ H _ I h) fun u s1 ⟨y,H1,I1,ry,q⟩=>bZ (ha pins s1 σ H1 _ I1 q) fun ov s2 ⟨x,H2,I2,rx,a,C,ex,F,q2⟩=> ?_) hs
 subst ex
 obtain rfl:ov=Value.ref a:=rx
 obtain ⟨cd,hc,hh,ho⟩:=F.cd
 rcases q2 with ⟨ea,q3⟩ | ⟨dx,fs,ea,nd,ed,hl,q3⟩
 ·obtain ⟨⟨oe,ws,tp,e1,e2,e3,e4,e5,e6⟩,_⟩:=(show bE X.prog X.w H2 s2.heap a (fu C a none) from I2.bz a _ ea)
  refine TyExc.pS I2.dX e1 e2 e3 e4 F.k F.sa hc hh ho F.nf fun h' tk k1 k2 k3=> ?_
  have nl:s2.heap.objs.size≠a:=fun z=>by have:=Heap.lt_size e1;rw [← z] at this;exact afY _ this
  obtain ⟨oD,VZ,V0,eD,dD,rD⟩:=id k2
  have nf:oD.isFreed=false:=ou eD
  have J1:Inv X pins σ (upd H2 s2.heap.objs.size (yQ s2.heap.objs.size [(f,y)])) {s2 with heap:=s2.heap.push oD,toks:=s2.toks}:=by
   refine I2.laid (t' :=s2.toks) (fun b u q=>Heap.get?_push_of_some _ q) (ad_ _) (z9 (mA:=fun z=>if z=f then some u else none) ⟨oD,VZ,V0,Heap.get?_push_size s2.heap nf,dD,rD⟩ fun z=> ?_)
   show dP (af2 z [(f,y)]) (if z=f then some u else none)
   by_cases c:z=f
   ·have hb:(z==f)=true:=beq_iff_eq.mpr c
    rw [if_pos c]
    simp only [af2,hb]
    exact ry
   ·have hb:(z==f)=false:=beq_eq_false_iff_ne.mpr c
    rw [if_neg c]
    simp only [af2,hb]
    trivial
  have ea' :(upd H2 s2.heap.objs.size (yQ s2.heap.objs.size [(f,y)])) a=some (fu C a none):=by rw [aj (afO nl)];exact ea
  have J2:=J1.write (x:=a) (e:=a) (o:=fu C a (some s2.heap.objs.size)) (h' :=h') (t' :=tk) (by rw [ea'];exact True.intro) (.inl rfl) (fun b q hb z=> ?_) ⟨_,k1⟩ (pV k1 e2 e3 rfl e5 e6)
  ·exact ⟨σ,_,J2,q3 _ (I2.bz.fresh (ad_ _)) nl⟩
  ·by_cases c:b=s2.heap.objs.size
   ·subst c
    have z' :(s2.heap.push oD).get? s2.heap.objs.size=some q:=z
    rw [Heap.get?_push_size s2.heap nf] at z'
    cases z'
    exact eD
   ·have z' :s2.heap.get? b=some q:=(Heap.get?_push_ne s2.heap b oD c).symm.trans z
    exact k3 b q hb z'
 ·obtain ⟨⟨oe,ws,tp,e1,e2,e3,e4,e5,e6⟩,_⟩:=(show bE X.prog X.w H2 s2.heap a (fu C a (some dx)) from I2.bz a _ ea)
  obtain ⟨⟨mA,n1,r1⟩,_⟩:=(show bE X.prog X.w H2 s2.heap dx (yQ dx fs) from I2.bz dx _ ed)
  have wi:PySem.Within mA (fs.map (·.1)):=fun z hz=>by
   cases el:fs.lookup z with
   | none=>
    have:=r1 z
    rw [el] at this
    exact absurd (dP.none_of this) hz
   | some v=>
    have:∀{l:List (Str×V)},l.lookup z=some v→z∈l.map (·.1):=fun {l}=>by
     induction l with
     | nil=>intro h;cases h
     | cons p l ih=>
      intro h
      obtain ⟨k,w⟩:=p
      by_cases c:z=k
      ·subst c
       exact afD
      ·have hb:(z==k)=false:=beq_eq_false_iff_ne.mpr c
       simp only [af2,hb] at h
       exact aft _ (ih h)
    exact this el
  refine TyExc.pU I2.dX e1 e2 e3 e4 nd n1 wi (by rw [Wp,sizeLine_eq];omega) F.k F.sa hc hh ho F.nf fun h' tk k1 k2=> ?_
  have hd:∃o,h'.get? dx=some o:=by obtain ⟨o,_,_,e',_⟩:=k1;exact ⟨o,e'⟩
  have J:=I2.write (x:=dx) (e:=dx) (o:=yQ dx (cQ f y fs)) (h' :=h') (t' :=tk) (by rw [ed];exact True.intro) (.inl rfl) (fun b q hb z=>(k2.2 b hb).trans z) hd (z9 k1 fun z=> ?_)
  ·exact ⟨σ,_,J,q3⟩
  ·show dP ((cQ f y fs).lookup z) (if z=f then some u else mA z)
   rw [gA]
   by_cases c:z=f
   ·rw [if_pos c,if_pos c];exact ry
   ·rw [if_neg c,if_neg c];exact r1 z
inductive AB (K:Frag)(f:Str)(Q:VK)(x:V)(H1:Hp):Prop where
 | mk (a C dx fs v:_) (_:x=.ref a) (_:H1 a=some (kH (.ref C) a (some dx))) (_:H1 dx=some (yQ dx fs)) (_:TyExc.rW K C f) (_:fs.lookup f=some v) (_:Q v H1):AB K f Q x H1
def JR (K:Frag)(ta:TE)(f:Str):TE:=fun σ H Q=>ta σ H fun x H1=>AB K f Q x H1
theorem FG {e:Expr}{f:Str}{pos:Pos}{ta:TE}(he:PE X e ta)(hb:attributeBase e f X.env (eval e X.env)=eval e X.env):PE X (.Attribute e f pos) (JR X.K ta f):=by
 intro pins s σ H Q I h
 refine vj hb (bZ (he pins s σ H _ I h) fun u s1 ⟨x,H1,I1,rx,a,C,dx,fs,v,ex,ea,ed,F,l,q⟩=> ?_)
 subst ex
 obtain rfl:u=Value.ref a:=rx
 obtain ⟨⟨oe,ws,e1,e2,e3,e4⟩,_⟩:=(show bE X.prog X.w H1 s1.heap a (kH (.ref C) a (some dx)) from I1.bz a _ ea)
 obtain ⟨⟨mA,n1,r1⟩,_⟩:=(show bE X.prog X.w H1 s1.heap dx (yQ dx fs) from I1.bz dx _ ed)
 obtain ⟨od,JS,Nq⟩:=n_ n1
 obtain ⟨u,hu,ru⟩:=dP.some_of (v:=v) (o:=mA f) (by rw [← l];exact r1 f)
 have J:PySem.W.InstAt s1.heap a oe C (some od):=⟨e1,e2,by unfold PySem.W.notCls;rw [e3],by rw [e4];exact JS⟩
 exact TyExc.rV I1.dX F.k J (PySem.W.findObj_own F.hd F.nf rfl (by rw [Nq,hu])) (oa ru) ⟨v,H1,I1.tok _,ru,q⟩
end
end Ty
set_option maxHeartbeats 1000000
namespace Ty
open PySem PySem.Spec PyProof.Rows L2
abbrev XA:List Value:=[Value.type "ValueError",Value.type "Exception",Value.type "BaseException",Value.type "object"]
structure Lu (K:Frag)(C fi:Addr):Prop where
 obj:∃nm q N bs bm hdct sn sub ab col dd k0 k1 k2 k3 k5,K.lookup C=some (excClassObj nm q C N bs bm hdct sn sub ab col dd k0 k1 k2 k3 k5 "ValueError.__new__")∧PySem.W.tailIn K XA bm=true
 init:PySem.W.findIn K (.ref C) "__init__"=some (some (.ref fi))
 fn:PySem.W.isFn K (.ref fi)=true
 kp:keepIn K (.ref C)=true
def i0 (H:Hp)(e:Addr):Hp:=fun b=>if b=e then none else H b
theorem cS {H:Hp}{e b:Addr}(n:b≠e):i0 H e b=H b:=by unfold i0;rw [if_neg n]
theorem iA {H:Hp}{e:Addr}:i0 H e e=none:=by unfold i0;rw [if_pos rfl]
theorem FH {fs ex:List Addr}{H:Hp}{h:Heap}{e:Addr}{φ:Heap→Prop}(he:H e=some (.ext φ)):Un fs ex H (i0 H e) h h:=by
 have ne:∀{b:Addr} {o:HO},H b=some o→(∀ψ,o≠.ext ψ)→b≠e:=fun z n q=>by rw [q,he] at z;cases z;exact n _ rfl
 refine ⟨fun b o q _ _ _=>q,fun b o q _ _ _=>⟨o.slots,q⟩,fun b o q n _=> ?_,fun b o q _=>⟨o,q⟩,fun b xs q=> ?_,fun b o u q=> ?_,fun b ps q=> ?_⟩
 ·by_cases c:b=e
  ·rw [c,iA]
  ·rw [cS c];exact n
 ·rw [cS (ne q fun ψ z=>nomatch z)];exact q
 ·rw [cS (ne q fun ψ z=>nomatch z)];exact q
 ·exact ⟨#[],by rw [cS (ne q fun ψ z=>nomatch z),q];simp⟩
theorem AD {P:Program}{w:World}{H:Hp}{h:Heap}{e:Addr}{φ:Heap→Prop}(he:H e=some (.ext φ))(ok:fM P w H h):fM P w (i0 H e) h:=fun b u q=>by
 have ne:∀{c:Addr} {o:HO},H c=some o→(∀ψ,o≠.ext ψ)→c≠e:=fun z n q=>by rw [q,he] at z;cases z;exact n _ rfl
 by_cases c:b=e
 ·rw [c,iA] at q
  cases q
 ·rw [cS c] at q
  exact (ok b u q).jz (fun _ _ _ z=>z) (fun c z=>by rw [cS (ne z fun ψ z=>nomatch z)];exact z) fun c xs z=>by rw [cS (ne z fun ψ z=>nomatch z)];exact z
def FI (C:Addr)(sp:Sp)(E:XK)(ta:TA):TS:=fun _ σ H=>ta σ H fun vs H1=>vs.length≤sizeLine∧∀e,H1 e=none→sp (.ref e::vs) (upd H1 e (fu C e none)) (fun v H2=>v=.cj∧∃dx,H2 e=some (fu C e dx)∧E (.ref C) dx (i0 H2 e)) E0
section
variable {P:Program}{w:World}{K:Frag}{mg:Str→Option Value}{base:Heap}{N:List Str}{qual:Str}{scope:Scope}{f:Addr}{bf:Value}{A:Around}{outer:List Env}{s0:Shared}{H0:Hp}{E:XK}
theorem wQ {x:Str}{C fi:Addr}{fd:FuncData}{ps:List Str}{sp:Sp}{k:Nat}{e₀:Expr}{rest:List Expr}{np dB pos:Pos}{ta:TA}(hX:Lu K C fi)(F:cp P w K mg base (aX P w) k fi fd ps sp)
  (hr:bY (k+1) (A.deeper (envOfC qual scope s0.heap.objs.size f bf))) (hb:Binds K fd ps []) (hm:mg x=some (.ref C)) (ha:PA (jx P w K mg base N qual scope f bf A outer s0 H0 E).tN (e₀::rest) ta)
  (hg:Gl (jx P w K mg base N qual scope f bf A outer s0 H0 E) x:=by rfl) (hd:(x==("__debug__":Str))=false:=by decide)
  (he:starEach (e₀::rest) (jx P w K mg base N qual scope f bf A outer s0 H0 E).env=(false,eval e₀ (jx P w K mg base N qual scope f bf A outer s0 H0 E).env)::starEach rest (jx P w K mg base N qual scope f bf A outer s0 H0 E).env:=by rfl)
  (hp:(backTo dB (starEach rest (jx P w K mg base N qual scope f bf A outer s0 H0 E).env)).any (·.1)=false:=by rfl):
  PS (jx P w K mg base N qual scope f bf A outer s0 H0 E) (.Raise (some (.Call (.Name x np) (e₀::rest) [] dB)) none pos) (FI C sp E ta):=by
 intro pins s σ H D I h
 obtain ⟨nm,q,Na,bs,bm,hdct,sn,sub,ab,col,dd,k0,k1,k2,k3,k5,Nq,XB⟩:=hX.obj
 have hin:∀env∈(jx P w K mg base N qual scope f bf A outer s0 H0 E).stack,∀b,env.frame=some b→b∈h_ (jx P w K mg base N qual scope f bf A outer s0 H0 E).stack:=fun env he b hb=>agf.mpr ⟨env,he,hb⟩
 have FB:=PySem.F.excBase_ValueError
 have iU:bm.contains (Value.type "BaseException")=true:=(PySem.W.tail_of_in I.dX XB).hasType FB.hasBase
 rw [arm_exec_Raise]
 refine wpAny_bind (wpAny_standAt (TyExc.wN (C:=C) (nm:=nm) (q:=q) (N:=Na) (bs:=bs) (bm:=bm) (hdct:=hdct) (sn:=sn) (sub:=sub) (ab:=ab) (col:=col) (dd:=dd) (k0:=k0) (k1:=k1) (k2:=k2) (k3:=k3) (k5:=k5) (newId:="ValueError.__new__") iU hr.hd ?_))
 refine wpAny_bind ?_
 refine wpAny_Call_Name_kw (dQ I hg hm ?_ hd)
 refine PySem.W.callWith_K (h₀:=base) I.ok.mod.IX hX.kp (wpAny_mono (ha dB pins s σ H _ (I.kA _) h) (fun us s1 ⟨vs,H1,I1,r,hl,q1⟩=>⟨I1.dX,?_⟩) fun _ _ z=>z.elim) he hp
 have I2:Inv (jx P w K mg base N qual scope f bf A outer s0 H0 E) pins σ H1 s1:=I1.fe
 obtain ⟨h1,g1,d1,t1,o1⟩:=s1
 have T:OwnTail h1 XA bm:=PySem.W.tail_of_in I2.dX XB
 have hC:h1.get? C=some (excClassObj nm q C Na bs bm hdct sn sub ab col dd k0 k1 k2 k3 k5 "ValueError.__new__"):=I2.dX _ _ Nq
 have V4:us.length≤sizeLine:=by rw [← r.length];exact hl
 have hq:=q1 (h1.objs.size+1) (I2.bz.fresh (agG _))
 refine TyExc.z8 FB T hC I2.dX hX.init (beq_iff_eq.mp hX.fn) V4 ?_
 have kp:∀b o,h1.get? b=some o→(TyExc.cZ h1 C us).get? b=some o:=fun b o e=>TyExc.fg e
 have I3:Inv (jx P w K mg base N qual scope f bf A outer s0 H0 E) pins σ (upd H1 (h1.objs.size+1) (fu C (h1.objs.size+1) none)) ⟨TyExc.cZ h1 C us,g1,d1,t1,o1⟩:=
  I2.laid (t' :=t1) kp (agG _) (pV TyExc.mm rfl rfl rfl rfl rfl)
 have r2:Vals (V.ref (h1.objs.size+1)::vs) (Value.ref (h1.objs.size+1)::us):=.cons rfl r
 have rK:(Value.ref (h1.objs.size+1)::us++[]).length=ps.length:=by
  rw [agc, ← r2.length]
  exact F.len _ _ _ _ hq
 have bt:=hb ⟨TyExc.cZ h1 C us,g1,d1,t1,o1⟩ (Value.ref (h1.objs.size+1)::us) I3.dX rK
 rw [agc] at bt
 refine wpAny_call (codeAny_mono (F.run _ (jx P w K mg base N qual scope f bf A outer s0 H0 E).stack _ _ ⟨Value.ref (h1.objs.size+1)::us,[]⟩ (Value.ref (h1.objs.size+1)::us) _ _ E0 (hr.make C us []) (I3.EN.make C us []) bt r2 hq) fun rr s' iw => ?_)
 cases rr with
 | error e=>exact (aX.kG _ _ _ _ _ iw).elim
 | ok fl=>
  cases fl with
  | ret u=>
   obtain ⟨v,H',V1,JT,XC,wG,ru,ev,dx,ee,hE⟩:=iw
   subst ev
   refine ⟨ru,wpAny_bind (wpAny_standAt (wpAny_pure ?_))⟩
   obtain ⟨⟨oe,ws,tp,e1,e2,e3,e4,e5,e6⟩,_⟩:=(show bE P w H' s'.heap (h1.objs.size+1) (fu C (h1.objs.size+1) dx) from wG _ _ ee)
   have I4:Inv (jx P w K mg base N qual scope f bf A outer s0 H0 E) pins σ H' s' :=I3.vc (ch:=[]) V1 XC wG JT fun b z=>absurd z (by simp)
   refine ⟨h1.objs.size+1,oe,ws,rfl,I4.dX _ _ Nq,e1,e2,e3,e6,?_⟩
   show wpAny (model P w) (A.deeper (envOfC qual scope s0.heap.objs.size f bf)) (leaving (envOfC qual scope s0.heap.objs.size f bf) (.ref (h1.objs.size+1))) _ _ s'
   have yP:h1.objs.size+1∉h_ (jx P w K mg base N qual scope f bf A outer s0 H0 E).stack:=fun z=>by
    have:=I4.kQ _ z
    rw [ee] at this
    cases this
   have XD:=PySem.W.funFrames_hide (as:=(h1.objs.size+1)::h_ (jx P w K mg base N qual scope f bf A outer s0 H0 E).stack) I4.stack (fun env he b hb=>aft _ (hin env he b hb))
   generalize hB:PySem.W.hideAll s'.heap ((h1.objs.size+1)::h_ (jx P w K mg base N qual scope f bf A outer s0 H0 E).stack)=B at XD
   have st:B.StaysIn s'.heap:=fun b o q=>by rw [← hB] at q;exact PySem.W.of_hideAll _ q
   have bn:B.get? (h1.objs.size+1)=none:=by rw [← hB];exact PySem.W.hideAll_none _ afD
   have da:DictAt s'.heap (h1.objs.size+1) dx:=⟨oe,e1,e4⟩
   refine wpAny_mono (Kp.any mh (wpAny_leaving_firstW (outer:=outer) (s:=s') (base:=B) (Q:=fun _ s3=>∃h2,s3={s' with heap:=h2}∧B.LeftW (envOfC qual scope s0.heap.objs.size f bf::outer) (h1.objs.size+1) oe.cls (.ref tp) s'.heap h2) (E:=fun _ _=>False) I.ok.frames XD rfl e1 st bn e3 e6 e5 fun h2 lw=>⟨h2,rfl,lw⟩)) (fun _ s3 z=> ?_) fun _ _ z=>z.elim
   obtain ⟨⟨h2,rfl,lw1,lw2,lw3,lw4⟩,kd⟩:=z
   have un0:Un (h_ (jx P w K mg base N qual scope f bf A outer s0 H0 E).stack) [] H1 (upd H1 (h1.objs.size+1) (fu C (h1.objs.size+1) none)) h1 (TyExc.cZ h1 C us):=Un.laid kp (agG _) (I2.bz.fresh (agG _))
   have unA:=(un0.trans XC).trans (FH (e:=h1.objs.size+1) ee)
   rw [e2] at lw3
   have fl:B.FlyingW outer (h1.objs.size+1) (.ref C) (.ref tp) h2:=⟨lw1,bn,lw2.2.2,lw3⟩
   refine zV (s' :=s') (H:=H1) (s:=⟨h1,g1,d1,t1,o1⟩) I2 fl (da.kd kd) XD st unA (AD ee wG) V1 JT (fun b o eb hb=> ?_) (fun b u eb=> ?_) lw4 hE
   ·obtain ⟨o',e'⟩:=(un0.trans XC).there b o eb (by simp)
    refine ⟨o',?_⟩
    rw [← hB]
    refine PySem.W.hideAll_get _ e' fun z=> ?_
    rcases afK.mp z with z | z
    ·have:=Heap.lt_size eb
     rw [z] at this
     simp only [Addr] at*
     omega
    ·exact hb z
   ·have nb:b≠h1.objs.size+1:=fun z=>by rw [z,iA] at eb;cases eb
    rw [cS nb] at eb
    obtain ⟨o,ho⟩:=obj_some (wG b u eb)
    refine ⟨o,?_⟩
    rw [← hB]
    refine PySem.W.hideAll_get _ ho fun z=> ?_
    rcases afK.mp z with z | z
    ·exact nb z
    ·have:=I4.kQ b z
     rw [eb] at this
     cases this
  | next=>exact False.elim iw
  | brk=>exact False.elim iw
  | cont=>exact False.elim iw
end
end Ty
set_option maxHeartbeats 4000000
namespace Ty
open PySem PySem.Spec PyProof.Rows L2
section
variable {prog:Program}{w:World}{A:Around}{R:Result→Shared→Prop}{s:Shared}
theorem pZ {elt target iter:Expr}{ifs:List Expr}{scope:Scope}{pos:Pos}{it acc:Value}{env:Env}(I:Nat→Shared→Prop)
  (turn:∀n s,I n s→wpAny (model prog w) A (pyNext it) (fun r s₁=>match r with
   | none=>R (.ok .next) s₁
   | some v=>wpAny (model prog w) A (letOwnedTupleGo target it v) (fun _ s₁' =>wpAny (model prog w) A (assign target env v) (fun _ s₂=>
     wpAny (model prog w) A (forIn ifs true fun c r=>if r=true then do let ok ← isTrue c env (eval c env);pure (ForInStep.yield ok) else pure (ForInStep.yield r)) (fun ok s₃=>
      if ok=true then wpAny (model prog w) A (eval elt env) (fun x s₄=>
       wpAny (model prog w) A (call (.builtin "list.append") [acc,x]) (fun _ s₅=>∃m,m < n∧I m s₅) (fun _ _=>False) s₄) (fun _ _=>False) s₃
      else ∃m,m < n∧I m s₃) (fun _ _=>False) s₂) (fun _ _=>False) s₁') (fun _ _=>False) s₁) (fun _ _=>False) s)
  (n:Nat) (h:I n s):
  codeAny (model prog w) A (.compLoop (.ListComp elt [⟨target,iter,ifs,0⟩] scope pos) 0 it acc env) R s:=by
 refine codeAny_loop rfl I (fun n s hI=> ?_) n h
 show wpAny _ A ((compTurn (.ListComp elt [⟨target,iter,ifs,0⟩] scope pos) 0 it acc env).onRaise (fun x=>do noteFrame x env;theTreesLotGoes x)) _ _ s
 refine wpAny_noted ?_
 rw [compTurn_list]
 refine wpAny_bind (wpAny_standAt (wpAny_bind (wpAny_mono (turn n s hI) (fun r s₁ h₁=> ?_) fun _ _ h' =>h'.elim)))
 cases r with
 | none=>exact wpAny_pure h₁
 | some v=>
  refine wpAny_bind (wpAny_mono h₁ (fun _ s₁' h₁' => ?_) fun _ _ h' =>h'.elim)
  refine wpAny_bind (wpAny_mono h₁' (fun _ s₂ h₂=>wpAny_bind (wpAny_mono h₂ (fun ok s₃ h₃=> ?_) fun _ _ h' =>h'.elim)) fun _ _ h' =>h'.elim)
  cases ok with
  | false=>exact wpAny_pure ⟨rfl,h₃⟩
  | true=>
   exact wpAny_bind (wpAny_bind (wpAny_mono h₃ (fun x s₄ h₄=>wpAny_bind (wpAny_mono h₄ (fun _ s₅ h₅=>wpAny_pure (wpAny_pure ⟨rfl,h₅⟩)) fun _ _ h' =>h'.elim)) fun _ _ h' =>h'.elim))
end
def cB (env:Env)(fr:List Str):List (Str×Addr):=fr.filterMap fun n=>(env.cells.lookup n).map fun c=>(n,c)
theorem lookup_mem {α:Type}{x:Str}{c:α}:∀{l:List (Str×α)},l.lookup x=some c→(x,c)∈l
 | [],h=>by simp at h
 | (y,d)::r,h=>by
  rw [apN] at h
  cases e:x==y with
  | true=>
   rw [e] at h
   have e1:x=y:=by simpa using e
   cases h
   rw [e1]
   exact afD
  | false=>
   rw [e] at h
   exact aft _ (lookup_mem h)
theorem wU {env:Env}{fr:List Str}{x:Str}{c:Addr}(h:(x,c)∈cB env fr):env.cells.lookup x=some c:=by
 obtain ⟨n,_,e⟩:=agf.mp h
 cases q:env.cells.lookup n with
 | none=>rw [q] at e;cases e
 | some d=>
  rw [q] at e
  have e' :(n,d)=(x,c):=afB e
  cases e'
  exact q
theorem dY {env:Env}{fr:List Str}{x:Str}{c:Addr}(h:(cB env fr).lookup x=some c):env.cells.lookup x=some c:=wU (lookup_mem h)
theorem jJ {env:Env}{x:Str}{c:Addr}(q:env.cells.lookup x=some c):∀{fr:List Str},x∈fr→(cB env fr).lookup x=some c
 | [],h=>nomatch h
 | y::r,h=>by
  unfold cB
  rw [agA]
  by_cases e:x=y
  ·subst e
   rw [q]
   simp
  ·have hr:x∈r:=by
    rcases afK.mp h with z | z
    ·exact absurd z e
    ·exact z
   have ih:=jJ q hr
   cases z:env.cells.lookup y with
   | none=>exact ih
   | some d=>
    show af2 x ((y,d)::_)=_
    rw [apN]
    have ne:(x==y)=false:=by simpa using e
    rw [ne]
    exact ih
def jK (env:Env):List Str→Prop
 | []=>True
 | y::r=>(env.kindOf y=some .cell∨env.kindOf y=some .free)∧jK env r
theorem jK.at {env:Env}{x:Str}:∀{fr:List Str},jK env fr→x∈fr→env.kindOf x=some .cell∨env.kindOf x=some .free
 | [],_,h=>nomatch h
 | y::r,a,h=>by
  rcases afK.mp h with z | z
  ·rw [z]
   exact a.1
  ·exact jK.at a.2 z
section
variable {X:Cx}
def rX (X:Cx)(NB:List Str)(scope:Scope)(cl:List (Str×Addr))(C:Addr)(s:Shared)(H:Hp)(fp:List Addr):Cx:=
 {prog:=X.prog,w:=X.w,K:=X.K,mg:=X.mg,base:=X.base,A:=X.A,N:=NB,s₀:=s,H₀:=H,env:=compEnvC scope cl C X.env,outer:=X.stack,stack:=X.stack,ex:=fp,fn:=fun _=>false,calm:=X.calm,pn:=[],xe:=fun _ _=>False}
structure Lv (X:Cx)(scope:Scope)(fr:List Str)(caps:List Nat):Prop where
 OG:closureFor scope X.env=pure (cB X.env fr)
 cell:∀y∈scope.names,y.2≠.cell
 kind:scope.kind=.function
 names:∀y∈scope.names,y.2=.local→scope.names.lookup y.1=some .local
 free:∀y∈scope.names,y.2=.free→y.1∈fr
 caps:caps.map (fun i=>X.N[i]?)=fr.map some
 out:jK X.env fr
 inn:jK (compEnvC scope [] 0 X.env) fr
def PF (X:Cx)(ifs:List Expr)(t:TT):Prop:=
 ∀(pins:List (Addr×Obj)) (s:Shared) (σ:L2.St) (H:Hp) (Q:Bool→Hp→Prop),Inv X pins σ H s→t σ H Q→
  wpAny (model X.prog X.w) X.A (forIn ifs true fun c r=>if r=true then do let ok ← isTrue c X.env (eval c X.env);pure (ForInStep.yield ok) else pure (ForInStep.yield r)) (TP X pins σ Q) X.xe s
def i5:TT:=fun _ H Q=>Q true H
theorem bT:PF X [] i5:=fun _ _ _ H _ I h=>wpAny_tests_nil ⟨H,I,h⟩
theorem Lw {c:Expr}{t:TT}(h:PT X c t):PF X [c] t:=fun pins s σ H Q I q=>wpAny_tests_one (h pins s σ H Q I q)
def sB (k:Nat)(caps:List Nat)(σ:L2.St):L2.St:=afz k none++caps.map fun i=>(σ[i]?).getD none
def jL (D:Addr)(g:TG)(tt:TT)(te:TE)(J:It)(σ0:L2.St)(H1:Hp)(Q:VK):Prop:=∃W:Nat→Nat→L2.St→List V→Hp→Prop,
 (∃m,W 0 m σ0 [] (upd H1 D (.lst [])))∧∀i m σ2 ys H2,W i m σ2 ys H2→(J.stop i H2∧Q (.ref D) H2)∨(J.go i H2∧∀x H3,J.y9 i H2 x H3→g x σ2 H3 fun σ4 H4=>tt σ4 H4 fun b H5=>
  if b=true then te σ4 H5 fun v H6=>H6 D=some (.lst ys)∧ys.length < sizeLine∧∃m',m' < m∧W (i+1) m' σ4 (ys++[v]) (upd H6 D (.lst (ys++[v]))) else ∃m',m' < m∧W (i+1) m' σ4 ys H5)
def JU (k:Nat)(caps:List Nat)(wi:TI)(g:TG)(tt:TT)(te:TE):TE:=fun σ H Q=>wi σ H fun J H1=>∀D,H1 D=none→jL D g tt te J (sB k caps σ) H1 Q
theorem Ly {k:Nat}{caps:List Nat}{σ:L2.St}{i:Nat}{v:V}(h:(sB k caps σ)[i]? =some (some v)):k≤i∧∃j,caps[i - k]? =some j∧σ[j]? =some (some v):=by
 unfold sB at h
 by_cases c:i < k
 ·rw [afv (by simpa using c),af9,if_pos c] at h
  cases h
 ·rw [afy (by simpa using ak_ c),agg,aa_] at h
  refine ⟨ak_ c,?_⟩
  cases e:caps[i - k]? with
  | none=>rw [e] at h;cases h
  | some j=>
   rw [e] at h
   refine ⟨j,rfl,?_⟩
   have h' :(σ[j]?).getD none=some v:=afB h
   cases z:σ[j]? with
   | none=>rw [z] at h';cases h'
   | some o=>
    rw [z] at h'
    exact congrArg some h'
theorem mq {elt target iter:Expr}{ifs:List Expr}{scope:Scope}{pos:Pos}{tn fr:List Str}{caps:List Nat}{g:TG}{tt:TT}{te:TE}{pins:List (Addr×Obj)}{σ:L2.St}{H2:Hp}{s2:Shared}{J:It}{fp:List Addr}{it:Addr}
  {JV:Nat→Heap→Prop} {Q:VK} {RR:Value→Addr→Result→Shared→Prop} {E:Value→Shared→Prop} (hc:X.calm=true) (B:Lv X scope fr caps)
  (hg:∀C s H fp,PG (rX X (tn++fr) scope (cB X.env fr) C s H fp) target g) (ht:∀C s H fp,PF (rX X (tn++fr) scope (cB X.env fr) C s H fp) ifs tt) (he:∀C s H fp,PE (rX X (tn++fr) scope (cB X.env fr) C s H fp) elt te)
  (I2:Inv X pins σ H2 s2) (T:Turn X.prog X.w X.K target J fp it JV) (Jy:JV 0 s2.heap) (f2:∀b∈fp,jC X pins H2 b) (q:∀D,H2 D=none→jL D g tt te J (sB tn.length caps σ) H2 Q)
  (fin:∀D C H' s' m,Inv X pins σ H' s' →s'.heap.Ns C m→jC X pins H' C→Q (.ref D) H' →RR (.ref D) C (.ok .next) s'):
  wpAny (model X.prog X.w) X.A (newList []) (fun acc s₃=>wpAny (model X.prog X.w) X.A (newFunctionEnv scope X.env.globals (cB X.env fr) [] X.env.qual none .none (some X.env)) (fun OH s₄=>
   codeAny (model X.prog X.w) X.A (.compStart (.ListComp elt [⟨target,iter,ifs,0⟩] scope pos) 0 (.ref it) acc {OH with scope:=relabel scope X.env}) (RR acc OH.locals) s₄) E s₃) E s2:=by
 refine wpAny_newObj_type (wpAny_newFunctionEnv B.cell (by intro y hy;simp at hy) (fun h₁ XE XF=> ?_) B.kind)
 have I3:Inv X pins σ (upd H2 s2.heap.objs.size (.lst [])) {s2 with heap:=s2.heap.push {cls:=.type "list",data:=.seq ([]:List Value).toArray}}:=I2.Lh (t' :=s2.toks) (its:=[]) .nil (afU _)
 obtain ⟨W,⟨m0,w0⟩,turn⟩:=q s2.heap.objs.size (I2.bz.fresh (ad_ _))
 generalize hH3:upd H2 s2.heap.objs.size (.lst [])=H3 at I3 w0
 have f3:∀b∈fp,jC X pins H3 b:=fun b hb=>by
  obtain ⟨a0,a1⟩:=f2 b hb
  refine ⟨?_,a1⟩
  obtain ⟨o,e,_⟩:=T.obj _ _ Jy b hb
  rw [← hH3,aj (afJ (Heap.lt_size e))]
  exact a0
 generalize hD:s2.heap.objs.size=D at*
 generalize V5:({s2 with heap:=s2.heap.push {cls:=.type "list",data:=.seq ([]:List Value).toArray}}:Shared)=s3 at*
 have e3:s3.heap=s2.heap.push {cls:=.type "list",data:=.seq ([]:List Value).toArray}:=by rw [← V5]
 have N2:JV 0 s3.heap:=T.keep _ _ _ Jy fun b _ o e=>by rw [e3];exact Heap.get?_push_of_some _ e
 have kept:∀b o,s3.heap.get? b=some o→h₁.get? b=some o:=fun b o e=>(XF.2 b (afJ (Heap.lt_size e))).trans (Heap.get?_push_of_some _ e)
 generalize hC:s3.heap.objs.size=C at*
 have V6:s3.heap.objs.size≤C:=apB hC
 have I4:Inv X pins σ H3 {s3 with heap:=h₁,toks:=s3.toks+([]:List (Str×Value)).length}:=I3.kept kept
 have fpC:∀b∈fp,b≠C:=fun b hb z=>by
  obtain ⟨o,e,_⟩:=T.obj _ _ N2 b hb
  exact absurd z (afJ (afw (Heap.lt_size e) V6))
 have nst:∀b∈fp,b∉h_ X.stack:=fun b hb z=>(afK.mp (I3.oZ b z)).elim (f3 b hb).2.1 (f3 b hb).2.2.1
 have okB:(rX X (tn++fr) scope (cB X.env fr) C s3 H3 fp).Ok:=by
  refine ⟨I3.ok.mod,B.kind,I3.ok.glob,I3.ok.blt,V6,fun x y c e1 e2=>I3.ok.inj x y c (dY e1) (dY e2),fun x hx=> ?_,fun x c z=>(nomatch z),I3.ok.hd,I3.ok.frames,.inl rfl,
   fun b hb=>⟨fpC b hb,fun x c e=>(f3 b hb).2.2.2.2.1 x c (dY e)⟩,I3.bs,ac_ I3.ok.DS I3.sz,fun b o e hb=> ?_,nst,I3.stack,I3.kQ⟩
  ·have hm:∃k,(x,k)∈scope.names∧k≠.local∧(k=.cell∨k=.free):=by
    have:∃k',(relabel scope X.env).names.lookup x=some k' ∧(k' =.cell∨k' =.free):=by
     rcases hx with z | z
     ·exact ⟨_,z,.inl rfl⟩
     ·exact ⟨_,z,.inr rfl⟩
    obtain ⟨k',e',h'⟩:=this
    obtain ⟨⟨n,k⟩,hn,en⟩:=afr.mp (lookup_mem e')
    dsimp only at en
    by_cases cc:(k==NameKind.free && X.env.scope.kind==.function && X.env.kindOf n==some .cell)=true
    ·rw [if_pos cc] at en
     cases en
     have kf:k=.free:=by
      rw [af_,af_] at cc
      simpa using cc.1.1
     exact ⟨k,hn,(by intro z;rw [kf] at z;cases z),.inr kf⟩
    ·rw [if_neg cc] at en
     cases en
     exact ⟨k',hn,fun z' =>by rcases h' with y | y <;> (rw [y] at z';cases z'),h'⟩
   obtain ⟨k,hk,_,h2⟩:=hm
   rcases h2 with z | z
   ·exact absurd z (B.cell _ hk)
   ·have hf:=B.free _ hk z
    obtain ⟨c,ec⟩:=I3.ok.has x (B.out.at hf)
    exact ⟨c,jJ ec hf⟩
  ·obtain ⟨_,_,_,h1,_⟩:=f3 b hb
   rcases h1 with z | z
   ·exact I3.ok.wj b o e z
   ·exact afY _ (afw (afw (Heap.lt_size e) I3.ok.DS) z)
 have IB:Inv (rX X (tn++fr) scope (cB X.env fr) C s3 H3 fp) [] (sB tn.length caps σ) H3 {s3 with heap:=h₁,toks:=s3.toks+([]:List (Str×Value)).length}:=by
  refine ⟨okB,rfl,I3.bare,Un.kept kept,⟨_,XE,fun i x v e1 e2 _=> ?_⟩,fun x c e=>I4.cell x c (dY e),?_,fun x c e=>I3.dZ x c (dY e),fun p hp=>(nomatch hp),I3.bz.kept kept,?_⟩
  ·obtain ⟨hk,j,ej,es⟩:=Ly e2
   have AE :fr[i - tn.length]? =some x:=by
    have z:(tn++fr)[i]? =some x:=e1
    rw [afy hk] at z
    exact z
   have hx:x∈fr:=abt AE
   have eN:X.N[j]? =some x:=by
    have z:=congrArg (fun l:List (Option Str)=>l[i - tn.length]?) B.caps
    simp only [aa_,ej,AE,agE] at z
    exact afB z
   have ko:=B.out.at hx
   obtain ⟨m,hn,hl⟩:=I4.loc
   obtain ⟨u,r,lk⟩:=hl j x v eN es (by rcases ko with z | z;exact .inr (.inl z);exact .inr (.inr z))
   refine ⟨u,r,?_⟩
   rcases lk with ⟨k1,_⟩ | ⟨_,c,ec,ic⟩
   ·rcases ko with z | z <;> (rw [z] at k1;cases k1)
   ·exact .inr ⟨B.inn.at hx,c,jJ ec hx,ic⟩
  ·exact I3.bz.fresh V6
  ·have:=congrArg ago B.caps
   simp only [Wp] at this
   show (sB tn.length caps σ).length=(tn++fr).length
   unfold sB
   simp [this]
 have AF:∀{H' :Hp},(∀b∈fp,H' b=none)→∀b∈fp,jC (rX X (tn++fr) scope (cB X.env fr) C s3 H3 fp) [] H' b:=fun hn b hb=>
  ⟨hn b hb,fpC b hb,nst b hb,.inl hb,fun x c e=>(f3 b hb).2.2.2.2.1 x c (dY e),fun p hp=>(nomatch hp)⟩
 have st4:JV 0 h₁:=T.keep _ _ _ N2 fun b _ o e=>kept b o e
 have loop:codeAny (model X.prog X.w) X.A (.compLoop (.ListComp elt [⟨target,iter,ifs,0⟩] scope pos) 0 (.ref it) (.ref D) (compEnvC scope (cB X.env fr) C X.env)) (RR (.ref D) C) {s3 with heap:=h₁,toks:=s3.toks+([]:List (Str×Value)).length}:=by
  refine pZ (fun n s' =>∃i σ' ys H',Inv (rX X (tn++fr) scope (cB X.env fr) C s3 H3 fp) [] σ' H' s' ∧JV i s'.heap∧(∀b∈fp,H' b=none)∧W i n σ' ys H') ?_ m0 ⟨0,_,[],H3,IB,st4,fun b hb=>(f3 b hb).1,w0⟩
  rintro n s5 ⟨i,σ5,ys,H5,I5,Nk,Jz,w5⟩
  rcases turn i n σ5 ys H5 w5 with ⟨stop,qn⟩ | ⟨go,step⟩
  ·refine wpAny_mono (T.done (rX X (tn++fr) scope (cB X.env fr) C s3 H3 fp) rfl rfl rfl hc i [] s5 σ5 H5 (fun _ _=>False) I5 (AF Jz) Nk stop) (fun r s6 ⟨hr,I6⟩=> ?_) fun _ _ z=>z
   subst hr
   obtain ⟨m,hn,_⟩:=I6.loc
   have J6:Inv X pins σ H5 s6:=I3.vc (ch:=fp) I6.os I6.base I6.bz I6.bare fun b hb=>⟨(f3 b hb).2.2.2.1,(f3 b hb).2.1,(f3 b hb).2.2.2.2.1,(f3 b hb).2.2.2.2.2⟩
   exact fin D C H5 s6 m J6 hn (I3.nE V6 I6.free) qn
  ·refine wpAny_mono (T.item (rX X (tn++fr) scope (cB X.env fr) C s3 H3 fp) rfl rfl rfl hc i [] s5 σ5 H5 (fun _ _=>False) I5 (AF Jz) Nk go) (fun r s6 ⟨u,hr,h6⟩=> ?_) fun _ _ z=>z
   subst hr
   refine wpAny_mono h6 (fun _ s7 ⟨x,H7,I7,r7,y7,XG,fr7⟩=> ?_) fun _ _ z=>z
   have I7' :=I7.pinned (AF fr7) (T.obj _ _ XG)
   have held:∀{σ' :L2.St} {H' :Hp} {s' :Shared},Inv (rX X (tn++fr) scope (cB X.env fr) C s3 H3 fp) ([]++lQ fp s7.heap) σ' H' s' →JV (i+1) s'.heap∧∀b∈fp,H' b=none:=fun {σ' H' s'} I' =>by
    refine ⟨T.keep _ _ _ XG fun b hb o e=>(I'.pin (b,o) (afQ _ (afQ _ (fO hb e)))).1,fun b hb=> ?_⟩
    obtain ⟨o,e,d⟩:=T.obj _ _ XG b hb
    exact (I'.pin (b,o) (afQ _ (afQ _ (fO hb e)))).2.1
   refine wpAny_mono (hg C s3 H3 fp _ s7 σ5 H7 x u _ I7' r7 (step x H7 y7)) (fun _ s8 ⟨σ8,H8,I8,q8⟩=> ?_) fun _ _ z=>z
   refine wpAny_mono (ht C s3 H3 fp _ s8 σ8 H8 _ I8 q8) (fun ok s9 ⟨H9,I9,q9⟩=> ?_) fun _ _ z=>z
   cases ok with
   | false=>
    rw [if_neg afx] at q9
    obtain ⟨m',hm,w9⟩:=q9
    rw [if_neg afx]
    obtain ⟨a,b⟩:=held I9
    exact ⟨m',hm,i+1,σ8,ys,H9,I9.gy,a,b,w9⟩
   | true=>
    rw [if_pos rfl] at q9
    rw [if_pos rfl]
    refine wpAny_mono (he C s3 H3 fp _ s9 σ8 H9 _ I9 q9) (fun v vx ⟨y,rY,I10,r10,hDD,hl,m',hm,w10⟩=> ?_) fun _ _ z=>z
    refine wpAny_mono (dq (X:=rX X (tn++fr) scope (cB X.env fr) C s3 H3 fp) _ vx σ8 rY (.ref D) [y] (.ref D) [v] (fun _ H' =>W (i+1) m' σ8 (ys++[y]) H') I10 rfl (.cons r10 .nil) ⟨D,ys,y,rfl,rfl,hDD,hl,w10⟩) (fun _ p_ ⟨z,FJ,I11,_,q11⟩=> ?_) fun _ _ z=>z
    obtain ⟨a,b⟩:=held I11
    exact ⟨m',hm,i+1,σ8,ys++[y],FJ,I11.gy,a,b,q11⟩
 exact codeAny_compStart_list loop (T.self X.A 0 _ _ _ st4 loop)
theorem cg {elt target iter:Expr}{ifs:List Expr}{scope:Scope}{pos:Pos}{tn fr:List Str}{caps:List Nat}{wi:TI}{g:TG}{tt:TT}{te:TE}(hc:X.calm=true)(B:Lv X scope fr caps)(hi:PI X target iter wi)
  (hg:∀C s H fp,PG (rX X (tn++fr) scope (cB X.env fr) C s H fp) target g) (ht:∀C s H fp,PF (rX X (tn++fr) scope (cB X.env fr) C s H fp) ifs tt) (he:∀C s H fp,PE (rX X (tn++fr) scope (cB X.env fr) C s H fp) elt te)
  (hs:∀x,foldedSetIterable iter X.env x=pure x:=by intro _;rfl):PE X (.ListComp elt [⟨target,iter,ifs,0⟩] scope pos) (JU tn.length caps wi g tt te):=by
 intro pins s σ H Q I h
 rw [eval_ListComp]
 refine wpAny_comprehension_free (use:=none) rfl hs B.OG B.kind B.names (bZ (hi pins s σ H _ I h) fun v s1 h1=>bZ h1 fun VX s2 h2=> ?_)
 obtain ⟨it,fp,JV,J,H2,rfl,I2,T,Jy,f2,q⟩:=h2
 refine mq (Q:=Q) (RR:=fun acc C=>compPost (model X.prog X.w) X.A X.xe none (EP X pins σ Q) acc C) hc B hg ht he I2 T Jy f2 q ?_
 intro D C H' s' m I' hn fc qq
 obtain ⟨g0,g1,g2,g3,g4,g5⟩:=fc
 exact ⟨m,hn,fun h' JW =>⟨.ref D,H',I'.turned (t' :=s'.toks) (fun b o hb e=>(JW.2 b hb).trans e) g0 g1 g3 g4 g5,rfl,qq⟩⟩
theorem fU {i:Nat}{y:Str}{py:Pos}{OI:Pos}{elt target iter:Expr}{ifs:List Expr}{scope:Scope}{pos:Pos}{tn fr:List Str}{caps:List Nat}{wi:TI}{g:TG}{tt:TT}{te:TE}(hN:X.N.Nodup)(hiN:X.N[i]? =some y)(hx:Loc X.env.scope y)
  (hc:X.calm=true) (B:Lv X scope fr caps) (hi:PI X target iter wi)
  (hg:∀C s H fp,PG (rX X (tn++fr) scope (cB X.env fr) C s H fp) target g) (ht:∀C s H fp,PF (rX X (tn++fr) scope (cB X.env fr) C s H fp) ifs tt) (he:∀C s H fp,PE (rX X (tn++fr) scope (cB X.env fr) C s H fp) elt te)
  (JX:swapsWith (.ListComp elt [⟨target,iter,ifs,0⟩] scope pos) (some (.Name y py)) OI.line X.env=pure true:=by rfl)
  (hs:∀x,foldedSetIterable iter X.env x=pure x:=by intro _;rfl) (hf:X.fn y=true∨X.env.scope.names.lookup y=some .local:=by first | exact .inl rfl | exact .inr rfl | assumption):
  PS X (.Assign [.Name y py] (.ListComp elt [⟨target,iter,ifs,0⟩] scope pos) OI) (K3 (JU tn.length caps wi g tt te) (cY i)):=by
 intro pins s σ H D I h
 rw [exec_Assign_Name_used _ _ _ _ JX]
 refine wpAny_bind (wpAny_standAt (wpAny_bind ?_))
 show wpAny _ X.A (do let _ ← comprehension (.ListComp elt [⟨target,iter,ifs,0⟩] scope pos) scope X.env _ (newList []) false (eval iter X.env) (some (assign (.Name y py) X.env))) _ _ s
 refine wpAny_bind (wpAny_mono (wpAny_comprehension_free (use:=some (assign (.Name y py) X.env)) (Q:=fun _ s' =>SP X pins D .next s') rfl hs B.OG B.kind B.names
  (bZ (hi pins s σ H _ I h) fun v s1 h1=>bZ h1 fun VX s2 h2=> ?_)) (fun _ s' hq=>wpAny_pure (wpAny_pure hq)) fun _ _ e=>e)
 obtain ⟨it,fp,JV,J,H2,rfl,I2,T,Jy,f2,q⟩:=h2
 refine mq (Q:=fun v H1=>cY i v σ H1 D.nx) (RR:=fun acc C=>compPost (model X.prog X.w) X.A X.xe (some (assign (.Name y py) X.env)) (fun _ s' =>SP X pins D .next s') acc C) hc B hg ht he I2 T Jy f2 q ?_
 intro DD C H' s' m I' hn fc qq
 obtain ⟨g0,g1,g2,g3,g4,g5⟩:=fc
 show wpAny _ X.A (assign (.Name y py) X.env (.ref DD)) _ _ _
 refine wpAny_assign_Name (nZ I' hN hiN hx (v:=.ref DD) (u:=.ref DD) rfl (fun N_ I'' ⟨a,sb,ha⟩=> ?_) hf)
 have hCa:C≠a:=by
  rcases ha with z | z
  ·rw [z]
   exact g1
  ·exact fun e=>g4 y a z e.symm
 exact ⟨m,hn.sameBut sb hCa,fun h' JW =>⟨_,H',I''.turned (t' :=N_.toks) (fun b o hb e=>(JW.2 b hb).trans e) g0 g1 g3 g4 g5,qq⟩⟩
end
section
variable {D:Addr}{te:TE}{cap:L2.St}{H1:Hp}{Q:VK}
theorem um {J:It}(n:Nat)(xs:Nat→V)(Pv:Nat→List V→Hp→Prop)(h0:Pv 0 [] (upd H1 D (.lst [])))
  (go:∀i ys H,i < n→Pv i ys H→J.go i H∧∀x H',J.y9 i H x H' →H' =H∧x=xs i) (stop:∀ys H,Pv n ys H→J.stop n H)
  (hs:∀i ys H (R:VK),i < n→Pv i ys H→H D=some (.lst ys)→(∀v H6,H6 D=some (.lst ys)→ys.length < sizeLine→Pv (i+1) (ys++[v]) (upd H6 D (.lst (ys++[v])))→R v H6)→te (some (xs i)::cap) H R)
  (hd:∀ys H,Pv n ys H→H D=some (.lst ys)→Q (.ref D) H):jL D (cY 0) i5 te J (none::cap) H1 Q:=by
 refine ⟨fun i m σ ys H=>m=n - i∧i≤n∧(∃o,σ=o::cap)∧Pv i ys H∧H D=some (.lst ys),⟨n,by simp,afU _,⟨none,rfl⟩,h0,ai⟩,?_⟩
 rintro i m σ ys H ⟨rfl,hi,⟨o,rfl⟩,p,hD⟩
 by_cases j6:i < n
 ·obtain ⟨g1,g2⟩:=go i ys H j6 p
  refine .inr ⟨g1,fun x H' y=> ?_⟩
  obtain ⟨e1,e2⟩:=g2 x H' y
  subst e1 e2
  unfold cY i5
  dsimp only
  rw [if_pos rfl]
  exact hs i ys _ _ j6 p hD fun v H6 a b c=>⟨a,b,n - (i+1),by omega,rfl,by omega,⟨_,rfl⟩,c,ai⟩
 ·have e:i=n:=by omega
  subst e
  exact .inl ⟨stop ys H p,hd ys H p hD⟩
end
section
variable {X:Cx}{tg:Expr}
end
end Ty
set_option maxHeartbeats 4000000
namespace Ty
open PySem PySem.Spec PyProof.Rows L2
section
variable {prog:Program}{w:World}{A:Around}{E:Value→Shared→Prop}
end
structure OJ (K:Frag)(C:Addr):Prop where
 makes:PySem.W.makesIn K C=true
 init:PySem.W.findIn K (.ref C) "__init__"=some (some (.builtin "object.__init__"))
 kp:keepIn K (.ref C)=true
def OK (C:Addr):TE:=fun _ H Q=>∀x dx,H x=none→H dx=none→dx≠x→Q (.ref x) (upd (upd H dx (.own x)) x (.ins C dx []))
section
variable {X:Cx}
theorem FK {pins:List (Addr×Obj)}{σ:L2.St}{H:Hp}{s:Shared}{Q:VK}{C:Addr}(M:OJ X.K C)(I:Inv X pins σ H s)(h:OK C σ H Q):wpAny (model X.prog X.w) X.A (call (.ref C) []) (EP X pins σ Q) X.xe s:=by
 have hq:=h (s.heap.objs.size+1) s.heap.objs.size (I.bz.fresh (agG _)) (I.bz.fresh (ad_ _)) (afJ (af4 _))
 have I2:=Inv.made (C:=C) I
 have Y:=PySem.W.makes_of (M:=model X.prog X.w) I.dX M.makes
 refine wpAny_call (wz I.dX M.makes M.init (fun self=>PySem.W.Looks.of_pure (PySem.W.oi_bind self)) ?_)
 have ho:((s.heap.push PySem.W.emptyDict).push (PySem.W.instObj C s.heap.objs.size)).get? (s.heap.objs.size+1)=some (PySem.W.instObj C s.heap.objs.size):=by
  have:=Heap.get?_push_size (s.heap.push PySem.W.emptyDict) (o:=PySem.W.instObj C s.heap.objs.size) rfl
  rwa [Heap.size_push] at this
 have t1:PySem.W.Looks (model X.prog X.w) ((s.heap.push PySem.W.emptyDict).push (PySem.W.instObj C s.heap.objs.size)) (typeOf (.ref (s.heap.objs.size+1))) (.ref C):=(PySem.W.Looks.ld ho).andThen .now
 have t2:PySem.W.Looks (model X.prog X.w) ((s.heap.push PySem.W.emptyDict).push (PySem.W.instObj C s.heap.objs.size)) (isInstance (.ref (s.heap.objs.size+1)) (.type "object")) true:=
  t1.andThen (Y.top.keeps fun b o e=>Heap.get?_push_of_some _ (Heap.get?_push_of_some _ e))
 refine codeAny_call_builtin PySem.W.oi_plain PySem.W.entry_oi (@PySem.W.check_slot (model X.prog X.w) _ _ _ "object.__init__" "object" "__init__" (.ref (s.heap.objs.size+1)) [] [] _ PySem.W.oi_kind PySem.W.oi_split t2 (PySem.W.oi_args (.ref (s.heap.objs.size+1))) ?_)
 rw [PySem.W.oi_run]
 exact wpAny_pure (And.intro rfl ⟨V.ref (s.heap.objs.size+1),_,I2,rfl,hq⟩)
theorem Lz {x:Str}{p pos:Pos}{C:Addr}(M:OJ X.K C)(hg:Gl X x)(hm:X.mg x=some (.ref C))(rB:(x==("__debug__":Str))=false:=by decide):PE X (.Call (.Name x p) [] [] pos) (OK C):=by
 intro pins s σ H Q I h
 refine wpAny_Call_Name_kw (dQ I hg hm ?_ rB)
 exact PySem.W.callWith_K0 I.dX M.kp (FK M I h)
end
structure bG (P:Program)(w:World)(K:Frag)(mg:Str→Option Value)(base:Heap)(CX:jw)(k:Nat)(C:Addr)(m:Str)(ps:List Str)(sp:Sp):Prop where
 ex:∃(f:Addr) (fd:FuncData),rA K C∧Meth K C m f∧cp P w K mg base CX k f fd ps sp∧Binds K fd ps []
theorem bG.mono {P:Program}{w:World}{K:Frag}{mg:Str→Option Value}{base:Heap}{CX:jw}{j k:Nat}{C:Addr}{m:Str}{ps:List Str}{sp:Sp}(M:bG P w K mg base CX j C m ps sp)(h:j≤k):bG P w K mg base CX k C m ps sp:=by
 obtain ⟨f,fd,a,b,c,d⟩:=M.ex
 exact ⟨f,fd,a,b,c.mono h,d⟩
section
variable {X:Cx}{CX:jw}{k:Nat}{E:XK}{m:Str}{pos apos:Pos}{e o:Expr}{es:List Expr}{ta:TE}{t:TA}
inductive JY (P:Program)(w:World)(K:Frag)(mg:Str→Option Value)(base:Heap)(CX:jw)(k:Nat)(m:Str)(E:XK)(t:TA)(σ:L2.St)(Q:VK)(x:V)(H1:Hp):Prop where
 | mk (a C dx fs ps sp:_) (_:x=.ref a) (_:H1 a=some (.ins C dx fs)) (_:fs.lookup m=none) (_:bG P w K mg base CX k C m ps sp) (_:t σ H1 fun vs H2=>sp (x::vs) H2 Q E):JY P w K mg base CX k m E t σ Q x H1
def OL (P:Program)(w:World)(K:Frag)(mg:Str→Option Value)(base:Heap)(CX:jw)(k:Nat)(m:Str)(E:XK)(ta:TE)(t:TA):TE:=fun σ H Q=>ta σ H fun x H1=>JY P w K mg base CX k m E t σ Q x H1
theorem dz {pl:Sem Bool}(he:PE X o ta)(hr:bY k X.A)(hx:Passes CX X E)
  (ht:eval (.Call (.Attribute o m apos) [] [] pos) X.env=(do
   let ov ← eval o X.env
   standAt apos.atName
   let (f,first) ← holding [ov] (getMethod ov m pl)
   callWith pos f first (backTo pos (starEach [] X.env)) (backToKw pos (keywordEach [] X.env))):=by rfl):
  PE X (.Call (.Attribute o m apos) [] [] pos) (OL X.prog X.w X.K X.mg X.base CX k m E ta gk):=by
 intro pins s σ H Q I h
 refine PySem.W.methodCall_KW (pl:=pl) (bZ (he pins s σ H _ I h) fun u s1 ⟨x,H1,I1,rx,a,C,dx,fs,ps,sp,ex,ea,l,M,q⟩=> ?_) ht
 subst ex
 obtain rfl:u=Value.ref a:=rx
 obtain ⟨f,fd,c,hm,F,hb⟩:=M.ex
 refine iu I1 ea c hm l ?_
 exact PySem.W.callWith_K0 (first:=[.ref a]) I1.dX hm.kp (pj (us:=[.ref a]) (vs:=[.ref a]) (dvs:=[]) F hr hb .nil hx I1 (.cons rfl .nil) q)
theorem c6 {pl:Sem Bool}(he:PE X o ta)(hr:bY k X.A)(hx:Passes CX X E)(ha:PA X (e::es) t)
  (y6:starEach (e::es) X.env=(false,eval e X.env)::starEach es X.env:=by rfl) (q4:(backTo pos (starEach es X.env)).any (·.1)=false:=by rfl)
  (ht:eval (.Call (.Attribute o m apos) (e::es) [] pos) X.env=(do
   let ov ← eval o X.env
   standAt apos.atName
   let (f,first) ← holding [ov] (getMethod ov m pl)
   callWith pos f first (backTo pos (starEach (e::es) X.env)) (backToKw pos (keywordEach [] X.env))):=by rfl):
  PE X (.Call (.Attribute o m apos) (e::es) [] pos) (OL X.prog X.w X.K X.mg X.base CX k m E ta t):=by
 intro pins s σ H Q I h
 refine PySem.W.methodCall_KW (pl:=pl) (bZ (he pins s σ H _ I h) fun u s1 ⟨x,H1,I1,rx,a,C,dx,fs,ps,sp,ex,ea,l,M,q⟩=> ?_) ht
 subst ex
 obtain rfl:u=Value.ref a:=rx
 obtain ⟨f,fd,c,hm,F,hb⟩:=M.ex
 refine iu I1 ea c hm l ?_
 refine PySem.W.callWith_K (first:=[.ref a]) (h₀:=X.base) I.ok.mod.IX hm.kp (bZ (ha pos pins s1 σ H1 _ I1 q) fun us s2 ⟨vs,H2,I2,r,q2⟩=>⟨I2.dX,?_⟩) y6 q4
 refine pj (us:=.ref a::us) (vs:=.ref a::vs) (dvs:=[]) F hr hb .nil hx I2 (.cons rfl r) ?_
 rw [agc]
 exact q2
end
theorem mx {X:Cx}{CX:jw}(h:rQ CX)(e:X.xe=fun _ _=>False):Passes CX X E0:=fun _ _ _ _ _ _ _ q=>(h _ _ _ _ _ q).elim
end Ty
set_option maxHeartbeats 4000000
namespace Ty
open PySem PySem.Spec PyProof.Rows L2
section
variable {σ:L2.St}{H:Hp}{Q:VK}{QB:Bool→Hp→Prop}{QA:List V→Hp→Prop}{D:Ends}{t u:TS}{ta tb te:TE}{tc td:TT}{t1:TA}
end
end Ty
set_option maxHeartbeats 4000000
namespace Ty
open PySem PySem.Spec PyProof.Rows L2
section
variable {X:Cx}
inductive OM (x:V)(lo:Option Int)(hi:Option Int)(H:Hp)(Q:VK):Prop where
 | mk (z:_) (_:x=.str z) (_:z.length≤sizeLine) (_:Q (.str (Txt.slice z lo hi)) H):OM x lo hi H Q
theorem LA:V2 X OM:=by
 intro pins s σ H x v vl vu lo hi sl Q I rx hs pl pu h
 obtain ⟨z,rfl,hz,q⟩:=h
 obtain ⟨t,rfl⟩:=rx
 refine ⟨"str",_,F.slot_str_getitem.lookup,typeIs_str _ _ _,?_⟩
 cases pl <;> cases pu
 ·exact wpAny_getItem_str_slice (l:=none) (u:=none) (st:=none) hs rfl (post_val_or_str ⟨ac_ (Txt.slice_le z _ _) hz,fun t' k=>⟨.str _,H,I.tok k,⟨t',rfl⟩,q⟩⟩)
 ·rename_i j uj
  exact wpAny_getItem_str_slice (l:=none) (u:=some (j,uj)) (st:=none) hs rfl (post_val_or_str ⟨ac_ (Txt.slice_le z _ _) hz,fun t' k=>⟨.str _,H,I.tok k,⟨t',rfl⟩,q⟩⟩)
 ·rename_i i ui
  exact wpAny_getItem_str_slice (l:=some (i,ui)) (u:=none) (st:=none) hs rfl (post_val_or_str ⟨ac_ (Txt.slice_le z _ _) hz,fun t' k=>⟨.str _,H,I.tok k,⟨t',rfl⟩,q⟩⟩)
 ·rename_i i ui j uj
  exact wpAny_getItem_str_slice (l:=some (i,ui)) (u:=some (j,uj)) (st:=none) hs rfl (post_val_or_str ⟨ac_ (Txt.slice_le z _ _) hz,fun t' k=>⟨.str _,H,I.tok k,⟨t',rfl⟩,q⟩⟩)
inductive JZ (x:V)(y:V)(H:Hp)(Q:VK):Prop where
 | mk (z n:_) (_:x=.str z) (_:y=.int n) (_:MulOk z n) (_:Q (.str (Txt.mul z n)) H):JZ x y H Q
theorem qa:iO X (binaryOp .Mult) JZ:=by
 intro pins s σ H x y v u Q I rx ry h
 obtain ⟨z,n,rfl,rfl,ok,q⟩:=h
 obtain ⟨t,rfl⟩:=rx
 obtain ⟨t',rfl⟩:=ry
 exact SB.mul ok fun t' k=>⟨.str _,H,I.tok k,⟨t',rfl⟩,q⟩
theorem all_range (bs:List Bool):(agx bs.length).all (fun i=>(bs[i]?).getD true)=bs.all id:=by
 induction bs with
 | nil=>rfl
 | cons b r ih=>
  rw [afL,ao_,agW,apD,agW, ← ih]
  rfl
inductive ON (K:Frag)(xs:List V)(H:Hp)(Q:VK):Prop where
 | mk (p:Addr) (bs:List Bool) (_:xs=[.ref p]) (_:aR K H p (bs.map V.bl)) (_:Q (.bl (bs.all id)) H):ON K xs H Q
theorem ow (hc:X.calm=true):eO X (.builtin "all") (ON X.K):=by
 intro pins s σ H xs us Q I r h
 obtain ⟨p,bs,rfl,hq,q⟩:=h
 obtain ⟨u,rfl,r1⟩:=vals1 r
 cases r1
 obtain ⟨its,rv,pl,hz⟩:=I.list hq
 refine call_all_walk (wpAny_pyIter_list pl.isList ?_)
 have yP:p≠s.heap.objs.size:=by obtain ⟨o,ho,_⟩:=pl.isList;exact afJ (Heap.lt_size ho)
 have I1:Inv X pins σ H {s with heap:=s.heap.push {cls:=.type "list_iterator",data:=.fields #[.ref p,.int 0 0]}}:=I.kept (t' :=s.toks) fun b o e=>Heap.get?_push_of_some _ e
 obtain ⟨f0,f1,f2,f3,f4,f5⟩:=I.nE (H' :=H) (ad_ s.heap.objs.size) (I.bz.fresh (ad_ _))
 have hl:its.length=bs.length:=by rw [← rv.length,Wp]
 refine ⟨s.heap.objs.size,_,_,_,_,_,fun i=>(bs[i]?).getD true,rfl,Walks.list (A:=X.A.in1) (I.ok.hd hc) s.heap.objs.size p yP its.toArray,⟨⟨_,Heap.get?_push_size _ rfl,rfl,rfl⟩,pl.isList.at fun o e=>Heap.get?_push_of_some _ e⟩,?_,fun h' tk kk=> ?_⟩
 ·intro i v s' Q' E' hv iw
  have K_ :its[i]? =some v:=by simpa using hv
  have hi:i < bs.length:=by rw [← hl];exact (ir.mp K_).1
  have eb:(bs.map V.bl)[i]? =some (.bl bs[i]):=by rw [aa_,gE hi];rfl
  obtain ⟨u,eu,ru⟩:=rv.get eb
  rw [K_] at eu
  cases eu
  cases ru
  dsimp only at iw
  rw [gE hi] at iw
  exact wpAny_truthy_bool iw
 ·refine ⟨.bl (bs.all id),H,I1.turned (t' :=tk) (it:=s.heap.objs.size) (fun b o hb e=>kk b o (by simpa using hb) e) f0 f1 f3 f4 f5,?_,q⟩
  show _=_
  rw [← all_range bs,afC,hl]
end
end Ty
set_option maxHeartbeats 4000000
namespace Ty
open PySem PySem.Spec PyProof.Rows L2 PySem.NumText
def dg (m:Nat):List Nat:=(Nat.toDigits 10 m).map Char.toNat
def tx (n:Int):Str:=Str.ofString (toString n)
def OO:Str:=Str.ofString "/"
def nt (q:Int×Int):Str:=if q.2=1 then tx q.1 else tx q.1++OO++tx q.2
end Ty
set_option maxHeartbeats 4000000
namespace Ty
open PySem PySem.Spec PyProof.Rows L2 PySem.NumText
section
variable {X:Cx}
end
def isStar:Expr→Bool
 | .Starred .. =>true
 | _=>false
theorem wV {e:Expr}{es:List Expr}{env:Env}(h:isStar e=false):starEach (e::es) env=(false,eval e env)::starEach es env:=by
 cases e <;> first | rfl | (cases h;done)
theorem ao {X:Cx}{e:Expr}{es:List Expr}{te:TE}{t:TA}(ha:PE X e te)(hr:PA X es t)(h:isStar e=false:=by rfl):PA X (e::es) (JE te t):=EM ha hr (wV h)
end Ty
set_option maxHeartbeats 4000000
namespace Ty
open PySem PySem.Spec PyProof.Rows L2
section
variable {D:Addr}{te:TE}{cap:L2.St}{H1:Hp}{Q:VK}
def bU (D:Addr)(H H' :Hp):Prop:=∀b o,b≠D→H b=some o→H' b=some o
theorem bU.of {H H' :Hp}(s:aq H H'):bU D H H' :=fun b o _ e=>s b o e
theorem bU.upd {H:Hp}{o:HO}:bU D H (upd H D o):=fun b o' n e=>by rw [aj n];exact e
theorem rZ {J:It}(n:Nat)(xs:Nat→V)(Rel:Nat→V→Hp→Prop)(nD:H1 D=none)(hn:n < sizeLine)
  (go:∀i H,i < n→aq H1 H→J.go i H∧∀x H',J.y9 i H x H' →H' =H∧x=xs i) (stop:∀H,aq H1 H→J.stop n H)
  (hR:∀i v H H' ys,H D=some (.lst ys)→bU D H H' →Rel i v H→Rel i v H')
  (he:∀i H (R:VK),i < n→aq H1 H→(∀v H6,aq H H6→Rel i v H6→R v H6)→te (some (xs i)::cap) H R)
  (hd:∀ys H,ys.length=n→(∀i v,ys[i]? =some v→Rel i v H)→aq H1 H→H D=some (.lst ys)→Q (.ref D) H):
  jL D (cY 0) i5 te J (none::cap) H1 Q:=by
 refine um n xs (fun i ys H=>ys.length=i∧(∀i v,ys[i]? =some v→Rel i v H)∧aq H1 H) ⟨rfl,fun i v e=>by simp at e,fun b o e=>by rw [aj (ak e nD)];exact e⟩ ?_ ?_ ?_ ?_
 ·rintro i ys H hi ⟨_,_,s⟩
  exact go i H hi s
 ·rintro ys H ⟨_,_,s⟩
  exact stop H s
 ·rintro i ys H R hi ⟨l,r,s⟩ hD k
  refine he i H R hi s fun v H6 s6 rv=>k v H6 (s6 _ _ hD) (by omega) ⟨by simp [l],fun j u e=> ?_,fun b o e=> ?_⟩
  ·by_cases c:j < ys.length
   ·rw [afv c] at e
    have ru:=hR j u H H6 ys hD (bU.of s6) (r j u e)
    exact hR j u H6 _ ys (s6 _ _ hD) bU.upd ru
   ·rw [afy (by omega)] at e
    have ej:j=i:=by
     by_cases z:j - ys.length=0
     ·omega
     ·rw [ae_ (by simp;omega)] at e
      cases e
    subst ej
    have:v=u:=by
     rw [show j - ys.length=0 by omega] at e
     exact afB e
    subst this
    exact hR j v H6 _ ys (s6 _ _ hD) bU.upd rv
  ·rw [aj (ak e nD)]
   exact s6 _ _ (s _ _ e)
 ·rintro ys H ⟨l,r,s⟩ hD
  exact hd ys H l r s hD
theorem b_ {K:Frag}{a:Addr}{xs:List V}(Rel:Nat→V→Hp→Prop)(nD:H1 D=none)(hn:xs.length < sizeLine)(hS:∀H,aq H1 H→aR K H a xs)
  (hR:∀i v H H' ys,H D=some (.lst ys)→bU D H H' →Rel i v H→Rel i v H')
  (he:∀i x H (R:VK),xs[i]? =some x→aq H1 H→(∀v H6,aq H H6→Rel i v H6→R v H6)→te (some x::cap) H R)
  (hd:∀ys H,ys.length=xs.length→(∀i v,ys[i]? =some v→Rel i v H)→aq H1 H→H D=some (.lst ys)→Q (.ref D) H):
  jL D (cY 0) i5 te (DV K a) (none::cap) H1 Q:=by
 refine rZ xs.length (fun i=>(xs[i]?).getD .cj) Rel nD hn (fun i H hi s=>⟨⟨xs,xs[i],hS H s,gE hi⟩,fun x H' y=>⟨y.1,?_⟩⟩) (fun H s=>⟨xs,hS H s,ad_ _⟩) hR (fun i H R hi s k=> ?_) hd
 ·rw [y.2 xs (hS H s)];rfl
 ·have e:xs[i]? =some xs[i]:=gE hi
  have k' :=he i _ H R e s k
  rw [← (show (xs[i]?).getD .cj=xs[i] by rw [e];rfl)] at k'
  exact k'
theorem uo {lo:Int}{n:Nat}(Rel:Nat→V→Hp→Prop)(nD:H1 D=none)(hn:n < sizeLine)
  (hR:∀i v H H' ys,H D=some (.lst ys)→bU D H H' →Rel i v H→Rel i v H')
  (he:∀(i:Nat) H (R:VK),i < n→aq H1 H→(∀v H6,aq H H6→Rel i v H6→R v H6)→te (some (.int (lo+i))::cap) H R)
  (hd:∀ys H,ys.length=n→(∀i v,ys[i]? =some v→Rel i v H)→aq H1 H→H D=some (.lst ys)→Q (.ref D) H):
  jL D (cY 0) i5 te (K5 lo n) (none::cap) H1 Q:=
 rZ n (fun i=>.int (lo+i)) Rel nD hn (fun i H hi s=>⟨hi,fun x H' y=>y⟩) (fun H s=>ad_ n) hR he hd
end
end Ty
set_option maxHeartbeats 4000000
namespace Ty
open PySem PySem.Spec PyProof.Rows L2
section
variable {X:Cx}{pins:List (Addr×Obj)}{σ:L2.St}{H:Hp}{s:Shared}{h' :Heap}
theorem Inv.lA {t' :Nat}{fp:List Addr}(I:Inv X pins σ H s)(k:∀b o,b∉fp→s.heap.get? b=some o→h'.get? b=some o)(hf:∀b∈fp,jC X pins H b):Inv X pins σ H {s with heap:=h',toks:=t' }:=by
 have IZ:∀b u,H b=some u→b∉fp:=fun b u e z=>by rw [(hf b z).1] at e;cases e
 refine I.step (g' :=s.gens) (d' :=s.drawn) (ch:=fp) (fun b hb=> ?_) (fun b o _ _ hc e _=>k b o hc e) (fun b o _ _ hc e _=>⟨o.slots,k b o hc e⟩) (fun _ _ _ _ n=>n)
  (fun b o hc e=>⟨o,k b o hc e⟩) (fun _ _ e=>e) (fun _ _ _ e=>e) (fun b ps e=>⟨#[],by rw [e];simp⟩) (fun m hm=> ?_) (fun b u e=> ?_) I.bare
 ·obtain ⟨f0,f1,f2,f3,f4,f5⟩:=hf b hb
  exact ⟨f3,f1,f4,f5⟩
 ·obtain ⟨o,es,ep,ho,r⟩:=hm
  exact ⟨o,es,ep,k _ o (fun z=>(hf _ z).2.1 rfl) ho,r⟩
 ·refine (I.bz b u e).jz (fun c v hc q=>k c v ?_ q) (fun _ q=>q) fun _ _ q=>q
  rcases hc with z | z
  ·rw [z];exact IZ b u e
  ·exact IZ c _ z
theorem Inv.qb {t' :Nat}{fp:List Addr}{T:Addr}{xs:List V}{its:List Value}(I:Inv X pins σ H s)(k:∀b o,b∉fp→s.heap.get? b=some o→h'.get? b=some o)(hf:∀b∈fp,jC X pins H b)(hT:s.heap.objs.size≤T)
  (hz:xs.length≤sizeLine) (rv:Vals xs its) (ht:IsTup h' T its.toArray):Inv X pins σ (upd H T (.tup xs)) {s with heap:=h',toks:=t' }:=by
 have hn:=I.bz.fresh hT
 have IZ:∀b u,H b=some u→b∉fp:=fun b u e z=>by rw [(hf b z).1] at e;cases e
 have ne:∀b o,s.heap.get? b=some o→b≠T:=fun b o e=>afJ (afw (Heap.lt_size e) hT)
 refine I.step (g' :=s.gens) (d' :=s.drawn) (ch:=fp) (fun b hb=> ?_) (fun b o _ _ hc e _=>k b o hc e) (fun b o _ _ hc e _=>⟨o.slots,k b o hc e⟩) (fun b o _ e n=>by rw [aj (ne b o e)];exact n)
  (fun b o hc e=>⟨o,k b o hc e⟩) (fun b ys e=>by rw [aj (ak e hn)];exact e) (fun b o u e=>by rw [aj (ak e hn)];exact e) (fun b ps e=>⟨#[],by rw [aj (ak e hn),e];simp⟩) (fun m hm=> ?_) (fun b u e=> ?_) I.bare
 ·obtain ⟨f0,f1,f2,f3,f4,f5⟩:=hf b hb
  exact ⟨f3,f1,f4,f5⟩
 ·obtain ⟨o,es,ep,ho,r⟩:=hm
  exact ⟨o,es,ep,k _ o (fun z=>(hf _ z).2.1 rfl) ho,r⟩
 ·by_cases hb:b=T
  ·subst hb
   rw [ai] at e
   cases e
   exact ⟨hz,its,rv,ht⟩
  ·rw [aj hb] at e
   refine (I.bz b u e).jz (fun c v hc q=>k c v ?_ q) (fun c q=>by rw [aj (ak q hn)];exact q) fun c ys q=>by rw [aj (ak q hn)];exact q
   rcases hc with z | z
   ·rw [z];exact IZ b u e
   ·exact IZ c _ z
end
def V7 (K:Frag)(a b:Addr):It:=
 ⟨fun i H=>∃xs ys x y,aR K H a xs∧aR K H b ys∧xs[i]? =some x∧ys[i]? =some y,
  fun i H v H' =>∃p x y,(∀xs,aR K H a xs→xs[i]? =some x)∧(∀ys,aR K H b ys→ys[i]? =some y)∧v=.ref p∧H p=none∧H' =upd H p (.tup [x,y]),
  fun i H=>∃xs ys,aR K H a xs∧aR K H b ys∧(xs.length≤i∨ys.length≤i)⟩
theorem AG {P:Program}{w:World}{K:Frag}{es:List Expr}{k:Nat}{pos:Pos}(a b z TI TO i1 i2:Addr)(D:ZipApart z TI TO i1 i2 a b):
  Turn P w K (.Tuple es k pos) (V7 K a b) [z,TI,TO,i1,i2] z (fun i h=>IsZip h z TI TO .none∧IsPair h TI (.ref i1) (.ref i2)∧(∃x y,IsPair h TO x y)∧h.IsListIter i1 a i∧h.IsListIter i2 b i) where
 mem:=by simp
 obj:=fun i h st c hc=>by
  obtain ⟨hz,iB,⟨x,y,oy⟩,⟨o1,e1,c1,d1⟩,⟨o2,e2,c2,d2⟩⟩:=st
  have nA :c=z∨c=TI∨c=TO∨c=i1∨c=i2:=by simpa using hc
  rcases nA with e | e | e | e | e <;> subst e
  ·exact ⟨_,hz,fun v z=>by cases z⟩
  ·exact ⟨_,iB,fun v z=>by cases z⟩
  ·exact ⟨_,oy,fun v z=>by cases z⟩
  ·exact ⟨_,e1,fun v z=>by rw [d1] at z;cases z⟩
  ·exact ⟨_,e2,fun v z=>by rw [d2] at z;cases z⟩
 keep:=fun i h h' st k=>by
  obtain ⟨hz,iB,⟨x,y,oy⟩,h1,h2⟩:=st
  exact ⟨k z (by simp) _ hz,k TI (by simp) _ iB,⟨x,y,k TO (by simp) _ oy⟩,h1.at fun o e=>k i1 (by simp) o e,h2.at fun o e=>k i2 (by simp) o e⟩
 item:=by
  intro X hP hw hK hc i pins s σ H E I hf st hg
  subst hP hw hK
  obtain ⟨hz,iB,⟨x0,y0,oy⟩,h1,h2⟩:=st
  obtain ⟨xs,ys,x,y,qx,qy,ex,ey⟩:=hg
  obtain ⟨its,rv,p,_⟩:=I.list qx
  obtain ⟨OP,qZ,p',_⟩:=I.list qy
  obtain ⟨u,hu,ru⟩:=rv.get ex
  obtain ⟨v,hv,rv'⟩:=qZ.get ey
  refine wpAny_pyNext_zip_item D hz iB oy h1 h2 p.isList p'.isList (x:=u) (y:=v) (by simpa using hu) (by simpa using hv) fun h' a1 a2 a3 a4 a5 a6 a7=> ?_
  refine ⟨_,rfl,wpAny_letOwnedTupleGo_zip (s:={s with heap:=h' }) a1 fun DX b1 sb=> ?_⟩
  have nz:∀c,c≠z→∀o,h'.get? c=some o→DX.get? c=some o:=fun c hc o e=>(sb.2 c hc).trans e
  have kk:∀b o,b∉[z,TI,TO,i1,i2]→s.heap.get? b=some o→DX.get? b=some o:=fun b o hb e=>by
   have gX :b≠z∧b≠TI∧b≠TO∧b≠i1∧b≠i2:=by simpa using hb
   exact nz b gX.1 o (a7 b o gX.1 gX.2.2.1 gX.2.2.2.1 gX.2.2.2.2 e)
  have sz:∀c o,s.heap.get? c=some o→s.heap.objs.size≠c:=fun c o e=>ag4 (Heap.lt_size e)
  have tz:s.heap.objs.size≠z:=sz _ _ hz
  have hn:=I.bz.fresh (ad_ s.heap.objs.size)
  have I2:Inv X pins σ (upd H s.heap.objs.size (.tup [x,y])) {s with heap:=DX,toks:=s.toks}:=
   Inv.qb I kk hf (ad_ _) (by show 2≤sizeLine;decide) (its:=[u,v]) (.cons ru (.cons rv' .nil)) ⟨_,nz _ tz _ a5,rfl,_,rfl⟩
  refine ⟨.ref s.heap.objs.size,_,I2,rfl,⟨s.heap.objs.size,x,y,fun xs' q=>by rw [I.gx q qx];exact ex,fun XH q=>by rw [I.gx q qy];exact ey,rfl,hn,rfl⟩,⟨b1,nz _ D.TIz _ (a7 _ _ D.TIz D.TITO D.TIi1 D.TIi2 iB),⟨_,_,nz _ D.TOz _ a2⟩,a3.at fun o e=>nz _ D.i1z o e,a4.at fun o e=>nz _ D.i2z o e⟩,fun b hb=> ?_⟩
  have ob:∃o,s.heap.get? b=some o:=by
   obtain ⟨o1,e1,_⟩:=h1
   obtain ⟨o2,e2,_⟩:=h2
   have nA :b=z∨b=TI∨b=TO∨b=i1∨b=i2:=by simpa using hb
   rcases nA with e | e | e | e | e <;> subst e
   ·exact ⟨_,hz⟩
   ·exact ⟨_,iB⟩
   ·exact ⟨_,oy⟩
   ·exact ⟨_,e1⟩
   ·exact ⟨_,e2⟩
  obtain ⟨o,e⟩:=ob
  rw [aj (afO (sz _ _ e))]
  exact (hf b hb).1
 done:=by
  intro X hP hw hK hc i pins s σ H E I hf st hg
  subst hP hw hK
  obtain ⟨hz,iB,⟨x0,y0,oy⟩,h1,h2⟩:=st
  obtain ⟨xs,ys,qx,qy,ee⟩:=hg
  obtain ⟨its,rv,p,_⟩:=I.list qx
  obtain ⟨OP,qZ,p',_⟩:=I.list qy
  have l1:=rv.length
  have l2:=qZ.length
  refine wpAny_pyNext_zip_end (I.ok.hd hc) D hz iB oy h1 h2 p.isList p'.isList ?_ fun h' kk=>⟨rfl,Inv.lA I (fun b o hb e=> ?_) hf⟩
  ·rcases ee with e | e
   ·exact .inl (by simp;omega)
   ·exact .inr (by simp;omega)
  ·have gX :b≠z∧b≠TI∧b≠TO∧b≠i1∧b≠i2:=by simpa using hb
   exact kk b o gX.1 gX.2.2.1 gX.2.2.2.1 gX.2.2.2.2 e
 self:=fun _ _ _ _ _ st h=>wpAny_pyIter_zip st.1 h
theorem boot_zip:bootBuiltins "zip"=some (.type "zip"):=by decide+kernel
section
variable {X:Cx}
inductive J_ (K:Frag)(R:(It→Hp→Prop))(vs:List V)(H1:Hp):Prop where
 | mk (a b:_) (_:vs=[.ref a,.ref b]) (_:(∃xs,aR K H1 a xs)) (_:(∃ys,aR K H1 b ys)) (_:R (V7 K a b) H1):J_ K R vs H1
def XI (K:Frag)(ta:TA):TI:=fun σ H R=>ta σ H fun vs H1=>J_ K R vs H1
theorem uq {e1 e2:Expr}{ta:TA}{p pos:Pos}{es:List Expr}{k:Nat}{t_:Pos}(hg:Gl X "zip")(hm:X.mg "zip"=none)(ha:PA X [e1,e2] ta)(hs:starEach [e1,e2] X.env=[(false,eval e1 X.env),(false,eval e2 X.env)]:=by rfl)(tY:starEach [e2] X.env=[(false,eval e2 X.env)]:=by rfl):
  PI X (.Tuple es k t_) (.Call (.Name "zip" p) [e1,e2] [] pos) (XI X.K ta):=by
 intro pins s σ H R I h
 refine Call_ (gw I hg hm boot_zip (PyProof.Rows.callWith_type1 (bZ (ha pos pins s σ H _ I h) fun us s1 ⟨vs,H1,I1,r1,q1⟩=> ?_) (by rw [hs,tY]) (by rw [tY];rfl)))
 obtain ⟨a,b,e,⟨xs,hx⟩,⟨ys,hy⟩,q⟩:=q1
 subst e
 cases r1 with
 | cons r rr=>
  cases rr with
  | cons r' rr=>
   cases rr
   cases r
   cases r'
   obtain ⟨its,rv,pl,_⟩:=I1.list hx
   obtain ⟨OP,qZ,pl',_⟩:=I1.list hy
   have lt1:a < s1.heap.objs.size:=by obtain ⟨o,ho,_⟩:=pl.isList;exact Heap.lt_size ho
   have lt2:b < s1.heap.objs.size:=by obtain ⟨o,ho,_⟩:=pl'.isList;exact Heap.lt_size ho
   refine call_zip_2 pl.isList pl'.isList fun h' hz iB oy OQ OR hsz hk=>wpAny_pyIter_zip (s:={s1 with heap:=h' }) hz ?_
   refine ⟨s1.heap.objs.size+4,[s1.heap.objs.size+4,s1.heap.objs.size+2,s1.heap.objs.size+3,s1.heap.objs.size,s1.heap.objs.size+1],_,_,H1,rfl,I1.kept (t' :=s1.toks) hk,AG a b _ _ _ _ _ ?_,⟨hz,iB,⟨_,_,oy⟩,OQ,OR⟩,fun c hc=> ?_,q⟩
   ·constructor <;> (intro z;simp only [Addr] at*;omega)
   ·have nA :s1.heap.objs.size≤c:=by
     have:c=s1.heap.objs.size+4∨c=s1.heap.objs.size+2∨c=s1.heap.objs.size+3∨c=s1.heap.objs.size∨c=s1.heap.objs.size+1:=by simpa using hc
     simp only [Addr] at*
     omega
    exact I1.nE nA (I1.bz.fresh nA)
inductive AH (K:Frag)(xs:List V)(H:Hp)(Q:VK):Prop where
 | mk (p:Addr) (ys:List V) (_:xs=[.ref p]) (_:aR K H p ys) (_:∀l,H l=none→Q (.ref l) (upd H l (.lst ys))):AH K xs H Q
theorem my:eO X (.type "list") (AH X.K):=by
 intro pins s σ H xs us Q I r h
 obtain ⟨p,ys,rfl,hq,q⟩:=h
 obtain ⟨u,rfl,r1⟩:=vals1 r
 cases r1
 obtain ⟨its,rv,⟨o,n,e,c,d1,d⟩,hz⟩:=I.list hq
 have hlen:=rv.length
 refine call_list_seq p (.inl rfl) e c d (fun h' c' hk hl=> ?_) (by simp;omega)
 have hn:=I.bz.fresh (ad_ s.heap.objs.size)
 have I2:Inv X pins σ (upd H s.heap.objs.size (.lst ys)) {s with heap:=h',toks:=s.toks}:=I.laid (t' :=s.toks) hk (ad_ _) ⟨hz,its,c',rv,hl⟩
 exact ⟨.ref _,_,I2,rfl,q _ hn⟩
end
section
variable {X:Cx}{K:Frag}
theorem bO (h:X.K=K):Lc X (zB K):=by subst h;exact iy
theorem r6 (h:X.K=K):Lc X (EU K):=by subst h;exact aS
theorem qc {es:List Expr}{k:Nat}{t:Jv}{n:Nat}{pos:Pos}(hK:X.K=K)(hc:X.calm=true)(h:NX X es t)
  (hn:(assignEach es X.env).length=n:=by rfl) (y6:(assignEach es X.env).findIdx? (·.1)=none:=by rfl):PG X (.Tuple es k pos) (y4 K n t):=by subst hK;exact dI hc h hn y6
end
section
variable {D:Addr}{te:TE}{cap:L2.St}{H1:Hp}{Q:VK}
theorem r8 {K:Frag}{a b:Addr}{xs ys:List V}(Rel:Nat→V→Hp→Prop)(nD:H1 D=none)(hn:xs.length < sizeLine)(hl:ys.length=xs.length)(hX:∀H,aq H1 H→aR K H a xs)(hY:∀H,aq H1 H→aR K H b ys)
  (hR:∀i v H H' ys,H D=some (.lst ys)→bU D H H' →Rel i v H→Rel i v H')
  (he:∀i x y H (R:VK),xs[i]? =some x→ys[i]? =some y→aq H1 H→(∀v H6,aq H H6→Rel i v H6→R v H6)→te (some x::some y::cap) H R)
  (hd:∀zs H,zs.length=xs.length→(∀i v,zs[i]? =some v→Rel i v H)→aq H1 H→H D=some (.lst zs)→Q (.ref D) H):
  jL D (y4 K 2 (rl (cY 0) (rl (cY 1) K2))) i5 te (V7 K a b) (none::none::cap) H1 Q:=by
 refine ⟨fun i m σ zs H=>m=xs.length - i∧i≤xs.length∧(∃o o',σ=o::o' ::cap)∧(zs.length=i∧(∀i v,zs[i]? =some v→Rel i v H)∧aq H1 H)∧H D=some (.lst zs),⟨xs.length,by simp,afU _,⟨none,none,rfl⟩,⟨rfl,fun i v e=>by simp at e,fun b o e=>by rw [aj (ak e nD)];exact e⟩,ai⟩,?_⟩
 rintro i m σ zs H ⟨rfl,hi,⟨o,o',rfl⟩,⟨l,r,s⟩,hD⟩
 by_cases j6:i < xs.length
 ·have e1:xs[i]? =some xs[i]:=gE j6
  have e2:ys[i]? =some (ys[i]'(by omega)):=gE (by omega)
  refine .inr ⟨⟨xs,ys,_,_,hX H s,hY H s,e1,e2⟩,fun v H' y=> ?_⟩
  obtain ⟨p,x,y,q1,q2,rfl,np,rfl⟩:=y
  have e1:=q1 xs (hX H s)
  have e2:=q2 ys (hY H s)
  have sp:aq H (upd H p (.tup [x,y])):=fun b o e=>by rw [aj (ak e np)];exact e
  refine ⟨p,_,rfl,bF.of ai,rfl,_,_,rfl,_,_,rfl,rfl,?_⟩
  unfold i5
  dsimp only
  rw [if_pos rfl]
  refine he i x y _ _ e1 e2 (fun b o e=>sp _ _ (s _ _ e)) fun v H6 s6 rv=>⟨s6 _ _ (sp _ _ hD),by omega,xs.length - (i+1),by omega,rfl,by omega,⟨_,_,rfl⟩,⟨by simp [l],fun j u e=> ?_,fun b o e=> ?_⟩,ai⟩
  ·by_cases c:j < zs.length
   ·rw [afv c] at e
    have ru:=hR j u H H6 zs hD (bU.of fun b o q=>s6 _ _ (sp _ _ q)) (r j u e)
    exact hR j u H6 _ zs (s6 _ _ (sp _ _ hD)) bU.upd ru
   ·rw [afy (by omega)] at e
    have ej:j=i:=by
     by_cases z:j - zs.length=0
     ·omega
     ·rw [ae_ (by simp;omega)] at e
      cases e
    subst ej
    have:v=u:=by
     rw [show j - zs.length=0 by omega] at e
     exact afB e
    subst this
    exact hR j v H6 _ zs (s6 _ _ (sp _ _ hD)) bU.upd rv
  ·rw [aj (ak e nD)]
   exact s6 _ _ (sp _ _ (s _ _ e))
 ·have e:i=xs.length:=by omega
  subst e
  exact .inl ⟨⟨xs,ys,hX H s,hY H s,.inl (ad_ _)⟩,hd zs H l r s hD⟩
end
end Ty
set_option maxHeartbeats 4000000
namespace Ty
open PySem PySem.Spec PyProof.Rows L2
open Builtin.Int (intBits)
def vl (q:Int×Int):Rat:=(q.1:Rat) / (q.2:Rat)
structure Sm (T B:Nat)(q:Int×Int):Prop where
 pos:0 < q.2
 low:afW q.1 q.2=1
 top:q.1.natAbs≤2^T
 bot:q.2.natAbs≤2^B
theorem c7 {b:Int}(h:b≠0):(b:Rat)≠0:=by simpa using h
theorem qd {t b:Int}(h:b≠0):vl (low t b)=(t:Rat) / (b:Rat):=by
 have c:=wH (t:=t) h
 have p:=iW (t:=t) h
 have h1:=c7 h
 have h2:=c7 (b:=(low t b).2) (by omega)
 have c' :((low t b).1:Rat)*b=t*(low t b).2:=by exact_mod_cast c
 unfold vl
 grind
theorem r9 {t b u c:Int}(hb:b≠0)(hc:c≠0)(h:(t:Rat) / b=(u:Rat) / c):t*c=u*b:=by
 have h1:=c7 hb
 have h2:=c7 hc
 have:(t:Rat)*c=u*b:=by grind
 exact_mod_cast this
theorem LB {q r:Int×Int}(hq:0 < q.2)(hr:0 < r.2)(gq:afW q.1 q.2=1)(gr:afW r.1 r.2=1)(h:vl q=vl r):q=r:=by
 have c:=r9 (t:=q.1) (b:=q.2) (u:=r.1) (c:=r.2) (by omega) (by omega) h
 have e:=nG (t:=q.1) (b:=q.2) (u:=r.1) (c:=r.2) (by omega) (by omega) c
 rw [lZ hq gq,lZ hr gr] at e
 exact aku (congrArg aqu e) (congrArg aqv e)
theorem wW {b d:Int}(hd:d≠0)(h:d ∣ b):((b.fdiv d:Int):Rat)=(b:Rat) / d:=by
 have e:=cb hd h
 have h1:=c7 hd
 have:(b:Rat)=d*(b.fdiv d:Int):=by exact_mod_cast e
 grind
def fV (xs ys:List (Int×Int)):Rat:=(age (fun a b=>vl a*vl b) xs ys).sum
theorem wX {x y:Int×Int}{xs ys:List (Int×Int)}:fV (x::xs) (y::ys)=vl x*vl y+fV xs ys:=by simp [fV]
def kc (ts:List Int)(qs:List (Int×Int))(b:Int):Prop:=ts.length=qs.length∧∀(i:Nat) (t:Int) (q:Int×Int),ts[i]? =some t→qs[i]? =some q→(t:Rat)=vl q*b
theorem kc.tail {t:Int}{ts:List Int}{q:Int×Int}{qs:List (Int×Int)}{b:Int}(h:kc (t::ts) (q::qs) b):kc ts qs b:=⟨by simpa using h.1,fun i t' q' e1 e2=>h.2 (i+1) t' q' (by simpa using e1) (by simpa using e2)⟩
theorem qe {a b:Int}{m n:Nat}(h1:a.natAbs≤2^m)(h2:b.natAbs≤2^n):(a*b).natAbs≤2^(m+n):=by
 rw [ag8,apR]
 exact apn h1 h2
theorem LD {a b:Int}{m:Nat}(h1:a.natAbs≤2^m)(h2:b.natAbs≤2^m):(a+b).natAbs≤2^(m+1):=by
 have:=ahb a b
 rw [ag5]
 omega
theorem mB {a:Int}{m n:Nat}(h:a.natAbs≤2^m)(hm:m≤n):a.natAbs≤2^n:=ac_ h (afP (by decide) hm)
theorem gY {a:Int}{m n:Nat}(h:a.natAbs≤2^m)(hm:m < n):intBits a≤n:=intBits_le_iff.mpr (afs h (Nat.pow_lt_pow_right (by decide) hm))
theorem lC {a b:Int}{m n:Nat}(h1:a.natAbs≤2^m)(h2:b.natAbs≤2^n)(hm:m < 30000000)(hn:n < 30000000):rN a b:=⟨ac_ (gY h1 hm) (by decide),ac_ (gY h2 hn) (by decide)⟩
theorem Sm.up {T B T' B' :Nat}{q:Int×Int}(h:Sm T B q)(hT:T≤T')(hB:B≤B'):Sm T' B' q:=⟨h.pos,h.low,mB h.top hT,mB h.bot hB⟩
theorem AI {b d:Int}(hb:0 < b)(hd:0 < d):0 < b.fdiv (gz b d)*d∧b ∣ b.fdiv (gz b d)*d∧d ∣ b.fdiv (gz b d)*d∧(b.fdiv (gz b d)*d).natAbs≤b.natAbs*d.natAbs:=by
 have gp:=pG (t:=b) (b:=d) (by omega)
 have g1:gz b d ∣ b:=agl ..
 have g2:gz b d ∣ d:=agj ..
 have e1:=cb (g:=gz b d) (by omega) g1
 have e2:=cb (g:=gz b d) (by omega) g2
 generalize gz b d=g at*
 have p1:0 < b.fdiv g:=by
  rcases aha (b.fdiv g) 0 with z | z | z
  ·exfalso
   have:=ag_ gp z
   omega
  ·rw [z] at e1;omega
  ·exact z
 refine ⟨agy p1 hd,⟨d.fdiv g,?_⟩,⟨b.fdiv g,agL ..⟩,?_⟩
 ·have:b.fdiv g*d=b.fdiv g*(g*d.fdiv g):=by rw [← e2]
  rw [this]
  have h3:b*d.fdiv g=g*b.fdiv g*d.fdiv g:=by rw [← e1]
  rw [h3]
  rw [← ai_,agL (b.fdiv g) g]
 ·rw [ag8]
  exact afR _ (by
   have:=cR (g:=g) (a:=b.fdiv g) (by omega)
   rw [← e1] at this
   exact this)
theorem wY {q:Int×Int}{b:Int}(hq:0 < q.2)(h:q.2 ∣ b):((q.1*b.fdiv q.2:Int):Rat)=vl q*b:=by
 have e:=wW (b:=b) (d:=q.2) (by omega) h
 have:((q.1*b.fdiv q.2:Int):Rat)=q.1*((b.fdiv q.2:Int):Rat):=by push_cast;rfl
 rw [this,e]
 unfold vl
 grind
theorem fw {b d:Int}(hd:d≠0)(h:d ∣ b):(b.fdiv d).natAbs≤b.natAbs:=by
 have:=cR (g:=d) (a:=b.fdiv d) hd
 rw [← cb hd h] at this
 exact this
end Ty
set_option maxHeartbeats 4000000
namespace Ty
open PySem PySem.Spec PyProof.Rows L2
section
variable {D:Addr}{te:TE}{cap:L2.St}{H1:Hp}{Q:VK}
theorem wZ {J:It}(n:Nat)(xs:Nat→V)(Rel:Nat→V→Hp→Prop)(nD:H1 D=none)(hn:n < sizeLine)
  (go:∀i H,i < n→aq H1 H→J.go i H∧∀x H',J.y9 i H x H' →H' =H∧x=xs i) (stop:∀H,aq H1 H→J.stop n H)
  (hR:∀i v H H' ys,H D=some (.lst ys)→bU D H H' →Rel i v H→Rel i v H')
  (he:∀i H (R:VK),i < n→aq H1 H→(∃ys,H D=some (.lst ys))→(∀v H6,aq H H6→Rel i v H6→R v H6)→te (some (xs i)::cap) H R)
  (hd:∀ys H,ys.length=n→(∀i v,ys[i]? =some v→Rel i v H)→aq H1 H→H D=some (.lst ys)→Q (.ref D) H):
  jL D (cY 0) i5 te J (none::cap) H1 Q:=by
 refine um n xs (fun i ys H=>ys.length=i∧(∀i v,ys[i]? =some v→Rel i v H)∧aq H1 H) ⟨rfl,fun i v e=>by simp at e,fun b o e=>by rw [aj (ak e nD)];exact e⟩ ?_ ?_ ?_ ?_
 ·rintro i ys H hi ⟨_,_,s⟩
  exact go i H hi s
 ·rintro ys H ⟨_,_,s⟩
  exact stop H s
 ·rintro i ys H R hi ⟨l,r,s⟩ hD k
  refine he i H R hi s ⟨_,hD⟩ fun v H6 s6 rv=>k v H6 (s6 _ _ hD) (by omega) ⟨by simp [l],fun j u e=> ?_,fun b o e=> ?_⟩
  ·by_cases c:j < ys.length
   ·rw [afv c] at e
    have ru:=hR j u H H6 ys hD (bU.of s6) (r j u e)
    exact hR j u H6 _ ys (s6 _ _ hD) bU.upd ru
   ·rw [afy (by omega)] at e
    have ej:j=i:=by
     by_cases z:j - ys.length=0
     ·omega
     ·rw [ae_ (by simp;omega)] at e
      cases e
    subst ej
    have:v=u:=by
     rw [show j - ys.length=0 by omega] at e
     exact afB e
    subst this
    exact hR j v H6 _ ys (s6 _ _ hD) bU.upd rv
  ·rw [aj (ak e nD)]
   exact s6 _ _ (s _ _ e)
 ·rintro ys H ⟨l,r,s⟩ hD
  exact hd ys H l r s hD
theorem mC {K:Frag}{a:Addr}{xs:List V}(Rel:Nat→V→Hp→Prop)(nD:H1 D=none)(hn:xs.length < sizeLine)(hS:∀H,aq H1 H→aR K H a xs)
  (hR:∀i v H H' ys,H D=some (.lst ys)→bU D H H' →Rel i v H→Rel i v H')
  (he:∀i x H (R:VK),xs[i]? =some x→aq H1 H→(∃ys,H D=some (.lst ys))→(∀v H6,aq H H6→Rel i v H6→R v H6)→te (some x::cap) H R)
  (hd:∀ys H,ys.length=xs.length→(∀i v,ys[i]? =some v→Rel i v H)→aq H1 H→H D=some (.lst ys)→Q (.ref D) H):
  jL D (cY 0) i5 te (DV K a) (none::cap) H1 Q:=by
 refine wZ xs.length (fun i=>(xs[i]?).getD .cj) Rel nD hn (fun i H hi s=>⟨⟨xs,xs[i],hS H s,gE hi⟩,fun x H' y=>⟨y.1,?_⟩⟩) (fun H s=>⟨xs,hS H s,ad_ _⟩) hR (fun i H R hi s dd k=> ?_) hd
 ·rw [y.2 xs (hS H s)];rfl
 ·have e:xs[i]? =some xs[i]:=gE hi
  have k' :=he i _ H R e s dd k
  rw [← (show (xs[i]?).getD .cj=xs[i] by rw [e];rfl)] at k'
  exact k'
end
section
variable {X:Cx}
end
end Ty
namespace L2
open PySem PySem.Spec PyProof.Rows
section
variable {κ:Type}[DecidableEq κ]
def bV (kvs:List (κ×V))(k:κ):Option V:=(kvs.find? fun kv=>decide (kv.1=k)).map (·.2)
def putK (kvs:List (κ×V))(k:κ)(v:V):List (κ×V):=
 if (kvs.any fun kv=>decide (kv.1=k))=true then kvs.map (fun kv=>if kv.1=k then (kv.1,v) else kv) else kvs++[(k,v)]
theorem bJ {p:κ×V}{r:List (κ×V)}{k:κ}(e:p.1=k):bV (p::r) k=some p.2:=by simp [bV,ags,e]
theorem bu {p:κ×V}{r:List (κ×V)}{k:κ}(e:¬ p.1=k):bV (p::r) k=bV r k:=by simp [bV,ags,e]
theorem fB (k:κ):∀kvs:List (κ×V),(kvs.any fun kv=>decide (kv.1=k))=(bV kvs k).isSome
 | []=>rfl
 | p::r=>by
  rw [agC]
  by_cases e:p.1=k
  ·simp only [bJ e,decide_eq_true e,Bool.true_or,Option.isSome_some]
  ·rw [bu e,decide_eq_false e,Bool.false_or];exact fB k r
theorem r_ (k j:κ)(y:V):∀kvs:List (κ×V),bV (kvs.map fun kv=>if kv.1=k then (kv.1,y) else kv) j=(bV kvs j).map fun x=>if j=k then y else x
 | []=>rfl
 | p::r=>by
  have ih:=r_ k j y r
  rw [afp]
  by_cases h:p.1=k
  ·rw [if_pos h]
   by_cases e:p.1=j
   ·rw [bJ (p:=(p.1,y)) e,bJ e,agE,if_pos (e.symm.trans h)]
   ·rw [bu (p:=(p.1,y)) e,bu e,ih]
  ·rw [if_neg h]
   by_cases e:p.1=j
   ·rw [bJ (p:=p) e,bJ e,agE,if_neg (fun z=>h (e.trans z))]
   ·rw [bu (p:=p) e,bu e,ih]
theorem oz (k j:κ)(y:V):∀kvs:List (κ×V),bV kvs k=none→bV (kvs++[(k,y)]) j=if j=k then some y else bV kvs j
 | [],_=>by
  by_cases e:k=j
  ·rw [if_pos e.symm];exact bJ (p:=(k,y)) e
  ·rw [if_neg (fun z=>e z.symm)];exact bu (p:=(k,y)) e
 | p::r,hn=>by
  rw [agU]
  have hk:¬ p.1=k:=fun z=>by rw [bJ z] at hn;cases hn
  rw [bu hk] at hn
  have ih:=oz k j y r hn
  by_cases e:p.1=j
  ·rw [bJ e,bJ e,if_neg (fun z=>hk (e.trans z))]
  ·rw [bu e,bu e,ih]
theorem se (kvs:List (κ×V))(k j:κ)(y:V):bV (putK kvs k y) j=if j=k then some y else bV kvs j:=by
 unfold putK
 by_cases a:(kvs.any fun kv=>decide (kv.1=k))=true
 ·rw [if_pos a,r_]
  rw [fB] at a
  by_cases e:j=k
  ·obtain ⟨x,hx⟩:=agB.mp a
   rw [if_pos e,e,hx,agE,if_pos rfl]
  ·rw [if_neg e]
   cases bV kvs j with
   | none=>rfl
   | some x=>rw [agE,if_neg e]
 ·rw [if_neg a]
  refine oz k j y kvs ?_
  rw [fB] at a
  cases q:bV kvs k with
  | none=>rfl
  | some x=>rw [q] at a;exact (a rfl).elim
theorem gH (kvs:List (κ×V))(k:κ)(v:V):(putK kvs k v).length≤kvs.length+1:=by
 unfold putK
 split
 ·rw [Wp];omega
 ·rw [afq,afL,ag1];omega
theorem c8 {kvs:List (κ×V)}{k:κ}(v:V)(h:bV kvs k=none):putK kvs k v=kvs++[(k,v)]:=by
 unfold putK
 rw [fB,h]
 exact if_neg (by decide)
theorem dP.fC {o:Option V}{u:Option Value}(r:dP o u):o.isSome=u.isSome:=by
 cases o with
 | none=>cases u with
  | none=>rfl
  | some _=>exact (show False from r).elim
 | some _=>cases u with
  | none=>exact (show False from r).elim
  | some _=>rfl
theorem dP.getD {o:Option V}{u:Option Value}{d:V}{d' :Value}(r:dP o u)(rd:RelV d d'):RelV (o.getD d) (u.getD d'):=by
 cases o with
 | none=>cases u with
  | none=>exact rd
  | some _=>exact (show False from r).elim
 | some _=>cases u with
  | none=>exact (show False from r).elim
  | some _=>exact r
theorem KV.val {kvs:List (κ×V)}{vs:List (κ×Value)}(r:KV kvs vs)(k:κ):dP (bV kvs k) (valueAt vs k):=by
 unfold KV at r
 induction r with
 | nil=>exact True.intro
 | @cons p q ps qs h t ih=>
  obtain ⟨h1,h2⟩:=h
  by_cases e:p.1=k
  ·have e' :q.1=k:=h1.symm.trans e
   have b:valueAt (q::qs) k=some q.2:=by simp [valueAt,ags,e']
   rw [bJ e,b];exact h2
  ·have e' :¬ q.1=k:=fun z=>e (h1.trans z)
   have b:valueAt (q::qs) k=valueAt qs k:=by simp [valueAt,ags,e']
   rw [bu e,b];exact ih
theorem KV.any {kvs:List (κ×V)}{vs:List (κ×Value)}(r:KV kvs vs)(k:κ):(kvs.any fun kv=>decide (kv.1=k))=vs.any fun kv=>decide (kv.1=k):=by
 unfold KV at r
 induction r with
 | nil=>rfl
 | cons h t ih=>rw [agC,agC,ih,h.1]
theorem KV.LF {kvs:List (κ×V)}{vs:List (κ×Value)}(r:KV kvs vs)(k:κ){y:V}{u:Value}(ry:RelV y u):
  KV (kvs.map fun kv=>if kv.1=k then (kv.1,y) else kv) (vs.map fun kv=>if kv.1=k then (kv.1,u) else kv):=by
 unfold KV at r ⊢
 induction r with
 | nil=>exact .nil
 | @cons p q ps qs h t ih=>
  rw [afp,afp]
  refine .cons ?_ ih
  obtain ⟨h1,h2⟩:=h
  by_cases e:p.1=k
  ·rw [if_pos e,if_pos (h1.symm.trans e)];exact ⟨h1,ry⟩
  ·rw [if_neg e,if_neg (fun z=>e (h1.trans z))];exact ⟨h1,h2⟩
theorem KV.put {kvs:List (κ×V)}{vs:List (κ×Value)}(r:KV kvs vs)(k:κ){y:V}{u:Value}(ry:RelV y u):KV (putK kvs k y) (stored vs k u):=by
 unfold putK stored
 rw [r.any k]
 by_cases e:(vs.any fun kv=>decide (kv.1=k))=true
 ·rw [if_pos e,if_pos e];exact r.LF k ry
 ·rw [if_neg e,if_neg e];exact Paired.snoc r ⟨rfl,ry⟩
theorem KV.length {kvs:List (κ×V)}{vs:List (κ×Value)}(r:KV kvs vs):kvs.length=vs.length:=Paired.length r
end
theorem kg {P:Program}{w:World}{k:Key}{u:Value}(r:RelV (kV k) u):(bD P w).is k u=true:=by
 cases k with
 | inl i=>obtain ⟨t,e⟩:=(show ∃t,u=Value.int i t from r);subst e;exact ra P w i t
 | inr x=>obtain ⟨t,e⟩:=(show ∃t,u=Value.str x t from r);subst e;exact rf P w x t
theorem oA {P:Program}{w:World}:∀{ks:List Key} {us:List Value},Vals (ks.map kV) us→ItemsAre (bD P w) ks us
 | [],_,r=>by rw [agi] at r;cases r;exact .nil
 | k::ks,_,r=>by
  rw [afp] at r
  cases r with
  | cons h t=>exact .cons (kg h) (oA t)
abbrev KT (H:Hp):List (List Key×V)→List (List Key×Addr×Value)→Prop:=Paired fun p q=>p.1=q.1∧H q.2.1=some (.tup (p.1.map kV))∧RelV p.2 q.2.2
theorem KT.val {H:Hp}{kvs:List (List Key×V)}{xs:List (List Key×Addr×Value)}(r:KT H kvs xs)(k:List Key):dP (bV kvs k) ((atKey xs k).map (·.2)):=by
 induction r with
 | nil=>exact True.intro
 | @cons p q ps qs h t ih=>
  obtain ⟨h1,_,h2⟩:=h
  by_cases e:p.1=k
  ·have e' :q.1=k:=h1.symm.trans e
   have b:atKey (q::qs) k=some q.2:=by simp [atKey,ags,e']
   rw [bJ e,b];exact h2
  ·have e' :¬ q.1=k:=fun z=>e (h1.trans z)
   have b:atKey (q::qs) k=atKey qs k:=by simp [atKey,ags,e']
   rw [bu e,b];exact ih
theorem KT.LF {H:Hp}{kvs:List (List Key×V)}{xs:List (List Key×Addr×Value)}(r:KT H kvs xs)(k:List Key){y:V}{u:Value}(ry:RelV y u):
  KT H (kvs.map fun kv=>if kv.1=k then (kv.1,y) else kv) (xs.map (putAt k u)):=by
 induction r with
 | nil=>exact .nil
 | @cons p q ps qs h t ih=>
  rw [afp,afp]
  refine .cons ?_ ih
  obtain ⟨h1,h2,h3⟩:=h
  unfold putAt
  by_cases e:p.1=k
  ·rw [if_pos e,if_pos (h1.symm.trans e)];exact ⟨h1,h2,ry⟩
  ·rw [if_neg e,if_neg (fun z=>e (h1.trans z))];exact ⟨h1,h2,h3⟩
theorem KT.put {H:Hp}{kvs:List (List Key×V)}{xs:List (List Key×Addr×Value)}(r:KT H kvs xs)(k:List Key){b:Addr}{y:V}{u:Value}(hb:H b=some (.tup (k.map kV)))(ry:RelV y u):
  KT H (putK kvs k y) (storedH xs k b u):=by
 have e:(kvs.any fun kv=>decide (kv.1=k))=(atKey xs k).isSome:=by
  rw [fB,(r.val k).fC,ahc]
 unfold putK storedH
 rw [e]
 by_cases q:(atKey xs k).isSome=true
 ·rw [if_pos q,if_pos q];exact r.LF k ry
 ·rw [if_neg q,if_neg q];exact Paired.snoc r ⟨rfl,hb,ry⟩
theorem KT.keeps {H H' :Hp}{kvs:List (List Key×V)}{xs:List (List Key×Addr×Value)}(r:KT H kvs xs)(ht:∀b ys,H b=some (.tup ys)→H' b=some (.tup ys)):KT H' kvs xs:=
 Paired.cw r fun _ _ z=>⟨z.1,ht _ _ z.2.1,z.2.2⟩
section
variable {P:Program}{w:World}{H:Hp}{h:Heap}{a:Addr}
theorem Ka {u:HO}(ok:fM P w H h)(e:Rd H a u):bE P w H h a u:=e.ok ok
theorem i6 {kvs:List (Key×V)}(ok:fM P w H h)(e:Rd H a (.dK kvs)):kvs.length≤sizeLine∧(a==sysModules)=false∧∃vs,KV kvs vs∧h.DictOf (bD P w) a vs:=
 show bE P w H h a (.dK kvs) from Ka ok e
theorem oB {kvs:List (Key×V)}(ok:fM P w H h)(e:H a=some (.dK kvs)):kvs.length≤sizeLine∧(a==sysModules)=false∧∃vs,KV kvs vs∧h.DictOf (bD P w) a vs:=i6 ok (.inl e)
theorem jM {ks:List Key}(ok:fM P w H h)(e:H a=some (.tup (ks.map kV))):(tupleKind (bD P w)).is h ks a:=by
 obtain ⟨_,its,r,o,h1,h2,n,h3⟩:=(show bE P w H h a (.tup (ks.map kV)) from ok a _ e)
 exact ⟨o,its.toArray,n,h1,h2,h3,by simpa using oA r⟩
theorem mD {kvs:List (List Key×V)}(ok:fM P w H h)(e:Rd H a (.dT kvs)):kvs.length≤sizeLine∧(a==sysModules)=false∧
  ∃xs,KT H kvs xs∧h.DictOfH (tupleKind (bD P w)) a xs:=by
 obtain ⟨z,y,xs,r,o,es,ep,h1,h2,h3,h4,h5⟩:=(show bE P w H h a (.dT kvs) from Ka ok e)
 refine ⟨z,y,xs,r,o,es,ep,h1,h2,h3,h4,fun x hx=> ?_,h5⟩
 have all:∀{l:List (List Key×V)} {m:List (List Key×Addr×Value)},KT H l m→∀x∈m,(tupleKind (bD P w)).is h x.1 x.2.1:=by
  intro l m q
  induction q with
  | nil=>intro x hx;exact nomatch hx
  | @cons p q ps qs hq t ih=>
   intro x hx
   rcases afK.mp hx with e | hx
   ·subst e
    exact jM ok (by rw [← hq.1];exact hq.2.1)
   ·exact ih x hx
 exact all r x hx
theorem OS {kvs:List (List Key×V)}(ok:fM P w H h)(e:H a=some (.dT kvs)):kvs.length≤sizeLine∧(a==sysModules)=false∧
  ∃xs,KT H kvs xs∧h.DictOfH (tupleKind (bD P w)) a xs:=mD ok (.inl e)
end
def cH (H:Hp)(a:Addr)(y:V)(r:Option V):Prop:=
 (∃kvs k,Rd H a (.dK kvs)∧y=kV k∧r=bV kvs k)∨∃kvs k b,Rd H a (.dT kvs)∧y=.ref b∧H b=some (.tup (k.map kV))∧r=bV kvs k
def kJ (H:Hp)(a:Addr)(y v:V)(H' :Hp):Prop:=
 (∃kvs k,H a=some (.dK kvs)∧y=kV k∧kvs.length < sizeLine∧H' =upd H a (.dK (putK kvs k v)))∨
 ∃kvs k b,H a=some (.dT kvs)∧y=.ref b∧H b=some (.tup (k.map kV))∧kvs.length < sizeLine∧H' =upd H a (.dT (putK kvs k v))
theorem cH.k {H:Hp}{a:Addr}{kvs:List (Key×V)}{k:Key}(e:H a=some (.dK kvs)):cH H a (kV k) (bV kvs k):=.inl ⟨kvs,k,.inl e,rfl,rfl⟩
theorem kJ.k {H:Hp}{a:Addr}{kvs:List (Key×V)}{k:Key}{v:V}(e:H a=some (.dK kvs))(hl:kvs.length < sizeLine):kJ H a (kV k) v (upd H a (.dK (putK kvs k v))):=.inl ⟨kvs,k,e,rfl,hl,rfl⟩
section
variable {X:Cx}{pins:List (Addr×Obj)}{σ:St}{H:Hp}{s:Shared}{a:Addr}{y v:V}{u r:Value}{o:Option V}{A:Around}{E:Value→Shared→Prop}
theorem Inv.big (I:Inv X pins σ H s):sysModules < s.heap.objs.size:=by
 have h:mainGlobals < s.heap.objs.size:=(I.mod.glob.keeps I.bk).lt
 exact apF (by decide) h
theorem w4 {Q:Value→Shared→Prop}(hu:A.units+1 < cLine)(I:Inv X pins σ H s)(g:cH H a y (some v))(ry:RelV y u)(h:∀w' s',Inv X pins σ H s' →RelV v w' →Q w' s'):
  wpAny (model X.prog X.w) A (getItem (.ref a) u) Q E s:=by
 rcases g with ⟨kvs,k,e,ey,l⟩ | ⟨kvs,k,b,e,ey,eb,l⟩
 ·subst ey
  obtain ⟨z,hd,vs,rel,dd⟩:=i6 I.bz e
  obtain ⟨w',hw,qZ⟩:=dP.some_of (v:=v) (o:=valueAt vs k) (by rw [l];exact rel.val k)
  exact wpAny_getItem_of (kg ry) dd.mapOf hw (h w' _ (I.tok _) qZ)
 ·subst ey
  cases (show u=Value.ref b from ry)
  obtain ⟨z,hd,xs,rel,dd⟩:=mD I.bz e
  obtain ⟨w',hw,qZ⟩:=dP.some_of (v:=v) (o:=(atKey xs k).map (·.2)) (by rw [l];exact rel.val k)
  obtain ⟨p,hp,w6⟩:=afu.mp hw
  refine wpAny_getItem_heap (tupleKind_room_in1 hu) (jM I.bz eb) dd hp ?_
  rw [w6]
  exact h w' _ (I.tok _) qZ
theorem XJ {Q:Value→Shared→Prop}(hu:A.units+1 < cLine)(I:Inv X pins σ H s)(g:cH H a y o)(ry:RelV y u)(h:∀s',Inv X pins σ H s' →Q (.bool o.isSome) s'):
  wpAny (model X.prog X.w) A (compareOp .In u (.ref a)) Q E s:=by
 rcases g with ⟨kvs,k,e,ey,l⟩ | ⟨kvs,k,b,e,ey,eb,l⟩
 ·subst ey
  obtain ⟨z,hd,vs,rel,dd⟩:=i6 I.bz e
  refine wpAny_in_of (kg ry) hd dd.mapOf ?_
  rw [← (rel.val k).fC, ← l]
  exact h _ (I.tok _)
 ·subst ey
  cases (show u=Value.ref b from ry)
  obtain ⟨z,hd,xs,rel,dd⟩:=mD I.bz e
  refine wpAny_in_heap (tupleKind_room_in1 hu) (jM I.bz eb) hd dd ?_
  have q:=(rel.val k).fC
  rw [ahc] at q
  rw [← q, ← l]
  exact h _ (I.tok _)
theorem FL {Q:Value→Shared→Prop}(hu:A.units+1 < cLine)(I:Inv X pins σ H s)(g:cH H a y o)(ry:RelV y u)(h:∀s',Inv X pins σ H s' →Q (.bool (!o.isSome)) s'):
  wpAny (model X.prog X.w) A (compareOp .NotIn u (.ref a)) Q E s:=by
 rcases g with ⟨kvs,k,e,ey,l⟩ | ⟨kvs,k,b,e,ey,eb,l⟩
 ·subst ey
  obtain ⟨z,hd,vs,rel,dd⟩:=i6 I.bz e
  refine wpAny_notIn_of (kg ry) hd dd.mapOf ?_
  rw [← (rel.val k).fC, ← l]
  exact h _ (I.tok _)
 ·subst ey
  cases (show u=Value.ref b from ry)
  obtain ⟨z,hd,xs,rel,dd⟩:=mD I.bz e
  refine wpAny_notIn_heap (tupleKind_room_in1 hu) (jM I.bz eb) hd dd ?_
  have q:=(rel.val k).fC
  rw [ahc] at q
  rw [← q, ← l]
  exact h _ (I.tok _)
theorem i7 {h' :Heap}{t' :Nat}{ob:HO}(I:Inv X pins σ H s)(mu:NL (H a))(hs:Heap.SameBut a s.heap h')(he:∃q,h'.get? a=some q)(new:bE X.prog X.w (upd H a ob) h' a ob):
  Inv X pins σ (upd H a ob) {s with heap:=h',toks:=t' }:=
 I.write (x:=a) (e:=a) mu (.inl rfl) (fun b q hb z=>(hs.2 b hb).trans z) he new
theorem qf {P:Program}{w:World}{H' :Hp}{h' :Heap}{kvs:List (Key×V)}{vs:List (Key×Value)}(z:kvs.length≤sizeLine)(hd:(a==sysModules)=false)(rel:KV kvs vs)(dd:h'.DictOf (bD P w) a vs):
  bE P w H' h' a (.dK kvs):=⟨z,hd,vs,rel,dd⟩
theorem w8 {H' :Hp}{Q:Unit→Shared→Prop}(hu:A.units+1 < cLine)(I:Inv X pins σ H s)(g:kJ H a y v H')(ry:RelV y u)(rv:RelV v r)(h:∀s',Inv X pins σ H' s' →Q () s'):
  wpAny (model X.prog X.w) A (setItem (.ref a) u r) Q E s:=by
 rcases g with ⟨kvs,k,e,ey,l,eH⟩ | ⟨kvs,k,b,e,ey,eb,l,eH⟩
 ·subst ey eH
  obtain ⟨z,hd,vs,rel,dd⟩:=oB I.bz e
  have hz:vs.length≤sizeLine:=by rw [← rel.length];exact z
  have hl:(putK kvs k v).length≤sizeLine:=by have:=gH kvs k v;omega
  refine wpAny_setItem_pairs (hsz:=hz) (kg ry) dd fun h' DY hs=>h _ ?_
  have he:∃q,h'.get? a=some q:=let ⟨q,_,_,hq,_⟩:=DY;⟨q,hq⟩
  exact i7 I (by rw [e];exact True.intro) hs he (qf hl hd (rel.put k rv) DY)
 ·subst ey eH
  cases (show u=Value.ref b from ry)
  obtain ⟨z,hd,xs,rel,dd⟩:=OS I.bz e
  have hz:xs.length≤sizeLine:=by rw [← Paired.length rel];exact z
  have hl:(putK kvs k v).length≤sizeLine:=by have:=gH kvs k v;omega
  refine wpAny_setItem_heap (hsz:=hz) (tupleKind_room_in1 hu) (jM I.bz eb) dd fun h' DY hs=>h _ ?_
  obtain ⟨q,es,ep,hq,h2,h3,h4,_,h5⟩:=DY
  refine i7 I (by rw [e];exact True.intro) hs ⟨q,hq⟩ ⟨hl,hd,_,(rel.put k eb rv).keeps fun c ys ec=> ?_,q,es,ep,hq,h2,h3,h4,h5⟩
  rw [aj (NK ec e (fun z=>nomatch z))]
  exact ec
end
section
variable {X:Cx}{pins:List (Addr×Obj)}{σ:St}{H:Hp}{s:Shared}{a:Addr}{kvs:List (Key×V)}{k:Key}{u:Value}{A:Around}{E:Value→Shared→Prop}
theorem FN {Q:Value→Shared→Prop}(I:Inv X pins σ H s)(e:H a=some (.dK kvs))(h:∀s',Inv X pins σ (upd H a (.dK [])) s' →Q .none s'):wpAny (model X.prog X.w) A (call (.builtin "dict.clear") [.ref a]) Q E s:=by
 obtain ⟨z,hd,vs,rel,dd⟩:=oB I.bz e
 refine call_meetsIn PySem.F.slot_dict_clear dd.typeIs PySem.F.entry_dict_clear (PySem.F.args_dict_clear_1 _) (meets_dict_clear (bD X.prog X.w) a) ⟨vs,dd,by rw [← rel.length];exact z,fun h' DY hs=>h _ ?_⟩
 have he:∃q,h'.get? a=some q:=let ⟨q,_,_,hq,_⟩:=DY;⟨q,hq⟩
 exact i7 (t' :=s.toks) I (by rw [e];exact True.intro) hs he (qf (afU _) hd .nil DY)
theorem OT {Q:Value→Shared→Prop}(I:Inv X pins σ H s)(e:Rd H a (.dK kvs))(h:∀t s',Inv X pins σ H s' →Q (.int kvs.length t) s'):wpAny (model X.prog X.w) A (call (.builtin "len") [.ref a]) Q E s:=by
 obtain ⟨z,hd,vs,rel,dd⟩:=i6 I.bz e
 refine call_len_dict hd dd (by rw [← rel.length];rw [sizeLine_eq] at z;omega) ?_
 rw [← rel.length]
 exact h _ _ (I.tok _)
end
def OU (i:Expr):Prop:=∀ov iv,subscripted i false ov iv=operate [ov,iv] (getItem ov iv)
theorem FO {prog:Program}{w:World}{A:Around}{E:Value→Shared→Prop}{s:Shared}{env:Env}{value slice:Expr}{pos:Pos}{T id:String}{Q:Value→Shared→Prop}
  (hl:typeLookup (.type T) "__getitem__"=pure (some (.builtin id))) (hs:OU slice)
  (h:wpAny (model prog w) A (eval value env) (fun o s₁=>wpAny (model prog w) A (eval slice env) (fun i s₂=>s₂.TypeIs o T∧wpAny (model prog w) A (getItem o i) Q E s₂) E s₁) E s):
  wpAny (model prog w) A (eval (.Subscript value slice pos) env) Q E s:=by
 refine Subscript_ (wpAny_mono h (fun o s₁ h₁=>wpAny_mono h₁ (fun i s₂ h₂=> ?_) fun _ _ x=>x) fun _ _ x=>x)
 obtain ⟨hT,h₂⟩:=h₂
 unfold subscriptTail
 refine wpAny_bind ?_
 rw [getitemInPython_of_ne hT.not_modules]
 refine wpAny_bind (wpAny_specialOf hT hl ?_)
 have fin:wpAny (model prog w) A (subscripted slice false o i) (fun r s₃=>wpAny (model prog w) A (letTemporaryGo value o r >>=fun _=>pure r) Q E s₃) E s₂:=by
  rw [hs o i]
  exact wpAny_operating (wpAny_mono h₂ (fun r s₃ h₃=>wpAny_bind (wpAny_letTemporaryGo (wpAny_pure h₃))) fun _ _ x=>x)
 first
  | exact wpAny_pure (wpAny_bind fin)
  | exact wpAny_bind (wpAny_pure (wpAny_bind fin))
  | exact wpAny_bind fin
theorem sf {X:Cx}{pins:List (Addr×Obj)}{σ:St}{H:Hp}{s:Shared}{a:Addr}{y:V}{o:Option V}(I:Inv X pins σ H s)(g:cH H a y o):s.TypeIs (.ref a) "dict":=by
 rcases g with ⟨kvs,k,e,_,_⟩ | ⟨kvs,k,b,e,_,_,_⟩
 ·obtain ⟨_,_,vs,_,dd⟩:=i6 I.bz e
  exact dd.typeIs
 ·obtain ⟨_,_,xs,_,dd⟩:=mD I.bz e
  exact dd.typeIs
inductive AJ (Q:VK)(x:V)(y:V)(H2:Hp):Prop where
 | mk (a v:_) (_:x=.ref a) (_:cH H2 a y (some v)) (_:Q v H2):AJ Q x y H2
def OV (td ty:TE):TE:=fun σ H Q=>td σ H fun x H1=>ty σ H1 fun y H2=>AJ Q x y H2
inductive Kb (Q:VK)(y:V)(x:V)(H2:Hp):Prop where
 | mk (a o:_) (_:x=.ref a) (_:cH H2 a y o) (_:Q (.bl o.isSome) H2):Kb Q y x H2
def XM (ty td:TE):TE:=fun σ H Q=>ty σ H fun y H1=>td σ H1 fun x H2=>Kb Q y x H2
inductive si (Q:VK)(y:V)(x:V)(H2:Hp):Prop where
 | mk (a o:_) (_:x=.ref a) (_:cH H2 a y o) (_:Q (.bl (!o.isSome)) H2):si Q y x H2
def FP (ty td:TE):TE:=fun σ H Q=>ty σ H fun y H1=>td σ H1 fun x H2=>si Q y x H2
inductive AK (D:Ends)(σ:L2.St)(v:V)(x:V)(y:V)(H3:Hp):Prop where
 | mk (a H4:_) (_:x=.ref a) (_:kJ H3 a y v H4) (_:D.nx σ H4):AK D σ v x y H3
def OW (td ty tv:TE):TS:=fun D σ H=>tv σ H fun v H1=>td σ H1 fun x H2=>ty σ H2 fun y H3=>AK D σ v x y H3
section
variable {X:Cx}{o i e value:Expr}{pos pos' t_:Pos}{td ty tv:TE}
theorem bM (hu:X.A.units+1 < cLine)(ho:PE X o td)(hi:PE X i ty)(hs:OU i):PE X (.Subscript o i pos) (OV td ty):=by
 intro pins s σ H Q I h
 refine FO PySem.F.slot_dict_getitem.lookup hs (bZ (ho pins s σ H _ I h) fun u s1 ⟨x,H1,I1,rx,q1⟩=>bZ (hi pins s1 σ H1 _ I1 q1) fun iv s2 ⟨y,H2,I2,ry,a,v,ex,g,q2⟩=> ?_)
 subst ex
 obtain rfl:u=Value.ref a:=rx
 exact ⟨sf I2 g,w4 hu I2 g ry fun w' s3 I3 qZ =>⟨v,H2,I3,qZ,q2⟩⟩
theorem AL (hu:X.A.units+1 < cLine)(hi:PE X i ty)(ho:PE X o td):PC X .In i o (XM ty td):=by
 intro pins s σ H Q I h
 refine bZ (hi pins s σ H _ I h) fun iv s1 ⟨y,H1,I1,ry,q1⟩=>bZ (ho pins s1 σ H1 _ I1 q1) fun u s2 ⟨x,H2,I2,rx,a,ov,ex,g,q2⟩=> ?_
 subst ex
 obtain rfl:u=Value.ref a:=rx
 exact XJ hu I2 g ry fun s3 I3=>⟨.bl ov.isSome,H2,I3,rfl,q2⟩
theorem oC (hu:X.A.units+1 < cLine)(hi:PE X i ty)(ho:PE X o td):PC X .NotIn i o (FP ty td):=by
 intro pins s σ H Q I h
 refine bZ (hi pins s σ H _ I h) fun iv s1 ⟨y,H1,I1,ry,q1⟩=>bZ (ho pins s1 σ H1 _ I1 q1) fun u s2 ⟨x,H2,I2,rx,a,ov,ex,g,q2⟩=> ?_
 subst ex
 obtain rfl:u=Value.ref a:=rx
 exact FL hu I2 g ry fun s3 I3=>⟨.bl (!ov.isSome),H2,I3,rfl,q2⟩
theorem fW (hu:X.A.units+1 < cLine)(ho:PE X o td)(hi:PE X i ty)(hv:PE X value tv)(hs:swapsWith value (some (.Subscript o i pos')) pos.line X.env=pure false):
  PS X (.Assign [.Subscript o i pos'] value pos) (OW td ty tv):=by
 intro pins s σ H D I h
 refine wpAny_Assign_Subscript (bZ (hv pins s σ H _ I h) fun r s1 ⟨v,H1,I1,rv,q1⟩=>bZ (ho pins s1 σ H1 _ I1 q1) fun u s2 ⟨x,H2,I2,rx,q2⟩=>bZ (hi pins s2 σ H2 _ I2 q2) fun iv s3 ⟨y,H3,I3,ry,a,H4,ex,g,q3⟩=> ?_) hs
 subst ex
 obtain rfl:u=Value.ref a:=rx
 exact w8 hu I3 g ry rv fun s4 I4=>⟨σ,H4,I4,q3⟩
end
theorem sj {P:Program}{w:World}{H:Hp}(h:Heap)(hb:sysModules < h.objs.size):bE P w H (h.push {cls:=.type "dict",data:=.dict #[]}) h.objs.size (.dK []):=
 ⟨afU _,beq_eq_false_iff_ne.mpr (afO (afJ hb)),[],.nil,Heap.DictOf.new h⟩
def LG:TE:=fun _ H Q=>∀p,H p=none→Q (.ref p) (upd H p (.dK []))
section
variable {X:Cx}{pos:Pos}
theorem ef:PE X (.Dict [] [] pos) LG:=fun pins s σ H Q I h=>
 wpAny_Dict_empty ⟨.ref s.heap.objs.size,_,I.laid (a:=s.heap.objs.size) (o:=.dK []) (t' :=s.toks) (fun _ _ q=>Heap.get?_push_of_some _ q) (ad_ _) (sj s.heap I.big),rfl,h _ (I.bz.fresh (ad_ _))⟩
end
def ur:List (TE×TE)→St→Hp→(List (V×V)→Hp→Prop)→Prop
 | [],_,H,Q=>Q [] H
 | (tk,tv)::r,σ,H,Q=>tk σ H fun x H1=>tv σ H1 fun y H2=>ur r σ H2 fun ps H3=>Q ((x,y)::ps) H3
abbrev VV:List (V×V)→List (Value×Value)→Prop:=Paired fun p q=>RelV p.1 q.1∧RelV p.2 q.2
def V8 (X:Cx)(pos:Pos)(keys:List (Option Expr))(values:List Expr)(FQ:List (TE×TE)):Prop:=
 ∀(pins:List (Addr×Obj)) (s:Shared) (σ:St) (H:Hp) (Q:List (V×V)→Hp→Prop),Inv X pins σ H s→ur FQ σ H Q→
  wpAny (model X.prog X.w) X.A (evalPairs (pairTrees keys values X.env pos)) (fun vs s' =>∃ps H',Inv X pins σ H' s' ∧VV ps vs∧Q ps H') X.xe s
theorem vy {X:Cx}{pos:Pos}:V8 X pos [] [] []:=fun pins s σ H Q I h=>pairTrees_nil_walk ⟨[],H,I,.nil,h⟩
theorem mE {X:Cx}{pos:Pos}{k v:Expr}{ks:List (Option Expr)}{vs:List Expr}{tk tv:TE}{FQ:List (TE×TE)}(hk:PE X k tk)(hv:PE X v tv)(hr:V8 X pos ks vs FQ):
  V8 X pos (some k::ks) (v::vs) ((tk,tv)::FQ):=fun pins s σ H Q I h=>
 pairTrees_cons_walk (bZ (hk pins s σ H _ I h) fun u s1 ⟨x,H1,I1,rx,q1⟩=>bZ (hv pins s1 σ H1 _ I1 q1) fun w2 s2 ⟨y,H2,I2,ry,q2⟩=>
  bZ (hr pins s2 σ H2 _ I2 q2) fun ws s3 ⟨ps,H3,I3,rel,q3⟩=>⟨(x,y)::ps,H3,I3,.cons ⟨rx,ry⟩ rel,q3⟩)
def bW (kvs more:List (Key×V)):List (Key×V):=more.foldl (fun acc kv=>putK acc kv.1 kv.2) kvs
theorem KV.merge:∀{more:List (Key×V)} {rs:List (Key×Value)} {kvs:List (Key×V)} {vs:List (Key×Value)},KV more rs→KV kvs vs→KV (bW kvs more) (merged vs rs):=by
 intro more rs kvs vs r
 unfold KV at r
 induction r generalizing kvs vs with
 | nil=>intro q;exact q
 | @cons p q ps qs h t ih=>
  intro r0
  have e:KV (putK kvs p.1 p.2) (stored vs q.1 q.2):=by
   have:=r0.put p.1 h.2
   rw [← h.1];exact this
  exact ih e
theorem fh:∀(more kvs:List (Key×V)),(bW kvs more).length≤kvs.length+more.length
 | [],kvs=>by show kvs.length≤kvs.length+0;omega
 | p::r,kvs=>by
  have h1:=fh r (putK kvs p.1 p.2)
  have h2:=gH kvs p.1 p.2
  show (bW (putK kvs p.1 p.2) r).length≤_
  rw [afL];omega
theorem mF {P:Program}{w:World}:∀{kvs:List (Key×V)} {ws:List (Value×Value)},VV (kvs.map fun kv=>(kV kv.1,kv.2)) ws→∃rs,Carries (bD P w) ws rs∧KV kvs rs
 | [],_,r=>by rw [agi] at r;cases r;exact ⟨[],True.intro,.nil⟩
 | p::kvs,_,r=>by
  rw [afp] at r
  cases r with
  | @cons a b as bs h t=>
   obtain ⟨rs,c,q⟩:=mF (P:=P) (w:=w) t
   obtain ⟨b1,b2⟩:=b
   exact ⟨(p.1,b2)::rs,⟨kg h.1,rfl,c⟩,.cons ⟨rfl,h.2⟩ q⟩
def OX (FQ:List (TE×TE)):TE:=fun σ H Q=>∀p,H p=none→ur FQ σ (upd H p (.dK [])) fun ps H2=>H2 p=some (.dK [])∧∃kvs:List (Key×V),ps=kvs.map (fun kv=>(kV kv.1,kv.2))∧kvs.length≤15∧Q (.ref p) (upd H2 p (.dK (bW [] kvs)))
theorem vz {X:Cx}{pos:Pos}{keys:List (Option Expr)}{values:List Expr}{FQ:List (TE×TE)}(h:V8 X pos keys values FQ)(zH:keys.all (·.isSome)=true)(hl:keys.length=values.length)(h0:keys≠[])
  (V9:keys.length≤15):PE X (.Dict keys values pos) (OX FQ):=by
 intro pins s σ H Q I q
 have hn:=I.bz.fresh (ad_ s.heap.objs.size)
 have I1:=I.laid (a:=s.heap.objs.size) (o:=.dK []) (h' :=s.heap.push {cls:=.type "dict",data:=.dict #[]}) (t' :=s.toks) (fun _ _ q=>Heap.get?_push_of_some _ q) (ad_ _) (sj s.heap I.big)
 refine wpAny_Dict_walk (knd:=bD X.prog X.w) zH hl h0 V9 (bZ (h pins _ σ _ _ I1 (q _ hn)) fun ws s2 ⟨ps,H2,I2,rel,e,kvs,ep,lk,q2⟩=> ?_)
 subst ep
 obtain ⟨rs,c,rk⟩:=mF (P:=X.prog) (w:=X.w) rel
 obtain ⟨z,hd,vs0,r0,dd⟩:=oB I2.bz e
 cases r0
 refine ⟨rs,c,dd,fun h' DY hs=>⟨.ref s.heap.objs.size,_,?_,rfl,q2⟩⟩
 have hz:(bW [] kvs).length≤sizeLine:=by
  have h1:=fh kvs []
  rw [ag1] at h1
  rw [sizeLine_eq];omega
 have he:∃q,h'.get? s.heap.objs.size=some q:=let ⟨q,_,_,hq,_⟩:=DY;⟨q,hq⟩
 exact i7 I2 (by rw [e];exact True.intro) hs he (qf hz hd (rk.merge .nil) DY)
structure M2 (X:Cx)(o:Expr)(m:Str)(apos:Pos)(e f:Expr)(dB:Pos):Prop where
 base:attributeBase o m X.env (eval o X.env)=eval o X.env
 few:((backTo dB (starEach [e,f] X.env)).all (fun x=> !x.1) && (backToKw dB (keywordEach [] X.env)).all (fun x=>x.1.isSome)
  && decide (([e,f]:List Expr).length+([]:List Keyword).length+(if ([]:List Keyword).isEmpty then 0 else 1) < 30))=true
 line:(apos.endLine==dB.line)=true
 trees:backTo dB (starEach [e,f] X.env)=[(false,eval e X.env),(false,eval f X.env)]
def IsD (H:Hp)(a:Addr):Prop:=(∃kvs,Rd H a (.dK kvs))∨∃kvs,Rd H a (.dT kvs)
theorem AM {X:Cx}{pins:List (Addr×Obj)}{σ:St}{H:Hp}{s:Shared}{a:Addr}(I:Inv X pins σ H s)(d:IsD H a):
  s.TypeIs (.ref a) "dict"∧(∀b,Value.ref a=.ref b→∃ob,s.heap.get? b=some ob∧ob.dict=none)∧(a==sysModules)=false:=by
 rcases d with ⟨kvs,e⟩ | ⟨kvs,e⟩
 ·obtain ⟨_,hd,vs,_,dd⟩:=i6 I.bz e
  refine ⟨dd.typeIs,fun b q=> ?_,hd⟩
  cases q
  obtain ⟨ob,_,_,h1,h2,_⟩:=dd
  exact ⟨ob,h1,h2.2.1⟩
 ·obtain ⟨_,hd,xs,_,dd⟩:=mD I.bz e
  refine ⟨dd.typeIs,fun b q=> ?_,hd⟩
  cases q
  obtain ⟨ob,_,_,h1,h2,_⟩:=dd
  exact ⟨ob,h1,h2.2.1⟩
section
variable {X:Cx}{pins:List (Addr×Obj)}{σ:St}{H:Hp}{s:Shared}{a:Addr}{y d:V}{u r:Value}{o:Option V}{A:Around}{E:Value→Shared→Prop}
theorem LH {Q:Value→Shared→Prop}(hu:A.units+1 < cLine)(I:Inv X pins σ H s)(g:cH H a y o)(ry:RelV y u)(rd:RelV d r)(h:∀w' s',Inv X pins σ H s' →RelV (o.getD d) w' →Q w' s'):
  wpAny (model X.prog X.w) A (call (.builtin "dict.get") [.ref a,u,r]) Q E s:=by
 rcases g with ⟨kvs,k,e,ey,l⟩ | ⟨kvs,k,b,e,ey,eb,l⟩
 ·subst ey
  obtain ⟨z,hd,vs,rel,dd⟩:=i6 I.bz e
  refine call_meetsIn PySem.F.slot_dict_get dd.typeIs PySem.F.entry_dict_get (PySem.F.args_dict_get_3 _ _ _) (meets_dict_get_default (bD X.prog X.w) a (kg ry) hd r) ⟨_,dd.mapOf,h _ _ (I.tok _) ?_⟩
  rw [l]
  exact (rel.val k).getD rd
 ·subst ey
  cases (show u=Value.ref b from ry)
  obtain ⟨z,hd,xs,rel,dd⟩:=mD I.bz e
  refine call_meetsIn PySem.F.slot_dict_get dd.typeIs PySem.F.entry_dict_get (PySem.F.args_dict_get_3 _ _ _) (meetsH_dict_get_default (tupleKind (bD X.prog X.w)) a b hd r) ⟨tupleKind_room_in1 hu,k,xs,jM I.bz eb,dd,h _ _ (I.tok _) ?_⟩
  rw [l]
  exact (rel.val k).getD rd
end
def LI (td ty tx:TE):TE:=fun σ H Q=>td σ H fun x H1=>∃a,x=.ref a∧IsD H1 a∧ty σ H1 fun y H2=>tx σ H2 fun z H3=>∃o,cH H3 a y o∧Q (o.getD z) H3
section
variable {X:Cx}{o e f:Expr}{apos dB:Pos}{td ty tx:TE}
theorem sk (hu:X.A.units+1 < cLine)(ho:PE X o td)(he:PE X e ty)(hf:PE X f tx)(m:M2 X o "get" apos e f dB):PE X (.Call (.Attribute o "get" apos) [e,f] [] dB) (LI td ty tx):=by
 intro pins s σ H Q I h
 refine wpAny_Call_method m.base m.few m.line PySem.F.plainAttrs_dict PySem.F.slot_dict_get PySem.F.type_dict_get (bZ (ho pins s σ H _ I h) fun u s1 ⟨x,H1,I1,rx,a,ex,d,q1⟩=> ?_)
 subst ex
 obtain rfl:u=Value.ref a:=rx
 obtain ⟨t1,t2,_⟩:=AM I1 d
 refine ⟨t1,t2,?_⟩
 rw [m.trees]
 refine Calls.callWith_builtin rfl (Calls.evalArgs_plain (Calls.spliced_cons (bZ (he pins s1 σ H1 _ I1 q1) fun iv s2 ⟨y,H2,I2,ry,q2⟩=>
  Calls.spliced_cons (bZ (hf pins s2 σ H2 _ I2 q2) fun fv s3 ⟨z,H3,I3,rz,ov,g,q3⟩=>Calls.spliced_nil ?_))))
 exact LH hu I3 g ry rz fun w' s4 I4 qZ =>⟨_,H3,I4,qZ,q3⟩
end
section
variable {X:Cx}{pins:List (Addr×Obj)}{σ:St}{H:Hp}{s:Shared}{a:Addr}{kvs:List (Key×V)}{A:Around}{E:Value→Shared→Prop}
end
section
variable {X:Cx}{pins:List (Addr×Obj)}{σ:St}{H:Hp}{s:Shared}{a:Addr}{y:V}{u:Value}{A:Around}{E:Value→Shared→Prop}
end
end L2
set_option maxHeartbeats 4000000
namespace Ty
open PySem PySem.Spec PyProof.Rows L2
section
variable {X:Cx}
theorem FR {pins:List (Addr×Obj)}{σ:L2.St}{H:Hp}{s:Shared}(I:Inv X pins σ H s):s.heap.NoSeer:=I.ok.mod.seer.keeps I.bk
theorem bY.py {k:Nat}{A:Around}(r:bY k A)(h:32≤k):A.depth+Builtin.pylongFrames < recursionLimit:=by
 have:=r.dp
 have:Builtin.pylongFrames=100:=rfl
 omega
theorem eg {env:Env}{l:List Env}(ht:X.prog.given.tree=none)(hd:X.A.depth+Builtin.pylongFrames < recursionLimit)(y6:X.stack=env::l)(h1:env.scope.isGenerator=false)(h2:env.scope.isCoroutine=false)(h3:env.builtins=builtinsNs)(h4:env.globals=mainGlobals):
  iO X (binaryOp .FloorDiv) (rI Ll fun i j=>.int (i.fdiv j)):=by
 intro pins s σ H x y v u Q I rx ry h
 obtain ⟨i,j,rfl,rfl,hc,q⟩:=h
 obtain ⟨t,rfl⟩:=rx
 obtain ⟨t',rfl⟩:=ry
 exact floordiv_int hc ⟨.int _,H,I.tok _,⟨_,rfl⟩,q⟩ (.inr (PylongRoom.of I.nolimit hd (SeerAt.of (FR I) ht (by rw [I.ok.frames,y6]) h1 h2 h3 h4)))
end
end Ty
set_option maxHeartbeats 4000000
namespace Ty
open PySem PySem.Spec PyProof.Rows L2
section
variable {prog:Program}{w:World}{A:Around}{E:Value→Shared→Prop}{s:Shared}{KK:Type}[DecidableEq KK]{knd:KeyKind prog w KK}
theorem w_ {d:Addr}{kvs:List (KK×Value)}{Q:Bool→Shared→Prop}(hm:s.heap.DictOf knd d kvs)(h:Q false s):wpAny (model prog w) A (Builtin.List.listLengthHint (.ref d)) Q E s:=by
 unfold Builtin.List.listLengthHint
 refine wpAny_bind (wpAny_specialOf (name:=Str.ofString "__len__") hm.typeIs F.slot_dict_len.lookup ?_)
 generalize hid:("dict.__len__":String)=id0
 wp_delta
 rw [show splitId id0=some ("dict","__len__") from by subst hid;decide+kernel]
 subst hid
 refine wpAny_bind (wpAny_isInstance (T:="dict") (b:=true) hm.typeIs (by rw [isSubtype_type];kernel_rfl) ?_)
 refine wpAny_ite_split (fun XO=>absurd XO (by decide)) (fun _=> ?_)
 refine wpAny_ite_split (fun _=> ?_) (fun XO=>absurd (by decide+kernel) XO)
 refine wpAny_bind (wpAny_typeOf (T:="dict") hm.typeIs ?_)
 exact wpAny_pure h
theorem so {R:Result→Shared→Prop}{d:Addr}{kvs:List (KK×Value)}{ep:Nat}(hh:A.handled=none)(hd:(d==sysModules)=false)(hm:s.heap.DictAt knd d kvs ep)(hlen:kvs.length≤sizeLine)(S:Addr)(res:Value)(c₀:Nat)(hS:s.heap.get? S=some {cls:=.type "list",data:=.seq #[] c₀})
  (hR:∀h' tk gI c',(∀b o,b≠S→s.heap.get? b=some o→h'.get? b=some o)→h'.get? S=some {cls:=.type "list",dict:=none,data:=.seq gI c',slots:= #[]}→
   ItemsOf (fun i v=>∃k x,kvs[i]? =some (k,x)∧knd.is k v=true) gI kvs.length→R (.ok (.ret res)) {s with heap:=h',toks:=tk}):
  wpAny (model prog w) A.in1 (Builtin.List.listExtendWith (.ref S) (.ref d) res)
   (fun fin s' =>match fin with | .done f=>R (.ok f) s' | .again c' =>c'.quiet=true∧codeAny (model prog w) A c' R s') (fun e s' =>R (.error e) s') s:=by
 obtain ⟨od,es,JS,lL,mG,hk0,hp0,hn0⟩:=id hm
 have hT:s.TypeIs (.ref d) "dict":=hm.dictOf.typeIs
 have Nr:S≠d:=fun e=>by
  rw [e] at hS
  rw [hS] at JS
  cases JS
  cases mG
 have hdI:d≠s.heap.objs.size:=afJ (Heap.lt_size JS)
 have XQ:S≠s.heap.objs.size:=afJ (Heap.lt_size hS)
 have hSf:S∉[s.heap.objs.size,d]:=fun hm=>by
  rcases afK.mp hm with z | z
  ·exact XQ z
  ·exact Nr (afI.mp z)
 have W:=(Walks.dictKeys (knd:=knd) (A:=A.in1) hh s.heap.objs.size d hdI kvs ep).toS
 unfold Builtin.List.listExtendWith
 refine wpAny_bind (wpAny_typeOf (T:="dict") hT ?_)
 have h1:Builtin.List.listSameRef (.ref S) (.ref d)=false:=by simp [Builtin.List.listSameRef,Nr]
 have h2:(Value.type "dict"==Value.type "list")=false:=by decide
 have h3:(Value.type "dict"==Value.type "tuple")=false:=by decide
 simp only [h1,h2,h3,aqa,agF,if_false]
 refine wpAny_bind (wpAny_pyIter_dict hd hm ?_)
 have Nt:(s.heap.push {cls:=.type "dict_keyiterator",data:=.fields #[.ref d,.int 0 0,.int kvs.length 0,.int ep 0]}).DictAt knd d kvs ep:=hm.at' fun o e=>Heap.get?_push_of_some _ e
 refine wpAny_bind (wpAny_holding (w_ (knd:=knd) Nt.dictOf ?_))
 have OY:=Heap.get?_push_of_some {cls:=.type "dict_keyiterator",data:=.fields #[.ref d,.int 0 0,.int kvs.length 0,.int ep 0]} hS
 have it₁:(s.heap.push {cls:=.type "dict_keyiterator",data:=.fields #[.ref d,.int 0 0,.int kvs.length 0,.int ep 0]}).IsKeyIter s.heap.objs.size d 0 kvs.length ep:=⟨_,Heap.get?_push_size _ rfl,rfl,rfl⟩
 have key:∀(h:Heap) (c₁ tk:Nat),h.IsKeyIter s.heap.objs.size d 0 kvs.length ep→h.DictAt knd d kvs ep→(∀b o,b≠S→s.heap.get? b=some o→h.get? b=some o)→
   h.get? S=some {cls:=.type "list",data:=.seq #[] c₁}→codeAny (model prog w) A (.builtin "list.extend.loop" ⟨[.ref S,.ref s.heap.objs.size,res],[]⟩) R {s with heap:=h,toks:=tk}:=by
  intro h c₁ tk hit hdm hk OY
  refine codeAny_extend_loopS W hlen S hSf res kvs.length 0 _ #[] c₁ rfl (afU _) ⟨hit,hdm⟩ OY (ItemsOf.nil _) fun s' gI c' V_ LJ sr=> ?_
  rw [Moved.eq_with V_]
  refine hR s'.heap s'.toks gI c' (fun b o hb e=>V_.heap b o (fun xa=> ?_) (hk b o hb e)) LJ sr
  rcases afK.mp xa with e' | xa
  ·exact hb e'
  ·exact absurd (Heap.lt_size e) (by rw [afI.mp xa];exact afY _)
 refine wpAny_ite_split (fun _=> ?_) (fun _=>wpAny_pure ⟨plainId_quiet F.plain_extend_loop _,key _ c₀ _ it₁ Nt (fun b o _ e=>Heap.get?_push_of_some _ e) OY⟩)
 refine wpAny_bind (wpAny_rule ?_)
 refine wpAny_bind ?_
 show wpAny _ _ (updateSeq S (·.push .none) >>=fun _=>updateSeq S (·.pop)) _ _ _
 refine wpAny_bind (wpAny_updateSeq OY rfl ?_)
 have V':=Heap.get?_update_self (Obj.mapSeq (·.push Value.none)) OY rfl
 refine wpAny_updateSeq (hz:=by seq_fits) V' rfl ?_
 have hS₃:=Heap.get?_update_self (Obj.mapSeq (·.pop)) V' rfl
 refine wpAny_pure ⟨plainId_quiet F.plain_extend_loop _,key _ _ _ (it₁.at fun o e=> ?_) (Nt.at' fun o e=> ?_) (fun b o hb e=> ?_) hS₃⟩
 ·exact (Heap.get?_update_other _ _ XQ).trans ((Heap.get?_update_other _ _ XQ).trans e)
 ·exact (Heap.get?_update_other _ _ Nr).trans ((Heap.get?_update_other _ _ Nr).trans e)
 ·exact (Heap.get?_update_other _ _ (afO hb)).trans ((Heap.get?_update_other _ _ (afO hb)).trans (Heap.get?_push_of_some _ e))
theorem mH {R:Result→Shared→Prop}{d:Addr}{kvs:List (KK×Value)}{ep:Nat}(hh:A.handled=none)(hd:(d==sysModules)=false)(hm:s.heap.DictAt knd d kvs ep)(hlen:kvs.length≤sizeLine)(S:Addr)(hS:s.heap.get? S=some {cls:=.type "list",data:=.seq #[]})
  (hR:∀h' tk gI c',(∀b o,b≠S→s.heap.get? b=some o→h'.get? b=some o)→h'.get? S=some {cls:=.type "list",dict:=none,data:=.seq gI c',slots:= #[]}→
   ItemsOf (fun i v=>∃k x,kvs[i]? =some (k,x)∧knd.is k v=true) gI kvs.length→R (.ok (.ret .none)) {s with heap:=h',toks:=tk}):
  wpAny (model prog w) A.in1 (Builtin.«list.__init__» ⟨[.ref S,.ref d],[]⟩)
   (fun fin s' =>match fin with | .done f=>R (.ok f) s' | .again c' =>c'.quiet=true∧codeAny (model prog w) A c' R s') (fun e s' =>R (.error e) s') s:=by
 obtain ⟨od,es,JS,lL,mG,hk0,hp0,hn0⟩:=id hm
 have Nr:S≠d:=fun e=>by
  rw [e] at hS
  rw [hS] at JS
  cases JS
  cases mG
 show wpAny _ _ (do let old ← Builtin.List.listItems (.ref S);Builtin.List.listUpdate (.ref S) (fun _=> #[]);letGo old.toList.reverse;Builtin.List.listExtendWith (.ref S) (.ref d) .none) _ _ s
 refine wpAny_bind ?_
 unfold Builtin.List.listItems
 refine wpAny_bind (wpAny_seqItems hS rfl (wpAny_pure ?_))
 show wpAny _ _ (updateSeq S (fun _=> #[]) >>=fun _=>letGo (#[]:Array Value).toList.reverse >>=fun _=>Builtin.List.listExtendWith (.ref S) (.ref d) .none) _ _ s
 refine wpAny_bind (wpAny_updateSeq hS rfl ?_)
 have V':=Heap.get?_update_self (Obj.mapSeq (fun _=>(#[]:Array Value))) hS rfl
 have oth:∀b o,b≠S→s.heap.get? b=some o→(s.heap.update S (Obj.mapSeq (fun _=>(#[]:Array Value)))).get? b=some o:=
  fun b o hb e=>(Heap.get?_update_other _ _ (afO hb)).trans e
 refine wpAny_bind (wpAny_letGo ?_)
 refine so hh hd (hm.at' fun o e=>oth d o (afO Nr) e) hlen S .none _ V' fun h' tk gI c' hk LJ sr=> ?_
 exact hR h' tk gI c' (fun b o hb e=>hk b o hb (oth b o hb e)) LJ sr
theorem mI {Q:Value→Shared→Prop}{d:Addr}{kvs:List (KK×Value)}{ep:Nat}(hh:A.handled=none)(hd:(d==sysModules)=false)(hm:s.heap.DictAt knd d kvs ep)(hlen:kvs.length≤sizeLine)
  (hQ:∀h' tk gI c',(∀b o,s.heap.get? b=some o→h'.get? b=some o)→
   h'.get? s.heap.objs.size=some {cls:=.type "list",dict:=none,data:=.seq gI c',slots:= #[]}→ItemsOf (fun i v=>∃k x,kvs[i]? =some (k,x)∧knd.is k v=true) gI kvs.length→Q (.ref s.heap.objs.size) {s with heap:=h',toks:=tk}):
  wpAny (model prog w) A (call (.type "list") [.ref d]) Q E s:=by
 refine callType_codes (Q₁:=fun obj s₁=>obj=.ref s.heap.objs.size∧s₁={s with heap:=s.heap.push {cls:=.type "list",data:=.seq #[]}}) F.called_list (F.typeCall_list_1 _) F.entry_list_init
  (code_list_new _ ⟨rfl,rfl⟩) fun obj s₁ h₁=> ?_
 obtain ⟨rfl,rfl⟩:=h₁
 have hS:(s.heap.push {cls:=.type "list",data:=.seq #[]}).get? s.heap.objs.size=some {cls:=.type "list",data:=.seq #[]}:=Heap.get?_push_size _ rfl
 refine ⟨⟨_,hS,rfl⟩,F.args_list_init_2 _ _,mH (A:=A.in1) hh hd (hm.at' fun o e=>Heap.get?_push_of_some _ e) hlen _ hS fun h' tk gI c' hk LJ sr=> ?_⟩
 exact ⟨rfl,hQ h' tk gI c' (fun b o e=>hk b o (afJ (Heap.lt_size e)) (Heap.get?_push_of_some _ e)) LJ sr⟩
end
theorem aH {α β:Type}{F:α→β→Prop}:∀{l₁:List α} {l₂:List β} {i:Nat} {a:α},Paired F l₁ l₂→l₁[i]? =some a→∃b,l₂[i]? =some b∧F a b
 | _,_,_,_,.nil,h=>by simp at h
 | _,_,0,_,.cons r _,h=>by
  cases h
  exact ⟨_,rfl,r⟩
 | _,_,i+1,_,.cons _ t,h=>by
  obtain ⟨b,e,f⟩:=aH (i:=i) t (by simpa using h)
  exact ⟨b,by simpa using e,f⟩
theorem jN {α β:Type}{F:α→β→Prop}:∀{l₁:List α} {l₂:List β},l₁.length=l₂.length→(∀(i:Nat) (a:α) (b:β),l₁[i]? =some a→l₂[i]? =some b→F a b)→Paired F l₁ l₂
 | [],[],_,_=>.nil
 | a::l₁,b::l₂,h,f=>.cons (f 0 a b rfl rfl) (jN (by simpa using h) fun i a b e1 e2=>f (i+1) a b (by simpa using e1) (by simpa using e2))
 | [],_::_,h,_=>by simp at h
 | _::_,[],h,_=>by simp at h
theorem vA {P:Program}{w:World}{k:Key}{u:Value}(h:(bD P w).is k u=true):RelV (kV k) u:=by
 rcases bP h with ⟨i,t,rfl,rfl⟩ | ⟨x,t,rfl,rfl⟩
 ·exact ⟨t,rfl⟩
 ·exact ⟨t,rfl⟩
section
variable {X:Cx}
inductive AN (xs:List V)(H:Hp)(Q:VK):Prop where
 | mk (p:Addr) (kvs:List (Key×V)) (_:xs=[.ref p]) (_:Rd H p (.dK kvs)) (_:∀l,H l=none→Q (.ref l) (upd H l (.lst (kvs.map fun kv=>kV kv.1)))):AN xs H Q
theorem dr (hc:X.calm=true):eO X (.type "list") AN:=by
 intro pins s σ H xs us Q I r h
 obtain ⟨p,kvs,rfl,hq,q⟩:=h
 obtain ⟨u,rfl,r1⟩:=vals1 r
 cases r1
 obtain ⟨z,hd,vs,rel,o,es,ep,ho,hx,mG,hk,hp,hn⟩:=i6 I.bz hq
 have hl:=rel.length
 refine mI (knd:=bD X.prog X.w) (I.ok.hd hc) hd ⟨o,es,ho,hx,mG,hk,hp,hn⟩ (by omega) fun h' tk gI c' kk hS sr=> ?_
 have NS :=I.bz.fresh (ad_ s.heap.objs.size)
 have rv:Vals (kvs.map fun kv=>kV kv.1) gI.toList:=jN (by have:=sr.1;simp;omega) fun i a b e1 e2=>by
  rw [aa_] at e1
  obtain ⟨kv,ek,rfl⟩:=afu.mp e1
  obtain ⟨q',eq,e3,_⟩:=aH rel ek
  obtain ⟨k,x,e4,e5⟩:=sr.2 i b (by simpa using e2)
  rw [eq] at e4
  cases e4
  rw [e3]
  exact vA e5
 have I2:Inv X pins σ (upd H s.heap.objs.size (.lst (kvs.map fun kv=>kV kv.1))) {s with heap:=h',toks:=tk}:=I.laid (t' :=tk) kk (ad_ _) ⟨by rw [Wp];exact z,gI.toList,c',rv,by simpa using hS⟩
 exact ⟨.ref _,_,I2,rfl,q _ NS⟩
theorem Inv.freeze {pins:List (Addr×Obj)}{σ:L2.St}{H:Hp}{s:Shared}{d:Addr}{kvs:List (Key×V)}{o:Obj}(I:Inv X pins σ H s)(e:H d=some (.dK kvs))(ho:s.heap.get? d=some o):Inv X pins σ (upd H d (.ip o (.dK kvs))) s:=by
 have nx:∀b u,H b=some u→b≠d→upd H d (.ip o (.dK kvs)) b=some u:=fun b u q n=>by rw [aj n];exact q
 refine I.step (g' :=s.gens) (t' :=s.toks) (d' :=s.drawn) (ch:=[]) (fun _ z=>nomatch z) (fun b o _ _ _ e _=>e) (fun b o _ _ _ e _=>⟨o.slots,e⟩) (fun b o _ _ n=>by rw [aj (fun z=>by rw [z,e] at n;cases n)];exact n) (fun b o _ e=>⟨o,e⟩)
  (fun b xs q=>nx b _ q fun z=>by rw [z,e] at q;cases q) (fun b o' u q=>nx b _ q fun z=>by rw [z,e] at q;cases q) (fun b ps q=>⟨#[],by rw [nx b _ q fun z=>by rw [z,e] at q;cases q];simp⟩) (fun m hm=>hm) (fun b u q=> ?_) I.bare
 by_cases hb:b=d
 ·subst hb
  rw [ai] at q
  cases q
  exact ⟨ho,I.bz b _ e⟩
 ·rw [aj hb] at q
  exact (I.bz b u q).jz (fun _ _ _ k=>k) (fun c k=>nx c _ k fun z=>by rw [z,e] at k;cases k) fun c xs k=>nx c _ k fun z=>by rw [z,e] at k;cases k
def OZ (d:Addr)(o:Obj)(kvs:List (Key×V)):It:=
 ⟨fun i H=>H d=some (.ip o (.dK kvs))∧i < kvs.length,
  fun i H v H' =>∃p k x,kvs[i]? =some (k,x)∧v=.ref p∧H p=none∧H' =upd H p (.tup [kV k,x]),
  fun i H=>H d=some (.ip o (.dK kvs))∧kvs.length≤i⟩
theorem AO {P:Program}{w:World}{H:Hp}{h:Heap}{d:Addr}{o:Obj}{kvs:List (Key×V)}{Wa:Array DictEntry}{ep:Nat}(ok:fM P w H h)(e:H d=some (.ip o (.dK kvs)))(he:o.data=.dict Wa ep):
  (d==sysModules)=false∧∃vs,KV kvs vs∧h.DictAt (bD P w) d vs ep∧kvs.length≤sizeLine:=by
 obtain ⟨h1,z,hd,vs,rel,o',es,va,ho,hx,mG,hk,hp,hn⟩:=ok d _ e
 rw [h1] at ho
 cases ho
 rw [he] at mG
 cases mG
 exact ⟨hd,vs,rel,⟨o,Wa,h1,hx,he,hk,hp,hn⟩,z⟩
theorem jO:entryFor table "dict_itemiterator.__iter__"=some Builtin.«dict_keyiterator.__iter__»:=
 entryFor_alias (id' :="dict_keyiterator.__iter__") (by kernel_rfl) (by first | rfl | decide+kernel | (unfold String.splitOn;simp+decide [String.splitOnAux])) (by decide+kernel) (by kernel_rfl)
theorem uu {P:Program}{w:World}{A:Around}{E:Value→Shared→Prop}{s:Shared}{it d:Addr}{i n ep:Nat}{ok ov:Value}{Q:Value→Shared→Prop}(st:IsItemIter s.heap it d i n ep ok ov)(h:Q (.ref it) s):wpAny (model P w) A (pyIter (.ref it)) Q E s:=by
 have hT:s.TypeIs (.ref it) "dict_itemiterator":=⟨_,st,rfl⟩
 refine wpAny_pyIter_slot hT F.slot_dict_itemiterator_iter (wpAny_call_entry F.slot_dict_itemiterator_iter hT jO ?_ (F.args_dict_itemiterator_iter_1 _))
 show wpAny _ _ (ret (.ref it)) _ _ s
 exact wpAny_pure ⟨_,rfl,"dict_itemiterator",_,hT,F.slot_dict_itemiterator_next.lookup,h⟩
theorem uv {P:Program}{w:World}{K:Frag}{es:List Expr}{k:Nat}{pos:Pos}(d it:Addr)(o:Obj)(kvs:List (Key×V)){Wa:Array DictEntry}{ep:Nat}(he:o.data=.dict Wa ep)(yP:it≠d):
  Turn P w K (.Tuple es k pos) (OZ d o kvs) [it] it (fun i h=>∃ok ov,IsItemIter h it d i kvs.length ep ok ov) where
 mem:=by simp
 obj:=fun i h st b hb=>by
  have e:b=it:=by simpa using hb
  subst e
  obtain ⟨ok,ov,st⟩:=st
  exact ⟨_,st,fun v z=>by cases z⟩
 keep:=fun i h h' st k=>by
  obtain ⟨ok,ov,st⟩:=st
  exact ⟨ok,ov,k it (by simp) _ st⟩
 item:=by
  intro X hP hw hK hc i pins s σ H E I hf st hg
  subst hP hw hK
  obtain ⟨ok,ov,st⟩:=st
  obtain ⟨fz,hi⟩:=hg
  obtain ⟨hd,vs,rel,da,_⟩:=AO I.bz fz he
  have ek:kvs[i]? =some kvs[i]:=gE hi
  obtain ⟨⟨k',u⟩,ev,e1,ru⟩:=aH rel ek
  have lv:=rel.length
  rw [lv] at st
  refine wpAny_pyNext_items_item st da ev fun key h' K9 out tup sz kk=> ?_
  refine ⟨_,rfl,wpAny_letOwnedTupleGo_items (s:={s with heap:=h' }) out fun DX XR sb=> ?_⟩
  have hsz:∀c o,s.heap.get? c=some o→s.heap.objs.size≠c:=fun c o e=>ag4 (Heap.lt_size e)
  have tz:s.heap.objs.size≠it:=hsz _ _ st
  have nz:∀c,c≠it→∀o,h'.get? c=some o→DX.get? c=some o:=fun c hc o e=>(sb.2 c hc).trans e
  have hn:=I.bz.fresh (ad_ s.heap.objs.size)
  have AE :kvs[i].1=k' :=e1
  have I2:Inv X pins σ (upd H s.heap.objs.size (.tup [kV kvs[i].1,kvs[i].2])) {s with heap:=DX,toks:=s.toks}:=
   Inv.qb I (fun b o hb e=>nz b (by simpa using hb) o (kk b o (by simpa using hb) e)) hf (ad_ _) (by show 2≤sizeLine;decide) (its:=[key,u]) (.cons (by rw [AE];exact vA K9) (.cons ru .nil)) ⟨_,nz _ tz _ tup,rfl,_,rfl⟩
  refine ⟨.ref s.heap.objs.size,_,I2,rfl,⟨s.heap.objs.size,kvs[i].1,kvs[i].2,ek,rfl,hn,rfl⟩,⟨_,_,by rw [lv];exact XR⟩,fun b hb=> ?_⟩
  have eb:b=it:=by simpa using hb
  rw [aj (by rw [eb];exact afO tz)]
  exact (hf b hb).1
 done:=by
  intro X hP hw hK hc i pins s σ H E I hf st hg
  subst hP hw hK
  obtain ⟨ok,ov,st⟩:=st
  obtain ⟨fz,hi⟩:=hg
  obtain ⟨hd,vs,rel,da,_⟩:=AO I.bz fz he
  have lv:=rel.length
  rw [lv] at st
  obtain ⟨f0,f1,f2,f3,f4,f5⟩:=hf it (by simp)
  exact wpAny_pyNext_items_end (I.ok.hd hc) st da (ae_ (by omega)) fun h' eb=>⟨rfl,I.turned (t' :=s.toks) (fun b o hb e=>eb b o hb e) f0 f1 f3 f4 f5⟩
 self:=fun _ _ _ _ _ st h=>by
  obtain ⟨ok,ov,st⟩:=st
  exact uu st h
inductive vB (R:(It→Hp→Prop))(x:V)(H1:Hp):Prop where
 | mk (d kvs:_) (_:x=.ref d) (_:H1 d=some (.dK kvs)) (_:∀o,R (OZ d o kvs) (upd H1 d (.ip o (.dK kvs)))):vB R x H1
def LK (te:TE):TI:=fun σ H R=>te σ H fun x H1=>vB R x H1
theorem sy {e:Expr}{te:TE}{apos dB:Pos}{es:List Expr}{k:Nat}{t_:Pos}(ho:PE X e te)(iU:attributeBase e "items" X.env (eval e X.env)=eval e X.env:=by rfl)(rH:(apos.endLine==dB.line)=true:=by rfl):
  PI X (.Tuple es k t_) (.Call (.Attribute e "items" apos) [] [] dB) (LK te):=by
 intro pins s σ H R I h
 refine wpAny_Call_method0_late iU rH (bZ (ho pins s σ H _ I h) fun v s1 ⟨x,H1,I1,r1,q1⟩=> ?_)
 obtain ⟨d,kvs,rfl,e,q⟩:=q1
 cases r1
 obtain ⟨z,hd,vs,rel,o,es1,ep,XS,hx,mG,hk,hp,hn⟩:=oB I1.bz e
 obtain ⟨h1,h2⟩:=zE (T:="dict") I1 (show RelV (.ref d) (.ref d) from rfl) (.inr (.inr (.inl ⟨rfl,.inl ⟨kvs,e⟩⟩)))
 have da:s1.heap.DictAt (bD X.prog X.w) d vs ep:=⟨o,es1,XS,hx,mG,hk,hp,hn⟩
 have lv:=rel.length
 refine ⟨"dict","dict.items",F.plainAttrs_dict,F.slot_dict_items,F.type_dict_items,h1,h2,Calls.callWith_builtin rfl (PySem.evalArgs_none ?_)⟩
 refine call_meetsIn F.slot_dict_items h1 F.entry_dict_items (F.args_dict_items_1 _) (meets_dict_items (bD X.prog X.w) d hd) ⟨⟨vs,da.dictOf⟩,?_⟩
 have I2:=Inv.freeze I1 e XS
 have da2:(s1.heap.push {cls:=.type "dict_items",data:=.fields #[.ref d]}).DictAt (bD X.prog X.w) d vs ep:=da.at' fun o e=>Heap.get?_push_of_some _ e
 show wpAny (model X.prog X.w) X.A (pyIter (.ref s1.heap.objs.size)) _ _ _
 refine wpAny_pyIter_items (s:={s1 with heap:=s1.heap.push {cls:=.type "dict_items",data:=.fields #[.ref d]}}) ⟨_,Heap.get?_push_size _ rfl,rfl,rfl⟩ da2 ?_
 have sz:(s1.heap.push {cls:=.type "dict_items",data:=.fields #[.ref d]}).objs.size=s1.heap.objs.size+1:=Heap.size_push ..
 have ne:(s1.heap.push {cls:=.type "dict_items",data:=.fields #[.ref d]}).objs.size≠d:=by
  rw [sz]
  exact afO (afJ (agM (Heap.lt_size XS)))
 have I3:Inv X pins σ (upd H1 d (.ip o (.dK kvs))) {s1 with heap:=(s1.heap.push {cls:=.type "dict_items",data:=.fields #[.ref d]}).push {cls:=.type "dict_itemiterator",data:=.fields #[.none,.bool false,.ref d,.int 0 0,.int vs.length 0,.int ep 0,.none,.none]}}:=I2.kept (t' :=s1.toks) fun b o e=>Heap.get?_push_of_some _ (Heap.get?_push_of_some _ e)
 refine ⟨_,[_],_,_,_,rfl,I3,uv d _ o kvs mG ne,⟨_,_,by rw [lv];exact Heap.get?_push_size _ rfl⟩,fun b hb=> ?_,q o⟩
 have eb:b=(s1.heap.push {cls:=.type "dict_items",data:=.fields #[.ref d]}).objs.size:=by simpa using hb
 have le:s1.heap.objs.size≤b:=by rw [eb,sz];exact agG _
 exact I2.nE le (I2.bz.fresh le)
end
end Ty
set_option maxHeartbeats 4000000
namespace Ty
def ev:List Int→(Nat→Rat)→Rat
 | [],_=>0
 | a::r,z=>(a:Rat)*z 0+ev r (fun i=>z (i+1))
theorem AQ:∀(l:List Int) (z y:Nat→Rat),ev l (fun i=>z i+y i)=ev l z+ev l y
 | [],_,_=>by simp [ev];grind
 | a::r,z,y=>by
  simp only [ev]
  rw [AQ r (fun i=>z (i+1)) (fun i=>y (i+1))]
  grind
theorem qg:∀(l:List Int) (z:Nat→Rat),(∀j,((l.getD j 0:Int):Rat)*z j=0)→ev l z=0
 | [],_,_=>rfl
 | a::r,z,h=>by
  have h0:=h 0
  have ih:=qg r (fun i=>z (i+1)) (fun j=>by simpa using h (j+1))
  simp only [ev]
  rw [ih]
  simp at h0
  grind
theorem qh:∀(l:List Int) (z:Nat→Rat) (p:Nat),(∀j,j≠p→((l.getD j 0:Int):Rat)*z j=0)→ev l z=((l.getD p 0:Int):Rat)*z p
 | [],_,_,_=>by simp [ev]
 | a::r,z,0,h=>by
  have ih:=qg r (fun i=>z (i+1)) (fun j=>by simpa using h (j+1) (by omega))
  simp only [ev]
  rw [ih]
  simp
  grind
 | a::r,z,p+1,h=>by
  have h0:=h 0 (by omega)
  have ih:=qh r (fun i=>z (i+1)) p (fun j hj=>by simpa using h (j+1) (by omega))
  simp only [ev]
  rw [ih]
  simp at h0
  simp
  grind
theorem AR {s t u:Int}:∀{new line lead:List Int},new.length=line.length→lead.length=line.length→(∀j,s*new.getD j 0=t*line.getD j 0 - u*lead.getD j 0)→∀z:Nat→Rat,(s:Rat)*ev new z=t*ev line z - u*ev lead z
 | [],[],[],_,_,_,z=>by simp [ev];grind
 | a::new,b::line,c::lead,h1,h2,h,z=>by
  have h0:=h 0
  have ih:=AR (by simpa using h1) (by simpa using h2) (fun j=>by simpa using h (j+1)) (fun i=>z (i+1))
  simp at h0
  have h0' :(s:Rat)*a=t*b - u*c:=by exact_mod_cast h0
  simp only [ev]
  grind
 | [],_::_,_,h,_,_,_=>by simp at h
 | _::_,[],_,h,_,_,_=>by simp at h
 | _,[],_::_,_,h,_,_=>by simp at h
 | _,_::_,[],_,h,_,_=>by simp at h
def c9:List Rat→List (List Int)→Nat→Rat
 | c::y,o::os,j=>c*((o.getD j 0:Int):Rat)+c9 y os j
 | _,_,_=>0
theorem sG {s t u:Rat}(hs:s≠0)(j:Nat):∀(os:List (List Int)) (y1 y2:List Rat),y1.length=os.length→y2.length=os.length→s*c9 (age (fun a b=>(t*a - u*b) / s) y1 y2) os j=t*c9 y1 os j - u*c9 y2 os j
 | [],[],[],_,_=>by simp [c9];grind
 | o::os,a::y1,b::y2,h1,h2=>by
  have ih:=sG (t:=t) (u:=u) hs j os y1 y2 (by simpa using h1) (by simpa using h2)
  simp only [List.zipWith_cons_cons,c9]
  grind
 | [],_::_,_,h,_=>by simp at h
 | [],[],_::_,_,h=>by simp at h
 | _::_,[],_,h,_=>by simp at h
 | _::_,_::_,[],_,h=>by simp at h
theorem oE (j:Nat):∀(os:List (List Int)),c9 (afz os.length 0) os j=0
 | []=>rfl
 | o::os=>by
  simp only [afL,aga,c9]
  rw [oE j os]
  grind
def jP (os:List (List Int))(l:List Int):Prop:=∃y:List Rat,y.length=os.length∧∀j,((l.getD j 0:Int):Rat)=c9 y os j
theorem sI:∀{os:List (List Int)} {l:List Int},l∈os→jP os l
 | o::os,l,h=>by
  rcases afK.mp h with z | z
  ·subst z
   refine ⟨1::afz os.length 0,by simp,fun j=> ?_⟩
   simp only [c9]
   rw [oE]
   grind
  ·obtain ⟨y,hl,hy⟩:=sI z
   refine ⟨0::y,by simp [hl],fun j=> ?_⟩
   simp only [c9]
   rw [← hy j]
   grind
theorem AS {os:List (List Int)}{new line lead:List Int}{s t u:Int}(hs:s≠0)(h:∀j,s*new.getD j 0=t*line.getD j 0 - u*lead.getD j 0)(h1:jP os line)(h2:jP os lead):jP os new:=by
 obtain ⟨y1,l1,e1⟩:=h1
 obtain ⟨y2,l2,e2⟩:=h2
 have JW :=c7 hs
 refine ⟨age (fun a b=>((t:Rat)*a - u*b) / s) y1 y2,by simp [l1,l2],fun j=> ?_⟩
 have k:=sG (t:=(t:Rat)) (u:=(u:Rat)) JW j os y1 y2 l1 l2
 rw [← e1 j, ← e2 j] at k
 have h' :(s:Rat)*(new.getD j 0:Int)=t*(line.getD j 0:Int) - u*(lead.getD j 0:Int):=by exact_mod_cast h j
 rw [← h'] at k
 grind
def kh (y:List Rat):Nat→Rat:=fun i=>if i < y.length then y.getD i 0 else -1
theorem uw (j:Nat)(c:Int):∀(os:List (List Int)) (y:List Rat),y.length=os.length→ev (os.map (fun o=>o.getD j 0)++[c]) (kh y)=c9 y os j - c
 | [],[],_=>by simp [ev,kh,c9];grind
 | o::os,a::y,h=>by
  have ih:=uw j c os y (by simpa using h)
  have ez:(fun i=>kh (a::y) (i+1))=kh y:=by
   funext i
   simp [kh]
  simp only [afp,agU,ev,c9]
  rw [ez,ih]
  simp [kh]
  grind
 | [],_::_,h=>by simp at h
 | _::_,[],h=>by simp at h
theorem mJ (k:Rat)(j:Nat):∀(os:List (List Int)) (y:List Rat),c9 (y.map (fun a=>a*k)) os j=c9 y os j*k
 | [],_=>by cases ‹List Rat› <;> simp [c9] <;> grind
 | _::_,[]=>by simp [c9]
 | o::os,a::y=>by
  simp only [afp,c9]
  rw [mJ k j os y]
  grind
structure sJ (line lead new:List Int)(c:Nat):Prop where
 len:new.length=line.length
 AU:new.getD c 0=0
 Kc:∃s t u:Int,s≠0∧t≠0∧∀j,s*new.getD j 0=t*line.getD j 0 - u*lead.getD j 0
theorem sJ.zero {line lead new:List Int}{c:Nat}(h:sJ line lead new c){j:Nat}(h1:line.getD j 0=0)(h2:lead.getD j 0=0):new.getD j 0=0:=by
 obtain ⟨s,t,u,hs,_,e⟩:=h.Kc
 have:=e j
 rw [h1,h2,agK,agK,Int.sub_self] at this
 rcases apl.mp this with z | z
 ·exact absurd z hs
 ·exact z
theorem sJ.at {line lead new:List Int}{c:Nat}(h:sJ line lead new c){j:Nat}(h2:lead.getD j 0=0)(h1:line.getD j 0≠0):new.getD j 0≠0:=by
 obtain ⟨s,t,u,hs,ht,e⟩:=h.Kc
 have:=e j
 rw [h2] at this
 intro z
 rw [z,agK,agK,Int.sub_zero] at this
 rcases apl.mp this.symm with y | y
 ·exact ht y
 ·exact h1 y
theorem sJ.comb {os:List (List Int)}{line lead new:List Int}{c:Nat}(h:sJ line lead new c)(h1:jP os line)(h2:jP os lead):jP os new:=by
 obtain ⟨s,t,u,hs,ht,e⟩:=h.Kc
 exact AS hs e h1 h2
theorem sJ.ev {line lead new:List Int}{c:Nat}(h:sJ line lead new c)(hl:lead.length=line.length){z:Nat→Rat}(h2:Ty.ev lead z=0):Ty.ev new z=0 ↔ Ty.ev line z=0:=by
 obtain ⟨s,t,u,hs,ht,e⟩:=h.Kc
 have k:=AR h.len hl e z
 rw [h2] at k
 have JW :=c7 hs
 have ht' :=c7 ht
 constructor
 ·intro w
  rw [w] at k
  grind
 ·intro w
  rw [w] at k
  grind
end Ty
set_option maxHeartbeats 4000000
namespace Ty
open PySem PySem.Spec PyProof.Rows L2
def O0 (K:Frag)(a:Addr):It:=
 ⟨fun i H=>∃xs x,aR K H a xs∧xs[i]? =some x,
  fun i H v H' =>∃p x,(∀xs,aR K H a xs→xs[i]? =some x)∧v=.ref p∧H p=none∧H' =upd H p (.tup [.int (i:Int),x]),
  fun i H=>∃xs,aR K H a xs∧xs.length≤i⟩
theorem xc {P:Program}{w:World}{K:Frag}{es:List Expr}{k:Nat}{pos:Pos}(a e it:Addr)(yP:e≠it):
  Turn P w K (.Tuple es k pos) (O0 K a) [e,it] e (fun i h=>(∃old,IsEnum h e it ((i:Nat):Int) old)∧h.IsListIter it a i) where
 mem:=by simp
 obj:=fun i h st c hc=>by
  obtain ⟨⟨old,he⟩,⟨o1,e1,c1,d1⟩⟩:=st
  have nA :c=e∨c=it:=by simpa using hc
  rcases nA with z | z <;> subst z
  ·exact ⟨_,he,fun v z=>by cases z⟩
  ·exact ⟨_,e1,fun v z=>by rw [d1] at z;cases z⟩
 keep:=fun i h h' st k=>by
  obtain ⟨⟨old,he⟩,h1⟩:=st
  exact ⟨⟨old,k e (by simp) _ he⟩,h1.at fun o e=>k it (by simp) o e⟩
 item:=by
  intro X hP hw hK hc i pins s σ H E I hf st hg
  subst hP hw hK
  obtain ⟨⟨old,he⟩,h1⟩:=st
  obtain ⟨xs,x,qx,ex⟩:=hg
  obtain ⟨its,rv,p,_⟩:=I.list qx
  obtain ⟨u,hu,ru⟩:=rv.get ex
  refine wpAny_pyNext_enum_item he h1 p.isList (x:=u) (by simpa using hu) yP fun h' a1 a2 a3 a4 a5=> ?_
  refine ⟨_,rfl,wpAny_letOwnedTupleGo_enum (s:={s with heap:=h',toks:=s.toks+1}) a1 fun DX b1 sb=> ?_⟩
  have nz:∀c,c≠e→∀o,h'.get? c=some o→DX.get? c=some o:=fun c hc o q=>(sb.2 c hc).trans q
  have kk:∀b o,b∉[e,it]→s.heap.get? b=some o→DX.get? b=some o:=fun b o hb q=>by
   have gX :b≠e∧b≠it:=by simpa using hb
   exact nz b gX.1 o (a5 b o gX.1 gX.2 q)
  have sz:∀c o,s.heap.get? c=some o→s.heap.objs.size≠c:=fun c o q=>ag4 (Heap.lt_size q)
  have tz:s.heap.objs.size≠e:=sz _ _ he
  have hn:=I.bz.fresh (ad_ s.heap.objs.size)
  have I2:Inv X pins σ (upd H s.heap.objs.size (.tup [.int (i:Int),x])) {s with heap:=DX,toks:=s.toks+1}:=
   Inv.qb I kk hf (ad_ _) (by show 2≤sizeLine;decide) (its:=[.int i s.toks,u]) (.cons ⟨_,rfl⟩ (.cons ru .nil)) ⟨_,nz _ tz _ a3,rfl,_,rfl⟩
  refine ⟨.ref s.heap.objs.size,_,I2,rfl,⟨s.heap.objs.size,x,fun xs' q=>by rw [I.gx q qx];exact ex,rfl,hn,rfl⟩,⟨⟨_,by exact b1⟩,a2.at fun o q=>nz _ (afO yP) o q⟩,fun b hb=> ?_⟩
  have ob:∃o,s.heap.get? b=some o:=by
   obtain ⟨o1,e1,_⟩:=h1
   have nA :b=e∨b=it:=by simpa using hb
   rcases nA with z | z <;> subst z
   ·exact ⟨_,he⟩
   ·exact ⟨_,e1⟩
  obtain ⟨o,q⟩:=ob
  rw [aj (afO (sz _ _ q))]
  exact (hf b hb).1
 done:=by
  intro X hP hw hK hc i pins s σ H E I hf st hg
  subst hP hw hK
  obtain ⟨⟨old,he⟩,h1⟩:=st
  obtain ⟨xs,qx,ee⟩:=hg
  obtain ⟨its,rv,p,_⟩:=I.list qx
  have l1:=rv.length
  refine wpAny_pyNext_enum_end (I.ok.hd hc) he h1 p.isList (by simp;omega) fun h' kk=>⟨rfl,Inv.lA I (fun b o hb q=> ?_) hf⟩
  have gX :b≠e∧b≠it:=by simpa using hb
  exact kk b o gX.2 q
 self:=fun _ _ _ _ _ st h=>by
  obtain ⟨⟨old,he⟩,_⟩:=st
  exact wpAny_pyIter_enum he h
theorem boot_enumerate:bootBuiltins "enumerate"=some (.type "enumerate"):=by decide+kernel
section
variable {X:Cx}
inductive AV (K:Frag)(R:(It→Hp→Prop))(vs:List V)(H1:Hp):Prop where
 | mk (a:_) (_:vs=[.ref a]) (_:(∃xs,aR K H1 a xs)) (_:R (O0 K a) H1):AV K R vs H1
def O1 (K:Frag)(ta:TA):TI:=fun σ H R=>ta σ H fun vs H1=>AV K R vs H1
theorem vC {e1:Expr}{ta:TA}{p pos:Pos}{es:List Expr}{k:Nat}{t_:Pos}(hg:Gl X "enumerate")(hm:X.mg "enumerate"=none)(ha:PA X [e1] ta)(hs:starEach [e1] X.env=[(false,eval e1 X.env)]:=by rfl):
  PI X (.Tuple es k t_) (.Call (.Name "enumerate" p) [e1] [] pos) (O1 X.K ta):=by
 intro pins s σ H R I h
 refine Call_ (gw I hg hm boot_enumerate (PyProof.Rows.callWith_type1 (bZ (ha pos pins s σ H _ I h) fun us s1 ⟨vs,H1,I1,r1,q1⟩=> ?_) hs rfl))
 obtain ⟨a,e,⟨xs,hx⟩,q⟩:=q1
 subst e
 cases r1 with
 | cons r rr=>
  cases rr
  cases r
  obtain ⟨its,rv,pl,_⟩:=I1.list hx
  refine call_enumerate_list pl.isList fun h' hE hI hsz hk=>wpAny_pyIter_enum (s:={s1 with heap:=h' }) hE ?_
  refine ⟨s1.heap.objs.size+1,[s1.heap.objs.size+1,s1.heap.objs.size],_,_,H1,rfl,I1.kept (t' :=s1.toks) hk,xc a _ _ (Nat.succ_ne_self _),⟨⟨_,hE⟩,hI⟩,fun c hc=> ?_,q⟩
  have nA :s1.heap.objs.size≤c:=by
   have:c=s1.heap.objs.size+1∨c=s1.heap.objs.size:=by simpa using hc
   simp only [Addr] at*
   omega
  exact I1.nE nA (I1.bz.fresh nA)
theorem any_range (bs:List Bool):(agx bs.length).any (fun i=>(bs[i]?).getD true)=bs.any id:=by
 rw [agr,agz,agz]
 constructor
 ·rintro ⟨i,hi,h⟩
  have O2 :i < bs.length:=agH.mp hi
  rw [gE O2] at h
  exact ⟨bs[i],agm O2,h⟩
 ·rintro ⟨b,hb,h⟩
  obtain ⟨i,hi⟩:=afE hb
  exact ⟨i,agH.mpr (ir.mp hi).1,by rw [hi];exact h⟩
inductive O3 (K:Frag)(xs:List V)(H:Hp)(Q:VK):Prop where
 | mk (p:Addr) (bs:List Bool) (_:xs=[.ref p]) (_:aR K H p (bs.map V.bl)) (_:Q (.bl (bs.any id)) H):O3 K xs H Q
theorem xg (hc:X.calm=true):eO X (.builtin "any") (O3 X.K):=by
 intro pins s σ H xs us Q I r h
 obtain ⟨p,bs,rfl,hq,q⟩:=h
 obtain ⟨u,rfl,r1⟩:=vals1 r
 cases r1
 obtain ⟨its,rv,pl,hz⟩:=I.list hq
 refine call_any_walk (wpAny_pyIter_list pl.isList ?_)
 have yP:p≠s.heap.objs.size:=by obtain ⟨o,ho,_⟩:=pl.isList;exact afJ (Heap.lt_size ho)
 have I1:Inv X pins σ H {s with heap:=s.heap.push {cls:=.type "list_iterator",data:=.fields #[.ref p,.int 0 0]}}:=I.kept (t' :=s.toks) fun b o e=>Heap.get?_push_of_some _ e
 obtain ⟨f0,f1,f2,f3,f4,f5⟩:=I.nE (H' :=H) (ad_ s.heap.objs.size) (I.bz.fresh (ad_ _))
 have hl:its.length=bs.length:=by rw [← rv.length,Wp]
 refine ⟨s.heap.objs.size,_,_,_,_,_,fun i=>(bs[i]?).getD true,rfl,Walks.list (A:=X.A.in1) (I.ok.hd hc) s.heap.objs.size p yP its.toArray,⟨⟨_,Heap.get?_push_size _ rfl,rfl,rfl⟩,pl.isList.at fun o e=>Heap.get?_push_of_some _ e⟩,?_,fun h' tk kk=> ?_⟩
 ·intro i v s' Q' E' hv iw
  have K_ :its[i]? =some v:=by simpa using hv
  have hi:i < bs.length:=by rw [← hl];exact (ir.mp K_).1
  have eb:(bs.map V.bl)[i]? =some (.bl bs[i]):=by rw [aa_,gE hi];rfl
  obtain ⟨u,eu,ru⟩:=rv.get eb
  rw [K_] at eu
  cases eu
  cases ru
  dsimp only at iw
  rw [gE hi] at iw
  exact wpAny_truthy_bool iw
 ·refine ⟨.bl (bs.any id),H,I1.turned (t' :=tk) (it:=s.heap.objs.size) (fun b o hb e=>kk b o (by simpa using hb) e) f0 f1 f3 f4 f5,?_,q⟩
  show _=_
  rw [← any_range bs,afC,hl]
theorem O4:bootBuiltins "any"=some (.builtin "any"):=by decide+kernel
end
theorem sL {K:Frag}{a:Addr}{xs:List V}{g:TG}{tb:TS}{D:Ends}{σ:L2.St}{H:Hp}(Pv:Nat→L2.St→Hp→Prop)(h0:Pv 0 σ H)(hl:∀i σ H,i≤xs.length→Pv i σ H→aR K H a xs)
  (hs:∀i x σ H p,xs[i]? =some x→Pv i σ H→H p=none→g (.ref p) σ (upd H p (.tup [.int (i:Int),x])) fun σ2 H2=>tb {D with nx:=Pv (i+1),ct:=Pv (i+1),bk:=D.nx} σ2 H2) (hd:∀σ H,Pv xs.length σ H→D.nx σ H):
  ∃W:Nat→Nat→L2.St→Hp→Prop,(∃m,W 0 m σ H)∧∀i m σ H,W i m σ H→
   ((O0 K a).stop i H∧D.nx σ H)∨((O0 K a).go i H∧∃N:L2.St→Hp→Prop,(∀σ' H',N σ' H' →∃m',m' < m∧W (i+1) m' σ' H')∧∀x H',(O0 K a).y9 i H x H' →g x σ H' fun σ2 H2=>tb {D with nx:=N,ct:=N,bk:=D.nx} σ2 H2):=by
 refine ⟨fun i m σ H=>m=xs.length - i∧i≤xs.length∧Pv i σ H,⟨xs.length,by simp,afU _,h0⟩,?_⟩
 rintro i m σ H ⟨rfl,hi,p⟩
 have q:=hl i σ H hi p
 by_cases j6:i < xs.length
 ·have e:xs[i]? =some xs[i]:=gE j6
  refine .inr ⟨⟨xs,_,q,e⟩,Pv (i+1),fun σ' H' z=>⟨xs.length - (i+1),by omega,rfl,by omega,z⟩,fun x H' y=> ?_⟩
  obtain ⟨pp,x',y1,rfl,np,rfl⟩:=y
  exact hs i x' σ H pp (y1 xs q) p np
 ·have e:i=xs.length:=by omega
  subst e
  exact .inl ⟨⟨xs,q,ad_ _⟩,hd σ H p⟩
theorem oF {d:Addr}{o:Obj}{kvs:List (Key×V)}{g:TG}{tb:TS}{D:Ends}{σ:L2.St}{H:Hp}(Pv:Nat→L2.St→Hp→Prop)(h0:Pv 0 σ H)(hl:∀i σ H,i≤kvs.length→Pv i σ H→H d=some (.ip o (.dK kvs)))
  (hs:∀i k x σ H p,kvs[i]? =some (k,x)→Pv i σ H→H p=none→g (.ref p) σ (upd H p (.tup [kV k,x])) fun σ2 H2=>tb {D with nx:=Pv (i+1),ct:=Pv (i+1),bk:=D.nx} σ2 H2) (hd:∀σ H,Pv kvs.length σ H→D.nx σ H):
  ∃W:Nat→Nat→L2.St→Hp→Prop,(∃m,W 0 m σ H)∧∀i m σ H,W i m σ H→
   ((OZ d o kvs).stop i H∧D.nx σ H)∨((OZ d o kvs).go i H∧∃N:L2.St→Hp→Prop,(∀σ' H',N σ' H' →∃m',m' < m∧W (i+1) m' σ' H')∧∀x H',(OZ d o kvs).y9 i H x H' →g x σ H' fun σ2 H2=>tb {D with nx:=N,ct:=N,bk:=D.nx} σ2 H2):=by
 refine ⟨fun i m σ H=>m=kvs.length - i∧i≤kvs.length∧Pv i σ H,⟨kvs.length,by simp,afU _,h0⟩,?_⟩
 rintro i m σ H ⟨rfl,hi,p⟩
 have q:=hl i σ H hi p
 by_cases j6:i < kvs.length
 ·refine .inr ⟨⟨q,j6⟩,Pv (i+1),fun σ' H' z=>⟨kvs.length - (i+1),by omega,rfl,by omega,z⟩,fun x H' y=> ?_⟩
  obtain ⟨pp,k,x',y1,rfl,np,rfl⟩:=y
  exact hs i k x' σ H pp y1 p np
 ·have e:i=kvs.length:=by omega
  subst e
  exact .inl ⟨⟨q,ad_ _⟩,hd σ H p⟩
end Ty
set_option maxHeartbeats 4000000
namespace Ty
open PySem PySem.Spec PyProof.Rows L2
open Builtin.Int (intBits)
section
variable {X:Cx}
def AW (i j:Int):Prop:=intBits i+intBits j≤134217728
theorem gZ:iO X (binaryOp .Mult) (rI AW fun i j=>.int (i*j)):=
 VY fun _ _ _ _ _ _ _ hc q=>mul_int q (IntMulOk.of_le (ad_ _) (ad_ _) hc)
theorem fD {a b:Int}{m n:Nat}(h1:a.natAbs≤2^m)(h2:b.natAbs≤2^n)(h:m+n≤134000000):AW a b:=by
 have x1:=gY h1 (af4 m)
 have x2:=gY h2 (af4 n)
 unfold AW
 omega
inductive Kd (K:Frag)(xs:List V)(H:Hp)(Q:VK):Prop where
 | mk (p ys:_) (_:xs=[.ref p,.ty "tuple"]) (_:bF K H p ys) (_:Q (.bl true) H):Kd K xs H Q
theorem xh:eO X (.builtin "isinstance") (Kd X.K):=by
 intro pins s σ H xs us Q I r h
 obtain ⟨p,ys,rfl,hq,q⟩:=h
 obtain ⟨u,w,rfl,r1,r2⟩:=vals2 r
 obtain rfl:=pJ (c:=.ty "tuple") rfl r2
 cases r1
 obtain ⟨its,rv,⟨o,h1,h2,_⟩,_⟩:=I.tuple hq
 have e:PySem.W.kitOne X.K (.type "tuple") (EY (.ty "tuple"))=some true:=by unfold PySem.W.kitOne;rw [if_pos (by decide)]
 exact PySem.W.kia_one PySem.W.kitx_tuple I.dX ⟨o,h1,h2⟩ e (fun z=>nomatch z) fun tk=>⟨.bl true,H,I.tok tk,rfl,q⟩
end
theorem aq.cN {K:Frag}{H H' :Hp}{a:Addr}{xs:List V}(e:aq H H')(h:bF K H a xs):bF K H' a xs:=by
 rcases h with (h | ⟨o,h⟩) | h
 ·exact .inl (.inl (e _ _ h))
 ·exact .inl (.inr ⟨o,e _ _ h⟩)
 ·exact .inr h
section
variable {D:Addr}{te:TE}{cap:L2.St}{H1:Hp}{Q:VK}
theorem xi {K:Frag}{a b:Addr}{xs ys:List V}(Rel:Nat→V→Hp→Prop)(nD:H1 D=none)(hn:xs.length < sizeLine)(hl:ys.length=xs.length)(hX:∀H,aq H1 H→aR K H a xs)(hY:∀H,aq H1 H→aR K H b ys)
  (hR:∀i v H H' ys,H D=some (.lst ys)→bU D H H' →Rel i v H→Rel i v H')
  (he:∀i x y H (R:VK),xs[i]? =some x→ys[i]? =some y→aq H1 H→(∃ys,H D=some (.lst ys))→(∀v H6,aq H H6→Rel i v H6→R v H6)→te (some x::some y::cap) H R)
  (hd:∀zs H,zs.length=xs.length→(∀i v,zs[i]? =some v→Rel i v H)→aq H1 H→H D=some (.lst zs)→Q (.ref D) H):
  jL D (y4 K 2 (rl (cY 0) (rl (cY 1) K2))) i5 te (V7 K a b) (none::none::cap) H1 Q:=by
 refine ⟨fun i m σ zs H=>m=xs.length - i∧i≤xs.length∧(∃o o',σ=o::o' ::cap)∧(zs.length=i∧(∀i v,zs[i]? =some v→Rel i v H)∧aq H1 H)∧H D=some (.lst zs),⟨xs.length,by simp,afU _,⟨none,none,rfl⟩,⟨rfl,fun i v e=>by simp at e,fun b o e=>by rw [aj (ak e nD)];exact e⟩,ai⟩,?_⟩
 rintro i m σ zs H ⟨rfl,hi,⟨o,o',rfl⟩,⟨l,r,s⟩,hD⟩
 by_cases j6:i < xs.length
 ·have e1:xs[i]? =some xs[i]:=gE j6
  have e2:ys[i]? =some (ys[i]'(by omega)):=gE (by omega)
  refine .inr ⟨⟨xs,ys,_,_,hX H s,hY H s,e1,e2⟩,fun v H' y=> ?_⟩
  obtain ⟨p,x,y,q1,q2,rfl,np,rfl⟩:=y
  have e1:=q1 xs (hX H s)
  have e2:=q2 ys (hY H s)
  have sp:aq H (upd H p (.tup [x,y])):=fun b o e=>by rw [aj (ak e np)];exact e
  refine ⟨p,_,rfl,bF.of ai,rfl,_,_,rfl,_,_,rfl,rfl,?_⟩
  unfold i5
  dsimp only
  rw [if_pos rfl]
  refine he i x y _ _ e1 e2 (fun b o e=>sp _ _ (s _ _ e)) ⟨zs,sp _ _ hD⟩ fun v H6 s6 rv=>⟨s6 _ _ (sp _ _ hD),by omega,xs.length - (i+1),by omega,rfl,by omega,⟨_,_,rfl⟩,⟨by simp [l],fun j u e=> ?_,fun b o e=> ?_⟩,ai⟩
  ·by_cases c:j < zs.length
   ·rw [afv c] at e
    have ru:=hR j u H H6 zs hD (bU.of fun b o q=>s6 _ _ (sp _ _ q)) (r j u e)
    exact hR j u H6 _ zs (s6 _ _ (sp _ _ hD)) bU.upd ru
   ·rw [afy (by omega)] at e
    have ej:j=i:=by
     by_cases z:j - zs.length=0
     ·omega
     ·rw [ae_ (by simp;omega)] at e
      cases e
    subst ej
    have:v=u:=by
     rw [show j - zs.length=0 by omega] at e
     exact afB e
    subst this
    exact hR j v H6 _ zs (s6 _ _ (sp _ _ hD)) bU.upd rv
  ·rw [aj (ak e nD)]
   exact s6 _ _ (sp _ _ (s _ _ e))
 ·have e:i=xs.length:=by omega
  subst e
  exact .inl ⟨⟨xs,ys,hX H s,hY H s,.inl (ad_ _)⟩,hd zs H l r s hD⟩
end
def jy (K:Frag)(H:Hp)(v:V)(q:Int×Int):Prop:=∃p,v=.ref p∧bF K H p [.int q.1,.int q.2]
theorem jy.same {K:Frag}{H H' :Hp}{v:V}{q:Int×Int}(h:jy K H v q)(s:aq H H'):jy K H' v q:=by
 obtain ⟨p,e,k⟩:=h
 exact ⟨p,e,Ty.aq.cN s k⟩
def cT (K:Frag)(H:Hp)(us:List V)(qs:List (Int×Int)):Prop:=us.length=qs.length∧∀(i:Nat) (u:V) (q:Int×Int),us[i]? =some u→qs[i]? =some q→jy K H u q
theorem cT.same {K:Frag}{H H' :Hp}{us:List V}{qs:List (Int×Int)}(h:cT K H us qs)(s:aq H H'):cT K H' us qs:=⟨h.1,fun i u q e1 e2=>(h.2 i u q e1 e2).same s⟩
theorem cT.at {K:Frag}{H:Hp}{us:List V}{qs:List (Int×Int)}(h:cT K H us qs){i:Nat}{u:V}(e:us[i]? =some u):∃q,qs[i]? =some q∧jy K H u q:=by
 have hi:i < us.length:=(ir.mp e).1
 have hl:=h.1
 have e2:qs[i]? =some (qs[i]'(by omega)):=gE (by omega)
 exact ⟨_,e2,h.2 i u _ e e2⟩
theorem cT.set {K:Frag}{H:Hp}{us:List V}{qs:List (Int×Int)}{j:Nat}{v:V}{q:Int×Int}(h:cT K H us qs)(n:jy K H v q):cT K H (us.set j v) (qs.set j q):=by
 refine ⟨by simp [h.1],fun i u q' e1 e2=> ?_⟩
 rw [afZ] at e1 e2
 by_cases c:j=i
 ·subst c
  rw [if_pos rfl] at e1 e2
  have l:=h.1
  by_cases hj:j < us.length
  ·rw [if_pos hj] at e1
   rw [if_pos (by omega)] at e2
   cases e1
   cases e2
   exact n
  ·rw [if_neg hj] at e1
   cases e1
 ·rw [if_neg c] at e1 e2
  exact h.2 i u q' e1 e2
def XT (K:Frag)(H:Hp)(a:Addr)(qs:List (Int×Int)):Prop:=∃us,aR K H a us∧cT K H us qs
def sumTo:Nat→(Nat→Rat)→Rat
 | 0,_=>0
 | n+1,f=>f 0+sumTo n (fun i=>f (i+1))
theorem oG:∀(n:Nat) (f g:Nat→Rat),sumTo n (fun i=>f i+g i)=sumTo n f+sumTo n g
 | 0,_,_=>by simp [sumTo];grind
 | n+1,f,g=>by
  simp only [sumTo]
  rw [oG n (fun i=>f (i+1)) (fun i=>g (i+1))]
  grind
theorem oH (c:Rat):∀(n:Nat) (f:Nat→Rat),sumTo n (fun i=>c*f i)=c*sumTo n f
 | 0,_=>by simp [sumTo]
 | n+1,f=>by
  simp only [sumTo]
  rw [oH c n (fun i=>f (i+1))]
  grind
theorem fX:∀(n:Nat) (f:Nat→Rat),(∀i,f i=0)→sumTo n f=0
 | 0,_,_=>rfl
 | n+1,f,h=>by
  simp only [sumTo]
  rw [h 0,fX n (fun i=>f (i+1)) (fun i=>h (i+1))]
  grind
theorem mK:∀(n:Nat) (l:List Int) (z:Nat→Rat),l.length≤n→ev l z=sumTo n (fun j=>((l.getD j 0:Int):Rat)*z j)
 | n,[],z,_=>by
  rw [fX n _ (fun i=>by simp)]
  rfl
 | 0,_::_,_,h=>by simp at h
 | n+1,a::r,z,h=>by
  simp only [ev,sumTo]
  rw [mK n r (fun i=>z (i+1)) (by simpa using h)]
  simp
theorem vD (n:Nat)(z:Nat→Rat):∀(y:List Rat) (os:List (List Int)),(∀o∈os,o.length≤n)→(∀o∈os,ev o z=0)→sumTo n (fun j=>c9 y os j*z j)=0
 | c::y,o::os,h1,h2=>by
  have ih:=vD n z y os (fun x hx=>h1 x (aft _ hx)) (fun x hx=>h2 x (aft _ hx))
  have e:=h2 o afD
  rw [mK n o z (h1 o afD)] at e
  have k:(fun j=>c9 (c::y) (o::os) j*z j)=fun j=>c*(((o.getD j 0:Int):Rat)*z j)+c9 y os j*z j:=by
   funext j
   simp only [c9]
   grind
  rw [k,oG,oH,e,ih]
  grind
 | [],os,_,_=>fX n _ (fun j=>by cases os <;> simp [c9])
 | _::_,[],_,_=>fX n _ (fun j=>by simp [c9])
theorem FT {os:List (List Int)}{l:List Int}{n:Nat}{z:Nat→Rat}(h:jP os l)(hl:l.length≤n)(ho:∀o∈os,o.length≤n)(hz:∀o∈os,ev o z=0):ev l z=0:=by
 obtain ⟨y,_,e⟩:=h
 rw [mK n l z hl, ← vD n z y os ho hz]
 congr 1
 funext j
 rw [e j]
theorem sM:∀{ts:List Int} {qs xs:List (Int×Int)} {d:Int×Int} {b:Int},kc ts (qs++[d]) b→xs.length=qs.length→ev ts (kh (xs.map vl))=(fV qs xs - vl d)*b
 | [],qs,xs,d,b,h,_=>by have:=h.1;simp at this
 | t::ts,[],[],d,b,h,_=>by
  have e:=h.2 0 t d rfl rfl
  have l:=h.1
  have:ts=[]:=by simpa using l
  subst this
  simp [ev,kh,fV]
  rw [e]
  grind
 | t::ts,q::qs,x::xs,d,b,h,hl=>by
  have e:=h.2 0 t q rfl rfl
  have ih:=sM (ts:=ts) (qs:=qs) (xs:=xs) (d:=d) (b:=b) h.tail (by simpa using hl)
  have ez:(fun i=>kh ((x::xs).map vl) (i+1))=kh (xs.map vl):=by
   funext i
   simp [kh]
  simp only [ev]
  rw [ez,ih,e]
  have e0:kh ((x::xs).map vl) 0=vl x:=by simp [kh]
  have ed:fV (q::qs) (x::xs)=vl q*vl x+fV qs xs:=by simp [fV]
  rw [e0,ed]
  grind
 | _::_,[],_::_,_,_,_,hl=>by simp at hl
 | _::_,_::_,[],_,_,_,hl=>by simp at hl
end Ty
set_option maxHeartbeats 4000000
namespace Ty
open PySem PySem.Spec PyProof.Rows L2
section
variable {X:Cx}
end
section
variable {D:Addr}{te:TE}{cap:L2.St}{H1:Hp}{Q:VK}
end
end Ty
set_option maxHeartbeats 4000000
namespace Ty
open PySem PySem.Spec PyProof.Rows L2
section
variable {X:Cx}
end
end Ty
set_option maxHeartbeats 4000000
namespace Ty
open PySem PySem.Spec PyProof.Rows L2
section
variable {X:Cx}
inductive Ke (xs:List V)(H:Hp)(Q:VK):Prop where
 | mk (p:Addr) (kvs:List (Key×V)) (_:xs=[.ref p]) (_:Rd H p (.dK kvs)) (_:Q (.int (kvs.length:Int)) H):Ke xs H Q
theorem oI:eO X (.builtin "len") Ke:=by
 intro pins s σ H xs us Q I r h
 obtain ⟨p,kvs,rfl,hq,q⟩:=h
 obtain ⟨u,rfl,r1⟩:=vals1 r
 cases r1
 exact OT I hq fun t s' I' =>⟨.int _,H,I',⟨t,rfl⟩,q⟩
end
section
variable {D:Addr}{te:TE}{cap:L2.St}{H1:Hp}{Q:VK}
end
end Ty
set_option maxHeartbeats 4000000
namespace Ty
open PySem PySem.Spec PyProof.Rows L2
section
variable {X:Cx}
theorem Inv.O5 {pins:List (Addr×Obj)}{σ:L2.St}{H:Hp}{s:Shared}{d:Addr}{u:HO}{o:Obj}(I:Inv X pins σ H s)(e:H d=some (.ip o u))(n:∀o' u',X.H₀ d≠some (.ip o' u'))(nt:∀xs,u≠.tup xs):Inv X pins σ (upd H d u) s:=by
 have nx:∀b u',H b=some u' →b≠d→upd H d u b=some u' :=fun b u q n=>by rw [aj n];exact q
 have nn:∀b,H b=none→upd H d u b=none:=fun b q=>by rw [aj (fun z=>by rw [z,e] at q;cases q)];exact q
 refine ⟨I.ok,I.os,I.bare,⟨I.base.keep,I.base.slot,fun b ob q z hx=>nn b (I.base.free b ob q z hx),I.base.there,fun b xs q=> ?_,fun b ob u' q=> ?_,fun b ps q=> ?_⟩,I.loc,I.cell,nn _ I.free,fun x c q=>nn _ (I.dZ x c q),fun p hp=> ?_,?_,I.len⟩
 ·have z:=I.base.gs b xs q
  exact nx b _ z fun y=>by rw [y,e] at z;cases z
 ·have z:=I.base.gj b ob u' q
  exact nx b _ z fun y=>by rw [y] at q;exact n _ _ q
 ·obtain ⟨m,z⟩:=I.base.gu b ps q
  exact ⟨m,nx b _ z fun y=>by rw [y,e] at z;cases z⟩
 ·obtain ⟨a1,a2,a3⟩:=I.pin p hp
  exact ⟨a1,nn _ a2,a3⟩
 ·have st:∀{b u'},bE X.prog X.w H s.heap b u' →bE X.prog X.w (upd H d u) s.heap b u' :=fun {b u'} k=>k.jz (fun _ _ _ z=>z) (fun c z=>nx c _ z fun y=>by rw [y,e] at z;cases z) fun c xs z=>nx c _ z fun y=>by rw [y,e] at z;cases z
  intro b u' q
  by_cases hb:b=d
  ·subst hb
   rw [ai] at q
   cases q
   exact st (I.bz b _ e).2
  ·rw [aj hb] at q
   exact st (I.bz b u' q)
def O6 (H0:Hp)(t:TS):TS:=fun D σ H=>t {D with nx:=fun σ' H' =>∃d o kvs,H' d=some (.ip o (.dK kvs))∧(∀o' u',H0 d≠some (.ip o' u'))∧D.nx σ' (upd H' d (.dK kvs))} σ H
theorem FU {st:Stmt}{t:TS}(h:PS X st t):PS X st (O6 X.H₀ t):=by
 intro pins s σ H D I q
 refine wpAny_mono (h pins s σ H _ I q) (fun f s' z=> ?_) fun _ _ z=>z
 cases f with
 | next=>
  obtain ⟨σ',H',I',d,o,kvs,e,n,k⟩:=z
  exact ⟨σ',_,Inv.O5 I' e n (fun _ z=>nomatch z),k⟩
 | brk=>exact z
 | cont=>exact z
 | ret u=>exact z
end
end Ty
set_option maxHeartbeats 4000000
namespace Ty
open PySem PySem.Spec PyProof.Rows L2
section
variable {prog:Program}{w:World}{KK:Type}[DecidableEq KK]{knd:KeyKind prog w KK}{A:Around}{E:Value→Shared→Prop}{s:Shared}
open MeetsSeq MeetsSeq2 MeetsSeq3 SeqRoads2 in
open MeetsSeq MeetsSeq2 MeetsSeq3 SeqRoads2 in
end
section
variable {X:Cx}
end
end Ty
set_option maxHeartbeats 4000000
namespace Ty
open PySem PySem.Spec PyProof.Rows L2
structure LL (K:Frag)(x qual:Str)(st:Stmt)(f:Addr)(fd:FuncData):Prop where
 ex:∃(dV oc:Value) (od:Option Addr) (kV doc pm:Value) (an:Option Addr) (bf ct:Value) (jF:Array (Option Value)),
  fd=fnOf x qual (av st) (ar st) (af st) dV kV doc pm an bf ct∧K.lookup f=some ⟨oc,od,.func fd,jF⟩∧codeIn K bf qual=true
 kp:keepIn K (.ref f)=true
section
variable {P:Program}{w:World}{K:Frag}{mg:Str→Option Value}{base:Heap}{CX:jw}
theorem FV {x qual:Str}{st:Stmt}{f:Addr}{dV oc:Value}{od an:Option Addr}{jF:Array (Option Value)}{kV doc pm bf ct:Value}(l:K.lookup f=some ⟨oc,od,.func (fnOf x qual (av st) (ar st) (af st) dV kV doc pm an bf ct),jF⟩)
  (c:codeIn K bf qual=true) (k:keepIn K (.ref f)=true):LL K x qual st f (fnOf x qual (av st) (ar st) (af st) dV kV doc pm an bf ct):=⟨⟨dV,oc,od,kV,doc,pm,an,bf,ct,jF,rfl,l,c⟩,k⟩
theorem cI {name qual:Str}{st:Stmt}{f:Addr}{fd:FuncData}{N ps:List Str}{k:Nat}{sp:Sp}(F:lV K name qual st f fd)(S:ay N ps (af st))(len:∀vs H Q E,sp vs H Q E→vs.length=ps.length)
  (gB:∀(bf:Value) (A:Around) (outer:List Env) (s:Shared) (H:Hp) (vs:List V) (Q:VK) (E:XK),bY k (A.deeper (envOfC qual (af st) s.heap.objs.size f bf))→sp vs H Q E→
   ∃t,PSs (jx P w K mg base N qual (af st) f bf A outer s H E).tN (ar st) t∧t {nx:=fun _ H' =>Q .cj H',rt:=Q} (start N vs) H):cp P w K mg base (aX P w) (k+1) f fd ps sp:=by
 obtain ⟨oc,od,kV,doc,pm,an,bf,ct,jF,rfl,lk,lL⟩:=F.ex
 exact rF lk lL S len fun A outer s H vs Q E hr q5=>by
  obtain ⟨t,h,q⟩:=gB bf A outer s H vs Q E hr q5
  exact ⟨t,h.tN,q⟩
theorem AX {name qual:Str}{st:Stmt}{f:Addr}{fd:FuncData}{N ps:List Str}{k:Nat}{sp:Sp}(F:LL K name qual st f fd)(S:ay N ps (af st))(len:∀vs H Q E,sp vs H Q E→vs.length=ps.length)
  (gB:∀(bf:Value) (A:Around) (outer:List Env) (s:Shared) (H:Hp) (vs:List V) (Q:VK) (E:XK),bY k (A.deeper (envOfC qual (af st) s.heap.objs.size f bf))→sp vs H Q E→
   ∃t,PSs (jx P w K mg base N qual (af st) f bf A outer s H E).tN (ar st) t∧t {nx:=fun _ H' =>Q .cj H',rt:=Q} (start N vs) H):cp P w K mg base (aX P w) (k+1) f fd ps sp:=by
 obtain ⟨dV,oc,od,kV,doc,pm,an,bf,ct,jF,rfl,lk,lL⟩:=F.ex
 exact rF lk lL S len fun A outer s H vs Q E hr q5=>by
  obtain ⟨t,h,q⟩:=gB bf A outer s H vs Q E hr q5
  exact ⟨t,h.tN,q⟩
end
structure uz (P:Program)(w:World)(K:Frag)(mg:Str→Option Value)(base:Heap)(CX:jw)(k:Nat)(C:Addr)(m:Str)(ps:List Str)(ds:List Value)(sp:Sp):Prop where
 ex:∃(f:Addr) (fd:FuncData),rA K C∧Meth K C m f∧cp P w K mg base CX k f fd ps sp∧Binds K fd ps ds
section
variable {X:Cx}{CX:jw}{k:Nat}{E:XK}{m:Str}{pos apos:Pos}{e o:Expr}{es:List Expr}{ta:TE}{t:TA}
inductive AY (P:Program)(w:World)(K:Frag)(mg:Str→Option Value)(base:Heap)(CX:jw)(k:Nat)(m:Str)(E:XK)(t:TA)(σ:L2.St)(Q:VK)(x:V)(H1:Hp):Prop where
 | mk (a C dx fs ps sp:_) (_:x=.ref a) (_:H1 a=some (.ins C dx fs)) (_:fs.lookup m=none) (_:uz P w K mg base CX k C m ps [.none] sp) (_:t σ H1 fun vs H2=>sp (x::vs++[.cj]) H2 Q E):AY P w K mg base CX k m E t σ Q x H1
def O7 (P:Program)(w:World)(K:Frag)(mg:Str→Option Value)(base:Heap)(CX:jw)(k:Nat)(m:Str)(E:XK)(ta:TE)(t:TA):TE:=fun σ H Q=>ta σ H fun x H1=>AY P w K mg base CX k m E t σ Q x H1
theorem FW {pl:Sem Bool}(he:PE X o ta)(hr:bY k X.A)(hx:Passes CX X E)(ha:PA X (e::es) t)
  (y6:starEach (e::es) X.env=(false,eval e X.env)::starEach es X.env:=by rfl) (q4:(backTo pos (starEach es X.env)).any (·.1)=false:=by rfl)
  (ht:eval (.Call (.Attribute o m apos) (e::es) [] pos) X.env=(do
   let ov ← eval o X.env
   standAt apos.atName
   let (f,first) ← holding [ov] (getMethod ov m pl)
   callWith pos f first (backTo pos (starEach (e::es) X.env)) (backToKw pos (keywordEach [] X.env))):=by rfl):
  PE X (.Call (.Attribute o m apos) (e::es) [] pos) (O7 X.prog X.w X.K X.mg X.base CX k m E ta t):=by
 intro pins s σ H Q I h
 refine PySem.W.methodCall_KW (pl:=pl) (bZ (he pins s σ H _ I h) fun u s1 ⟨x,H1,I1,rx,a,C,dx,fs,ps,sp,ex,ea,l,M,q⟩=> ?_) ht
 subst ex
 obtain rfl:u=Value.ref a:=rx
 obtain ⟨f,fd,c,hm,F,hb⟩:=M.ex
 refine iu I1 ea c hm l ?_
 refine PySem.W.callWith_K (first:=[.ref a]) (h₀:=X.base) I.ok.mod.IX hm.kp (bZ (ha pos pins s1 σ H1 _ I1 q) fun us s2 ⟨vs,H2,I2,r,q2⟩=>⟨I2.dX,?_⟩) y6 q4
 exact pj (us:=.ref a::us) (vs:=.ref a::vs) (dvs:=[.cj]) F hr hb (.cons rfl .nil) hx I2 (.cons rfl r) q2
end
theorem cx {κ:Type}[DecidableEq κ]{k:κ}:∀{kvs:List (κ×V)},k∉kvs.map (·.1)→bV kvs k=none
 | [],_=>rfl
 | p::r,h=>by
  rw [afp,afK,not_or] at h
  rw [bu (fun e=>h.1 e.symm)]
  exact cx h.2
theorem jQ {κ:Type}[DecidableEq κ]{k:κ}:∀{kvs:List (κ×V)},k∈kvs.map (·.1)→∃v,bV kvs k=some v
 | p::r,h=>by
  by_cases e:p.1=k
  ·exact ⟨_,bJ e⟩
  ·rw [bu e]
   rw [afp,afK] at h
   rcases h with h | h
   ·exact absurd h.symm e
   ·exact jQ h
structure AZ (K:Frag)(C:Addr):Prop where
 cls:rA K C
 pl:d6 K C "pin_places"
 wy:d6 K C "pin_ways"
 br:d6 K C "bar_ends"
abbrev frF (pP pW pB:Addr):List (Str×V):=[("pin_places",.ref pP),("pin_ways",.ref pW),("bar_ends",.ref pB)]
abbrev Pt:=(Int×Int)×(Int×Int)
abbrev dj (p:Pt):List Da:=[.t [.v (.int p.1.1),.v (.int p.1.2)],.t [.v (.int p.2.1),.v (.int p.2.2)]]
def bB (H H' :Hp):Prop:=∀b xs,Rd H b (.tup xs)→Rd H' b (.tup xs)
theorem bB.of {H H' :Hp}(s:aq H H'):bB H H' :=fun b xs e=>by
 rcases e with e | ⟨o,e⟩
 ·exact .inl (s _ _ e)
 ·exact .inr ⟨o,s _ _ e⟩
theorem bB.trans {H H1 H2:Hp}(a:bB H H1)(b:bB H1 H2):bB H H2:=fun c xs e=>b c xs (a c xs e)
theorem bB.dict {H:Hp}{d:Addr}{kvs:List (Key×V)}{o:HO}(e:H d=some (.dK kvs)):bB H (upd H d o):=fun b xs r=>by
 rcases r with r | ⟨o,r⟩
 ·exact .inl (by rw [aj (fun z=>by rw [z,e] at r;cases r)];exact r)
 ·exact .inr ⟨o,by rw [aj (fun z=>by rw [z,e] at r;cases r)];exact r⟩
theorem bB.list {H:Hp}{d:Addr}{xs:List V}{o:HO}(e:H d=some (.lst xs)):bB H (upd H d o):=fun b xs r=>by
 rcases r with r | ⟨o,r⟩
 ·exact .inl (by rw [aj (fun z=>by rw [z,e] at r;cases r)];exact r)
 ·exact .inr ⟨o,by rw [aj (fun z=>by rw [z,e] at r;cases r)];exact r⟩
theorem bB.cN {K:Frag}{H H' :Hp}(s:bB H H'){p:Addr}{xs:List V}(q:bF K H p xs):bF K H' p xs:=by
 rcases q with q | q
 ·exact .inl (s _ _ q)
 ·exact .inr q
theorem jy.a_ {K:Frag}{H H' :Hp}{v:V}{q:Int×Int}(h:jy K H v q)(s:bB H H'):jy K H' v q:=by
 obtain ⟨p,e,k⟩:=h
 exact ⟨p,e,s.cN k⟩
def Spot (K:Frag)(H:Hp)(v:V)(p:Pt):Prop:=∃a u1 u2,v=.ref a∧bF K H a [u1,u2]∧jy K H u1 p.1∧jy K H u2 p.2
theorem Spot.a_ {K:Frag}{H H' :Hp}{v:V}{p:Pt}(h:Spot K H v p)(s:bB H H'):Spot K H' v p:=by
 obtain ⟨a,u1,u2,e,h1,h2,h3⟩:=h
 exact ⟨a,u1,u2,e,s.cN h1,h2.a_ s,h3.a_ s⟩
theorem g6 {K:Frag}{H:Hp}{v:V}{q:Int×Int}(h:jy K H v q):Is K H (.t [.v (.int q.1),.v (.int q.2)]) v:=by
 obtain ⟨p,rfl,e⟩:=h
 unfold Is
 refine ⟨p,_,rfl,e,?_⟩
 unfold gU
 refine ⟨by unfold Is;exact ⟨rfl,rfl⟩,?_⟩
 unfold gU
 refine ⟨by unfold Is;exact ⟨rfl,rfl⟩,?_⟩
 unfold gU
 trivial
theorem Spot.is {K:Frag}{H:Hp}{v:V}{p:Pt}(h:Spot K H v p):Is K H (.t (dj p)) v:=by
 obtain ⟨a,u1,u2,rfl,h1,h2,h3⟩:=h
 unfold Is
 refine ⟨a,_,rfl,h1,?_⟩
 unfold gU
 refine ⟨g6 h2,?_⟩
 unfold gU
 refine ⟨g6 h3,?_⟩
 unfold gU
 trivial
theorem sN (p q:Pt):cK (dj p) (dj q)=decide (p=q):=by
 have e:cK (dj p) (dj q)=((p.1.1==q.1.1 && (p.1.2==q.1.2 && true)) && ((p.2.1==q.2.1 && (p.2.2==q.2.2 && true)) && true)):=by
  simp only [dj,cK,g_,ia]
 rw [e]
 obtain ⟨⟨a,b⟩,c,d⟩:=p
 obtain ⟨⟨a',b'⟩,c',d'⟩:=q
 by_cases h:a=a' <;> by_cases h1:b=b' <;> by_cases h2:c=c' <;> by_cases h3:d=d' <;> simp [h,h1,h2,h3,Prod.mk.injEq]
theorem ki (p q:Pt):cV (dj p) (dj q)=true:=by simp [dj,cV,alike]
theorem oJ (p:Pt):hG (dj p)≤60:=by simp [dj,hG,dep]
structure eL (K:Frag)(H:Hp)(C a dx pP pW pB:Addr)(ps:List (Str×Pt))(bs:List (Str×Str×Str))(kP kW kB:List (Key×V)):Prop where
 obj:H a=some (.ins C dx (frF pP pW pB))
 pl:H pP=some (.dK kP)
 wy:H pW=some (.dK kW)
 br:H pB=some (.dK kB)
 ne1:pP≠pW
 ne2:pP≠pB
 ne3:pW≠pB
 rp:Paired (fun (p:Str×Pt) (kv:Key×V)=>kv.1=.inr p.1∧Spot K H kv.2 p.2) ps kP
 rb:Paired (fun (b:Str×Str×Str) (kv:Key×V)=>kv.1=.inr b.1∧∃p,kv.2=.ref p∧Rd H p (.tup [.str b.2.1,.str b.2.2])) bs kB
section
variable {K:Frag}{H H' :Hp}{C a dx pP pW pB:Addr}{ps:List (Str×Pt)}{bs:List (Str×Str×Str)}{kP kW kB:List (Key×V)}
theorem eU {α:Type}{R:(Str×α)→(Key×V)→Prop}:∀{l:List (Str×α)} {kvs:List (Key×V)},Paired (fun b kv=>kv.1=.inr b.1∧R b kv) l kvs→kvs.map (·.1)=l.map (fun b=>(afV b.1:Key))
 | _,_,.nil=>rfl
 | _,_,.cons h t=>by rw [afp,afp,h.1,eU t]
theorem eV {l:List Str}{x:Str}:(afV x:Key)∈l.map (fun b=>(afV b:Key)) ↔ x∈l:=by
 constructor
 ·intro h
  obtain ⟨y,hy,e⟩:=afr.mp h
  exact af8 e▸hy
 ·exact fun h=>afr.mpr ⟨x,h,rfl⟩
theorem eL.A_ (R:eL K H C a dx pP pW pB ps bs kP kW kB)(s:bB H H')(h1:H' a=H a)(h2:H' pP=H pP)(h3:H' pW=H pW)(h4:H' pB=H pB):eL K H' C a dx pP pW pB ps bs kP kW kB:=
 ⟨h1.trans R.obj,h2.trans R.pl,h3.trans R.wy,h4.trans R.br,R.ne1,R.ne2,R.ne3,Paired.cw R.rp fun _ _ h=>⟨h.1,h.2.a_ s⟩,Paired.cw R.rb fun _ _ h=>⟨h.1,by obtain ⟨p,e,k⟩:=h.2;exact ⟨p,e,s _ _ k⟩⟩⟩
theorem eL.same (R:eL K H C a dx pP pW pB ps bs kP kW kB)(s:aq H H'):eL K H' C a dx pP pW pB ps bs kP kW kB:=
 R.A_ (.of s) ((s _ _ R.obj).trans R.obj.symm) ((s _ _ R.pl).trans R.pl.symm) ((s _ _ R.wy).trans R.wy.symm) ((s _ _ R.br).trans R.br.symm)
theorem eL.kj (R:eL K H C a dx pP pW pB ps bs kP kW kB):kB.map (·.1)=(bs.map (·.1)).map (fun b=>(afV b:Key)):=by
 rw [eU R.rb,afH]
 rfl
theorem eL.vE (R:eL K H C a dx pP pW pB ps bs kP kW kB):kP.map (·.1)=(ps.map (·.1)).map (fun b=>(afV b:Key)):=by
 rw [eU R.rp,afH]
 rfl
theorem eL.bar (R:eL K H C a dx pP pW pB ps bs kP kW kB)(x:Str):(bV kB (.inr x)).isSome=decide (x∈bs.map (·.1)):=by
 by_cases h:x∈bs.map (·.1)
 ·obtain ⟨v,e⟩:=jQ (kvs:=kB) (k:=.inr x) (by rw [R.kj];exact eV.mpr h)
  rw [e,decide_eq_true h]
  rfl
 ·rw [cx (by rw [R.kj];exact fun z=>h (eV.mp z)),decide_eq_false h]
  rfl
theorem eL.pin (R:eL K H C a dx pP pW pB ps bs kP kW kB)(x:Str):(bV kP (.inr x)).isSome=decide (x∈ps.map (·.1)):=by
 by_cases h:x∈ps.map (·.1)
 ·obtain ⟨v,e⟩:=jQ (kvs:=kP) (k:=.inr x) (by rw [R.vE];exact eV.mpr h)
  rw [e,decide_eq_true h]
  rfl
 ·rw [cx (by rw [R.vE];exact fun z=>h (eV.mp z)),decide_eq_false h]
  rfl
theorem eL.ab (R:eL K H C a dx pP pW pB ps bs kP kW kB):a≠pP∧a≠pW∧a≠pB:=
 ⟨fun z=>(by have h:=R.obj;rw [z,R.pl] at h;cases h),fun z=>(by have h:=R.obj;rw [z,R.wy] at h;cases h),fun z=>(by have h:=R.obj;rw [z,R.br] at h;cases h)⟩
theorem eL.LM (R:eL K H C a dx pP pW pB ps bs kP kW kB){x one other:Str}{t:Addr}(ht:Rd H t (.tup [.str one,.str other])):
  eL K (upd H pB (.dK (kB++[(.inr x,.ref t)]))) C a dx pP pW pB ps (bs++[(x,one,other)]) kP kW (kB++[(.inr x,.ref t)]):=by
 have s:bB H (upd H pB (.dK (kB++[(.inr x,.ref t)]))):=.dict R.br
 exact ⟨by rw [aj R.ab.2.2];exact R.obj,by rw [aj R.ne2];exact R.pl,by rw [aj R.ne3];exact R.wy,ai,R.ne1,R.ne2,R.ne3,Paired.cw R.rp fun _ _ h=>⟨h.1,h.2.a_ s⟩,
  Paired.snoc (Paired.cw R.rb fun _ _ h=>⟨h.1,by obtain ⟨p,e,k⟩:=h.2;exact ⟨p,e,s _ _ k⟩⟩) ⟨rfl,t,rfl,s _ _ ht⟩⟩
theorem cu {α β:Type}{R:α→β→Prop}:∀{l:List α} {m:List β},Paired R l m→Paired (fun b a=>R a b) m l
 | _,_,.nil=>.nil
 | _,_,.cons h t=>.cons h (cu t)
theorem eL.LN (R:eL K H C a dx pP pW pB ps bs kP kW kB){x:Str}{p:Pt}{t:Addr}(ht:Spot K H (.ref t) p):
  eL K (upd H pP (.dK (kP++[(.inr x,.ref t)]))) C a dx pP pW pB (ps++[(x,p)]) bs (kP++[(.inr x,.ref t)]) kW kB:=by
 have s:bB H (upd H pP (.dK (kP++[(.inr x,.ref t)]))):=.dict R.pl
 exact ⟨by rw [aj R.ab.1];exact R.obj,ai,by rw [aj (afO R.ne1)];exact R.wy,by rw [aj (afO R.ne2)];exact R.br,R.ne1,R.ne2,R.ne3,
  Paired.snoc (Paired.cw R.rp fun _ _ h=>⟨h.1,h.2.a_ s⟩) ⟨rfl,ht.a_ s⟩,Paired.cw R.rb fun _ _ h=>⟨h.1,by obtain ⟨p,e,k⟩:=h.2;exact ⟨p,e,s _ _ k⟩⟩⟩
theorem eL.vF (R:eL K H C a dx pP pW pB ps bs kP kW kB)(sO :List (Key×V)):eL K (upd H pW (.dK sO)) C a dx pP pW pB ps bs kP sO kB:=by
 have s:bB H (upd H pW (.dK sO)):=.dict R.wy
 exact ⟨by rw [aj R.ab.2.1];exact R.obj,by rw [aj R.ne1];exact R.pl,ai,by rw [aj (afO R.ne3)];exact R.br,R.ne1,R.ne2,R.ne3,
  Paired.cw R.rp fun _ _ h=>⟨h.1,h.2.a_ s⟩,Paired.cw R.rb fun _ _ h=>⟨h.1,by obtain ⟨p,e,k⟩:=h.2;exact ⟨p,e,s _ _ k⟩⟩⟩
theorem oK (xs:List Str):(xs.map V.str).all gC=true:=by
 rw [apD,List.all_eq_true]
 exact fun _ _=>rfl
theorem gJ {x:Str}:∀(xs:List Str),yO (.str x) (xs.map V.str)=decide (x∈xs)
 | []=>rfl
 | y::ys=>by
  have ih:=gJ (x:=x) ys
  unfold yO at ih ⊢
  rw [afp,agC,ih]
  by_cases e:y=x
  ·subst e
   simp [ia]
  ·have e' :¬ x=y:=fun z=>e z.symm
   simp [ia,e,e']
end
end Ty
set_option maxHeartbeats 4000000
namespace Ty
open PySem PySem.Spec PyProof.Rows L2
open Builtin.Int (intBits)
def qr (r:Rat):Int×Int:=(r.num,(r.den:Int))
theorem cO (r:Rat):0 < (qr r).2:=by
 have:=r.den_pos
 show (0:Int) < (r.den:Int)
 omega
theorem mL (r:Rat):afW (qr r).1 (qr r).2=1:=by
 have:=r.reduced
 show afW r.num (r.den:Int)=1
 unfold afW
 simpa [Nat.Coprime] using this
theorem eW (r:Rat):vl (qr r)=r:=by
 show (r.num:Rat) / ((r.den:Int):Rat)=r
 rw [← Rat.divInt_eq_div]
 exact Rat.num_divInt_den r
theorem oM {q:Int×Int}(h:0 < q.2)(g:afW q.1 q.2=1):q=qr (vl q):=LB h (cO _) g (mL _) (eW _).symm
theorem fY {t b:Int}(h:b≠0):low t b=qr ((t:Rat) / (b:Rat)):=by
 rw [← qd h]
 exact oM (iW h) (kZ h)
theorem iC {a b:Rat}(h:qr a=qr b):a=b:=by
 rw [← eW a, ← eW b,h]
theorem mM (i:Int):qr (i:Rat)=(i,1):=by
 have e:(i,(1:Int))=qr (vl (i,1)):=oM (by show (0:Int) < 1;decide) (by show afW i 1=1;simp)
 have v:vl (i,(1:Int))=(i:Rat):=by
  unfold vl
  show (i:Rat) / ((1:Int):Rat)=i
  have:((1:Int):Rat)=1:=by rfl
  rw [this]
  grind
 rw [e,v]
theorem uB (r:Rat):qr (-r)=(-(qr r).1,(qr r).2):=by
 have e:((-(qr r).1,(qr r).2):Int×Int)=qr (vl (-(qr r).1,(qr r).2)):=oM (cO r) (by
  have:=mL r
  show afW (-(qr r).1) (qr r).2=1
  rw [Int.neg_gcd]
  exact this)
 have v:vl (-(qr r).1,(qr r).2)= -r:=by
  have h:=eW r
  unfold vl at h ⊢
  push_cast
  rw [← h]
  grind
 rw [e,v]
theorem xj {r:Rat}:((qr r).2:Rat)≠0:=c7 (af7 (cO r))
theorem LO (a b:Rat):low ((qr a).1*(qr b).2+(qr b).1*(qr a).2) ((qr a).2*(qr b).2)=qr (a+b):=by
 have ha:=cO a
 have hb:=cO b
 rw [fY (af7 (agy ha hb))]
 have e1:=eW a
 have e2:=eW b
 have z1:=xj (r:=a)
 have z2:=xj (r:=b)
 unfold vl at e1 e2
 congr 1
 push_cast
 grind
theorem BA (a b:Rat):low ((qr a).1*(qr b).2 - (qr b).1*(qr a).2) ((qr a).2*(qr b).2)=qr (a - b):=by
 have ha:=cO a
 have hb:=cO b
 rw [fY (af7 (agy ha hb))]
 have e1:=eW a
 have e2:=eW b
 have z1:=xj (r:=a)
 have z2:=xj (r:=b)
 unfold vl at e1 e2
 congr 1
 push_cast
 grind
structure Sz (k:Nat)(r:Rat):Prop where
 top:intBits (qr r).1≤k
 bot:intBits (qr r).2≤k
theorem Sz.up {k l:Nat}{r:Rat}(h:Sz k r)(kl:k≤l):Sz l r:=⟨ac_ h.top kl,ac_ h.bot kl⟩
theorem xk {a b:Int}{k:Nat}(ha:intBits a≤k)(hb:intBits b≤k):intBits (a+b)≤k+1:=by
 rw [intBits_le_iff] at ha hb ⊢
 have:=ahb a b
 rw [ag5]
 omega
theorem xl {a b:Int}{k:Nat}(ha:intBits a≤k)(hb:intBits b≤k):intBits (a - b)≤k+1:=by
 rw [intBits_le_iff] at ha hb ⊢
 have:=Int.natAbs_sub_le a b
 rw [ag5]
 omega
theorem BB {t b:Int}{k:Nat}(hb:b≠0)(h1:intBits t≤k)(h2:intBits b≤k):Sz k ((t:Rat) / (b:Rat)):=by
 rw [← qd hb]
 have e:=oM (iW (t:=t) hb) (kZ hb)
 exact ⟨by rw [← e];exact intBits_le_of_natAbs (lX hb) h1,by rw [← e];exact intBits_le_of_natAbs (lY hb) h2⟩
theorem Kf {t b:Int}{k:Nat}{r:Rat}(hb:b≠0)(e:low t b=qr r)(h1:intBits t≤k)(h2:intBits b≤k):Sz k r:=by
 have z:=fY (t:=t) hb
 rw [z] at e
 have:=iC e
 rw [← this]
 exact BB hb h1 h2
theorem Sz.add {k l:Nat}{a b:Rat}(ha:Sz k a)(hb:Sz l b):Sz (k+l+1) (a+b):=
 Kf (af7 (agy (cO a) (cO b))) (LO a b) (xk (intBits_mul_le ha.top hb.bot) (by rw [an_];exact intBits_mul_le hb.top ha.bot)) (apG (intBits_mul_le ha.bot hb.bot))
theorem Sz.sub {k l:Nat}{a b:Rat}(ha:Sz k a)(hb:Sz l b):Sz (k+l+1) (a - b):=
 Kf (af7 (agy (cO a) (cO b))) (BA a b) (xl (intBits_mul_le ha.top hb.bot) (by rw [an_];exact intBits_mul_le hb.top ha.bot)) (apG (intBits_mul_le ha.bot hb.bot))
theorem uC {i:Int}{k:Nat}(h:i.natAbs < 2^k)(hk:1≤k):Sz k (i:Rat):=by
 refine ⟨?_,?_⟩
 ·rw [mM]
  exact intBits_le_iff.mpr h
 ·rw [mM]
  refine intBits_le_iff.mpr ?_
  show 1 < 2^k
  exact Nat.one_lt_two_pow (by omega)
def dE (K:Frag)(H:Hp)(v:V)(r:Rat):Prop:=jy K H v (qr r)
def eh (K:Frag)(H:Hp)(v:V)(p:Rat×Rat):Prop:=∃a u1 u2,v=.ref a∧bF K H a [u1,u2]∧dE K H u1 p.1∧dE K H u2 p.2
section
variable {K:Frag}{H H' :Hp}{v:V}{r:Rat}{p:Rat×Rat}
theorem dE.a_ (h:dE K H v r)(s:bB H H'):dE K H' v r:=jy.a_ h s
theorem dE.same (h:dE K H v r)(s:aq H H'):dE K H' v r:=jy.same h s
theorem eh.a_ (h:eh K H v p)(s:bB H H'):eh K H' v p:=by
 obtain ⟨a,u1,u2,e,h1,h2,h3⟩:=h
 exact ⟨a,u1,u2,e,s.cN h1,h2.a_ s,h3.a_ s⟩
theorem eh.same (h:eh K H v p)(s:aq H H'):eh K H' v p:=h.a_ (.of s)
abbrev sQ (p:Rat×Rat):Pt:=(qr p.1,qr p.2)
theorem eh.O8 (h:eh K H v p):Spot K H v (sQ p):=h
def hW (K:Frag)(H:Hp)(us:List V)(ps:List (Rat×Rat)):Prop:=Paired (eh K H) us ps
theorem hW.a_ {us:List V}{ps:List (Rat×Rat)}(h:hW K H us ps)(s:bB H H'):hW K H' us ps:=Paired.cw h fun _ _ z=>z.a_ s
theorem hW.same {us:List V}{ps:List (Rat×Rat)}(h:hW K H us ps)(s:aq H H'):hW K H' us ps:=h.a_ (.of s)
end
section
variable {X:Cx}
theorem vG {pins:List (Addr×Obj)}{σ:L2.St}{H:Hp}{s:Shared}{v:V}{p q:Rat×Rat}(I:Inv X pins σ H s)(h1:eh X.K H v p)(h2:eh X.K H v q):p=q:=by
 obtain ⟨a,u1,u2,rfl,t1,⟨b1,rfl,n1⟩,b2,rfl,n2⟩:=h1
 obtain ⟨a',w1,w2,e,t2,⟨c1,rfl,m1⟩,c2,rfl,m2⟩:=h2
 cases e
 cases I.fq t1 t2
 have e1:=I.fq n1 m1
 have e2:=I.fq n2 m2
 simp only [List.cons.injEq,V.int.injEq,and_true] at e1 e2
 exact aku (iC (aku e1.1 e1.2)) (iC (aku e2.1 e2.2))
def O9 (K:Frag)(neg:Bool):R2:=fun x y H Q=>∃p l us ps,y=.ref l∧aR K H l us∧eh K H x p∧hW K H us ps∧Q (.bl (if neg then !decide (p∈ps) else decide (p∈ps))) H
theorem O_ {pins:List (Addr×Obj)}{σ:L2.St}{H:Hp}{s:Shared}{A:Around}{x:V}{v:Value}{p:Rat×Rat}{us:List V}{its:List Value}{ps:List (Rat×Rat)}(I:Inv X pins σ H s)(hu:A.units+60 < cLine)(hx:eh X.K H x p)(rx:RelV x v)(hp:hW X.K H us ps)(rv:Vals us its):
  ∃e:Value→Bool,(∀y,y∈its.toArray→SeqAt.EqAt A s y v (e y))∧its.toArray.any e=decide (p∈ps):=by
 have key:∀(j:Nat) (y:Value),its[j]? =some y→∃u q,us[j]? =some u∧ps[j]? =some q∧RelV u y∧eh X.K H u q:=fun j y ey=>by
  obtain ⟨u,eu,ru⟩:=aH (cu rv) ey
  obtain ⟨q,eq,hq⟩:=aH hp eu
  exact ⟨u,q,eu,eq,ru,hq⟩
 refine ⟨fun y=> @decide (∃u q,RelV u y∧eh X.K H u q∧q=p) (af' _),fun y hy=> ?_,?_⟩
 ·obtain ⟨j,hj,ey⟩:=af3.mp (by simpa using hy:y∈its)
  obtain ⟨u,q,eu,eq,ru,hq⟩:=key j y (by rw [gE hj,ey])
  have z:=vq (A:=A) I (.t (dj (sQ q))) (.t (dj (sQ p))) u x y v hq.O8.is hx.O8.is (by unfold alike;exact ki _ _) ru rx (by have:=oJ (sQ q);unfold dep;simp only [dj,hG,dep] at this ⊢;omega)
  have e:g_ (.t (dj (sQ q))) (.t (dj (sQ p)))= @decide (∃u q,RelV u y∧eh X.K H u q∧q=p) (af' _):=by
   unfold g_
   rw [sN]
   by_cases c:q=p
   ·subst c
    rw [decide_eq_true rfl]
    symm
    exact @decide_eq_true _ (af' _) ⟨u,q,ru,hq,rfl⟩
   ·rw [decide_eq_false (fun z=>c (aku (iC (congrArg aqu z)) (iC (congrArg aqv z))))]
    symm
    refine @decide_eq_false _ (af' _) fun ⟨u',q',XU,iw,e'⟩=> ?_
    obtain ⟨a,_,_,rfl,_⟩:=id hq
    obtain ⟨a',_,_,rfl,_⟩:=id iw
    have r1:y=Value.ref a:=ru
    have r2:y=Value.ref a' :=XU
    rw [r1] at r2
    cases r2
    exact c ((vG I hq iw).trans e')
  rw [e] at z
  exact z
 ·rw [agr,decide_eq_true_iff]
  simp only [List.any_toArray,agz]
  constructor
  ·rintro ⟨y,hy,ey⟩
   obtain ⟨j,hj,ej⟩:=af3.mp hy
   obtain ⟨u,q,eu,eq,ru,hq⟩:=key j y (by rw [gE hj,ej])
   obtain ⟨u',q',XU,iw,e'⟩:= @of_decide_eq_true _ (af' _) ey
   obtain ⟨a,_,_,rfl,_⟩:=id hq
   obtain ⟨a',_,_,rfl,_⟩:=id iw
   have r1:y=Value.ref a:=ru
   have r2:y=Value.ref a' :=XU
   rw [r1] at r2
   cases r2
   rw [← e', ← vG I hq iw]
   exact abt eq
  ·intro hm
   obtain ⟨j,hj,ej⟩:=af3.mp hm
   have lu:us.length=ps.length:=Paired.length hp
   have li:us.length=its.length:=rv.length
   have Pa :j < its.length:=by omega
   refine ⟨its[j],agm Pa,?_⟩
   obtain ⟨u,q,eu,eq,ru,hq⟩:=key j its[j] (gE Pa)
   rw [gE hj,ej] at eq
   cases eq
   exact @decide_eq_true _ (af' _) ⟨u,p,ru,hq,rfl⟩
theorem FX (hu:X.A.units+64 < cLine):iO X (compareOp .In) (O9 X.K false):=by
 intro pins s σ H x y v u Q I rx ry h
 obtain ⟨p,l,us,ps,rfl,hq,hx,hp,q⟩:=h
 cases ry
 obtain ⟨its,rv,pl,hz⟩:=I.list hq
 obtain ⟨e,he,ea⟩:=O_ (A:=X.A.in1) I (by rw [in1_units];omega) hx rx hp rv
 refine SeqAt.in_listAt e pl.isList he ⟨.bl _,H,I,rfl,?_⟩
 rw [ea]
 exact q
end
end Ty
set_option maxHeartbeats 4000000
namespace Ty
open PySem PySem.Spec PyProof.Rows L2
theorem fZ {α:Type}{R:(Str×α)→(Key×V)→Prop}{x:Str}{y:α}:∀{l:List (Str×α)} {kvs:List (Key×V)},Paired (fun b kv=>kv.1=.inr b.1∧R b kv) l kvs→(l.map (·.1)).Nodup→(x,y)∈l→∃v,bV kvs (.inr x)=some v∧R (x,y) (.inr x,v)
 | _::_,kv::_,.cons h t,nd,m=>by
  rw [afp,afX] at nd
  rcases afK.mp m with e | m
  ·subst e
   have h1:kv.1=.inr x:=h.1
   refine ⟨kv.2,bJ h1,?_⟩
   have h2:=h.2
   rw [← h1]
   exact h2
  ·obtain ⟨v,e,r⟩:=fZ t nd.2 m
   refine ⟨v,?_,r⟩
   rw [bu (fun z=> ?_)]
   ·exact e
   ·rw [h.1] at z
    exact nd.1 (af8 z▸afr.mpr ⟨_,m,rfl⟩)
def tO (K:Frag)(H:Hp)(pw:List (Str×List (Rat×Rat)))(kW:List (Key×V)):Prop:=
 Paired (fun (p:Str×List (Rat×Rat)) (kv:Key×V)=>kv.1=.inr p.1∧∃l us,kv.2=.ref l∧H l=some (.lst us)∧hW K H us p.2) pw kW
theorem tO.same {K:Frag}{H H' :Hp}{pw:List (Str×List (Rat×Rat))}{kW:List (Key×V)}(h:tO K H pw kW)(s:aq H H'):tO K H' pw kW:=
 Paired.cw h fun _ _ z=>⟨z.1,by obtain ⟨l,us,e1,e2,e3⟩:=z.2;exact ⟨l,us,e1,s _ _ e2,e3.same s⟩⟩
theorem tO.dict {K:Frag}{H:Hp}{pw:List (Str×List (Rat×Rat))}{kW kvs:List (Key×V)}{d:Addr}{o:HO}(h:tO K H pw kW)(e:H d=some (.dK kvs)):tO K (upd H d o) pw kW:=
 Paired.cw h fun _ _ z=>⟨z.1,by
  obtain ⟨l,us,e1,e2,e3⟩:=z.2
  exact ⟨l,us,e1,by rw [aj (fun q=>by rw [q,e] at e2;cases e2)];exact e2,e3.a_ (.dict e)⟩⟩
theorem tO.keys {K:Frag}{H:Hp}{pw:List (Str×List (Rat×Rat))}{kW:List (Key×V)}(h:tO K H pw kW):kW.map (·.1)=(pw.map (·.1)).map (fun b=>(afV b:Key)):=by
 rw [eU h,afH]
 rfl
theorem eL.ends {K:Frag}{H:Hp}{C a dx pP pW pB:Addr}{ps:List (Str×Pt)}{bs:List (Str×Str×Str)}{kP kW kB:List (Key×V)}(R:eL K H C a dx pP pW pB ps bs kP kW kB)(nd:(bs.map (·.1)).Nodup){x one other:Str}(m:(x,one,other)∈bs):
  ∃p,bV kB (.inr x)=some (.ref p)∧Rd H p (.tup [.str one,.str other]):=by
 obtain ⟨v,e,p,ep,r⟩:=fZ R.rb nd m
 have va :v=.ref p:=ep
 exact ⟨p,by rw [e,va],r⟩
theorem eL.place {K:Frag}{H:Hp}{C a dx pP pW pB:Addr}{ps:List (Str×Pt)}{bs:List (Str×Str×Str)}{kP kW kB:List (Key×V)}(R:eL K H C a dx pP pW pB ps bs kP kW kB)(nd:(ps.map (·.1)).Nodup){x:Str}{p:Pt}(m:(x,p)∈ps):
  ∃v,bV kP (.inr x)=some v∧Spot K H v p:=fZ R.rp nd m
end Ty
namespace Ty
open PySem PySem.Spec PyProof.Rows L2
structure aE where
 nm:Str
 sp:Rat×Rat
 ws:List (Rat×Rat)
structure bg where
 nm:Str
 one:aE
 other:aE
structure vH (K:Frag)(H:Hp)(C a:Addr)(pins:List aE)(bars:List bg):Prop where
 ex:∃(dx pP pW pB:Addr) (kP kW kB:List (Key×V)),eL K H C a dx pP pW pB (pins.map fun p=>(p.nm,sQ p.sp)) (bars.map fun b=>(b.nm,b.one.nm,b.other.nm)) kP kW kB∧tO K H (pins.map fun p=>(p.nm,p.ws)) kW
structure eY (pins:List aE)(bars:List bg):Prop where
 np:(pins.map (·.nm)).Nodup
 nb:(bars.map (·.nm)).Nodup
 ends:∀b∈bars,b.one∈pins∧b.other∈pins∧b.one.nm≠b.other.nm
 sz:∀p∈pins,Sz 24 p.sp.1∧Sz 24 p.sp.2∧∀w∈p.ws,Sz 22 w.1∧Sz 22 w.2
 lp:pins.length≤7
 lb:bars.length≤8
 lw:∀p∈pins,p.ws.length≤2
theorem vH.same {K:Frag}{H H' :Hp}{C a:Addr}{pins:List aE}{bars:List bg}(h:vH K H C a pins bars)(s:aq H H'):vH K H' C a pins bars:=by
 obtain ⟨dx,pP,pW,pB,kP,kW,kB,R,W⟩:=h.ex
 exact ⟨dx,pP,pW,pB,kP,kW,kB,R.same s,W.same s⟩
def LP (K:Frag)(H:Hp)(kvs:List (Key×V))(F:Str→Option (Rat×Rat)):Prop:=
 ∀nm,(bV kvs (.inr nm)=none∧F nm=none)∨∃v p,bV kvs (.inr nm)=some v∧F nm=some p∧eh K H v p
section
variable {K:Frag}{H H' :Hp}{kvs:List (Key×V)}
theorem LP.same {F:Str→Option (Rat×Rat)}(h:LP K H kvs F)(s:aq H H'):LP K H' kvs F:=fun nm=>by
 rcases h nm with h | ⟨v,q,h1,h2,h3⟩
 ·exact .inl h
 ·exact .inr ⟨v,q,h1,h2,h3.same s⟩
theorem LP.Pb {F:Str→Option (Rat×Rat)}(h:LP K H kvs F){x:Str}{v:V}{q:Rat×Rat}(n:eh K H v q):eh K H ((bV kvs (.inr x)).getD v) ((F x).getD q):=by
 rcases h x with ⟨h1,h2⟩ | ⟨u,q',h1,h2,h3⟩
 ·rw [h1,h2]
  exact n
 ·rw [h1,h2]
  exact h3
end
end Ty
namespace Ty
open PySem PySem.Spec PyProof.Rows L2
end Ty
namespace Ty
open PySem PySem.Spec PyProof.Rows L2
theorem LQ {α:Type}{nm:α→Str}{l:List α}(nd:(l.map nm).Nodup){b b' :α}(h:b∈l)(h' :b' ∈l)(e:nm b=nm b'):b=b' :=by
 obtain ⟨i,hi,ei⟩:=af3.mp h
 obtain ⟨j,hj,ej⟩:=af3.mp h'
 have q1:(l.map nm)[i]? =some (nm b):=by rw [aa_,gE hi,ei];rfl
 have q2:(l.map nm)[j]? =some (nm b):=by rw [aa_,gE hj,ej,e];rfl
 have ij:=(agN (by rw [Wp];exact hi) nd).mp (q1.trans q2.symm)
 subst ij
 rw [← ei, ← ej]
theorem fE {α:Type}{nm:α→Str}{l:List α}(nd:(l.map nm).Nodup){i:Nat}{b b' :α}(h:l[i]? =some b)(m:b' ∈l.take i):nm b' ≠nm b:=fun e=>by
 have il:=(ir.mp h).1
 obtain ⟨j,hj,ej⟩:=af3.mp m
 rw [apH] at ej
 rw [afN] at hj
 have q1:(l.map nm)[j]? =some (nm b):=by rw [aa_,gE (by omega),ej, ← e];rfl
 have q2:(l.map nm)[i]? =some (nm b):=by rw [aa_,h];rfl
 have:=(agN (by rw [Wp];omega) nd).mp (q1.trans q2.symm)
 omega
theorem take_snoc {α:Type}{l:List α}{i:Nat}{b:α}(h:l[i]? =some b):l.take (i+1)=l.take i++[b]:=by rw [agO,h];rfl
end Ty
namespace Ty
open PySem PySem.Spec PyProof.Rows L2
theorem xm {xs:List Str}(h:xs.Nodup):(xs.map fun x=>(afV x:Key)).Nodup:=by
 unfold List.Nodup
 rw [List.pairwise_map]
 exact List.Pairwise.imp (fun h e=>h (af8 e)) h
end Ty
set_option maxHeartbeats 4000000
namespace Ty
open PySem PySem.Spec PyProof.Rows L2
theorem jR {H H' :Hp}(s:aq H H'){p:Addr}(n:H' p=none):H p=none:=by
 cases e:H p with
 | none=>rfl
 | some o=>rw [s _ _ e] at n;cases n
end Ty
namespace Ty
open PySem PySem.Spec PyProof.Rows L2
section
variable {X:Cx}
end
section
variable {D:Addr}{te:TE}{cap:L2.St}{H1:Hp}{Q:VK}
end
end Ty
set_option maxHeartbeats 4000000
namespace Ty
open PySem PySem.Spec PyProof.Rows L2
abbrev eo (h:Heap)(z TI TO:Addr)(f0:Value)(fb:Bool):Prop:=
 h.get? z=some {cls:=.type "zip",dict:=none,data:=.fields #[f0,.bool fb,.bool false,.ref TI,.ref TO],slots:= #[]}
section
variable {prog:Program}{w:World}{A:Around}{E:Value→Shared→Prop}{s:Shared}
theorem sR {a:Addr}{o:Obj}{Q:Option Obj→Shared→Prop}(h:s.heap.get? a=some o)(q:Q (some o) s):wpAny (model prog w) A (loadIfAlive a) Q E s:=fun Γ p _=>by
 show Sem.wp _ _ (.loadIfAlive a .pure) _ _ _ _
 rw [Sem.wp_loadIfAlive,h]
 exact q
theorem sS {z TI TO T:Addr}{fb:Bool}{o:Obj}{Q:Bool→Shared→Prop}(hz:eo s.heap z TI TO (rawInt T) fb)(hT:s.heap.get? T=some o)
  (hQ:∀h',eo h' z TI TO (rawInt T) true→Heap.SameBut z s.heap h' →Q false {s with heap:=h' }):wpAny (model prog w) A (Builtin.SmallTypes.ownedTupleIsFree (.ref z)) Q E s:=by
 unfold Builtin.SmallTypes.ownedTupleIsFree
 refine wpAny_bind (wpAny_field hz rfl (x:=rawInt T) rfl ?_)
 show wpAny _ _ (loadIfAlive ((T:Int)).toNat >>=_) _ _ _
 refine wpAny_bind (sR (o:=o) (by simpa using hT) ?_)
 simp only [Option.isNone_some,agF,if_false]
 refine wpAny_bind (wpAny_field hz rfl (x:=.bool fb) rfl ?_)
 cases fb with
 | true=>
  show wpAny _ _ (if (Value.bool true !=Value.bool true)=true then _ else _) _ _ _
  rw [if_neg (by decide)]
  exact wpAny_pure (hQ s.heap hz ⟨rfl,fun _ _=>rfl⟩)
 | false=>
  show wpAny _ _ (if (Value.bool false !=Value.bool true)=true then _ else _) _ _ _
  rw [if_pos (by decide)]
  refine wpAny_bind (wpAny_setField_rec hz (by simp) fun h' XW JW =>wpAny_pure (hQ h' XW JW))
theorem xo {z TI TO T i1 i2 l1 l2:Addr}{fb:Bool}{o:Obj}{k1 k2:Nat}{xs ys:Array Value}{x y:Value}{Q:Value→Shared→Prop}(D:ZipApart z TI TO i1 i2 l1 l2)
  (hz:eo s.heap z TI TO (rawInt T) fb) (hT:s.heap.get? T=some o) (iB:IsPair s.heap TI (.ref i1) (.ref i2))
  (h1:s.heap.IsListIter i1 l1 k1) (h2:s.heap.IsListIter i2 l2 k2) (vI:s.heap.IsList l1 xs) (rK:s.heap.IsList l2 ys) (hx:xs[k1]? =some x) (hy:ys[k2]? =some y)
  (hQ:∀h',eo h' z TI TO (rawInt T) true→h'.IsListIter i1 l1 (k1+1)→h'.IsListIter i2 l2 (k2+1)→IsPair h' s.heap.objs.size x y→h'.objs.size=s.heap.objs.size+1→
   (∀c o,c≠z→c≠i1→c≠i2→s.heap.get? c=some o→h'.get? c=some o)→Q (.ref s.heap.objs.size) {s with heap:=h' }):
  wpAny (model prog w) A (Builtin.«zip.__next__» ⟨[.ref z],[]⟩) (fun fin s' =>∃v,fin=.done (.ret v)∧Q v s') E s:=by
 show wpAny _ _ (field (.ref z) 2 >>=_) _ _ _
 refine wpAny_bind (wpAny_field hz rfl (x:=.bool false) rfl ?_)
 show wpAny _ _ (field (.ref z) 3 >>=_) _ _ _
 refine wpAny_bind (wpAny_field hz rfl (x:=.ref TI) rfl ?_)
 refine wpAny_bind (wpAny_seqItems iB rfl ?_)
 show wpAny _ _ (Builtin.SmallTypes.ownedTupleIsFree (.ref z) >>=_) _ _ _
 refine wpAny_bind (sS hz hT fun h₁ hz₁ uD=> ?_)
 simp only [agF,if_false]
 refine wpAny_bind ?_
 show wpAny _ _ (forIn [Value.ref i1,Value.ref i2].toArray _ _) _ _ _
 rw [apt]
 simp only [apV,ap0]
 refine wpAny_bind (wpAny_bind (wpAny_holding ?_))
 show wpAny _ _ (Builtin.SmallTypes.nextOf (.ref i1) >>=_) _ _ _
 refine wpAny_bind (wpAny_nextOf_list_item (h1.extBut uD.extBut D.i1z) (vI.extBut uD.extBut D.l1z) hx fun h₂ h1₂ BC=>wpAny_pure ?_)
 refine wpAny_pure ?_
 refine wpAny_bind (wpAny_bind (wpAny_holding ?_))
 show wpAny _ _ (Builtin.SmallTypes.nextOf (.ref i2) >>=_) _ _ _
 refine wpAny_bind (wpAny_nextOf_list_item ((h2.extBut uD.extBut D.i2z).extBut BC.extBut D.i12.symm) ((rK.extBut uD.extBut D.l2z).extBut BC.extBut D.l2i1) hy fun h₄ h2₄ Nu=>wpAny_pure ?_)
 refine wpAny_pure (wpAny_pure ?_)
 refine wpAny_bind (wpAny_newTuple (hsz:=(by show 2≤sizeLine;decide)) ?_)
 have hsz:h₄.objs.size=s.heap.objs.size:=by rw [Nu.1,BC.1,uD.1]
 refine wpAny_pure ⟨_,rfl,?_⟩
 have hz₄:eo h₄ z TI TO (rawInt T) true:=Nu.extBut _ _ D.i2z.symm (BC.extBut _ _ D.i1z.symm hz₁)
 show Q (.ref h₄.objs.size) _
 rw [hsz]
 refine hQ _ (Heap.get?_push_of_some _ hz₄) ((h1₂.extBut Nu.extBut D.i12).at fun o e=>Heap.get?_push_of_some _ e) (h2₄.at fun o e=>Heap.get?_push_of_some _ e) ?_ (by rw [Heap.size_push,hsz]) fun c o c1 c3 c4 e=>Heap.get?_push_of_some _ (Nu.extBut _ _ c4 (BC.extBut _ _ c3 (uD.extBut _ _ c1 e)))
 show (h₄.push _).get? _=_
 rw [← hsz]
 exact Heap.get?_push_size _ rfl
theorem BD {z TI TO T i1 i2 l1 l2:Addr}{fb:Bool}{o:Obj}{k1 k2:Nat}{xs ys:Array Value}{Q:Fin→Shared→Prop}(hh:A.handled=none)(D:ZipApart z TI TO i1 i2 l1 l2)
  (hz:eo s.heap z TI TO (rawInt T) fb) (hT:s.heap.get? T=some o) (iB:IsPair s.heap TI (.ref i1) (.ref i2))
  (h1:s.heap.IsListIter i1 l1 k1) (h2:s.heap.IsListIter i2 l2 k2) (vI:s.heap.IsList l1 xs) (rK:s.heap.IsList l2 ys) (xp:xs[k1]? =none∨ys[k2]? =none)
  (hE:∀h' e,(∀c o,c≠z→c≠i1→c≠i2→s.heap.get? c=some o→h'.get? c=some o)→(∃o,h'.get? e=some o∧o.cls=.type "StopIteration")→E (.ref e) {s with heap:=h' }):
  wpAny (model prog w) A (Builtin.«zip.__next__» ⟨[.ref z],[]⟩) Q E s:=by
 show wpAny _ _ (field (.ref z) 2 >>=_) _ _ _
 refine wpAny_bind (wpAny_field hz rfl (x:=.bool false) rfl ?_)
 show wpAny _ _ (field (.ref z) 3 >>=_) _ _ _
 refine wpAny_bind (wpAny_field hz rfl (x:=.ref TI) rfl ?_)
 refine wpAny_bind (wpAny_seqItems iB rfl ?_)
 show wpAny _ _ (Builtin.SmallTypes.ownedTupleIsFree (.ref z) >>=_) _ _ _
 refine wpAny_bind (sS hz hT fun h₁ hz₁ uD=> ?_)
 simp only [agF,if_false]
 refine wpAny_bind ?_
 show wpAny _ _ (forIn [Value.ref i1,Value.ref i2].toArray _ _) _ _ _
 rw [apt]
 simp only [apV,ap0]
 refine wpAny_bind (wpAny_bind (wpAny_holding ?_))
 show wpAny _ _ (Builtin.SmallTypes.nextOf (.ref i1) >>=_) _ _ _
 cases hx:xs[k1]? with
 | none=>
  refine wpAny_bind (wpAny_nextOf_list_end hh (h1.extBut uD.extBut D.i1z) (vI.extBut uD.extBut D.l1z) hx fun h₂ e BC he=> ?_)
  exact hE h₂ e (fun c o c1 c3 _ x=>BC _ _ c3 (uD.extBut _ _ c1 x)) he
 | some x=>
  have hy:ys[k2]? =none:=by rcases xp with h | h;rw [hx] at h;cases h;exact h
  refine wpAny_bind (wpAny_nextOf_list_item (h1.extBut uD.extBut D.i1z) (vI.extBut uD.extBut D.l1z) hx fun h₂ h1₂ BC=>wpAny_pure ?_)
  refine wpAny_pure ?_
  refine wpAny_bind (wpAny_bind (wpAny_holding ?_))
  show wpAny _ _ (Builtin.SmallTypes.nextOf (.ref i2) >>=_) _ _ _
  refine wpAny_bind (wpAny_nextOf_list_end hh ((h2.extBut uD.extBut D.i2z).extBut BC.extBut D.i12.symm) ((rK.extBut uD.extBut D.l2z).extBut BC.extBut D.l2i1) hy fun h₄ e Nu he=> ?_)
  exact hE h₄ e (fun c o c1 c3 c4 x=>Nu _ _ c4 (BC.extBut _ _ c3 (uD.extBut _ _ c1 x))) he
theorem uE {z TI TO T i1 i2 l1 l2:Addr}{fb:Bool}{o:Obj}{k1 k2:Nat}{xs ys:Array Value}{x y:Value}{Q:Option Value→Shared→Prop}(D:ZipApart z TI TO i1 i2 l1 l2)
  (hz:eo s.heap z TI TO (rawInt T) fb) (hT:s.heap.get? T=some o) (iB:IsPair s.heap TI (.ref i1) (.ref i2))
  (h1:s.heap.IsListIter i1 l1 k1) (h2:s.heap.IsListIter i2 l2 k2) (vI:s.heap.IsList l1 xs) (rK:s.heap.IsList l2 ys) (hx:xs[k1]? =some x) (hy:ys[k2]? =some y)
  (hQ:∀h',eo h' z TI TO (rawInt T) true→h'.IsListIter i1 l1 (k1+1)→h'.IsListIter i2 l2 (k2+1)→IsPair h' s.heap.objs.size x y→h'.objs.size=s.heap.objs.size+1→
   (∀c o,c≠z→c≠i1→c≠i2→s.heap.get? c=some o→h'.get? c=some o)→Q (some (.ref s.heap.objs.size)) {s with heap:=h' }):
  wpAny (model prog w) A (pyNext (.ref z)) Q E s:=by
 have Pc :s.TypeIs (.ref z) "zip":=⟨_,hz,rfl⟩
 unfold pyNext
 exact wpAny_bind (wpAny_attempt (wpAny_callSpecial?_slot (name:=Str.ofString "__next__") Pc F.slot_zip_next
  (wpAny_call_entry F.slot_zip_next Pc F.entry_zip_next
   (xo D hz hT iB h1 h2 vI rK hx hy fun h' a1 a3 a4 a5 a6 a7=>wpAny_pure (hQ h' a1 a3 a4 a5 a6 a7)) (F.args_zip_next_1 _))))
theorem xq {z TI TO T i1 i2 l1 l2:Addr}{fb:Bool}{o:Obj}{k1 k2:Nat}{xs ys:Array Value}{Q:Option Value→Shared→Prop}(hh:A.handled=none)(D:ZipApart z TI TO i1 i2 l1 l2)
  (hz:eo s.heap z TI TO (rawInt T) fb) (hT:s.heap.get? T=some o) (iB:IsPair s.heap TI (.ref i1) (.ref i2))
  (h1:s.heap.IsListIter i1 l1 k1) (h2:s.heap.IsListIter i2 l2 k2) (vI:s.heap.IsList l1 xs) (rK:s.heap.IsList l2 ys) (xp:xs[k1]? =none∨ys[k2]? =none)
  (hQ:∀h',(∀c o,c≠z→c≠i1→c≠i2→s.heap.get? c=some o→h'.get? c=some o)→Q none {s with heap:=h' }):wpAny (model prog w) A (pyNext (.ref z)) Q E s:=by
 have Pc :s.TypeIs (.ref z) "zip":=⟨_,hz,rfl⟩
 unfold pyNext
 refine wpAny_bind (wpAny_attempt (wpAny_callSpecial?_slot (name:=Str.ofString "__next__") Pc F.slot_zip_next
  (wpAny_call_entry F.slot_zip_next Pc F.entry_zip_next (BD hh D hz hT iB h1 h2 vI rK xp fun h' e hk he=> ?_) (F.args_zip_next_1 _))))
 obtain ⟨o,ho,hc⟩:=he
 refine wpAny_bind (wpAny_isInstance (T:="StopIteration") (b:=true) ⟨o,ho,hc⟩ isSubtype_stop ?_)
 exact wpAny_pure (hQ _ hk)
end
def DZ (h:Heap)(z TI TO i1 i2 a b S:Addr)(i:Nat):Prop:=(eo h z TI TO .none false∨∃(T:Addr) (o:Obj) (fb:Bool),eo h z TI TO (rawInt T) fb∧h.get? T=some o∧T≠z∧T≠TO∧T≠i1∧T≠i2∧T≠S)∧IsPair h TI (.ref i1) (.ref i2)∧(∃x y,IsPair h TO x y)∧h.IsListIter i1 a i∧h.IsListIter i2 b i
section
variable {prog:Program}{w:World}{A:Around}{E:Value→Shared→Prop}{s:Shared}{z TI TO i1 i2 a b S:Addr}{i:Nat}
theorem DZ.frame {h h' :Heap}(st:DZ h z TI TO i1 i2 a b S i)(k:∀c o,c≠S→h.get? c=some o→h'.get? c=some o)(nz:z≠S)(n1:TI≠S)(n2:TO≠S)(n3:i1≠S)(n4:i2≠S):DZ h' z TI TO i1 i2 a b S i:=by
 obtain ⟨hz,iB,⟨x,y,oy⟩,h1,h2⟩:=st
 refine ⟨?_,k _ _ n1 iB,⟨x,y,k _ _ n2 oy⟩,h1.at fun o e=>k _ o n3 e,h2.at fun o e=>k _ o n4 e⟩
 rcases hz with hz | ⟨T,o,fb,hz,hT,t1,t2,t3,t4,t5⟩
 ·exact .inl (k _ _ nz hz)
 ·exact .inr ⟨T,o,fb,k _ _ nz hz,k _ _ t5 hT,t1,t2,t3,t4,t5⟩
theorem DZ.item {oS:Obj}{xs ys:Array Value}{x y:Value}{Q:Option Value→Shared→Prop}(D:ZipApart z TI TO i1 i2 a b)(st:DZ s.heap z TI TO i1 i2 a b S i)(hS:s.heap.get? S=some oS)
  (vI:s.heap.IsList a xs) (rK:s.heap.IsList b ys) (hx:xs[i]? =some x) (hy:ys[i]? =some y)
  (hQ:∀h',DZ h' z TI TO i1 i2 a b S (i+1)→IsPair h' s.heap.objs.size x y→(∀c o,c∉[z,TI,TO,i1,i2]→s.heap.get? c=some o→h'.get? c=some o)→Q (some (.ref s.heap.objs.size)) {s with heap:=h' }):
  wpAny (model prog w) A (pyNext (.ref z)) Q E s:=by
 obtain ⟨hz,iB,⟨x0,y0,oy⟩,h1,h2⟩:=st
 have lt:∀{c o},s.heap.get? c=some o→s.heap.objs.size≠c:=fun e=>ag4 (Heap.lt_size e)
 have e1:∃o,s.heap.get? i1=some o:=by obtain ⟨o,e,_⟩:=h1;exact ⟨o,e⟩
 have e2:∃o,s.heap.get? i2=some o:=by obtain ⟨o,e,_⟩:=h2;exact ⟨o,e⟩
 obtain ⟨o1,e1⟩:=e1
 obtain ⟨o2,e2⟩:=e2
 have Pd:∀{c:Addr},c∉[z,TI,TO,i1,i2]→c≠z∧c≠TI∧c≠TO∧c≠i1∧c≠i2:=fun h=>by simpa using h
 rcases hz with hz | ⟨T,o,fb,hz,hT,t1,t2,t3,t4,t5⟩
 ·refine wpAny_pyNext_zip_item D hz iB oy h1 h2 vI rK hx hy fun h' a1 a2 a3 a4 a5 a6 a7=> ?_
  refine hQ h' ⟨.inr ⟨_,_,false,a1,a5,lt hz,lt oy,lt e1,lt e2,lt hS⟩,a7 _ _ D.TIz D.TITO D.TIi1 D.TIi2 iB,⟨_,_,a2⟩,a3,a4⟩ a5 fun c o hc e=> ?_
  obtain ⟨c1,c2,c3,c4,c5⟩:=Pd hc
  exact a7 c o c1 c3 c4 c5 e
 ·refine uE D hz hT iB h1 h2 vI rK hx hy fun h' a1 a3 a4 a5 a6 a7=> ?_
  refine hQ h' ⟨.inr ⟨T,o,true,a1,a7 _ _ t1 t3 t4 hT,t1,t2,t3,t4,t5⟩,a7 _ _ D.TIz D.TIi1 D.TIi2 iB,⟨_,_,a7 _ _ D.TOz D.TOi1 D.TOi2 oy⟩,a3,a4⟩ a5 fun c o hc e=> ?_
  obtain ⟨c1,c2,c3,c4,c5⟩:=Pd hc
  exact a7 c o c1 c4 c5 e
theorem DZ.fin {xs ys:Array Value}{Q:Option Value→Shared→Prop}(hh:A.handled=none)(D:ZipApart z TI TO i1 i2 a b)(st:DZ s.heap z TI TO i1 i2 a b S i)
  (vI:s.heap.IsList a xs) (rK:s.heap.IsList b ys) (xp:xs[i]? =none∨ys[i]? =none)
  (hQ:∀h',(∀c o,c∉[z,TI,TO,i1,i2]→s.heap.get? c=some o→h'.get? c=some o)→Q none {s with heap:=h' }):wpAny (model prog w) A (pyNext (.ref z)) Q E s:=by
 obtain ⟨hz,iB,⟨x0,y0,oy⟩,h1,h2⟩:=st
 have Pd:∀{c:Addr},c∉[z,TI,TO,i1,i2]→c≠z∧c≠TI∧c≠TO∧c≠i1∧c≠i2:=fun h=>by simpa using h
 rcases hz with hz | ⟨T,o,fb,hz,hT,t1,t2,t3,t4,t5⟩
 ·refine wpAny_pyNext_zip_end hh D hz iB oy h1 h2 vI rK xp fun h' kk=>hQ h' fun c o hc e=> ?_
  obtain ⟨c1,c2,c3,c4,c5⟩:=Pd hc
  exact kk c o c1 c3 c4 c5 e
 ·refine xq hh D hz hT iB h1 h2 vI rK xp fun h' kk=>hQ h' fun c o hc e=> ?_
  obtain ⟨c1,c2,c3,c4,c5⟩:=Pd hc
  exact kk c o c1 c4 c5 e
end
end Ty
namespace Ty
open PySem PySem.Spec PyProof.Rows L2
section
variable {X:Cx}{pins:List (Addr×Obj)}{σ:L2.St}
theorem xr {H:Hp}{p:Addr}(h:H p=none)(o:HO):aq H (upd H p o):=fun b u q=>by rw [aj (ak q h)];exact q
end
end Ty
set_option maxHeartbeats 4000000
namespace Ty
open PySem PySem.Spec PyProof.Rows L2
section
variable {X:Cx}
section
variable {k:Nat}{m:Str}{pos apos:Pos}{e o:Expr}{es:List Expr}{ta:TE}{t:TA}
end
theorem BE {K:Frag}{e:Expr}{f:Str}{pos:Pos}{ta:TE}(hK:X.K=K)(he:PE X e ta)(hb:attributeBase e f X.env (eval e X.env)=eval e X.env):PE X (.Attribute e f pos) (JR K ta f):=by
 subst hK
 exact FG he hb
theorem BF {ws:List Str}{its:List Value}(r:Vals (ws.map V.str) its){i:Nat}{u:Value}(e:its[i]? =some u):∃w t,ws[i]? =some w∧u=Value.str w t:=by
 obtain ⟨v,ev,rv⟩:=aH (cu r) e
 rw [aa_] at ev
 obtain ⟨w,ew,rfl⟩:=afu.mp ev
 obtain ⟨t,rfl⟩:=rv
 exact ⟨w,t,ew,rfl⟩
end
section
variable {P:Program}{w:World}{K:Frag}{mg:Str→Option Value}{base:Heap}
end
end Ty
set_option maxHeartbeats 4000000
namespace Ty
open PySem PySem.Spec PyProof.Rows L2
theorem FY (l:Addr)(its:Array Value)(n:Nat)(b:Addr)(dh:Array Value)(n2:Nat)(d:Option Addr)(sl:Array (Option Value))(hs0:¬(!its.isEmpty && Builtin.List.listTooLong (its.size+dh.size))=true)(hs1:its.size≤sizeLine)(tY:its.size+dh.size≤sizeLine+1):
  Meets (Builtin.«list.extend» ⟨[.ref l,.ref b],[]⟩) (fun _ R s=>s.heap.get? l=some {cls:=.type "list",dict:=none,data:=.seq its n,slots:= #[]}∧s.heap.get? b=some {cls:=.type "tuple",dict:=d,data:=.seq dh n2,slots:=sl}∧
   R (.ok (.ret Value.none)) {s with heap:=s.heap.update l (Obj.mapSeq fun x=>x++dh),toks:=s.toks}):=
 .of_wp fun prog w A R s h=>by
  obtain ⟨hp,g,dd,tk,os⟩:=s
  obtain ⟨hl,hb,h⟩:=h
  have f1:=AutoSeq1.idx_int
  have f2:=AutoSeq1.sub_tuple_tuple
  have f3:=AutoSeq1.sub_list_list
  have f4:=AutoSeq1.sub_tuple_list
  have f5:=AutoSeq1.sub_list_tuple
  have XW :(its++dh).size≤sizeLine+1:=by rw [Array.size_append];exact tY
  wp_walk using (wpAny_updateSeq hl rfl (hz:=hs1) (_hz' :=XW)),wpAny_loadPart' hl,wpAny_loadPart' hb
  exact ⟨_,rfl,h⟩
section
variable {X:Cx}
def Pe (K:Frag):V→List V→Hp→VK→Prop:=fun x vs H Q=>∃l b xs zs,x=.ref l∧vs=[.ref b]∧H l=some (.lst xs)∧bF K H b zs∧xs.length+zs.length≤1000∧Q .cj (upd H l (.lst (xs++zs)))
theorem FZ:Xh X "list.extend" (Pe X.K):=by
 intro pins s σ H x vs v us Q I rx rv h
 obtain ⟨l,b,xs,zs,rfl,rfl,hH,hB,hz,q⟩:=h
 cases rx
 obtain ⟨u,rfl,ru⟩:=rv.one
 cases ru
 obtain ⟨z,its,n,r,hl,e⟩:=I.kE hH
 obtain ⟨dh,r2,tp,z2⟩:=I.tuple hB
 have rK:=r2.length
 have big:(1000:Nat)≤sizeLine:=by decide
 have hsz:its.toArray.size+dh.toArray.size≤sizeLine:=by rw [afC,afC];omega
 have zG:¬ (!its.toArray.isEmpty && Builtin.List.listTooLong (its.toArray.size+dh.toArray.size))=true:=by
  rw [rJ hsz,ag9]
  exact afx
 obtain ⟨⟨c,d,dt,sl⟩,e2,hc,n2,hd⟩:=tp
 obtain rfl:c=Value.type "tuple":=hc
 obtain rfl:dt=_:=hd
 refine call_meets F.slot_list_extend ⟨_,e,rfl⟩ F.entry_list_extend (F.args_list_extend_2 _ _)
  (FY l its.toArray n b dh.toArray n2 d sl zG (by rw [afC];omega) (by omega)) ⟨e,e2,?_⟩
 refine ⟨.cj,_,I.Og (its' :=its++dh) hH e (by simp) (r.append r2) ?_,rfl,q⟩
 rw [afq]
 omega
end
end Ty
set_option maxHeartbeats 4000000
namespace Ty
open PySem PySem.Spec PyProof.Rows L2
theorem qi:typeLookup (.type "zip") "__getattr__"=pure none:=by rw [typeLookup_type,builtinLookup_eq_fast];kernel_rfl
theorem xt:typeLookup (.type "zip") "keys"=pure none:=by rw [typeLookup_type,builtinLookup_eq_fast];kernel_rfl
theorem uF:entryFor table "zip.__getattribute__"=some Builtin.«object.__getattribute__»:=
 entryFor_alias (id' :="object.__getattribute__") (by kernel_rfl) (by decide+kernel) (by decide+kernel) (by kernel_rfl)
theorem km:entryFor table "dict.update.loop"=some Builtin.«dict.update.loop»:=entryFor_of_tree (by kernel_rfl)
theorem eZ:plainId "dict.update.loop"=true:=by decide+kernel
theorem BG (a:Addr)(vs:Array Value)(u:Tok):
  Meets (Builtin.«object.__getattribute__» ⟨[.ref a,.str "keys" u],[]⟩) (fun A R s=>s.heap.get? a=some {cls:=.type "zip",dict:=none,data:=.fields vs,slots:= #[]}∧raisesAttr (.ref a) "keys" A R s):=
 Meets.of_wp fun prog w A R s hs=>by
  obtain ⟨hp,g,d,tk,os⟩:=s
  obtain ⟨hx,hs⟩:=hs
  have hT:(⟨hp,g,d,tk,os⟩:Shared).TypeIs (.ref a) "zip":=⟨_,hx,rfl⟩
  have hm:=xt
  unfold Builtin.«object.__getattribute__»
  repeat (any_goals (first | (assumption) | wp_step))
  exact wpAny_raiseAttrError hs.1 hs.2 (attrMsg_fits (by decide+kernel) (by decide+kernel))
section
variable {prog:Program}{w:World}{A:Around}{E:Value→Shared→Prop}{s:Shared}
theorem sT {z:Addr}{vs:Array Value}{Q:Option Value→Shared→Prop}(hx:s.heap.get? z=some {cls:=.type "zip",dict:=none,data:=.fields vs,slots:= #[]})(hA:A.handled=none)
  (h:∀h' tk,(∀b o,s.heap.get? b=some o→h'.get? b=some o)→Q none {s with heap:=h',toks:=tk}):wpAny (model prog w) A (getAttr? (.ref z) "keys") Q E s:=by
 obtain ⟨hp,g,d,tk,os⟩:=s
 have hT:∀tk',(⟨hp,g,d,tk',os⟩:Shared).TypeIs (.ref z) "zip":=fun _=>⟨_,hx,rfl⟩
 have f1:=sub_AttributeError
 have f3:=F.slot_zip_getattribute.lookup
 have f4:=F.slot_zip_getattribute.bind (.ref z)
 have f5:=qi
 unfold getAttr? getAttrBy? getAttrBy
 repeat (any_goals (first | (assumption) | exact hT _ | ((with_reducible show wpAny _ _ (call (Value.builtin "zip.__getattribute__") _ _) _ _ _);refine call_meets F.slot_zip_getattribute (hT _) uF (F.args_zip_getattribute_2 _ _) (BG z vs _) ⟨hx,hA,fun h' tk' e DU => ?_⟩) | wp_step))
 obtain ⟨t',u',he⟩:=DU.there
 show wpAny _ _ (getattributeRaised _ _ _ _ _ _ _) _ _ _
 unfold getattributeRaised
 repeat (any_goals (first | (assumption) | wp_step))
 exact h _ _ DU.keeps
end
end Ty
set_option maxHeartbeats 4000000
namespace Ty
open PySem PySem.Spec PyProof.Rows L2
section
variable {prog:Program}{w:World}{A:Around}{E:Value→Shared→Prop}{s:Shared}
theorem nK {z TI TO:Addr}{f0:Value}{Q:Value→Shared→Prop}(hA:A.in1.in1.handled=none)(hz:IsZip s.heap z TI TO f0)
  (hL:∀(h' :Heap) (tk:Nat) (R:Result→Shared→Prop),(∀b o,s.heap.get? b=some o→h'.get? b=some o)→h'.get? s.heap.objs.size=some {cls:=.type "dict",data:=.dict #[]}→
   (∀s',Q (.ref s.heap.objs.size) s' →R (.ok (.ret .none)) s')→codeAny (model prog w) A.in1 (.builtin "dict.update.loop" ⟨[.ref s.heap.objs.size,.ref z,rawInt 0,.none],[]⟩) R {s with heap:=h',toks:=tk}):
  wpAny (model prog w) A (call (.type "dict") [.ref z]) Q E s:=by
 refine callType_codes (Q₁:=fun obj s₁=>obj=.ref s.heap.objs.size∧s₁={s with heap:=s.heap.push {cls:=.type "dict",data:=.dict #[]}}) F.kt_called_dict (F.kt_typeCall_dict_1 _) F.entry_dict_init (kt_code_dict_new _ ⟨rfl,rfl⟩) ?_
 rintro obj s₁ ⟨rfl,rfl⟩
 have hS:(s.heap.push {cls:=.type "dict",data:=.dict #[]}).get? s.heap.objs.size=some {cls:=.type "dict",data:=.dict #[]}:=Heap.get?_push_size _ rfl
 have k0:∀b o,s.heap.get? b=some o→(s.heap.push {cls:=.type "dict",data:=.dict #[]}).get? b=some o:=fun b o e=>Heap.get?_push_of_some _ e
 generalize hN:s.heap.objs.size=S at hS hL ⊢
 generalize s.heap.push {cls:=.type "dict",data:=.dict #[]}=hp at hS k0 ⊢
 have Pf:hp.get? z=_:=k0 _ _ hz
 have hTS:Shared.TypeIs {s with heap:=hp} (.ref S) "dict":=⟨_,hS,rfl⟩
 have hT:Shared.TypeIs {s with heap:=hp} (.ref z) "zip":=⟨_,Pf,rfl⟩
 refine ⟨hTS,F.args_dict_init_2 _ _,?_⟩
 unfold Builtin.«dict.__init__»
 refine wpAny_bind ?_
 unfold Builtin.Dict.selfAndRest
 refine wpAny_bind (wpAny_notOrdered_dict hTS ?_)
 refine wpAny_pure ?_
 show wpAny _ _ (Builtin.Dict.updateFrom "dict.__init__" S (.ref z) [] .none) _ _ _
 unfold Builtin.Dict.updateFrom
 refine wpAny_bind (wpAny_typeOf hT ?_)
 rw [if_pos (by decide)]
 refine wpAny_bind (sT (s:={s with heap:=hp}) Pf hA fun h' tk k1=> ?_)
 rw [if_pos (by rfl)]
 refine wpAny_bind (wpAny_rule ?_)
 have hz3:IsZip h' z TI TO f0:=k1 _ _ Pf
 refine wpAny_bind (wpAny_pyIter_zip (s:={s with heap:=h',toks:=tk}) hz3 ?_)
 exact wpAny_pure ⟨plainId_quiet eZ _,hL _ _ _ (fun b o e=>k1 _ _ (k0 _ _ e)) (k1 _ _ hS) fun s' hq=>⟨rfl,hq⟩⟩
end
section
variable {X:Cx}{pins:List (Addr×Obj)}{σ:L2.St}
theorem sU (kvs more:List (Key×V))(kv:Key×V):bW kvs (more++[kv])=putK (bW kvs more) kv.1 kv.2:=by
 unfold bW
 rw [List.foldl_append]
 rfl
theorem LR {z TI TO i1 i2 a b S:Addr}{A' :Around}{R:Result→Shared→Prop}{ks:List Key}{ys:List V}{H0:Hp}(hh:A'.in1.handled=none)(D:ZipApart z TI TO i1 i2 a b)(na:a≠S)(nb:b≠S)(hk1:ks.length≤1000):
  ∀(k i:Nat) (s:Shared) (H:Hp),min ks.length ys.length - i=k→i≤min ks.length ys.length→Inv X pins σ H s→(∀c∈[z,TI,TO,i1,i2],jC X pins H c)→DZ s.heap z TI TO i1 i2 a b S i→
  H a=some (.lst (ks.map kV))→H b=some (.lst ys)→H S=some (.dK (bW [] ((ks.zip ys).take i)))→bU S H0 H→
  (∀s' H',Inv X pins σ H' s' →bU S H0 H' →H' S=some (.dK (bW [] (ks.zip ys)))→R (.ok (.ret .none)) s')→
  codeAny (model X.prog X.w) A' (.builtin "dict.update.loop" ⟨[.ref S,.ref z,rawInt (i:Int),.none],[]⟩) R s:=by
 have aqM:(ks.zip ys).length=min ks.length ys.length:=List.length_zip
 intro k
 induction k with
 | zero=>
  intro i s H hk hi I hf st ha hb hS XX hR
  refine codeAny_builtin km ?_
  rw [Around.under_plainId eZ _]
  show wpAny _ A'.in1 (pyNext (.ref z) >>=_) _ _ s
  obtain ⟨z1,its,n1,r1,l1,e1⟩:=I.kE ha
  obtain ⟨z2,OP,n2,r2,l2,e2⟩:=I.kE hb
  rw [Wp] at l1
  refine wpAny_bind (st.fin hh D ⟨_,e1,rfl,_,rfl⟩ ⟨_,e2,rfl,_,rfl⟩ ?_ fun h' kk=> ?_)
  ·by_cases c:ks.length≤i
   ·exact .inl (by simp;omega)
   ·exact .inr (by simp;omega)
  ·rw [agq (by omega)] at hS
   exact wpAny_bind (wpAny_pure (wpAny_pure (hR _ H (Inv.lA (t' :=s.toks) I kk hf) XX hS)))
 | succ k ih=>
  intro i s H hk hi I hf st ha hb hS XX hR
  refine codeAny_builtin km ?_
  rw [Around.under_plainId eZ _]
  show wpAny _ A'.in1 (pyNext (.ref z) >>=_) _ _ s
  obtain ⟨z1,its,n1,r1,l1,e1⟩:=I.kE ha
  obtain ⟨z2,OP,n2,r2,l2,e2⟩:=I.kE hb
  have lx:i < ks.length:=by omega
  have ly:i < ys.length:=by omega
  obtain ⟨u,hu,ru⟩:=r1.get (i:=i) (x:=kV ks[i]) (by rw [aa_,gE lx];rfl)
  obtain ⟨v,hv,rv⟩:=r2.get (i:=i) (x:=ys[i]) (gE ly)
  obtain ⟨zS0,aqN,vs0,aqO,dd0⟩:=oB I.bz hS
  obtain ⟨oS,_,_,eS,_⟩:=id dd0
  refine wpAny_bind (st.item D eS ⟨_,e1,rfl,_,rfl⟩ ⟨_,e2,rfl,_,rfl⟩ (x:=u) (y:=v) (by simpa using hu) (by simpa using hv) fun h' DW ht kk=> ?_)
  have Nv:∀c∈[z,TI,TO,i1,i2],c≠S:=fun c hc e=>by
   have:=(hf c hc).1
   rw [e,hS] at this
   cases this
  have I2:Inv X pins σ H {s with heap:=h',toks:=s.toks}:=Inv.lA (t' :=s.toks) I kk hf
  obtain ⟨zS,hdS,vs,rel,dd⟩:=oB I2.bz hS
  have hT:Shared.TypeIs {s with heap:=h',toks:=s.toks} (.ref s.heap.objs.size) "tuple":=⟨_,ht,rfl⟩
  refine wpAny_bind (wpAny_holding ?_)
  refine wpAny_bind (wpAny_tryCatch ?_)
  unfold Builtin.Dict.pairItems
  refine wpAny_bind (wpAny_typeOf hT ?_)
  rw [if_pos (by decide)]
  refine wpAny_bind (wpAny_seqItems ht rfl (wpAny_pure ?_))
  show wpAny _ A'.in1 (holding [u,v] (dictSet S u v)) _ _ _
  refine wpAny_holding ?_
  have hlen:vs.length≤sizeLine:=by rw [← rel.length];exact zS
  refine wpAny_dictSet_pairs (hsz:=hlen) (kg ru) dd fun h2 dd2 sb=> ?_
  have he:∃q,h2.get? S=some q:=let ⟨q,_,_,hq,_⟩:=dd2;⟨q,hq⟩
  have etk:(ks.zip ys).take (i+1)=(ks.zip ys).take i++[(ks[i],ys[i])]:=by
   rw [agO]
   have:(ks.zip ys)[i]? =some (ks[i],ys[i]):=by rw [List.getElem?_zip_eq_some];exact ⟨gE lx,gE ly⟩
   rw [this]
   rfl
  have Pg:bW [] ((ks.zip ys).take (i+1))=putK (bW [] ((ks.zip ys).take i)) ks[i] ys[i]:=by rw [etk,sU]
  have hl:(putK (bW [] ((ks.zip ys).take i)) ks[i] ys[i]).length≤sizeLine:=by
   rw [← Pg]
   have h1:=fh ((ks.zip ys).take (i+1)) []
   rw [afN,ag1] at h1
   exact ac_ (show (bW [] ((ks.zip ys).take (i+1))).length≤1000 by omega) (by decide)
  have I3:Inv X pins σ (upd H S (.dK (putK (bW [] ((ks.zip ys).take i)) ks[i] ys[i]))) {s with heap:=h2,toks:=s.toks+1}:=i7 (s:={s with heap:=h',toks:=s.toks}) (t' :=s.toks+1) I2 (by rw [hS];exact True.intro) sb he (qf hl hdS (rel.put ks[i] rv) dd2)
  have kS:∀c o,c≠S→h'.get? c=some o→h2.get? c=some o:=fun c o n e=>(sb.2 c n).trans e
  refine wpAny_pure ⟨plainId_quiet eZ _,?_⟩
  have nn:∀{c:Addr} {o:HO},H c=some o→c≠S→(upd H S (.dK (putK (bW [] ((ks.zip ys).take i)) ks[i] ys[i]))) c=some o:=fun {c o} e n=>by rw [aj n];exact e
  refine ih (i+1) _ _ (by omega) (by omega) I3 (fun c hc=> ?_) (DW.frame kS (Nv z (by simp)) (Nv TI (by simp)) (Nv TO (by simp)) (Nv i1 (by simp)) (Nv i2 (by simp))) (nn ha na) (nn hb nb) (by rw [Pg,ai]) (fun c o n e=>nn (XX c o n e) n) hR
  obtain ⟨f0,f1,f2,f3,f4,f5⟩:=hf c hc
  exact ⟨by rw [aj (Nv c hc)];exact f0,f1,f2,f3,f4,f5⟩
def LS (ta:TA):TE:=fun σ H Q=>ta σ H fun vs H1=>∃(a b:Addr) (ks:List Key) (ys:List V),vs=[.ref a,.ref b]∧H1 a=some (.lst (ks.map kV))∧H1 b=some (.lst ys)∧ks.length≤1000∧
 ∀(l:Addr) (H' :Hp),aq H1 H' →H1 l=none→H' l=some (.dK (bW [] (ks.zip ys)))→Q (.ref l) H'
theorem boot_dict:bootBuiltins "dict"=some (.type "dict"):=by decide+kernel
theorem BH {e1 e2:Expr}{ta:TA}{p pos p' pos' :Pos}(hc:X.calm=true)(hgl:Gl X "dict")(hml:X.mg "dict"=none)(hg:Gl X "zip")(hm:X.mg "zip"=none)(ha:PA X [e1,e2] ta)(hs:starEach [e1,e2] X.env=[(false,eval e1 X.env),(false,eval e2 X.env)]:=by rfl)(tY:starEach [e2] X.env=[(false,eval e2 X.env)]:=by rfl)
  (V5:starEach [(.Call (.Name "zip" p) [e1,e2] [] pos:Expr)] X.env=[(false,eval (.Call (.Name "zip" p) [e1,e2] [] pos) X.env)]:=by rfl):
  PE X (.Call (.Name "dict" p') [.Call (.Name "zip" p) [e1,e2] [] pos] [] pos') (LS ta):=by
 intro pins s σ H Q I h
 refine Call_ (gw I hgl hml boot_dict (PyProof.Rows.callWith_type1 ?_ V5 rfl))
 rw [V5]
 show wpAny _ _ (spliced ((false,eval (.Call (.Name "zip" p) [e1,e2] [] pos) X.env)::[])) _ _ s
 refine Calls.spliced_cons ?_
 refine Call_ (gw I hg hm boot_zip (PyProof.Rows.callWith_type1 (bZ (ha pos pins s σ H _ I h) fun us s1 ⟨vs,H1,I1,r1,q1⟩=> ?_) (by rw [hs,tY]) (by rw [tY];rfl)))
 obtain ⟨a,b,ks,ys,e,hx,hy,hkl,q⟩:=q1
 subst e
 cases r1 with
 | cons r rr=>
  cases rr with
  | cons r' rr=>
   cases rr
   cases r
   cases r'
   obtain ⟨z1,its,n1,r1,l1,e1⟩:=I1.kE hx
   obtain ⟨z2,OP,n2,r2,l2,e2⟩:=I1.kE hy
   have lt1:a < s1.heap.objs.size:=Heap.lt_size e1
   have lt2:b < s1.heap.objs.size:=Heap.lt_size e2
   refine call_zip_2 ⟨_,e1,rfl,_,rfl⟩ ⟨_,e2,rfl,_,rfl⟩ fun h' hz iB oy OQ OR hsz hk=>Calls.spliced_nil ?_
   have I2:Inv X pins σ H1 {s1 with heap:=h',toks:=s1.toks}:=I1.kept (t' :=s1.toks) hk
   have hS:=I2.bz.fresh (ad_ h'.objs.size)
   refine nK (s:={s1 with heap:=h' }) (I1.ok.hd hc) hz fun h2 tk R k2 Ph hR=> ?_
   have lt' :mainGlobals < h'.objs.size:=(I2.mod.glob.keeps I2.bk).lt
   have ns:(h'.objs.size==sysModules)=false:=beq_eq_false_iff_ne.mpr (afO (afJ (apF (by decide) lt')))
   have I3:Inv X pins σ (upd H1 h'.objs.size (.dK [])) {s1 with heap:=h2,toks:=tk}:=I2.laid (t' :=tk) k2 (ad_ _) ⟨afU _,ns,[],.nil,_,_,_,Ph,⟨rfl,rfl,rfl⟩,rfl,fun _ he=>by simp at he,Pairs.nil,ap1⟩
   have st:DZ h2 (s1.heap.objs.size+4) (s1.heap.objs.size+2) (s1.heap.objs.size+3) s1.heap.objs.size (s1.heap.objs.size+1) a b h'.objs.size 0:=
    ⟨.inl (k2 _ _ hz),k2 _ _ iB,⟨_,_,k2 _ _ oy⟩,OQ.at fun o e=>k2 _ o e,OR.at fun o e=>k2 _ o e⟩
   have na:a≠h'.objs.size:=ak hx hS
   have nb:b≠h'.objs.size:=ak hy hS
   have qj:=xr hS (.dK [])
   refine LR (A' :=X.A.in1) (H0:=H1) (ks:=ks) (ys:=ys) (I1.ok.hd hc) ?_ na nb hkl (min ks.length ys.length) 0 _ _ (by omega) (afU _) I3 (fun c' nA => ?_) st (qj _ _ hx) (qj _ _ hy) ai (fun b' o n e=>qj _ _ e) fun s' H' I' ks' LJ =>hR s' ⟨.ref h'.objs.size,H',I',rfl,q _ H' (fun b' o e=>ks' b' o (ak e hS) e) hS LJ⟩
   ·constructor <;> (intro z;simp only [Addr] at*;omega)
   ·have Wb:c' =s1.heap.objs.size+4∨c' =s1.heap.objs.size+2∨c' =s1.heap.objs.size+3∨c' =s1.heap.objs.size∨c' =s1.heap.objs.size+1:=by simpa using nA
    have hb:s1.heap.objs.size≤c' :=by
     simp only [Addr] at*
     omega
    have hb2:c' ≠h'.objs.size:=by
     rw [hsz]
     simp only [Addr] at*
     omega
    refine I1.nE hb ?_
    rw [aj hb2]
    exact I1.bz.fresh hb
end
end Ty
set_option maxHeartbeats 4000000
namespace Ty
open PySem PySem.Spec PyProof.Rows L2
theorem cT.snoc {K:Frag}{H:Hp}{us:List V}{qs:List (Int×Int)}{v:V}{q:Int×Int}(h:cT K H us qs)(n:jy K H v q):cT K H (us++[v]) (qs++[q]):=by
 refine ⟨by simp [h.1],fun i u q' e1 e2=> ?_⟩
 have l:=h.1
 by_cases c:i < us.length
 ·rw [afv c] at e1
  rw [afv (by omega)] at e2
  exact h.2 i u q' e1 e2
 ·rw [afy (by omega)] at e1 e2
  by_cases z:i - us.length=0
  ·rw [z] at e1
   rw [show i - qs.length=0 by omega] at e2
   cases e1
   cases e2
   exact n
  ·rw [ae_ (by simp;omega)] at e1
   cases e1
theorem cT.a_ {K:Frag}{H H' :Hp}{us:List V}{qs:List (Int×Int)}(h:cT K H us qs)(s:bB H H'):cT K H' us qs:=⟨h.1,fun i u q e1 e2=>(h.2 i u q e1 e2).a_ s⟩
end Ty
set_option maxHeartbeats 4000000
namespace Ty
open PySem PySem.Spec PyProof.Rows L2
variable {X:Cx}
end Ty
set_option maxHeartbeats 4000000
namespace Ty
open PySem PySem.Spec PyProof.Rows L2
section
variable {X:Cx}{pins:List (Addr×Obj)}{σ:L2.St}{H:Hp}{s:Shared}
end
theorem uG {K:Frag}{D:Addr}{te:TE}{tt:TT}{cap:L2.St}{H1:Hp}{Q:VK}{a:Addr}{α:Type}{xs:List V}{zs:List α}{Rl:V→α→Prop}(p:α→Bool)(hp:Paired Rl xs zs)(nD:H1 D=none)(hn:xs.length < sizeLine)(hS:∀H,aq H1 H→aR K H a xs)
  (ht:∀x z H (R:Bool→Hp→Prop),Rl x z→z∈zs→aq H1 H→(∀H',aq H H' →R (p z) H')→tt (some x::cap) H R)
  (he:∀x z H (R:VK),Rl x z→aq H1 H→R x H→te (some x::cap) H R)
  (hd:∀ys H,Paired Rl ys (zs.filter p)→aq H1 H→H D=some (.lst ys)→Q (.ref D) H):
  jL D (cY 0) tt te (DV K a) (none::cap) H1 Q:=by
 have lz:xs.length=zs.length:=Paired.length hp
 have ps:∀{l₁:List V} {l₂:List α} {a:V} {b:α},Paired Rl l₁ l₂→Rl a b→Paired Rl (l₁++[a]) (l₂++[b]):=fun {l₁ l₂ a b} h h' =>by
  induction h with
  | nil=>exact .cons h' .nil
  | cons x _ ih=>exact .cons x ih
 refine ⟨fun i m σ ys H=>m=xs.length - i∧i≤xs.length∧(∃o,σ=o::cap)∧aq H1 H∧H D=some (.lst ys)∧Paired Rl ys ((zs.take i).filter p)∧ys.length≤i,⟨xs.length,by simp,afU _,⟨none,rfl⟩,fun b o e=>by rw [aj (ak e nD)];exact e,ai,by simpa using Paired.nil,ad_ _⟩,?_⟩
 rintro i m σ ys H ⟨rfl,hi,⟨o,rfl⟩,s,hD,ey,ly⟩
 by_cases j6:i < xs.length
 ·refine .inr ⟨⟨xs,xs[i],hS H s,gE j6⟩,fun v H' y=> ?_⟩
  obtain ⟨rfl,y2⟩:=y
  have q1:=y2 xs (hS _ s)
  obtain ⟨z,ez,hz⟩:=aH hp q1
  have er:(zs.take (i+1)).filter p=(zs.take i).filter p++(if p z=true then [z] else []):=by
   rw [take_snoc ez,List.filter_append]
   by_cases c:p z=true
   ·rw [if_pos c,List.filter_cons_of_pos c]
    rfl
   ·rw [if_neg c,List.filter_cons_of_neg c]
    rfl
  unfold cY
  refine ht v z _ _ hz (abt ez) s fun H2 s2=> ?_
  have ig:aq H1 H2:=fun b o e=>s2 _ _ (s _ _ e)
  have Nw:=s2 _ _ hD
  by_cases c:p z=true
  ·rw [if_pos c]
   rw [if_pos c] at er
   refine he v z _ _ hz ig ⟨Nw,by omega,xs.length - (i+1),by omega,rfl,by omega,⟨_,rfl⟩,?_,ai,?_,by simp;omega⟩
   ·exact fun b o e=>by
     rw [aj (ak e nD)]
     exact ig _ _ e
   ·rw [er]
    exact ps ey hz
  ·rw [if_neg c]
   rw [if_neg c,agc] at er
   exact ⟨xs.length - (i+1),by omega,rfl,by omega,⟨_,rfl⟩,ig,Nw,by rw [er];exact ey,by omega⟩
 ·have e:i=xs.length:=by omega
  subst e
  refine .inl ⟨⟨xs,hS _ s,ad_ _⟩,hd ys H ?_ s hD⟩
  rw [lz,afS] at ey
  exact ey
end Ty
set_option maxHeartbeats 4000000
namespace Ty
open PySem PySem.Spec PyProof.Rows L2
section
variable {X:Cx}{o e:Expr}{es:List Expr}{to:TE}{t:TA}{name:Str}{apos dB:Pos}{T id:String}{r:V→List V→Hp→VK→Prop}
theorem nO {K:Frag}(h:X.K=K):iO X (compareOp .NotIn) (Xi K true):=by subst h;exact fP
end
end Ty
set_option maxHeartbeats 4000000
namespace Ty
open PySem PySem.Spec PyProof.Rows L2
section
variable {X:Cx}
def LU:V→List V→Hp→VK→Prop:=fun x vs H Q=>∃(l:Addr) (ws:List Str) (y:Str) (j:Nat),x=.ref l∧vs=[.str y]∧H l=some (.lst (ws.map V.str))∧ws.length < 1000∧ws[j]? =some y∧(∀i,i < j→ws[i]? ≠some y)∧Q (.int (j:Int)) H
theorem BI:Xh X "list.index" LU:=by
 intro pins s σ H x vs v us Q I rx rv h
 obtain ⟨l,ws,y,j,rfl,rfl,hH,j6,hj,hn,q⟩:=h
 cases rx
 obtain ⟨u,rfl,ru⟩:=rv.one
 obtain ⟨t,rfl⟩:=ru
 obtain ⟨z,its,n,r,hl,e⟩:=I.kE hH
 have hj0:=(ir.mp hj).1
 have hlj:j < its.length:=by
  rw [← hl,Wp]
  exact hj0
 let eB:Value→Bool:=fun u=>match u with | .str w _=>w.cps.toList==y.cps.toList | _=>false
 have key:∀(i:Nat) (hi:i < its.length),∃w t',ws[i]? =some w∧its[i]=Value.str w t' :=fun i hi=>BF r (gE hi)
 refine call_meets F.slot_list_index ⟨_,e,rfl⟩ F.entry_list_index (F.args_list_index_2 _ _)
  (MeetsSeq.list_index l its.toArray n (Value.str y t) eB (fun u hu=> ?_) j (by simpa using hlj) (by show (j:Int) < 9223372036854775807;omega) ?_ (fun m hm lt=> ?_)) ⟨e,?_⟩
 ·obtain ⟨i,hi,ei⟩:=af3.mp (by simpa using hu:u∈its)
  obtain ⟨w,t',_,e2⟩:=key i hi
  rw [← ei,e2]
  exact SeqRoads2.EqGives.str w y t' t
 ·obtain ⟨w,t',e1,e2⟩:=key j hlj
  rw [hj] at e1
  cases e1
  show eB (its.toArray[j]'_)=true
  rw [apo,e2]
  show (y.cps.toList==y.cps.toList)=true
  exact beq_self_eq_true _
 ·have V_ :m < its.length:=by simpa using hm
  obtain ⟨w,t',e1,e2⟩:=key m V_
  show eB (its.toArray[m]'_)=false
  rw [apo,e2]
  show (w.cps.toList==y.cps.toList)=false
  refine beq_eq_false_iff_ne.mpr fun z=>hn m lt ?_
  rw [e1]
  congr 1
  obtain ⟨⟨wc⟩⟩:=w
  obtain ⟨⟨yc⟩⟩:=y
  simp only at z
  rw [z]
 ·exact ⟨.int (j:Int),H,I.tok (s.toks+1),⟨_,rfl⟩,q⟩
end
section
variable {D:Addr}{te:TE}{cap:L2.St}{H1:Hp}{Q:VK}
end
end Ty
set_option maxHeartbeats 4000000
namespace Ty
open PySem PySem.Spec PyProof.Rows L2
theorem bB.ks {H H' :Hp}{D:Addr}{ys:List V}(h0:H D=some (.lst ys))(ks:bU D H H'):bB H H' :=fun b xs r=>by
 rcases r with r | ⟨o',r⟩
 ·exact .inl (ks _ _ (fun e=>by rw [e,h0] at r;cases r) r)
 ·exact .inr ⟨o',ks _ _ (fun e=>by rw [e,h0] at r;cases r) r⟩
section
variable {X:Cx}{K:Frag}
inductive Pj (K:Frag)(x:V)(y:V)(H:Hp)(Q:VK):Prop where
 | mk (p xs i v:_) (_:x=.ref p) (_:y=.int i) (_:aR K H p xs∨bF K H p xs) (_:ft xs i=some v) (_:Q v H):Pj K x y H Q
theorem vJ:Lc X (Pj X.K):=by
 intro value slice pins s σ H x y v u Q I rx ry h hs
 obtain ⟨p,xs,i,z,e1,e2,hq,he,q⟩:=h
 rcases hq with hq | hq
 ·exact aS value slice pins s σ H x y v u Q I rx ry ⟨p,xs,i,z,e1,e2,hq,he,q⟩ hs
 ·exact iy value slice pins s σ H x y v u Q I rx ry ⟨p,xs,i,z,e1,e2,hq,he,q⟩ hs
inductive sV (Q:VK)(x:V)(H1:Hp):Prop where
 | mk (d kvs:_) (_:x=.ref d) (_:H1 d=some (.dK kvs)) (_:Q .cj (upd H1 d (.dK []))):sV Q x H1
def F_ (te:TE):TE:=fun σ H Q=>te σ H fun x H1=>sV Q x H1
theorem xu {e:Expr}{te:TE}{apos dB:Pos}(ho:PE X e te)(iU:attributeBase e "clear" X.env (eval e X.env)=eval e X.env:=by rfl)(rH:(apos.endLine==dB.line)=true:=by rfl):
  PE X (.Call (.Attribute e "clear" apos) [] [] dB) (F_ te):=by
 intro pins s σ H Q I h
 refine wpAny_Call_method0_late iU rH (bZ (ho pins s σ H _ I h) fun v s1 ⟨x,H1,I1,r1,q1⟩=> ?_)
 obtain ⟨d,kvs,rfl,e,q⟩:=q1
 cases r1
 obtain ⟨h1,h2,hd⟩:=AM I1 (.inl ⟨kvs,.inl e⟩)
 refine ⟨"dict","dict.clear",F.plainAttrs_dict,F.slot_dict_clear,F.type_dict_clear,h1,h2,Calls.callWith_builtin rfl (PySem.evalArgs_none ?_)⟩
 exact FN I1 e fun s' I3=>⟨.cj,_,I3,rfl,q⟩
end
section
variable {D:Addr}{te:TE}{cap:L2.St}{H1:Hp}{Q:VK}
theorem uH {K:Frag}{a:Addr}{xs:List V}(J:List V→Hp→Prop)(nD:H1 D=none)(hn:xs.length < sizeLine)(hS:∀H,aq H1 H→aR K H a xs)(h0:J [] (upd H1 D (.lst [])))
  (he:∀(i:Nat) x ys H (R:VK),xs[i]? =some x→ys.length=i→J ys H→aq H1 H→H D=some (.lst ys)→(∀v H6,aq H H6→J (ys++[v]) (upd H6 D (.lst (ys++[v])))→R v H6)→te (some x::cap) H R)
  (hd:∀ys H,ys.length=xs.length→J ys H→aq H1 H→H D=some (.lst ys)→Q (.ref D) H):
  jL D (cY 0) i5 te (DV K a) (none::cap) H1 Q:=by
 refine um xs.length (fun i=>(xs[i]?).getD .cj) (fun i ys H=>ys.length=i∧J ys H∧aq H1 H) ⟨rfl,h0,fun b o e=>by rw [aj (ak e nD)];exact e⟩ ?_ ?_ ?_ ?_
 ·rintro i ys H hi ⟨_,_,s⟩
  exact ⟨⟨xs,xs[i],hS H s,gE hi⟩,fun x H' y=>⟨y.1,by rw [y.2 xs (hS H s)];rfl⟩⟩
 ·rintro ys H ⟨_,_,s⟩
  exact ⟨xs,hS H s,ad_ _⟩
 ·rintro i ys H R hi ⟨l,j,s⟩ hD k
  have e:xs[i]? =some xs[i]:=gE hi
  have k' :=he i _ ys H R e l j s hD fun v H6 s6 jv=>k v H6 (s6 _ _ hD) (by omega) ⟨by simp [l],jv,fun b o e=>by rw [aj (ak e nD)];exact s6 _ _ (s _ _ e)⟩
  rw [← (show (xs[i]?).getD .cj=xs[i] by rw [e];rfl)] at k'
  exact k'
 ·rintro ys H ⟨l,j,s⟩ hD
  exact hd ys H l j s hD
end
end Ty
set_option maxHeartbeats 4000000
namespace T_k52
open PySem PySem.Spec PyProof.Rows L2 Ty
open Builtin.Int (intBits)
seal L2.PE L2.PS L2.PSs L2.PA
theorem sq {N P:List Str}{sc:Scope}(a:sc.kind=.function:=by exact rfl)(b:sc.isCoroutine=false:=by exact rfl)(c:sc.isGenerator=false:=by exact rfl)(d:N.Nodup:=by decide+kernel)(e:N.take P.length=P:=by exact rfl)(f:∀x∈P,sc.names.lookup x=some .local∨sc.names.lookup x=some .cell:=by decide+kernel)(g:∀y∈sc.names,y.2≠.free:=by decide+kernel):ay N P sc:=⟨a,b,c,d,e,f,g⟩
theorem pY (P:Program)(w:World){X:Cx}:Passes (aX P w) X.tN E0:=rR aX.kG
theorem pX {P:Program}{w:World}{X:Cx}:Passes (aX P w) X.tN E0:=rR aX.kG
theorem _root_.L2.bY.mo {j k:Nat}{A:Around}(r:L2.bY k A)(h:j≤k:=by decide):L2.bY j A:=r.mono h
theorem aK {X:Cx}{a:Expr}{ta:TE}{i j p1 p2}(h:PE X a ta):PE X (.Subscript a (.Constant (.int i) j p1) p2) (K6 (zB X.K) ta (tC (.int i))):=aT iy h ag (fun _ _=>rfl)
theorem BJ {X:Cx}{a:Expr}{ta:TE}{i j p1 p2}(h:PE X a ta):PE X (.Subscript a (.Constant (.int i) j p1) p2) (K6 (EU X.K) ta (tC (.int i))):=aT aS h ag (fun _ _=>rfl)
theorem _root_.L2.lV.vK {K:Frag}{x qual:Str}{st:Stmt}{f:Addr}{fd:FuncData}{ps:List Str}(F:L2.lV K x qual st f fd)
 (h:∀(kV doc pm:Value) (an:Option Addr) (bf ct:Value) (us:List Value),us.length=ps.length→bindArgs (fnOf x qual (av st) (ar st) (af st) .none kV doc pm an bf ct) ⟨us,[]⟩=pure (ps.zip us):=by first | exact (fun _ _ _ _ _ _ us hl=>match us,hl with | [_],_=>rfl) | exact (fun _ _ _ _ _ _ us hl=>match us,hl with | [_,_],_=>rfl) | exact (fun _ _ _ _ _ _ us hl=>match us,hl with | [_,_,_],_=>rfl) | exact (fun _ _ _ _ _ _ us hl=>match us,hl with | [_,_,_,_],_=>rfl) | exact (fun _ _ _ _ _ _ us hl=>match us,hl with | [_,_,_,_,_],_=>rfl)):Binds K fd ps []:=F.binds h
theorem eK {K:Frag}{mg:Str→Option Value}{h:Heap}{x:Str}{st:Stmt}{ps:List Str}{f:Addr}{oc:Value}{od an:Option Addr}{jF:Array (Option Value)}{kV doc pm bf ct:Value}(X:K.In h)(G:h.Ns mainGlobals mg)(l:K.lookup f=some ⟨oc,od,.func (fnOf x x (av st) (ar st) (af st) .none kV doc pm an bf ct),jF⟩)(c:codeIn K bf x=true)(k:keepIn K (.ref f)=true)(a:nsIn K mainGlobals x=some (some (.ref f)))
 (b:∀(kV doc pm:Value) (an:Option Addr) (bf ct:Value) (us:List Value),us.length=ps.length→bindArgs (fnOf x x (av st) (ar st) (af st) .none kV doc pm an bf ct) ⟨us,[]⟩=pure (ps.zip us):=by first | exact (fun _ _ _ _ _ _ us hl=>match us,hl with | [_],_=>rfl) | exact (fun _ _ _ _ _ _ us hl=>match us,hl with | [_,_],_=>rfl) | exact (fun _ _ _ _ _ _ us hl=>match us,hl with | [_,_,_],_=>rfl) | exact (fun _ _ _ _ _ _ us hl=>match us,hl with | [_,_,_,_],_=>rfl) | exact (fun _ _ _ _ _ _ us hl=>match us,hl with | [_,_,_,_,_],_=>rfl)):Def K mg x st ps:=Def.of (cD l c k) ((cD l c k).binds b) (mg_of X G a)
def top (i:Nat):Stmt:=PySem.Challenge.pw_trussyard_k52_a_bar_taken.main.body.getD i (.Pass ⟨0,0,0,0⟩)
abbrev uI:Stmt:=top 13
abbrev sW:Stmt:=top 14
abbrev xw:Stmt:=top 15
abbrev xx:Stmt:=top 18
abbrev uJ:Stmt:=top 19
abbrev xy:Stmt:=top 21
abbrev xA:Stmt:=top 22
abbrev xB:Stmt:=top 23
abbrev xC:Stmt:=top 24
abbrev xD:Stmt:=top 25
abbrev xE:Stmt:=top 26
abbrev xF:Stmt:=top 28
abbrev xG:Stmt:=top 29
abbrev xH:Stmt:=top 30
abbrev xI:Stmt:=top 31
abbrev xJ:Stmt:=top 32
abbrev xK:Stmt:=top 33
abbrev xM:Stmt:=top 34
abbrev xN:Stmt:=top 35
abbrev uK:Stmt:=top 37
abbrev xO:Stmt:=top 38
abbrev xP:Stmt:=top 48
abbrev xQ:Stmt:=top 49
abbrev xR:Stmt:=top 50
abbrev xS:Stmt:=top 51
abbrev xT:Stmt:=top 52
abbrev xU:Stmt:=top 53
abbrev uL:Stmt:=top 54
abbrev xV:Stmt:=top 55
abbrev xW:Stmt:=top 56
abbrev xX:Stmt:=top 57
abbrev xY:Stmt:=top 58
abbrev xZ:Stmt:=top 59
abbrev x4:Stmt:=top 60
abbrev x5:Stmt:=top 61
abbrev x6:Stmt:=top 62
abbrev x8:Stmt:=top 63
abbrev x9:Stmt:=top 64
abbrev x_:Stmt:=top 65
abbrev ya:Stmt:=top 66
abbrev yb:Stmt:=top 67
abbrev yd:Stmt:=top 68
abbrev ye:Stmt:=top 69
abbrev yf:Stmt:=top 70
abbrev yg:Stmt:=top 71
abbrev yh:Stmt:=top 72
abbrev i8:Stmt:=top 73
abbrev yi:Stmt:=inClass (top 8) 0
abbrev yj:Stmt:=inClass (top 42) 0
abbrev kK:Stmt:=inClass (top 42) 1
abbrev yk:Stmt:=inClass (top 42) 2
abbrev yl:Stmt:=inClass (top 42) 3
abbrev ym:Stmt:=inClass (top 42) 4
abbrev yn:Stmt:=inClass (top 42) 7
abbrev yo:Stmt:=inClass (top 42) 8
abbrev yp:Stmt:=inClass (top 42) 9
abbrev yq:Stmt:=inClass (top 42) 10
abbrev yr:Stmt:=inClass (top 42) 11
abbrev F':Stmt:=inClass (top 44) 0
abbrev yt:Stmt:=inClass (top 45) 0
abbrev yu:Stmt:=inClass (top 45) 1
abbrev yv:Stmt:=inClass (top 46) 0
section
variable {P:Program}{w:World}{K:Frag}{mg:Str→Option Value}{base:Heap}{CX:jw}
def Nm (H:Hp)(v:V)(q:Int×Int):Prop:=∃p,v=.ref p∧H p=some (.tup [.int q.1,.int q.2])
structure Pk (k:Nat)(q:Int×Int):Prop where
 pos:0 < q.2
 top:intBits q.1≤k
 bot:intBits q.2≤k
theorem aC {H:Hp}{p:Addr}(h:H p=none)(o:HO):aq H (upd H p o):=fun b u q=>by rw [aj (ak q h)];exact q
theorem nw {H H' :Hp}{l:Addr}{o:HO}(n:H l=none)(e:upd H l o=H'):aq H H' ∧H' l=some o:=by subst e;exact ⟨aC n o,ai⟩
def gives (H:Hp)(Q:VK)(q:Int×Int):Prop:=∀(p:Addr) (H' :Hp),aq H H' →H' p=some (.tup [.int q.1,.int q.2])→Q (.ref p) H'
inductive fF (vs:List V)(H:Hp)(Q:VK)(E_:XK):Prop where
 | mk (a b:Int) (_:vs=[.int a,.int b]) (_:Q (.int (gz a b)) H):fF vs H Q E_
def subQ (x y:Int×Int):Int×Int:=low (x.1*y.2 - y.1*x.2) (x.2*y.2)
theorem GB {x y:Int×Int}{k l:Nat}(hx:Pk k x)(hy:Pk l y):x.2*y.2≠0:=af7 (agy hx.pos hy.pos)
theorem iP {a b:V}:ft [a,b] 0=some a:=rfl
theorem iQ {a b:V}:ft [a,b] 1=some b:=rfl
theorem Nm.kept {H H' :Hp}{D:Addr}{ys:List V}{v:V}{q:Int×Int}(h:Nm H v q)(hD:H D=some (.lst ys))(k:bU D H H'):Nm H' v q:=by
 obtain ⟨p,e,z⟩:=h
 exact ⟨p,e,k p _ (fun e=>by rw [e,hD] at z;cases z) z⟩
inductive Ln (H:Hp)(v:V)(l:List Int):Prop where
 | mk (p:_) (_:v=.ref p) (_:H p=some (.lst (l.map V.int))):Ln H v l
theorem Ln.same {H H' :Hp}{v:V}{l:List Int}(h:Ln H v l)(s:aq H H'):Ln H' v l:=by
 obtain ⟨p,e,k⟩:=h
 exact ⟨p,e,s _ _ k⟩
def nq (H:Hp)(us:List V)(ls:List (List Int)):Prop:=us.length=ls.length∧∀(i:Nat) (u:V) (l:List Int),us[i]? =some u→ls[i]? =some l→Ln H u l
theorem nq.same {H H' :Hp}{us:List V}{ls:List (List Int)}(h:nq H us ls)(s:aq H H'):nq H' us ls:=⟨h.1,fun i u l e1 e2=>(h.2 i u l e1 e2).same s⟩
theorem oN {l:List Int}{j:Nat}(h:j < l.length):ft (l.map V.int) (j:Int)=some (.int (l.getD j 0)):=bH (by rw [aa_,gE h,afF,gE h];rfl)
theorem getD_mem {l:List Int}{j:Nat}{x:Int}(e:l[j]? =some x):l.getD j 0=x:=by rw [afF,e];rfl
def Bd (b:Nat)(l:List Int):Prop:=∀j,(l.getD j 0).natAbs≤2^b
theorem Bd.mem {b:Nat}{l:List Int}(h:Bd b l){x:Int}(hx:x∈l):x.natAbs≤2^b:=by
 obtain ⟨i,hi⟩:=afE hx
 rw [← getD_mem hi]
 exact h i
theorem Bd.up {b c:Nat}{l:List Int}(h:Bd b l)(hc:b≤c):Bd c l:=fun j=>mB (h j) hc
theorem vL:ay ["one","other","left"] ["one","other"] (af xw):=sq
theorem Pl (D:Def K mg "greatest_shared" xw ["one","other"])(oO:mg "abs"=none):Fn P w K mg base CX 1 "greatest_shared" ["one","other"] fF:=by
 refine D.ok vL (fun vs H Q E h=> ?_) (fun f bf A outer s H vs Q E hr h=> ?_)
 ·obtain ⟨a,b,rfl,_⟩:=h
  rfl
 obtain ⟨a,b,rfl,q⟩:=h
 refine ⟨_,(ae (lO PassesOwn.never (aJ d5 (pv 1) ag (aQ _)) (ae (aG (i:=2) vL.nd rfl (ab_ rfl) (aO eR (pv 0) (pv 1)))
   (ae (aG (i:=0) vL.nd rfl (ab_ rfl) (pv 1))
   (ah (aG (i:=1) vL.nd rfl (ab_ rfl) (pv 2))))))
  (ah (aw (aD rq rfl oO JK (ao (pv 0) aa))))),?_⟩
 refine rm (fun σ H' =>∃(x y:Int) (l:Option V),σ=[some (.int x),some (.int y),l]∧H' =H∧afW x y=afW a b) (fun σ _=>match σ with | [_,some (.int y),_]=>y.natAbs | _=>0) ⟨a,b,none,rfl,rfl,rfl⟩ ?_ ?_
 ·rintro σ H' ⟨x,y,l,rfl,rfl,g⟩
  refine ⟨_,rfl,rfl,_,rfl,?_⟩
  refine a8 (fun c=> ?_) (fun c=> ?_)
  ·have hy:y≠0:=by
    intro z
    subst z
    simp at c
   refine ⟨_,rfl,_,rfl,_,_,rfl,rfl,hy,?_⟩
   refine ⟨_,rfl,_,rfl,?_⟩
   exact ⟨⟨_,_,_,rfl,rfl,by rw [rL];exact g⟩,oq hy⟩
  ·have hy:y=0:=by
    have:=agv.mpr c
    simp at this
    exact this
   subst hy
   refine ⟨_,rfl,x,rfl,?_⟩
   have e:(if x < 0 then -x else x)=gz a b:=by
    rw [apu] at g
    unfold gz
    rw [← g]
    split <;> omega
   rw [e]
   exact q
 ·rintro σ H' Q1 Q2 h ⟨v,e1,e2,k,ek,z⟩
  exact ⟨v,e1,e2,k,ek,h _ _ z⟩
inductive fG (vs:List V)(H:Hp)(Q:VK)(E_:XK):Prop where
 | mk (t b:Int) (_:vs=[.int t,.int b]) (_:b≠0) (_:gives H Q (low t b)):fG vs H Q E_
theorem BK:ay ["top","bottom","shared"] ["top","bottom"] (af sW):=sq
theorem Pm (ht:P.given.tree=none)(D:Def K mg "lowest_terms" sW ["top","bottom"])(uM:Fn P w K mg base (aX P w) 1 "greatest_shared" ["one","other"] fF):Fn P w K mg base (aX P w) 33 "lowest_terms" ["top","bottom"] fG:=by
 refine D.ok BK (fun vs H Q E h=> ?_) (fun f bf A outer s H vs Q E hr h=> ?_)
 ·obtain ⟨t,b,rfl,_⟩:=h
  rfl
 obtain ⟨t,b,rfl,hb,q⟩:=h
 have Pn:∃tt,PSs (kD (aX P w) P w K mg base ["top","bottom","shared"] "lowest_terms" (af sW) f bf A outer s H E).tN ((ar sW).drop 2) tt∧∀g:Int,g=sg t b→tt {nx:=fun _ H' =>Q .cj H',rt:=Q} [some (.int t),some (.int b),some (.int g)] H:=by
  refine ⟨_,(ah (aw (aV (ao (aO (eg ht (Ty.bY.py hr (by decide)) rfl rfl rfl rfl rfl) (pv 0) (pv 2)) (ao (aO (eg ht (Ty.bY.py hr (by decide)) rfl rfl rfl rfl rfl) (pv 1) (pv 2)) aa))))),?_⟩
  rintro g rfl
  have c:=lW (t:=t) hb
  refine ⟨_,rfl,_,rfl,_,_,rfl,rfl,c,_,rfl,_,rfl,_,_,rfl,rfl,c,(by show 2≤sizeLine;decide),fun p hp=> ?_⟩
  exact q p _ (aC hp _) ai
 obtain ⟨t2,p2,q2⟩:=Pn
 refine ⟨_,(ae (aG (i:=2) BK.nd rfl (ab_ rfl) (aA uM hr.mo pX (ao (pv 0) (ao (pv 1) aa)))) (ae (ba (aJ rn (pv 1) ag (aQ _)) (ah (aG (i:=2) BK.nd rfl (ab_ rfl) (vf pd (pv 2)))) aI) p2)),?_⟩
 refine ⟨_,rfl,_,rfl,t,b,rfl,?_⟩
 refine ⟨_,rfl,_,_,rfl,rfl,_,rfl,?_⟩
 refine a8 (fun c=> ?_) (fun c=> ?_)
 ·refine ⟨_,rfl,_,rfl,q2 _ ?_⟩
  have c' :b < 0:=of_decide_eq_true c
  unfold sg
  rw [if_pos c']
 ·refine q2 _ ?_
  have c' :¬ b < 0:=of_decide_eq_false (agv.mpr c)
  unfold sg
  rw [if_neg c']
inductive LV (K:Frag)(vs:List V)(H:Hp)(Q:VK)(E_:XK):Prop where
 | mk (a:Addr) (qs:List (Int×Int)) (T B:Nat) (_:vs=[.ref a]) (_:XT K H a qs) (_:(∀q∈qs,Sm T B q)) (_:T≤20000) (_:B*qs.length≤8000) (_:B≤8000) (_:qs.length≤1000) (_:∀(p l:Addr) (ts:List Int) (b:Int) (H' :Hp),aq H H' →H l=none→H' p=some (.tup [.ref l,.int b])→H' l=some (.lst (ts.map V.int))→0 < b→b.natAbs≤2^(B*qs.length)→kc ts qs b→(∀t∈ts,t.natAbs≤2^(T+B*qs.length))→Q (.ref p) H'):LV K vs H Q E_
theorem vM:ay ["row","bottom","number"] ["row"] (af xH):=sq
theorem Po (D:Def K mg "whole_row" xH ["row"])(uM:Fn P w K mg base (aX P w) 1 "greatest_shared" ["one","other"] fF):Fn P w K mg base (aX P w) 2 "whole_row" ["row"] (LV K):=by
 refine D.ok vM (fun vs H Q E h=> ?_) (fun f bf A outer s H vs Q E hr h=> ?_)
 ·obtain ⟨a,qs,T,B,rfl,_⟩:=h
  rfl
 obtain ⟨a,qs,T,B,rfl,⟨us,hS,hN⟩,sm,hT,hB,hB1,hl,q⟩:=h
 refine ⟨_,(ae (aG (i:=1) vM.nd rfl (afT rfl) ag)
  (ae (bh PassesOwn.never rfl (aY (pv 0)) (au (i:=2) vM.nd rfl (ab_ rfl)) (ah (aG (i:=1) vM.nd rfl (afT rfl) (aO cA (aO rO (pv 1) (aA uM hr.mo pX (ao (pv 1) (ao (aK (pv 2)) aa)))) (aK (pv 2))))))
  (ah (aw (aV (ao (cg (tn:=["number"]) (fr:=["bottom"]) (caps:=[1]) rfl ⟨rfl,by decide+kernel,rfl,by decide+kernel,by decide+kernel,rfl,⟨(by first | exact ab_ rfl | exact afT rfl),trivial⟩,⟨(by first | exact ab_ rfl | exact afT rfl),trivial⟩⟩ (aY (pv 0)) (fun _ _ _ _=>(au (i:=0) (show (["number","bottom"]:List Str).Nodup from by decide+kernel) rfl (ab_ rfl))) (fun _ _ _ _=>bT) (fun _ _ _ _=>(aO cA (aT (bO (K:=K) rfl) (pv 0) ag (fun _ _=>rfl)) (aO rO (pv 1) (aT (bO (K:=K) rfl) (pv 0) ag (fun _ _=>rfl)))))) (ao (pv 1) aa))))))),?_⟩
 have V4:=hN.1
 have qat:∀{i:Nat} {u:V},us[i]? =some u→∃q,qs[i]? =some q∧jy K H u q∧Sm T B q:=fun {i u} e=>by
  have hi:i < us.length:=(ir.mp e).1
  have e2:qs[i]? =some (qs[i]'(by omega)):=gE (by omega)
  exact ⟨_,e2,hN.2 i u _ e e2,sm _ (agm _)⟩
 refine ⟨_,rfl,a,rfl,⟨_,hS⟩,bI (K:=K) (a:=a) (xs:=us) (fun i σ H' =>∃(b:Int) (o:Option V),σ=[some (.ref a),some (.int b),o]∧H' =H∧0 < b∧b.natAbs≤2^(B*i)∧∀j,j < i→∀q,qs[j]? =some q→q.2 ∣ b) ⟨1,none,rfl,rfl,by decide,by simp,fun j h=>absurd h (agd _)⟩ (fun i σ H' _ ⟨b,o,_,e,_⟩=>by rw [e];exact hS) ?_ ?_⟩
 ·rintro i u σ H' hu ⟨b,o,rfl,rfl,hb,hs,hd⟩
  obtain ⟨n,en,⟨p,rfl,hp⟩,sn⟩:=qat hu
  have hi:i < qs.length:=(ir.mp en).1
  have nb:n.2.natAbs≤2^B:=sn.bot
  obtain ⟨l1,l2,l3,l4⟩:=AI hb sn.pos
  have gp:=pG (t:=b) (b:=n.2) (by have:=sn.pos;omega)
  have gl:=Oq (t:=b) (b:=n.2) (by have:=sn.pos;omega)
  have sz:(b.fdiv (gz b n.2)*n.2).natAbs≤2^(B*(i+1)):=by
   refine ac_ l4 ?_
   rw [Nat.mul_succ,apR]
   exact apn hs nb
  have bi:B*i≤8000:=ac_ (Nat.mul_le_mul_left B (by omega)) hB
  have g1:gz b n.2 ∣ b:=agl ..
  refine ⟨_,rfl,_,rfl,_,rfl,p,_,_,_,rfl,rfl,hp,iQ,b,n.2,rfl,?_⟩
  refine ⟨_,_,rfl,rfl,⟨by omega,ac_ (gY (ac_ gl nb) (af4 B)) (by omega)⟩,?_⟩
  refine ⟨_,rfl,p,_,_,_,rfl,rfl,hp,iQ,_,_,rfl,rfl,lC (ac_ (fw (by omega) g1) hs) nb (by omega) (by omega),?_⟩
  refine ⟨_,_,rfl,rfl,l1,sz,fun j hj q' e' => ?_⟩
  rcases af6.mp hj with z | z
  ·exact Int.dvd_trans (hd j z q' e') l2
  ·subst z
   rw [en] at e'
   cases e'
   exact l3
 ·rintro σ H' ⟨b,o,rfl,rfl,hb,hs,hd⟩
  rw [V4] at hs hd
  refine ⟨_,rfl,a,rfl,⟨_,hS⟩,fun D nD=> ?_⟩
  refine b_ (cap:=[some (.int b)]) (K:=K) (a:=a) (xs:=us) (fun i v _=>∃q,qs[i]? =some q∧v=.int (q.1*b.fdiv q.2)) nD (by rw [V4];exact afs hl (by decide)) (fun H2 s2=>s2.seq hS) (fun _ _ _ _ _ _ _ h=>h) ?_ ?_
  ·intro i u H2 R hu s2 k
   obtain ⟨n,en,⟨p,rfl,hp⟩,sn⟩:=qat hu
   have w6:=Ty.aq.cN s2 hp
   have dv:=hd i (ir.mp en).1 n en
   have n0:n.2≠0:=by have:=sn.pos;omega
   refine ⟨_,rfl,p,_,_,_,rfl,rfl,w6,iP,?_⟩
   refine ⟨_,rfl,_,rfl,p,_,_,_,rfl,rfl,w6,iQ,_,_,rfl,rfl,⟨n0,ac_ (gY sn.bot (af4 B)) (by omega)⟩,?_⟩
   exact ⟨_,_,rfl,rfl,lC sn.top (ac_ (fw n0 dv) hs) (by omega) (by omega),k _ _ (aq.refl _) ⟨n,en,rfl⟩⟩
  ·intro ys H2 hy eA s2 hD
   have ey:ys=(qs.map fun n=>n.1*b.fdiv n.2).map V.int:=by
    refine af0 fun i=> ?_
    by_cases hi:i < ys.length
    ·have e1:ys[i]? =some ys[i]:=gE hi
     obtain ⟨n,en,ev⟩:=eA i _ e1
     rw [e1,ev,aa_,aa_,en]
     rfl
    ·rw [ae_ (by omega),ae_ (by simp;omega)]
   refine ⟨_,rfl,(by show 2≤sizeLine;decide),fun p np=> ?_⟩
   have s3:=aC np (.tup [.ref D,.int b])
   refine q p D (qs.map fun n=>n.1*b.fdiv n.2) b _ (s2.trans s3) nD ai (s3 _ _ (by rw [hD,ey])) hb hs ⟨by simp,fun i t n e1 e2=> ?_⟩ (fun t ht=> ?_)
   ·rw [aa_,e2] at e1
    have AE :n.1*b.fdiv n.2=t:=afB e1
    rw [← AE]
    exact wY (sm n (abt e2)).pos (hd i (ir.mp e2).1 n e2)
   ·obtain ⟨n,hn,rfl⟩:=afr.mp ht
    obtain ⟨i,hi⟩:=afE hn
    have n0:n.2≠0:=by have:=(sm n hn).pos;omega
    exact qe (sm n hn).top (ac_ (fw n0 (hd i (ir.mp hi).1 n hi)) hs)
structure Dv (l l' :List Int):Prop where
 len:l'.length=l.length
 fac:∃g:Int,g≠0∧∀j,g*l'.getD j 0=l.getD j 0
inductive jS (vs:List V)(H:Hp)(Q:VK)(E_:XK):Prop where
 | mk (v:V) (l:List Int) (_:vs=[v]) (_:Ln H v l) (_:l.length≤1000) (_:∀v' l' H',aq H H' →Ln H' v' l' →Dv l l' →(v' =v∨∃p,v' =.ref p∧H p=none)→Q v' H'):jS vs H Q E_
theorem GG (l:List Int):Dv l l:=⟨rfl,1,by decide,fun j=>Int.one_mul _⟩
theorem vN:ay ["line","shared","whole"] ["line"] (af xN):=sq
theorem Pp (ht:P.given.tree=none)(D:Def K mg "divided" xN ["line"])(uM:Fn P w K mg base (aX P w) 1 "greatest_shared" ["one","other"] fF):Fn P w K mg base (aX P w) 33 "divided" ["line"] jS:=by
 refine D.ok vN (fun vs H Q E h=> ?_) (fun f bf A outer s H vs Q E hr h=> ?_)
 ·obtain ⟨v,l,rfl,_⟩:=h
  rfl
 obtain ⟨v,l,rfl,⟨a,rfl,ha⟩,hn,q⟩:=h
 have same:Q (.ref a) H:=q _ l H (aq.refl H) ⟨a,rfl,ha⟩ (GG l) (.inl rfl)
 refine ⟨_,(ae (aG (i:=1) vN.nd rfl (afT rfl) ag)
  (ae (bh PassesOwn.never rfl (aY (pv 0)) (au (i:=2) vN.nd rfl (ab_ rfl)) (ae (aG (i:=1) vN.nd rfl (afT rfl) (aA uM hr.mo pX (ao (pv 2) (ao (pv 1) aa))))
   (ah (ba (aJ cP (pv 1) ag (aQ _)) (ah (aw (pv 0))) aI))))
  (ah (aw (rh (aJ zi (pv 1) ag (aQ _)) (cg (tn:=["whole"]) (fr:=["shared"]) (caps:=[1]) rfl ⟨rfl,by decide+kernel,rfl,by decide+kernel,by decide+kernel,rfl,⟨(by first | exact ab_ rfl | exact afT rfl),trivial⟩,⟨(by first | exact ab_ rfl | exact afT rfl),trivial⟩⟩ (aY (pv 0)) (fun _ _ _ _=>(au (i:=0) (show (["whole","shared"]:List Str).Nodup from by decide+kernel) rfl (ab_ rfl))) (fun _ _ _ _=>bT) (fun _ _ _ _=>(aO (eg ht (Ty.bY.py hr (by decide)) rfl rfl rfl rfl rfl) (pv 0) (pv 1)))) (pv 0)))))),?_⟩
 refine ⟨_,rfl,a,rfl,⟨_,aR.of ha⟩,bI (K:=K) (a:=a) (xs:=l.map V.int) (fun i σ H' =>∃(g:Int) (o:Option V),σ=[some (.ref a),some (.int g),o]∧H' =H∧0≤g∧∀j,j < i→∀x,l[j]? =some x→g ∣ x) ⟨0,none,rfl,rfl,by decide,fun j h=>absurd h (agd _)⟩ (fun i σ H' _ ⟨g,o,_,e,_⟩=>by rw [e];exact aR.of ha) ?_ ?_⟩
 ·rintro i u σ H' hu ⟨g,o,rfl,rfl,g0,hg⟩
  rw [aa_] at hu
  obtain ⟨x,ex,rfl⟩:=afu.mp hu
  have d1:gz x g ∣ x:=agl ..
  have d2:gz x g ∣ g:=agj ..
  have p0:0≤gz x g:=Int.natCast_nonneg _
  refine ⟨_,rfl,_,rfl,x,g,rfl,?_⟩
  refine ⟨_,rfl,rfl,_,rfl,?_⟩
  refine a8 (fun _=>⟨_,rfl,same⟩) (fun _=> ?_)
  refine ⟨_,_,rfl,rfl,p0,fun j hj y ey=> ?_⟩
  rcases af6.mp hj with z | z
  ·exact Int.dvd_trans d2 (hg j z y ey)
  ·subst z
   rw [ex] at ey
   cases ey
   exact d1
 ·rintro σ H' ⟨g,o,rfl,rfl,g0,hg⟩
  rw [Wp] at hg
  refine ⟨_,rfl,_,_,rfl,rfl,_,rfl,?_⟩
  refine a8 (fun c=> ?_) (fun _=>⟨_,rfl,same⟩)
  have g1:(1:Int) < g:=of_decide_eq_true c
  have gn:g≠0:=by omega
  refine ⟨_,rfl,a,rfl,⟨_,aR.of ha⟩,fun D nD=> ?_⟩
  refine b_ (cap:=[some (.int g)]) (K:=K) (a:=a) (xs:=l.map V.int) (fun i v _=>∃x,l[i]? =some x∧v=.int (x.fdiv g)) nD (by rw [Wp];exact afs hn (by decide)) (fun H2 s2=>aR.of (s2 _ _ ha)) (fun _ _ _ _ _ _ _ h=>h) ?_ ?_
  ·intro i u H2 R hu s2 k
   rw [aa_] at hu
   obtain ⟨x,ex,rfl⟩:=afu.mp hu
   exact ⟨_,rfl,_,rfl,_,_,rfl,rfl,gn,k _ _ (aq.refl _) ⟨x,ex,rfl⟩⟩
  ·intro ys H2 hy eA s2 hD
   rw [Wp] at hy
   have ey:ys=(l.map fun x=>x.fdiv g).map V.int:=by
    refine af0 fun i=> ?_
    by_cases hi:i < ys.length
    ·have e1:ys[i]? =some ys[i]:=gE hi
     obtain ⟨x,ex,ev⟩:=eA i _ e1
     rw [e1,ev,aa_,aa_,ex]
     rfl
    ·rw [ae_ (by omega),ae_ (by simp;omega)]
   refine q _ (l.map fun x=>x.fdiv g) H2 s2 ⟨D,rfl,by rw [hD,ey]⟩ ⟨by simp,g,gn,fun j=> ?_⟩ (.inr ⟨D,rfl,nD⟩)
   by_cases hj:j < l.length
   ·have ej:l[j]? =some l[j]:=gE hj
    rw [getD_mem (l:=l.map fun x=>x.fdiv g) (x:=l[j].fdiv g) (by rw [aa_,ej];rfl),getD_mem ej]
    exact (cb gn (hg j hj _ ej)).symm
   ·rw [afF,afF,ae_ (by simp;omega),ae_ (by omega)]
    simp
inductive jT (vs:List V)(H:Hp)(Q:VK)(E_:XK):Prop where
 | mk (u v:V) (l m:List Int) (c b1 b2:Nat) (_:vs=[u,v,.int (c:Int)]) (_:Ln H u l) (_:Ln H v m) (_:m.length=l.length) (_:c < l.length) (_:l.length≤1000) (_:m.getD c 0≠0) (_:Bd b1 l) (_:Bd b2 m) (_:b1≤29000000) (_:b2≤29000000) (_:∀v' l' H',aq H H' →Ln H' v' l' →sJ l m l' c→Bd (b1+b2+1) l' →(v' =u∨∃p,v' =.ref p∧H p=none)→Q v' H'):jT vs H Q E_
theorem GH {a b:Int}(ha:a≠0):a=gz a b*a.fdiv (gz a b)∧b=gz a b*b.fdiv (gz a b)∧gz a b≠0∧a.fdiv (gz a b)≠0∧(a.fdiv (gz a b)).natAbs≤a.natAbs∧(b.fdiv (gz a b)).natAbs≤b.natAbs:=by
 have gn:gz a b≠0:=by
  intro z
  have z' :((afW a b:Nat):Int)=0:=z
  have:afW a b=0:=by omega
  exact ha (Int.gcd_eq_zero_iff.mp this).1
 have d1:gz a b ∣ a:=agl ..
 have d2:gz a b ∣ b:=agj ..
 have e1:=cb gn d1
 refine ⟨e1,cb gn d2,gn,fun z=> ?_,fw gn d1,fw gn d2⟩
 rw [z,agK] at e1
 exact ha e1
theorem GJ {l m:List Int}{t u:Int}{ys:List V}(hl:m.length=l.length)(hy:ys.length=l.length)(h:∀(i:Nat) (v:V),ys[i]? =some v→∃x y,l[i]? =some x∧m[i]? =some y∧v=.int (t*x - u*y)):ys=(age (fun x y=>t*x - u*y) l m).map V.int:=by
 refine af0 fun i=> ?_
 by_cases hi:i < ys.length
 ·have e1:ys[i]? =some ys[i]:=gE hi
  obtain ⟨x,y,ex,ey,ev⟩:=h i _ e1
  rw [e1,ev,aa_,agR,ex,ey]
  rfl
 ·rw [ae_ (by omega),ae_ (by simp;omega)]
theorem BL {l m:List Int}{t u:Int}(hl:m.length=l.length)(j:Nat):(age (fun x y=>t*x - u*y) l m).getD j 0=t*l.getD j 0 - u*m.getD j 0:=by
 by_cases hj:j < l.length
 ·have e1:l[j]? =some l[j]:=gE hj
  have e2:m[j]? =some (m[j]'(by omega)):=gE (by omega)
  rw [getD_mem e1,getD_mem e2]
  exact getD_mem (by rw [agR,e1,e2])
 ·rw [afF,afF,afF,ae_ (by simp;omega),ae_ (by omega),ae_ (by omega)]
  simp
theorem vO:ay ["line","lead","column","shared","times","less"] ["line","lead","column"] (af xM):=sq
theorem Pq (ht:P.given.tree=none)(D:Def K mg "cleared" xM ["line","lead","column"])(ik:mg "zip"=none)(uM:Fn P w K mg base (aX P w) 1 "greatest_shared" ["one","other"] fF)(XY:Fn P w K mg base (aX P w) 33 "divided" ["line"] jS):Fn P w K mg base (aX P w) 34 "cleared" ["line","lead","column"] jT:=by
 refine D.ok vO (fun vs H Q E h=> ?_) (fun f bf A outer s H vs Q E hr h=> ?_)
 ·obtain ⟨u,v,l,m,c,b1,b2,rfl,_⟩:=h
  rfl
 obtain ⟨u,v,l,m,c,b1,b2,rfl,⟨a,rfl,ha⟩,⟨a',rfl,Wc⟩,hl,hc,hn,hm,B1,B2,hb1,hb2,q⟩:=h
 refine ⟨_,(ae (ba (aJ cP (aT aS (pv 0) (pv 2) (fun _ _=>rfl)) ag (aQ _)) (ah (aw (pv 0))) aI)
  (ae (aG (i:=3) vO.nd rfl (ab_ rfl) (aA uM hr.mo pX (ao (aT aS (pv 1) (pv 2) (fun _ _=>rfl)) (ao (aT aS (pv 0) (pv 2) (fun _ _=>rfl)) aa))))
  (ae (aG (i:=4) vO.nd rfl (afT rfl) (aO (eg ht (Ty.bY.py hr (by decide)) rfl rfl rfl rfl rfl) (aT aS (pv 1) (pv 2) (fun _ _=>rfl)) (pv 3)))
  (ae (aG (i:=5) vO.nd rfl (afT rfl) (aO (eg ht (Ty.bY.py hr (by decide)) rfl rfl rfl rfl rfl) (aT aS (pv 0) (pv 2) (fun _ _=>rfl)) (pv 3)))
  (ah (aw (aA XY hr.mo pX (ao (cg (tn:=["whole","other"]) (fr:=["times","less"]) (caps:=[4,5]) rfl ⟨rfl,by decide+kernel,rfl,by decide+kernel,by decide+kernel,rfl,⟨(by first | exact ab_ rfl | exact afT rfl),⟨(by first | exact ab_ rfl | exact afT rfl),trivial⟩⟩,⟨(by first | exact ab_ rfl | exact afT rfl),⟨(by first | exact ab_ rfl | exact afT rfl),trivial⟩⟩⟩ (uq rfl ik (ao (pv 0) (ao (pv 1) aa))) (fun _ _ _ _=>(qc (K:=K) (n:=2) rfl rfl (aU (au (i:=0) (show (["whole","other","times","less"]:List Str).Nodup from by decide+kernel) rfl (ab_ rfl)) (aU (au (i:=1) (show (["whole","other","times","less"]:List Str).Nodup from by decide+kernel) rfl (ab_ rfl)) cz)))) (fun _ _ _ _=>bT) (fun _ _ _ _=>(aO dJ (aO cA (pv 2) (pv 0)) (aO cA (pv 3) (pv 1))))) aa)))))))),?_⟩
 have ea:=oN (l:=l) hc
 have em:=oN (l:=m) (j:=c) (by omega)
 refine ⟨_,rfl,_,rfl,a,_,_,_,rfl,rfl,aR.of ha,ea,rfl,_,rfl,?_⟩
 refine a8 (fun z=> ?_) (fun z=> ?_)
 ·have z' :l.getD c 0=0:=by simpa using of_decide_eq_true z
  exact ⟨_,rfl,q _ l H (aq.refl H) ⟨a,rfl,ha⟩ ⟨rfl,z',1,1,0,by decide,by decide,fun j=>by omega⟩ (B1.up (by omega)) (.inl rfl)⟩
 ·obtain ⟨f1,f2,f3,f4,f5,f6⟩:=GH (a:=m.getD c 0) (b:=l.getD c 0) hm
  refine ⟨_,rfl,_,rfl,a',_,_,_,rfl,rfl,aR.of Wc,em,_,rfl,_,rfl,a,_,_,_,rfl,rfl,aR.of ha,ea,_,_,rfl,?_⟩
  refine ⟨_,rfl,_,rfl,a',_,_,_,rfl,rfl,aR.of Wc,em,_,rfl,_,_,rfl,rfl,f3,?_⟩
  refine ⟨_,rfl,_,rfl,a,_,_,_,rfl,rfl,aR.of ha,ea,_,rfl,_,_,rfl,rfl,f3,?_⟩
  refine ⟨_,rfl,_,rfl,a,a',rfl,⟨_,aR.of ha⟩,⟨_,aR.of Wc⟩,fun D1 n1=> ?_⟩
  have st:((m.getD c 0).fdiv (gz (m.getD c 0) (l.getD c 0))).natAbs≤2^b2:=ac_ f5 (B2 c)
  have su:((l.getD c 0).fdiv (gz (m.getD c 0) (l.getD c 0))).natAbs≤2^b1:=ac_ f6 (B1 c)
  refine r8 (cap:=[some (.int ((m.getD c 0).fdiv (gz (m.getD c 0) (l.getD c 0)))),some (.int ((l.getD c 0).fdiv (gz (m.getD c 0) (l.getD c 0))))]) (K:=K) (xs:=l.map V.int) (ys:=m.map V.int) (fun i v _=>∃x y,l[i]? =some x∧m[i]? =some y∧v=.int ((m.getD c 0).fdiv (gz (m.getD c 0) (l.getD c 0))*x - (l.getD c 0).fdiv (gz (m.getD c 0) (l.getD c 0))*y)) n1 (by rw [Wp];exact afs hn (by decide)) (by simpa using hl) (fun H2 s2=>aR.of (s2 _ _ ha)) (fun H2 s2=>aR.of (s2 _ _ Wc)) (fun _ _ _ _ _ _ _ h=>h) ?_ ?_
  ·intro i x y H2 R ex ey s2 k
   rw [aa_] at ex ey
   obtain ⟨x',NO,rfl⟩:=afu.mp ex
   obtain ⟨y',Wd,rfl⟩:=afu.mp ey
   refine ⟨_,rfl,_,rfl,_,_,rfl,rfl,lC st (B1.mem (abt NO)) (by omega) (by omega),?_⟩
   exact ⟨_,rfl,_,rfl,_,_,rfl,rfl,lC su (B2.mem (abt Wd)) (by omega) (by omega),_,_,rfl,rfl,k _ _ (aq.refl _) ⟨x',y',NO,Wd,rfl⟩⟩
  ·intro ys H2 hy eA s2 hD
   rw [Wp] at hy
   have ey:=GJ hl hy eA
   refine ⟨_,_,rfl,⟨D1,rfl,by rw [hD,ey]⟩,by simp;omega,fun v' l' H3 s3 L3 dv fr=> ?_⟩
   obtain ⟨g,gn,hg⟩:=dv.fac
   have Kc:∀j,g*l'.getD j 0=(m.getD c 0).fdiv (gz (m.getD c 0) (l.getD c 0))*l.getD j 0 - (l.getD c 0).fdiv (gz (m.getD c 0) (l.getD c 0))*m.getD j 0:=fun j=>by rw [hg j,BL hl]
   refine q v' l' H3 (s2.trans s3) L3 ⟨by rw [dv.len];simp [hl],?_,g,_,_,gn,f4,Kc⟩ (fun j=> ?_) ?_
   ·have e:=Kc c
    have z2:(m.getD c 0).fdiv (gz (m.getD c 0) (l.getD c 0))*l.getD c 0 - (l.getD c 0).fdiv (gz (m.getD c 0) (l.getD c 0))*m.getD c 0=0:=by
     generalize gz (m.getD c 0) (l.getD c 0)=G at*
     generalize (m.getD c 0).fdiv G=t at*
     generalize (l.getD c 0).fdiv G=u at*
     rw [f1,f2]
     grind
    rw [z2] at e
    rcases apl.mp e with y | y
    ·exact absurd y gn
    ·exact y
   ·have b:(g*l'.getD j 0).natAbs≤2^(b1+b2+1):=by
     rw [Kc j,Int.sub_eq_add_neg]
     refine LD (mB (qe st (B1 j)) (by omega)) ?_
     rw [apm]
     exact qe su (B2 j)
    exact ac_ (cR gn) b
   ·rcases fr with z | ⟨p,e,n⟩
    ·exact .inr ⟨D1,z,n1⟩
    ·exact .inr ⟨p,e,s2.free n⟩
inductive qk (K:Frag)(vs:List V)(H:Hp)(Q:VK)(E_:XK):Prop where
 | mk (a:Addr) (us:List V) (ls:List (List Int:_)) (c:Nat) (_:vs=[.ref a,.int (c:Int)]) (_:aR K H a us) (_:nq H us ls) (_:(∀l∈ls,c < l.length)) (_:(∀(i:Nat) (l:List Int) (H' :Hp),aq H H' →ls[i]? =some l→l.getD c 0≠0→Q (.int (i:Int)) H')) (_:((∀l∈ls,l.getD c 0=0)→∀H',aq H H' →Q .cj H')):qk K vs H Q E_
theorem nq.at {H:Hp}{us:List V}{ls:List (List Int)}(h:nq H us ls){i:Nat}{u:V}(e:us[i]? =some u):∃l,ls[i]? =some l∧Ln H u l:=by
 have hi:i < us.length:=(ir.mp e).1
 have hl:=h.1
 have e2:ls[i]? =some (ls[i]'(by omega)):=gE (by omega)
 exact ⟨_,e2,h.2 i u _ e e2⟩
theorem nq.at' {H:Hp}{us:List V}{ls:List (List Int)}(h:nq H us ls){i:Nat}{l:List Int}(e:ls[i]? =some l):∃u,us[i]? =some u∧Ln H u l:=by
 have hi:i < ls.length:=(ir.mp e).1
 have hl:=h.1
 have e2:us[i]? =some (us[i]'(by omega)):=gE (by omega)
 exact ⟨_,e2,h.2 i _ l e2 e⟩
theorem BM:ay ["lines","column","at","line"] ["lines","column"] (af xK):=sq
theorem Pr (D:Def K mg "first_not_nought" xK ["lines","column"])(cW:mg "enumerate"=none):Fn P w K mg base (aX P w) 1 "first_not_nought" ["lines","column"] (qk K):=by
 refine D.ok BM (fun vs H Q E h=> ?_) (fun f bf A outer s H vs Q E hr h=> ?_)
 ·obtain ⟨a,us,ls,c,rfl,_⟩:=h
  rfl
 obtain ⟨a,us,ls,c,rfl,hS,L,hc,q1,q2⟩:=h
 have lu:=L.1
 refine ⟨_,(ae (bh PassesOwn.never rfl (vC rfl cW (ao (pv 0) aa)) (dI rfl (aU (au (i:=2) BM.nd rfl (ab_ rfl)) (aU (au (i:=3) BM.nd rfl (ab_ rfl)) cz))) (ah (ba (aJ d5 (aT aS (pv 3) (pv 1) (fun _ _=>rfl)) ag (aQ _)) (ah (aw (pv 2))) aI)))
  (ah (aw lM))),?_⟩
 refine ⟨_,rfl,a,rfl,⟨_,hS⟩,sL (K:=K) (a:=a) (xs:=us) (fun i σ H' =>∃o1 o2:Option V,σ=[some (.ref a),some (.int (c:Int)),o1,o2]∧aq H H' ∧∀j,j < i→∀l,ls[j]? =some l→l.getD c 0=0) ⟨none,none,rfl,aq.refl H,fun j h=>absurd h (agd _)⟩ (fun i σ H' _ ⟨o1,o2,_,s1,_⟩=>s1.seq hS) ?_ ?_⟩
 ·rintro i u σ H' p hu ⟨o1,o2,rfl,s1,z⟩ np
  obtain ⟨l,el,b,rfl,hb⟩:=L.at hu
  have s2:=s1.trans (aC np (.tup [.int (i:Int),.ref b]))
  have pT:=hc l (abt el)
  refine ⟨p,_,rfl,bF.of ai,rfl,_,_,rfl,_,_,rfl,rfl,?_⟩
  refine ⟨_,rfl,_,rfl,b,_,_,_,rfl,rfl,aR.of (s2 _ _ hb),oN pT,rfl,_,rfl,?_⟩
  refine a8 (fun y=> ?_) (fun y=> ?_)
  ·have y' :l.getD c 0≠0:=by simpa using y
   exact ⟨_,rfl,q1 i l _ s2 el y'⟩
  ·have y' :l.getD c 0=0:=by simpa using y
   refine ⟨_,_,rfl,s2,fun j hj l' e' => ?_⟩
   rcases af6.mp hj with w | w
   ·exact z j w l' e'
   ·subst w
    rw [el] at e'
    cases e'
    exact y'
 ·rintro σ H' ⟨o1,o2,rfl,s1,z⟩
  refine q2 (fun l hl=> ?_) H' s1
  obtain ⟨j,hj⟩:=afE hl
  exact z j (by have:=(ir.mp hj).1;omega) l hj
structure Red (os:List (List Int))(L c b:Nat)(nd:List (Nat×List Int))(lv:List (List Int)):Prop where
 nQ:∀x∈nd,x.2.length=L
 iD:∀l∈lv,l.length=L
 cols:∀x∈nd,x.1 < c
 asc:(nd.map (·.1)).Pairwise (· < ·)
 here:∀x∈nd,x.2.getD x.1 0≠0
 off:∀x∈nd,∀y∈nd,x.1≠y.1→x.2.getD y.1 0=0
 low:∀x∈nd,∀j,j < x.1→x.2.getD j 0=0
 zero:∀l∈lv,∀j,j < c→l.getD j 0=0
 sX:∀x∈nd,jP os x.2
 i9:∀l∈lv,jP os l
 sol:∀z,((∀x∈nd,ev x.2 z=0)∧(∀l∈lv,ev l z=0)) ↔ ∀o∈os,ev o z=0
 GK:∀x∈nd,Bd b x.2
 D_:∀l∈lv,Bd b l
 cnt:nd.length+lv.length=os.length
theorem Red.start {os:List (List Int)}{L b:Nat}(hL:∀o∈os,o.length=L)(hb:∀o∈os,Bd b o):Red os L 0 b [] os where
 nQ:=by simp
 iD:=hL
 cols:=by simp
 asc:=by simp
 here:=by simp
 off:=by simp
 low:=by simp
 zero:=fun _ _ j h=>absurd h (agd _)
 sX:=by simp
 i9:=fun l h=>sI h
 sol:=fun z=>by simp
 GK:=by simp
 D_:=hb
 cnt:=by simp
theorem Red.skip {os:List (List Int)}{L c b:Nat}{nd:List (Nat×List Int)}{lv:List (List Int)}(h:Red os L c b nd lv)(hz:∀l∈lv,l.getD c 0=0):Red os L (c+1) b nd lv where
 nQ:=h.nQ
 iD:=h.iD
 cols:=fun x hx=>agM (h.cols x hx)
 asc:=h.asc
 here:=h.here
 off:=h.off
 low:=h.low
 zero:=fun l hl j hj=>by
  rcases af6.mp hj with z | z
  ·exact h.zero l hl j z
  ·subst z
   exact hz l hl
 sX:=h.sX
 i9:=h.i9
 sol:=h.sol
 GK:=h.GK
 D_:=h.D_
 cnt:=h.cnt
structure Made (os:List (List Int))(lead:List Int)(c b:Nat)(xs ys:List (List Int)):Prop where
 len:ys.length=xs.length
 to:∀(i:Nat) (x:List Int),xs[i]? =some x→∃y,ys[i]? =some y∧sJ x lead y c∧Bd b y
theorem Made.ex {os:List (List Int)}{lead:List Int}{c b:Nat}{xs ys:List (List Int)}(h:Made os lead c b xs ys){y:List Int}(hy:y∈ys):∃x∈xs,sJ x lead y c∧Bd b y:=by
 obtain ⟨i,hi⟩:=afE hy
 have hl:=h.len
 have j6:i < ys.length:=(ir.mp hi).1
 have e:xs[i]? =some (xs[i]'(by omega)):=gE (by omega)
 obtain ⟨y',e',r⟩:=h.to i _ e
 rw [hi] at e'
 cases e'
 exact ⟨_,abt e,r⟩
theorem Made.all {os:List (List Int)}{lead:List Int}{c b:Nat}{xs ys:List (List Int)}(h:Made os lead c b xs ys){x:List Int}(hx:x∈xs):∃y∈ys,sJ x lead y c∧Bd b y:=by
 obtain ⟨i,hi⟩:=afE hx
 obtain ⟨y,e,r⟩:=h.to i x hi
 exact ⟨y,abt e,r⟩
theorem Red.step {os:List (List Int)}{L c b:Nat}{nd lD :List (Nat×List Int)}{lv GL rest:List (List Int)}{lead:List Int}(h:Red os L c b nd lv)(fH:lead∈lv)(sY:∀l∈rest,l∈lv)(zH:∀l∈lv,l=lead∨l∈rest)(hlen:rest.length+1=lv.length)
  (hc:lead.getD c 0≠0) (ML:Made os lead c (2*b+1) rest GL) (hk:lD.map (·.1)=nd.map (·.1)) (MN:Made os lead c (2*b+1) (nd.map (·.2)) (lD.map (·.2))):Red os L (c+1) (2*b+1) (lD ++[(c,lead)]) GL :=by
 have ll:=h.iD lead fH
 have lz:=h.zero lead fH
 have XZ :lD.length=nd.length:=by simpa using congrArg ago hk
 have pairs:∀x' ∈lD,∃x∈nd,x.1=x'.1∧sJ x.2 lead x'.2 c∧Bd (2*b+1) x'.2:=by
  intro x' DU
  obtain ⟨i,hi⟩:=afE DU
  have j6:i < lD.length:=(ir.mp hi).1
  have e:nd[i]? =some (nd[i]'(by omega)):=gE (by omega)
  have e1:(lD.map (·.1))[i]? =(nd.map (·.1))[i]? :=by rw [hk]
  rw [aa_,aa_,hi,e] at e1
  obtain ⟨y,e2,r⟩:=MN.to i (nd[i]'(by omega)).2 (by rw [aa_,e];rfl)
  rw [aa_,hi] at e2
  simp at e1 e2
  subst e2
  exact ⟨_,abt e,e1.symm,r⟩
 have back:∀x∈nd,∃x' ∈lD,x'.1=x.1∧sJ x.2 lead x'.2 c:=by
  intro x hx
  obtain ⟨i,hi⟩:=afE hx
  have j6:i < nd.length:=(ir.mp hi).1
  have e:lD[i]? =some (lD[i]'(by omega)):=gE (by omega)
  have e1:(lD.map (·.1))[i]? =(nd.map (·.1))[i]? :=by rw [hk]
  rw [aa_,aa_,hi,e] at e1
  obtain ⟨y,e2,r⟩:=MN.to i x.2 (by rw [aa_,hi];rfl)
  rw [aa_,e] at e2
  simp at e1 e2
  exact ⟨_,abt e,e1,by rw [e2];exact r.1⟩
 have GN:∀x∈lD ++[(c,lead)],x∈lD ∨x=(c,lead):=fun x hx=>by simpa using hx
 exact {
  nQ:=fun x hx=>by
   rcases GN x hx with z | z
   ·obtain ⟨y,hy,_,k,_⟩:=pairs x z
    rw [k.len]
    exact h.nQ y hy
   ·subst z
    exact ll
  iD:=fun l hl=>by
   obtain ⟨x,hx,k,_⟩:=ML.ex hl
   rw [k.len]
   exact h.iD x (sY x hx)
  cols:=fun x hx=>by
   rcases GN x hx with z | z
   ·obtain ⟨y,hy,e,_⟩:=pairs x z
    rw [← e]
    exact agM (h.cols y hy)
   ·subst z
    exact af4 _
  asc:=by
   rw [afG,hk,List.pairwise_append]
   refine ⟨h.asc,by simp,fun a ha b' gX => ?_⟩
   obtain ⟨x,hx,rfl⟩:=afr.mp ha
   have:b' =c:=by simpa using gX
   subst this
   exact h.cols x hx
  here:=fun x hx=>by
   rcases GN x hx with z | z
   ·obtain ⟨y,hy,e,k,_⟩:=pairs x z
    rw [← e]
    exact k.at (lz _ (h.cols y hy)) (h.here y hy)
   ·subst z
    exact hc
  off:=fun x hx y hy ne=>by
   rcases GN x hx with z | z <;> rcases GN y hy with u | u
   ·obtain ⟨x0,Pu,e0,k0,_⟩:=pairs x z
    obtain ⟨y0,uN,e1,_⟩:=pairs y u
    rw [← e1]
    exact k0.zero (h.off x0 Pu y0 uN (by rw [e0,e1];exact ne)) (lz _ (h.cols y0 uN))
   ·subst u
    obtain ⟨x0,Pu,e0,k0,_⟩:=pairs x z
    exact k0.AU
   ·subst z
    obtain ⟨y0,uN,e1,_⟩:=pairs y u
    rw [← e1]
    exact lz _ (h.cols y0 uN)
   ·subst z
    subst u
    exact absurd rfl ne
  low:=fun x hx j hj=>by
   rcases GN x hx with z | z
   ·obtain ⟨y,hy,e,k,_⟩:=pairs x z
    rw [← e] at hj
    exact k.zero (h.low y hy j hj) (lz j (apF hj (h.cols y hy)))
   ·subst z
    exact lz j hj
  zero:=fun l hl j hj=>by
   obtain ⟨x,hx,k,_⟩:=ML.ex hl
   rcases af6.mp hj with z | z
   ·exact k.zero (h.zero x (sY x hx) j z) (lz j z)
   ·subst z
    exact k.AU
  sX:=fun x hx=>by
   rcases GN x hx with z | z
   ·obtain ⟨y,hy,_,k,_⟩:=pairs x z
    exact k.comb (h.sX y hy) (h.i9 lead fH)
   ·subst z
    exact h.i9 lead fH
  i9:=fun l hl=>by
   obtain ⟨x,hx,k,_⟩:=ML.ex hl
   exact k.comb (h.i9 x (sY x hx)) (h.i9 lead fH)
  sol:=fun z=>by
   rw [← h.sol z]
   constructor
   ·rintro ⟨a1,a2⟩
    have az:ev lead z=0:=a1 (c,lead) (by simp)
    refine ⟨fun x hx=> ?_,fun l hl=> ?_⟩
    ·obtain ⟨x',DU,_,k⟩:=back x hx
     exact (k.ev (by rw [ll,h.nQ x hx]) az).mp (a1 x' (by simp [DU]))
    ·rcases zH l hl with u | u
     ·rw [u]
      exact az
     ·obtain ⟨y,hy,k,_⟩:=ML.all u
      exact (k.ev (by rw [ll,h.iD l hl]) az).mp (a2 y hy)
   ·rintro ⟨a1,a2⟩
    have az:=a2 lead fH
    refine ⟨fun x hx=> ?_,fun l hl=> ?_⟩
    ·rcases GN x hx with u | u
     ·obtain ⟨y,hy,_,k,_⟩:=pairs x u
      exact (k.ev (by rw [ll,h.nQ y hy]) az).mpr (a1 y hy)
     ·subst u
      exact az
    ·obtain ⟨x,hx,k,_⟩:=ML.ex hl
     exact (k.ev (by rw [ll,h.iD x (sY x hx)]) az).mpr (a2 x (sY x hx))
  GK:=fun x hx=>by
   rcases GN x hx with z | z
   ·obtain ⟨y,hy,_,_,k⟩:=pairs x z
    exact k
   ·subst z
    exact (h.D_ lead fH).up (by omega)
  D_:=fun l hl=>by
   obtain ⟨x,hx,_,k⟩:=ML.ex hl
   exact k
  cnt:=by
   have a:=ML.len
   have b:=h.cnt
   rw [afq,XZ]
   simp
   omega}
def oP (H:Hp)(kvs:List (Key×V))(nd:List (Nat×List Int)):Prop:=kvs.length=nd.length∧∀(i:Nat) (kv:Key×V) (x:Nat×List Int),kvs[i]? =some kv→nd[i]? =some x→kv.1=.inl (x.1:Int)∧Ln H kv.2 x.2
theorem oP.same {H H' :Hp}{kvs:List (Key×V)}{nd:List (Nat×List Int)}(h:oP H kvs nd)(s:aq H H'):oP H' kvs nd:=⟨h.1,fun i kv x e1 e2=>⟨(h.2 i kv x e1 e2).1,(h.2 i kv x e1 e2).2.same s⟩⟩
theorem Ln.put {H:Hp}{v:V}{l:List Int}{d:Addr}{kvs:List (Key×V)}{o:HO}(h:Ln H v l)(e:H d=some (.dK kvs)):Ln (upd H d o) v l:=by
 obtain ⟨p,e1,k⟩:=h
 exact ⟨p,e1,by rw [aj (fun z=>by rw [z,e] at k;cases k)];exact k⟩
theorem nq.put {H:Hp}{us:List V}{ls:List (List Int)}{d:Addr}{kvs:List (Key×V)}{o:HO}(h:nq H us ls)(e:H d=some (.dK kvs)):nq (upd H d o) us ls:=⟨h.1,fun i u l e1 e2=>(h.2 i u l e1 e2).put e⟩
theorem oP.put {H:Hp}{kvs kv2:List (Key×V)}{nd:List (Nat×List Int)}{d:Addr}{o:HO}(h:oP H kvs nd)(e:H d=some (.dK kv2)):oP (upd H d o) kvs nd:=⟨h.1,fun i kv x e1 e2=>⟨(h.2 i kv x e1 e2).1,(h.2 i kv x e1 e2).2.put e⟩⟩
theorem i_ {H H' :Hp}{d:Addr}{o:HO}(s:aq H H')(n:H d=none):aq H (upd H' d o):=fun b o' e=>by
 rw [aj (fun z=>by rw [z,n] at e;cases e)]
 exact s _ _ e
theorem oP.at {H:Hp}{kvs:List (Key×V)}{nd:List (Nat×List Int)}(h:oP H kvs nd){i:Nat}{x:Nat×List Int}(e:nd[i]? =some x):∃v,kvs[i]? =some (.inl (x.1:Int),v)∧Ln H v x.2:=by
 have hi:i < nd.length:=(ir.mp e).1
 have hl:=h.1
 have e2:kvs[i]? =some (kvs[i]'(by omega)):=gE (by omega)
 obtain ⟨a,b⟩:=h.2 i _ x e2 e
 exact ⟨(kvs[i]'(by omega)).2,by rw [e2, ← a],b⟩
theorem oP.keys {H:Hp}{kvs:List (Key×V)}{nd:List (Nat×List Int)}(h:oP H kvs nd):kvs.map (·.1)=nd.map (fun x=>(ag' (x.1:Int):Key)):=by
 refine af0 fun i=> ?_
 have hl:=h.1
 rw [aa_,aa_]
 by_cases hi:i < nd.length
 ·have e:nd[i]? =some nd[i]:=gE hi
  obtain ⟨v,e2,_⟩:=h.at e
  rw [e,e2]
  rfl
 ·rw [ae_ (by omega),ae_ (by omega)]
  rfl
theorem qm {k:Key}{v:V}:∀{kvs:List (Key×V)} {i:Nat},(kvs.map (·.1)).Nodup→kvs[i]? =some (k,v)→bV kvs k=some v
 | [],_,_,e=>by simp at e
 | p::r,0,_,e=>by
  cases e
  exact bJ (p:=(k,v)) rfl
 | p::r,i+1,n,e=>by
  rw [afp,afX] at n
  have e' :r[i]? =some (k,v):=by simpa using e
  have ne:¬ p.1=k:=fun z=>n.1 (by rw [z];exact afr.mpr ⟨(k,v),abt e',rfl⟩)
  rw [bu ne]
  exact qm n.2 e'
theorem vP {k:Key}:∀{kvs:List (Key×V)},k∉kvs.map (·.1)→bV kvs k=none
 | [],_=>rfl
 | p::r,h=>by
  have h' :k≠p.1∧k∉r.map (·.1):=by simpa using h
  rw [bu (fun z=>h'.1 z.symm)]
  exact vP h'.2
theorem map_put {k:Key}{v v' :V}:∀{kvs:List (Key×V)} {i:Nat},(kvs.map (·.1)).Nodup→kvs[i]? =some (k,v)→kvs.map (fun kv=>if kv.1=k then (kv.1,v') else kv)=kvs.set i (k,v')
 | [],_,_,e=>by simp at e
 | p::r,0,n,e=>by
  rw [afp,afX] at n
  cases e
  have hr:r.map (fun kv=>if kv.1=k then (kv.1,v') else kv)=r:=by
   refine (af5 (fun q hq=> ?_)).trans (List.map_id r)
   have ne:¬ q.1=k:=fun z=>n.1 (by show k∈_;rw [← z];exact afr.mpr ⟨q,hq,rfl⟩)
   rw [if_neg ne]
   rfl
  rw [afp,hr,if_pos rfl,apv]
 | p::r,i+1,n,e=>by
  rw [afp,afX] at n
  have e' :r[i]? =some (k,v):=by simpa using e
  have ne:¬ p.1=k:=fun z=>n.1 (by rw [z];exact afr.mpr ⟨(k,v),abt e',rfl⟩)
  rw [afp,if_neg ne,map_put n.2 e',apw]
theorem GO {k:Key}{v v' :V}{kvs:List (Key×V)}{i:Nat}(n:(kvs.map (·.1)).Nodup)(e:kvs[i]? =some (k,v)):putK kvs k v' =kvs.set i (k,v'):=by
 unfold putK
 rw [fB,qm n e]
 exact map_put n e
theorem oP.set {H:Hp}{kvs:List (Key×V)}{nd:List (Nat×List Int)}(h:oP H kvs nd){i c:Nat}{v:V}{l:List Int}(hv:Ln H v l):oP H (kvs.set i (.inl (c:Int),v)) (nd.set i (c,l)):=by
 have hl:=h.1
 refine ⟨by simp [hl],fun j kv x e1 e2=> ?_⟩
 rw [afZ] at e1 e2
 by_cases z:i=j
 ·subst z
  rw [if_pos rfl] at e1 e2
  by_cases hi:i < kvs.length
  ·rw [if_pos hi] at e1
   rw [if_pos (by omega)] at e2
   cases e1
   cases e2
   exact ⟨rfl,hv⟩
  ·rw [if_neg hi] at e1
   cases e1
 ·rw [if_neg z] at e1 e2
  exact h.2 j kv x e1 e2
theorem oP.snoc {H:Hp}{kvs:List (Key×V)}{nd:List (Nat×List Int)}(h:oP H kvs nd){c:Nat}{v:V}{l:List Int}(hv:Ln H v l):oP H (kvs++[(.inl (c:Int),v)]) (nd++[(c,l)]):=by
 have hl:=h.1
 refine ⟨by simp [hl],fun j kv x e1 e2=> ?_⟩
 by_cases z:j < kvs.length
 ·rw [afv z] at e1
  rw [afv (by omega)] at e2
  exact h.2 j kv x e1 e2
 ·rw [afy (by omega)] at e1 e2
  rw [← hl] at e2
  by_cases y:j - kvs.length=0
  ·rw [y] at e1 e2
   cases e1
   cases e2
   exact ⟨rfl,hv⟩
  ·rw [ae_ (by simp;omega)] at e1
   cases e1
theorem keys_nodup:∀{nd:List (Nat×List Int)},(nd.map (·.1)).Pairwise (· < ·)→(nd.map (fun x=>(ag' (x.1:Int):Key))).Nodup
 | [],_=>by simp
 | x::r,h=>by
  rw [afp,List.pairwise_cons] at h
  rw [afp,afX]
  refine ⟨fun z=> ?_,keys_nodup h.2⟩
  obtain ⟨y,hy,e⟩:=afr.mp z
  have e' :(y.1:Int)=x.1:=apQ e
  have:=h.1 y.1 (afr.mpr ⟨y,hy,rfl⟩)
  omega
def bb (b:Nat):Nat→Nat
 | 0=>b
 | k+1=>2*bb b k+1
theorem BN (b:Nat):∀k,bb b k+1=2^k*(b+1)
 | 0=>by simp [bb]
 | k+1=>by
  have:=BN b k
  show 2*bb b k+1+1=_
  rw [ag5,Nat.mul_right_comm, ← this]
  omega
theorem ja (b:Nat){k m:Nat}(h:k≤m):bb b k≤bb b m:=by
 have e1:=BN b k
 have e2:=BN b m
 have:2^k*(b+1)≤2^m*(b+1):=afR _ (afP (by decide) h)
 omega
theorem vQ {xs:List V}{i:Nat}(h:i≤xs.length):d9 xs none (some (i:Int))=xs.take i:=by
 unfold d9
 rw [HT.kX,HT.rG,ag2 h]
 rfl
theorem oQ {xs:List V}{i:Nat}(h:i≤xs.length):d9 xs (some (i:Int)) none=xs.drop i:=by
 unfold d9
 rw [HT.kX,HT.rG,ag2 h]
 exact agq (by simp)
theorem Red.up {os:List (List Int)}{L c b b' :Nat}{nd:List (Nat×List Int)}{lv:List (List Int)}(h:Red os L c b nd lv)(hb:b≤b'):Red os L c b' nd lv:={h with GK:=fun x hx=>(h.GK x hx).up hb,D_:=fun x hx=>(h.D_ x hx).up hb}
theorem nq.erase {H:Hp}{us:List V}{ls:List (List Int)}(h:nq H us ls)(j:Nat):nq H (us.eraseIdx j) (ls.eraseIdx j):=by
 have hl:=h.1
 refine ⟨by rw [agZ,agZ,hl],fun i u l e1 e2=> ?_⟩
 rw [agP] at e1 e2
 by_cases z:i < j
 ·rw [if_pos z] at e1 e2
  exact h.2 _ _ _ e1 e2
 ·rw [if_neg z] at e1 e2
  exact h.2 _ _ _ e1 e2
theorem jU {α β:Type}{P:Nat→α→β→Prop}:∀(xs:List α),(∀i x,xs[i]? =some x→∃y,P i x y)→∃ys:List β,ys.length=xs.length∧∀i x y,xs[i]? =some x→ys[i]? =some y→P i x y
 | [],_=>⟨[],rfl,fun i x y e=>by simp at e⟩
 | x::xs,h=>by
  obtain ⟨y,hy⟩:=h 0 x rfl
  obtain ⟨ys,hl,hp⟩:=jU (P:=fun i=>P (i+1)) xs (fun i x e=>h (i+1) x (by simpa using e))
  refine ⟨y::ys,by simp [hl],fun i x' y' e1 e2=> ?_⟩
  cases i with
  | zero=>
   cases e1
   cases e2
   exact hy
  | succ i=>exact hp i x' y' (by simpa using e1) (by simpa using e2)
inductive jV (K:Frag)(vs:List V)(H:Hp)(Q:VK)(E_:XK):Prop where
 | mk (a:Addr) (us:List V) (os:List (List Int:_)) (L m b:Nat) (_:vs=[.ref a,.int (m:Int)]) (_:aR K H a us) (_:nq H us os) (_:(∀o∈os,o.length=L)) (_:m≤L) (_:L≤1000) (_:os.length≤1000) (_:(∀o∈os,Bd b o)) (_:bb b (min m os.length)≤29000000) (_:∀(p d a' :Addr) (kvs:List (Key×V)) (jI :List V) (nd:List (Nat×List Int)) (lv:List (List Int)) (H' :Hp),aq H H' →H d=none→H p=none→H' p=some (.tup [.ref d,.ref a'])→H' d=some (.dK kvs)→aR K H' a' jI →oP H' kvs nd→nq H' jI lv→Red os L m (bb b (min m os.length)) nd lv→Q (.ref p) H'):jV K vs H Q E_
theorem kq:ay ["lines","many","needed","left","column","at","lead","place"] ["lines","many"] (af xJ):=sq
theorem Pw (D:Def K mg "reduced" xJ ["lines","many"])(bw:mg "range"=none)(bX:mg "list"=none)(X0:Fn P w K mg base (aX P w) 1 "first_not_nought" ["lines","column"] (qk K))(Px:Fn P w K mg base (aX P w) 34 "cleared" ["line","lead","column"] jT):Fn P w K mg base (aX P w) 35 "reduced" ["lines","many"] (jV K):=by
 refine D.ok kq (fun vs H Q E h=> ?_) (fun f bf A outer s H vs Q E hr h=> ?_)
 ·obtain ⟨a,us,os,L,m,b,rfl,_⟩:=h
  rfl
 obtain ⟨a,us,os,L,m,b,rfl,hS,hL,hlen,hm,LW,ho,hB,hb,q⟩:=h
 refine ⟨_,(ae (aG (i:=2) kq.nd rfl (ab_ rfl) ef)
  (ae (aG (i:=3) kq.nd rfl (ab_ rfl) (pv 0))
  (ae (bh PassesOwn.never rfl (b9 rfl bw (ao (pv 1) aa)) (au (i:=4) kq.nd rfl (afT rfl)) (ae (aG (i:=5) kq.nd rfl (ab_ rfl) (aA X0 hr.mo pX (ao (pv 3) (ao (pv 4) aa))))
   (ae (ba (aJ zk (pv 5) lM (aQ _)) (ah rj) aI)
   (ae (aG (i:=6) kq.nd rfl (afT rfl) (aT aS (pv 3) (pv 5) (fun _ _=>rfl)))
   (ae (fU (i:=3) kq.nd rfl (ab_ rfl) (tn:=["line"]) (fr:=["lead","column"]) (caps:=[6,4]) rfl ⟨rfl,by decide+kernel,rfl,by decide+kernel,by decide+kernel,rfl,⟨(by first | exact ab_ rfl | exact afT rfl),⟨(by first | exact ab_ rfl | exact afT rfl),trivial⟩⟩,⟨(by first | exact ab_ rfl | exact afT rfl),⟨(by first | exact ab_ rfl | exact afT rfl),trivial⟩⟩⟩ (aY (aO jH (d7 iT (pv 3) gT (eQ (pv 5))) (d7 iT (pv 3) (eQ (aO b7 (pv 5) ag)) gT))) (fun _ _ _ _=>(au (i:=0) (show (["line","lead","column"]:List Str).Nodup from by decide+kernel) rfl (ab_ rfl))) (fun _ _ _ _=>bT) (fun _ _ _ _=>(aA Px hr.mo (mx (by first | assumption | exact aX.kG) rfl) (ao (pv 0) (ao (pv 1) (ao (pv 2) aa))))))
   (ae (bh PassesOwn.never rfl (aY (cG (dr rfl) rfl bX fQ (ao (pv 2) aa))) (au (i:=7) kq.nd rfl (ab_ rfl)) (ah (fW (bN hr) (pv 2) (pv 7) (aA Px hr.mo pX (ao (bM (bN hr) (pv 2) (pv 7) (fun _ _=>rfl)) (ao (pv 6) (ao (pv 4) aa)))) rfl)))
   (ah (fW (bN hr) (pv 2) (pv 4) (pv 6) rfl))))))))
  (ah (aw (aV (ao (pv 2) (ao (pv 3) aa)))))))),?_⟩
 refine fun d Nz=> ?_
 have s0:aq H (upd H d (.dK [])):=aC Nz _
 refine ⟨_,rfl,_,rfl,_,rfl,by omega,by omega,?_⟩
 refine cn (lo:=0) (n:=m) (fun i σ H' =>∃(al:Addr) (mN:List V) (kvs:List (Key×V)) (nd:List (Nat×List Int)) (lv:List (List Int)) (o4 o5 o6 o7:Option V),σ=[some (.ref a),some (.int (m:Int)),some (.ref d),some (.ref al),o4,o5,o6,o7]∧aq H H' ∧H' d=some (.dK kvs)∧aR K H' al mN∧nq H' mN lv∧oP H' kvs nd∧nd.length≤i∧Red os L i (bb b nd.length) nd lv)
  ⟨a,us,[],[],os,none,none,none,none,rfl,s0,ai,s0.seq hS,hL.same s0,⟨rfl,by simp⟩,ad_ _,Red.start hlen hB⟩ ?_ ?_
 ·rintro i σ H1 hi ⟨al,mN,kvs,nd,lv,o4,o5,o6,o7,rfl,s1,hd,Kg,yw,hN,hni,R⟩
  refine ⟨_,rfl,_,rfl,al,mN,lv,i,by rw [af1];rfl,Kg,yw,fun l hl=>by rw [R.iD l hl];omega,fun j lead H2 s2 ej hj=> ?_,fun hz H2 s2=> ?_⟩
  ·have hjl:j < lv.length:=(ir.mp ej).1
   have hul:=yw.1
   have cnt:=R.cnt
   have We:bb b nd.length≤29000000:=ac_ (ja b (by omega)) hb
   have hd2:=s2 _ _ hd
   have Ph:=s2.seq Kg
   have Kh:=yw.same s2
   have X2:=hN.same s2
   obtain ⟨u,eu,hu⟩:=Kh.at' ej
   have fH:lead∈lv:=abt ej
   refine ⟨_,rfl,rfl,_,rfl,?_⟩
   refine a8 (fun z=>by simp at z) (fun _=> ?_)
   refine ⟨_,rfl,_,rfl,al,_,_,_,rfl,rfl,Ph,bH eu,?_⟩
   refine ⟨_,rfl,_,rfl,_,rfl,al,mN,rfl,Ph,fun p1 n1=> ?_⟩
   have t1:=aC n1 (.lst (d9 mN none (some (j:Int))))
   refine ⟨_,rfl,_,rfl,_,_,rfl,rfl,_,rfl,al,mN,rfl,t1.seq Ph,fun p2 n2=> ?_⟩
   have t2:=aC n2 (.lst (d9 mN (some ((j:Int)+1)) none))
   have Py:d9 mN none (some (j:Int))++d9 mN (some ((j:Int)+1)) none=mN.eraseIdx j:=by
    rw [vQ (by omega),show ((j:Int)+1)=((j+1:Nat):Int) from by omega,oQ (by omega),List.eraseIdx_eq_take_drop_succ]
   have X3:(d9 mN none (some (j:Int))).length+(d9 mN (some ((j:Int)+1)) none).length≤sizeLine:=by
    rw [← afq,Py]
    exact ac_ (ac_ (al_ ..) (show mN.length≤1000 by omega)) (by decide)
   refine ⟨p1,p2,_,_,rfl,rfl,t2 _ _ ai,ai,X3,fun p3 n3=> ?_⟩
   have t3:=aC n3 (.lst (d9 mN none (some (j:Int))++d9 mN (some ((j:Int)+1)) none))
   refine ⟨p3,rfl,⟨_,aR.of ai⟩,fun D nD=> ?_⟩
   have tt:=(t1.trans t2).trans t3
   have hE:=(Kh.same tt).erase j
   have Wf:=hu.same tt
   have er:(mN.eraseIdx j).length≤1000:=ac_ (al_ ..) (show mN.length≤1000 by omega)
   refine mC (cap:=[some u,some (.int ((0:Int)+i))]) (K:=K) (a:=p3) (xs:=mN.eraseIdx j) (fun k v H=>∃x y p,(lv.eraseIdx j)[k]? =some x∧v=.ref p∧p≠D∧H p=some (.lst (y.map V.int))∧sJ x lead y i∧Bd (2*bb b nd.length+1) y) nD (afs er (by decide)) (fun H3 s3=>aR.of (s3 _ _ (by rw [ai,Py]))) ?_ ?_ ?_
   ·rintro k v H3 H4 ys hD3 ks ⟨x,y,p,e1,e2,e3,e4,e5⟩
    exact ⟨x,y,p,e1,e2,e3,ks _ _ e3 e4,e5⟩
   ·rintro k x H3 RR ex s3 ⟨ys0,X4⟩ kk
    obtain ⟨l,el,hl⟩:=hE.at ex
    have xa:l∈lv:=aj_ (abt el)
    have hll:=R.iD l xa
    have X5:=R.iD lead fH
    refine ⟨_,rfl,_,rfl,_,rfl,x,u,l,lead,i,bb b nd.length,bb b nd.length,by rw [af1];rfl,hl.same s3,Wf.same s3,by rw [hll,X5],by omega,by omega,hj,R.D_ l xa,R.D_ lead fH,We,We,fun v' l' H4 s4 L4 cl bd fr=> ?_⟩
    obtain ⟨p,e1,e2⟩:=L4
    refine kk v' H4 s4 ⟨l,l',p,el,e1,?_,e2,cl,by rw [Nat.two_mul];exact bd⟩
    rcases fr with z | ⟨p',z,n⟩
    ·obtain ⟨px',z1,z2⟩:=hl
     rw [z1,e1] at z
     cases z
     exact ak z2 nD
    ·rw [e1] at z
     cases z
     exact fun y=>by rw [y,X4] at n;cases n
   ·intro ys H3 hy eA s3 hD
    obtain ⟨GL,XZ,hp⟩:=jU (P:=fun k v y=>∃x p,(lv.eraseIdx j)[k]? =some x∧v=.ref p∧p≠D∧H3 p=some (.lst (y.map V.int))∧sJ x lead y i∧Bd (2*bb b nd.length+1) y) ys (fun k v e=>by
     obtain ⟨x,y,p,r⟩:=eA k v e
     exact ⟨y,x,p,r⟩)
    have hLn:nq H3 ys GL :=⟨XZ.symm,fun k v y e1 e2=>by
     obtain ⟨x,p,_,e,_,r,_⟩:=hp k v y e1 e2
     exact ⟨p,e,r⟩⟩
    have les:(mN.eraseIdx j).length=(lv.eraseIdx j).length:=hE.1
    have ML:Made os lead i (2*bb b nd.length+1) (lv.eraseIdx j) GL :=⟨by omega,fun k x e=>by
     have hk:k < (lv.eraseIdx j).length:=(ir.mp e).1
     have e1:ys[k]? =some (ys[k]'(by omega)):=gE (by omega)
     have e2:GL[k]? =some (GL[k]'(by omega)):=gE (by omega)
     obtain ⟨x',p,r1,_,_,_,r2⟩:=hp k _ _ e1 e2
     rw [e] at r1
     cases r1
     exact ⟨_,e2,r2⟩⟩
    have qj:=tt.trans s3
    have X6:=qj _ _ hd2
    have hN3:=X2.same qj
    have hu4:=Wf.same s3
    refine ⟨_,rfl,d,kvs,rfl,Rd.of X6,fun l3 n3=> ?_⟩
    have t4:=aC n3 (.lst (kvs.map fun kv=>kV kv.1))
    refine ⟨l3,rfl,⟨_,aR.of ai⟩,?_⟩
    have dl:d≠l3:=ak X6 n3
    refine bI (K:=K) (a:=l3) (xs:=kvs.map fun kv=>kV kv.1) (fun t σ H' =>∃(o7:Option V) (qo :List (Key×V)) (lD :List (Nat×List Int)),σ=[some (.ref a),some (.int (m:Int)),some (.ref d),some (.ref D),some (.int ((0:Int)+i)),some (.int (j:Int)),some u,o7]∧aq H H' ∧H' d=some (.dK qo)∧H' l3=some (.lst (kvs.map fun kv=>kV kv.1))∧H' D=some (.lst ys)∧nq H' ys GL ∧Ln H' u lead∧oP H' qo lD ∧lD.map (·.1)=nd.map (·.1)∧
      ∀(k:Nat) (x:Nat×List Int),nd[k]? =some x→∃y,lD[k]? =some (x.1,y)∧(t≤k→y=x.2)∧(k < t→sJ x.2 lead y i∧Bd (2*bb b nd.length+1) y))
     ⟨_,kvs,nd,rfl,((s1.trans s2).trans qj).trans t4,t4 _ _ X6,ai,t4 _ _ hD,hLn.same t4,hu4.same t4,hN3.same t4,rfl,fun k x e=>⟨x.2,e,fun _=>rfl,fun z=>absurd z (agd _)⟩⟩ (fun t σ H' _ h=>by
      obtain ⟨_,_,_,_,_,_,h,_⟩:=h
      exact aR.of h) ?_ ?_
    ·rintro t u7 σ H4 hu7 ⟨o7,qo,lD,rfl,s4,yx,hl4,Pz,X7,Wg,D',LX,PD⟩
     rw [aa_] at hu7
     obtain ⟨kv,LY,rfl⟩:=afu.mp hu7
     have XB:t < kvs.length:=(ir.mp LY).1
     have hnl:=hN.1
     have ex:nd[t]? =some (nd[t]'(by omega)):=gE (by omega)
     obtain ⟨x,hx⟩:∃x,nd[t]? =some x:=⟨_,ex⟩
     obtain ⟨kx,hxm⟩:kv.1=.inl (x.1:Int)∧x∈nd:=⟨(hN3.2 t kv x LY hx).1,abt hx⟩
     obtain ⟨y,ey,y1,_⟩:=PD t x hx
     have y2:=y1 (ad_ _)
     subst y2
     obtain ⟨v,ev,hv⟩:=D'.at ey
     have nk:(qo.map (·.1)).Nodup:=by
      rw [D'.keys]
      exact keys_nodup (by rw [LX];exact R.asc)
     have vat:=qm nk ev
     have hxl:=R.nQ x hxm
     have X5:=R.iD lead fH
     have dg:cH H4 d (kV kv.1) (some v):=by
      rw [kx, ← vat]
      exact cH.k yx
     refine ⟨_,rfl,_,rfl,d,v,rfl,dg,_,rfl,_,rfl,v,u,x.2,lead,i,bb b nd.length,bb b nd.length,by rw [af1];rfl,hv,Wg,by rw [hxl,X5],by omega,by omega,hj,R.GK x hxm,R.D_ lead fH,We,We,fun v' l' H5 s5 L5 cl bd fr=> ?_⟩
     have LZ:=s5 _ _ yx
     have l4' :=D'.1
     have X8 :lD.length=nd.length:=by simpa using congrArg ago LX
     refine ⟨_,rfl,_,rfl,d,_,rfl,kJ.k LZ (afs (show qo.length≤1000 by omega) (by decide)),?_⟩
     rw [kx,GO nk ev]
     have dn:d≠D:=fun z=>by rw [z,Pz] at yx;cases yx
     refine ⟨_,qo.set t (.inl (x.1:Int),v'),lD.set t (x.1,l'),rfl,i_ (s4.trans s5) Nz,ai,by rw [aj (afO dl)];exact s5 _ _ hl4,by rw [aj (afO dn)];exact s5 _ _ Pz,(X7.same s5).put LZ,(Wg.same s5).put LZ,((D'.same s5).set L5).put LZ,?_,fun k x' ek=> ?_⟩
     ·rw [List.map_set,LX]
      refine af0 fun k=> ?_
      rw [afZ]
      by_cases z:t=k
      ·subst z
       rw [if_pos rfl,if_pos (by simp;omega),aa_,hx]
       rfl
      ·rw [if_neg z]
     ·obtain ⟨y',Wd,a1,a2⟩:=PD k x' ek
      by_cases z:t=k
      ·subst z
       rw [hx] at ek
       cases ek
       refine ⟨l',by rw [afZ,if_pos rfl,if_pos (by omega)],fun w=>by omega,fun _=>⟨cl,by rw [Nat.two_mul];exact bd⟩⟩
      ·exact ⟨y',by rw [afZ,if_neg z];exact Wd,fun w=>a1 (by omega),fun w=>a2 (by omega)⟩
    ·rintro σ H4 ⟨o7,qo,lD,rfl,s4,yx,hl4,Pz,X7,Wg,D',LX,PD⟩
     have l4' :=D'.1
     have X8 :lD.length=nd.length:=by simpa using congrArg ago LX
     have hnl:=hN.1
     rw [Wp] at PD
     have MN:Made os lead i (2*bb b nd.length+1) (nd.map (·.2)) (lD.map (·.2)):=⟨by simp [X8],fun k x e=>by
      rw [aa_] at e
      obtain ⟨x0,e0,rfl⟩:=afu.mp e
      have hk:k < nd.length:=(ir.mp e0).1
      obtain ⟨y,ey,_,a2⟩:=PD k x0 e0
      exact ⟨y,by rw [aa_,ey];rfl,a2 (by omega)⟩⟩
     have Xg:bV qo (.inl ((0:Int)+i))=none:=vP (fun z=>by
      rw [D'.keys] at z
      obtain ⟨x',DU,e⟩:=afr.mp z
      have e1:(x'.1:Int)=0+i:=apQ e
      have:x'.1∈nd.map (·.1):=by rw [← LX];exact afr.mpr ⟨x',DU,rfl⟩
      obtain ⟨x,hx,e2⟩:=afr.mp this
      have:=R.cols x hx
      omega)
     refine ⟨_,rfl,_,rfl,_,rfl,d,_,rfl,kJ.k (k:=.inl ((0:Int)+i)) yx (afs (show qo.length≤1000 by omega) (by decide)),?_⟩
     rw [c8 u Xg]
     have dn:d≠D:=fun z=>by rw [z,Pz] at yx;cases yx
     have X9:∀l∈lv.eraseIdx j,l∈lv:=fun l h=>aj_ h
     have X_:∀l∈lv,l=lead∨l∈lv.eraseIdx j:=fun l h=>by
      obtain ⟨k,ek⟩:=afE h
      rcases Nat.lt_trichotomy k j with z | z | z
      ·exact .inr (abt (i:=k) (by rw [agP,if_pos z];exact ek))
      ·subst z
       rw [ej] at ek
       cases ek
       exact .inl rfl
      ·exact .inr (abt (i:=k - 1) (by rw [agP,if_neg (by omega),show k - 1+1=k by omega];exact ek))
     have X':(lv.eraseIdx j).length+1=lv.length:=by rw [agZ,if_pos hjl];omega
     have R2:=R.step fH X9 X_ X' hj ML LX MN
     refine ⟨D,ys,_,lD ++[(i,lead)],GL,_,_,_,_,rfl,i_ s4 Nz,ai,aR.of (by rw [aj (afO dn)];exact Pz),X7.put yx,(by rw [af1];exact (D'.snoc Wg).put yx),by simp;omega,?_⟩
     rw [afq,X8]
     exact R2
  ·refine ⟨_,rfl,rfl,_,rfl,?_⟩
   refine a8 (fun _=> ?_) (fun z=>by simp at z)
   exact ⟨al,mN,kvs,nd,lv,_,_,_,_,rfl,s1.trans s2,s2 _ _ hd,s2.seq Kg,yw.same s2,hN.same s2,by omega,R.skip hz⟩
 ·rintro σ H1 ⟨al,mN,kvs,nd,lv,o4,o5,o6,o7,rfl,s1,hd,Kg,yw,hN,hni,R⟩
  refine ⟨_,rfl,_,rfl,(by show 2≤sizeLine;decide),fun p np=> ?_⟩
  have sp:=aC np (.tup [.ref d,.ref al])
  have cnt:=R.cnt
  exact q p d al kvs mN nd lv _ (s1.trans sp) Nz (s1.free np) ai (sp _ _ hd) (sp.seq Kg) (hN.same sp) (yw.same sp) (R.up (ja b (by omega)))
theorem vR {t b:Int}{T B:Nat}(hb:b≠0)(h1:t.natAbs≤2^T)(h2:b.natAbs≤2^B):Sm T B (low t b):=⟨iW hb,kZ hb,ac_ (lX hb) h1,ac_ (lY hb) h2⟩
theorem jb {l:List Int}{j:Nat}(h:l.length≤j):l.getD j 0=0:=by
 rw [afF,ae_ h]
 rfl
def sZ (m t:Nat)(nd:List (Nat×List Int))(qs:List (Int×Int)):Prop:=qs.length=m∧(∀i,i < t→∀x,nd[i]? =some x→qs[x.1]? =some (low (x.2.getD m 0) (x.2.getD x.1 0)))∧∀j,j < m→(∀i,i < t→∀x,nd[i]? =some x→x.1≠j)→qs[j]? =some (0,1)
theorem sZ.sm {os:List (List Int)}{m b:Nat}{nd:List (Nat×List Int)}{lv:List (List Int)}{qs:List (Int×Int)}(R:Red os (m+1) m b nd lv)(F:sZ m nd.length nd qs):∀q∈qs,Sm b b q:=by
 intro q hq
 obtain ⟨j,hj⟩:=afE hq
 have hjm:j < m:=by have:=(ir.mp hj).1;rw [← F.1];exact this
 by_cases c:∃(i:Nat) (x:Nat×List Int),nd[i]? =some x∧x.1=j
 ·obtain ⟨i,x,e,rfl⟩:=c
  have hi:i < nd.length:=(ir.mp e).1
  have h1:=F.2.1 i hi x e
  rw [hj] at h1
  cases h1
  have hm:=abt e
  exact vR (R.here x hm) (R.GK x hm m) (R.GK x hm x.1)
 ·have h1:=F.2.2 j hjm (fun i _ x e z=>c ⟨i,x,e,z⟩)
  rw [hj] at h1
  cases h1
  exact ⟨by decide,by decide,afU _,apx⟩
theorem sZ.sol {os:List (List Int)}{m b:Nat}{nd:List (Nat×List Int)}{lv:List (List Int)}{qs:List (Int×Int)}(R:Red os (m+1) m b nd lv)(F:sZ m nd.length nd qs)(hz:∀l∈lv,l.getD m 0=0):∀o∈os,ev o (kh (qs.map vl))=0:=by
 have ql:=F.1
 have zl:∀j q,qs[j]? =some q→kh (qs.map vl) j=vl q:=fun j q e=>by
  have hj:j < qs.length:=(ir.mp e).1
  unfold kh
  rw [if_pos (by rw [Wp];exact hj),afF,aa_,e]
  rfl
 have zm:kh (qs.map vl) m= -1:=by
  unfold kh
  rw [if_neg (by rw [Wp];omega)]
 refine (R.sol _).mp ⟨fun x hx=> ?_,fun l hl=> ?_⟩
 ·obtain ⟨i,e⟩:=afE hx
  have hi:i < nd.length:=(ir.mp e).1
  have hc:=R.cols x hx
  have hh:=R.here x hx
  have h1:=F.2.1 i hi x e
  have zc:=zl _ _ h1
  rw [qd hh] at zc
  have other:∀j,j≠x.1→j≠m→((x.2.getD j 0:Int):Rat)*kh (qs.map vl) j=0:=by
   intro j n1 n2
   by_cases hj:j < m
   ·by_cases c:∃(i:Nat) (x:Nat×List Int),nd[i]? =some x∧x.1=j
    ·obtain ⟨i',y,e',rfl⟩:=c
     rw [R.off x hx y (abt e') (afO n1)]
     simp
    ·have h2:=F.2.2 j hj (fun i _ x e z=>c ⟨i,x,e,z⟩)
     rw [zl _ _ h2]
     unfold vl
     simp
     grind
   ·rw [jb (by rw [R.nQ x hx];omega)]
    simp
  have sp:kh (qs.map vl)=fun i=>(if i=m then 0 else kh (qs.map vl) i)+(if i=m then -1 else 0):=by
   funext i
   by_cases z:i=m
   ·rw [if_pos z,if_pos z,z,zm]
    grind
   ·rw [if_neg z,if_neg z]
    grind
  rw [sp,AQ]
  have a1:=qh x.2 (fun i=>if i=m then 0 else kh (qs.map vl) i) x.1 (fun j hj=>by
   by_cases z:j=m
   ·simp [z]
   ·rw [if_neg z]
    exact other j hj z)
  have a2:=qh x.2 (fun i=>if i=m then (-1:Rat) else 0) m (fun j hj=>by rw [if_neg hj];simp)
  rw [a1,a2]
  rw [if_neg (by omega),if_pos rfl,zc]
  have hh' :=c7 hh
  grind
 ·refine qg l _ (fun j=> ?_)
  have:l.getD j 0=0:=by
   by_cases h1:j < m
   ·exact R.zero l hl j h1
   ·by_cases h2:j=m
    ·rw [h2]
     exact hz l hl
    ·exact jb (by rw [R.iD l hl];omega)
  rw [this]
  simp
theorem sZ.put {m t b:Nat}{os:List (List Int)}{nd:List (Nat×List Int)}{lv:List (List Int)}{qs:List (Int×Int)}{x:Nat×List Int}(R:Red os (m+1) m b nd lv)(F:sZ m t nd qs)(e:nd[t]? =some x):sZ m (t+1) nd (qs.set x.1 (low (x.2.getD m 0) (x.2.getD x.1 0))):=by
 have ql:=F.1
 have hx:=R.cols x (abt e)
 have dis:∀i y,i < t→nd[i]? =some y→y.1≠x.1:=fun i y hi ey=>by
  have a:=List.pairwise_iff_getElem.mp R.asc i t (by rw [Wp];exact (ir.mp ey).1) (by rw [Wp];exact (ir.mp e).1) hi
  simp only [List.getElem_map] at a
  have e1:=(ir.mp ey).2
  have e2:=(ir.mp e).2
  rw [e1,e2] at a
  omega
 refine ⟨by simp [ql],fun i hi y ey=> ?_,fun j hj h=> ?_⟩
 ·rcases af6.mp hi with z | z
  ·rw [afZ,if_neg (afO (dis i y z ey))]
   exact F.2.1 i z y ey
  ·subst z
   rw [e] at ey
   cases ey
   rw [afZ,if_pos rfl,if_pos (by omega)]
 ·rw [afZ,if_neg (h t (af4 _) x e)]
  exact F.2.2 j hj (fun i hi y ey=>h i (agM hi) y ey)
theorem L6 {n j:Nat}(h:j < n):vn n (j:Int)=some j:=by
 unfold vn
 simp
 omega
theorem bF.putL {K:Frag}{H:Hp}{a d:Addr}{xs ys:List V}{o:HO}(h:bF K H a xs)(e:H d=some (.lst ys)):bF K (upd H d o) a xs:=by
 rcases h with (h | ⟨o',h⟩) | h
 ·exact .inl (.inl (by rw [aj (fun z=>by rw [z,e] at h;cases h)];exact h))
 ·exact .inl (.inr ⟨o',by rw [aj (fun z=>by rw [z,e] at h;cases h)];exact h⟩)
 ·exact .inr h
inductive iE (K:Frag)(vs:List V)(H:Hp)(Q:VK)(E_:XK):Prop where
 | mk (a:Addr) (us:List V) (os:List (List Int:_)) (m b:Nat) (_:vs=[.ref a,.int (m:Int)]) (_:aR K H a us) (_:nq H us os) (_:(∀o∈os,o.length=m+1)) (_:m≤900) (_:os.length≤900) (_:(∀o∈os,Bd b o)) (_:bb b (min m os.length)≤29000000) (_:(∀(l:List Int) (H' :Hp),aq H H' →l.length=m+1→jP os l→(∀j,j < m→l.getD j 0=0)→l.getD m 0≠0→Q .cj H')) (_:(∀(x:Addr) (jI :List V) (qs:List (Int×Int)) (H' :Hp),aq H H' →H x=none→H' x=some (.lst jI)→cT K H' jI qs→qs.length=m→(∀q∈qs,Sm (bb b (min m os.length)) (bb b (min m os.length)) q)→(∀o∈os,ev o (kh (qs.map vl))=0)→Q (.ref x) H')):iE K vs H Q E_
theorem s_:ay ["lines","many","told","x","column","line"] ["lines","many"] (af xI):=sq
theorem PJ {aN:Addr}(hN:∀H:Hp,bF K H aN [.int 0,.int 1])(yy:mg "NOUGHT"=some (.ref aN))(D:Def K mg "solution_of" xI ["lines","many"])(BO:mg "any"=none)(Ya:Fn P w K mg base (aX P w) 35 "reduced" ["lines","many"] (jV K))(BP:Fn P w K mg base (aX P w) 33 "lowest_terms" ["top","bottom"] fG):Fn P w K mg base (aX P w) 36 "solution_of" ["lines","many"] (iE K):=by
 refine D.ok s_ (fun vs H Q E h=> ?_) (fun f bf A outer s H vs Q E hr h=> ?_)
 ·obtain ⟨a,us,os,m,b,rfl,_⟩:=h
  rfl
 obtain ⟨a,us,os,m,b,rfl,hS,hL,hlen,hm,ho,hB,hb,q1,q2⟩:=h
 refine ⟨_,(ae (aG (i:=2) s_.nd rfl (ab_ rfl) (aA Ya hr.mo pX (ao (pv 0) (ao (pv 1) aa))))
  (ae (ba (bR (aD (xg rfl) rfl BO O4 (ao (cg (tn:=["line"]) (fr:=["many"]) (caps:=[1]) rfl ⟨rfl,by decide+kernel,rfl,by decide+kernel,by decide+kernel,rfl,⟨(by first | exact ab_ rfl | exact afT rfl),trivial⟩,⟨(by first | exact ab_ rfl | exact afT rfl),trivial⟩⟩ (aY (aK (pv 2))) (fun _ _ _ _=>(au (i:=0) (show (["line","many"]:List Str).Nodup from by decide+kernel) rfl (ab_ rfl))) (fun _ _ _ _=>bT) (fun _ _ _ _=>(gS d5 (aT (r6 (K:=K) rfl) (pv 0) (pv 1) (fun _ _=>rfl)) ag (aQ _)))) aa))) (ah (aw lM)) aI)
  (ae (aG (i:=3) s_.nd rfl (ab_ rfl) (aO zF (bS (ao (gR (v:=.ref aN) rfl yy rfl) aa)) (pv 1)))
  (ae (bh PassesOwn.never rfl (sy (aK (pv 2))) (dI rfl (aU (au (i:=4) s_.nd rfl (ab_ rfl)) (aU (au (i:=5) s_.nd rfl (ab_ rfl)) cz))) (ah (tS (aA BP hr.mo pX (ao (aT aS (pv 5) (pv 1) (fun _ _=>rfl)) (ao (aT aS (pv 5) (pv 4) (fun _ _=>rfl)) aa))) (tR (pv 3) (pv 4) set_list))))
  (ah (aw (pv 3))))))),?_⟩
 refine ⟨_,rfl,_,rfl,a,us,os,m+1,m,b,rfl,hS,hL,hlen,by omega,by omega,by omega,hB,hb,fun p d a' kvs jI nd lv H1 s1 Nz np hp hd Kg hN1 LW R=> ?_⟩
 have lu:=LW.1
 have cnt:=R.cnt
 refine ⟨_,rfl,p,_,_,_,rfl,rfl,bF.of hp,iQ,a',rfl,⟨_,Kg⟩,fun D1 n1=> ?_⟩
 refine b_ (cap:=[some (.int (m:Int))]) (K:=K) (a:=a') (xs:=jI) (fun k v _=>∃l,lv[k]? =some l∧v=.bl (decide (l.getD m 0≠0))) n1 (afs (show jI.length≤1000 by omega) (by decide)) (fun H2 s2=>s2.seq Kg) (fun _ _ _ _ _ _ _ h=>h) ?_ ?_
 ·intro k x H2 RR ex s2 kk
  obtain ⟨l,el,b',rfl,gX⟩:=LW.at ex
  have hll:=R.iD l (abt el)
  refine ⟨_,rfl,_,rfl,b',_,_,_,rfl,rfl,aR.of (s2 _ _ gX),oN (by omega),rfl,?_⟩
  refine kk _ _ (aq.refl _) ⟨l,el,?_⟩
  simp
 ·intro ys H2 hy eA s2 hD
  have ey:ys=(lv.map fun l=>decide (l.getD m 0≠0)).map V.bl:=by
   refine af0 fun i=> ?_
   by_cases hi:i < ys.length
   ·have e1:ys[i]? =some ys[i]:=gE hi
    obtain ⟨l,el,e⟩:=eA i _ e1
    rw [e1,e,aa_,aa_,el]
    rfl
   ·rw [ae_ (by omega),ae_ (by simp;omega)]
  subst ey
  refine ⟨D1,_,rfl,aR.of hD,_,rfl,?_⟩
  have ig:=s1.trans s2
  refine a8 (fun c=> ?_) (fun c=> ?_)
  ·obtain ⟨b',gX,hb1⟩:=agz.mp c
   obtain ⟨l,hl,rfl⟩:=afr.mp gX
   have hn:l.getD m 0≠0:=of_decide_eq_true hb1
   exact q1 l H2 ig (R.iD l hl) (R.i9 l hl) (R.zero l hl) hn
  ·have hz:∀l∈lv,l.getD m 0=0:=fun l hl=>by
    by_cases z:l.getD m 0=0
    ·exact z
    ·exact absurd (agz.mpr ⟨true,afr.mpr ⟨l,hl,decide_eq_true z⟩,rfl⟩) c
   refine ⟨(by show 1≤sizeLine;decide),fun p3 n3=> ?_⟩
   have s3:=aC n3 (.lst [V.ref aN])
   refine ⟨_,rfl,p3,_,_,rfl,rfl,ai,by omega,by omega,ac_ (show 1*(m:Int).toNat≤1000 by omega) (by decide),fun x n4=> ?_⟩
   have s4:=aC n4 (.lst (afz (m:Int).toNat [V.ref aN]).flatten)
   have yR:=(ig.trans s3).trans s4
   have nx:H x=none:=(ig.trans s3).free n4
   have er:(afz (m:Int).toNat [V.ref aN]).flatten=afz m (V.ref aN):=by simp
   have hp4:=s4 _ _ (s3 _ _ (s2 _ _ hp))
   have yx:=s4 _ _ (s3 _ _ (s2 _ _ hd))
   have D':=((hN1.same s2).same s3).same s4
   have dx:d≠x:=ak (s3 _ _ (s2 _ _ hd)) n4
   refine ⟨_,rfl,p,_,_,_,rfl,rfl,bF.of hp4,iP,d,kvs,rfl,yx,fun o=> ?_⟩
   refine oF (d:=d) (o:=o) (kvs:=kvs) (fun t σ H' =>∃(o4 o5:Option V) (BQ:List V) (qs:List (Int×Int)),σ=[some (.ref a),some (.int (m:Int)),some (.ref p),some (.ref x),o4,o5]∧aq H H' ∧H' d=some (.ip o (.dK kvs))∧H' x=some (.lst BQ)∧cT K H' BQ qs∧oP H' kvs nd∧sZ m t nd qs)
    ⟨none,none,afz m (V.ref aN),afz m (0,1),rfl,i_ yR Nz,ai,by rw [aj (afO dx),ai,er],⟨by simp,fun i u q' e1 e2=> ?_⟩,D'.put yx,⟨by simp,fun i hi=>absurd hi (agd _),fun j hj _=>by rw [af9,if_pos hj]⟩⟩ (fun t σ H' _ h=>by
     obtain ⟨_,_,_,_,_,_,h,_⟩:=h
     exact h) ?_ ?_
   ·rw [af9] at e1 e2
    by_cases z:i < m
    ·rw [if_pos z] at e1 e2
     cases e1
     cases e2
     exact ⟨aN,rfl,hN _⟩
    ·rw [if_neg z] at e1
     cases e1
   ·rintro t k v σ H5 p7 LY ⟨o4,o5,BQ,qs,rfl,s5,LZ,Yb,GP,PK,F⟩ n7
    have ht:t < kvs.length:=(ir.mp LY).1
    have hl5:=PK.1
    obtain ⟨c,ec⟩:∃c,nd[t]? =some c:=⟨_,gE (by omega)⟩
    obtain ⟨k1,k2⟩:=PK.2 t _ c LY ec
    have k1' :k=.inl (c.1:Int):=k1
    subst k1'
    obtain ⟨b',eb,gX⟩:=k2
    have PL :v=.ref b' :=eb
    subst PL
    have Yc:=abt ec
    have pT:=R.nQ c Yc
    have VU:=R.cols c Yc
    have s7:=aC n7 (.tup [kV (.inl (c.1:Int)),.ref b'])
    have hb7:=s7 _ _ gX
    refine ⟨p7,_,rfl,bF.of ai,rfl,_,_,rfl,_,_,rfl,rfl,?_⟩
    refine ⟨_,rfl,_,rfl,b',_,_,_,rfl,rfl,aR.of hb7,oN (by omega),_,rfl,_,rfl,b',_,_,_,rfl,rfl,aR.of hb7,oN (by omega),?_⟩
    refine ⟨_,_,rfl,R.here c Yc,fun p8 H8 s8 e8=> ?_⟩
    have GQ:=s7.trans s8
    have hx8:=GQ _ _ Yb
    have l2:=GP.1
    have xn:∀{b0:Addr} {o0:HO},H b0=some o0→b0≠x:=fun e=>ak e nx
    have dx8:=GQ _ _ LZ
    refine ⟨_,rfl,_,rfl,x,BQ,_,c.1,rfl,rfl,hx8,L6 (by rw [l2,F.1];exact VU),?_⟩
    refine ⟨_,_,BQ.set c.1 (.ref p8),qs.set c.1 (low (c.2.getD m 0) (c.2.getD c.1 0)),rfl,i_ (s5.trans GQ) nx,by rw [aj dx];exact dx8,ai,?_,?_,F.put R ec⟩
    ·have base:cT K H8 (BQ.set c.1 (.ref p8)) (qs.set c.1 (low (c.2.getD m 0) (c.2.getD c.1 0))):=(GP.same GQ).set ⟨p8,rfl,bF.of e8⟩
     refine ⟨base.1,fun i u q' e1 e2=> ?_⟩
     obtain ⟨p9,e9,h9⟩:=base.2 i u q' e1 e2
     exact ⟨p9,e9,bF.putL h9 hx8⟩
    ·have base:=PK.same GQ
     refine ⟨base.1,fun i kv y e1 e2=>⟨(base.2 i kv y e1 e2).1,?_⟩⟩
     obtain ⟨p9,e9,h9⟩:=hN1.2 i kv y e1 e2 |>.2
     refine ⟨p9,e9,?_⟩
     have px9:p9≠x:=fun z=>by
      have:=(s3 _ _ (s2 _ _ h9))
      rw [z,n4] at this
      cases this
     rw [aj px9]
     obtain ⟨p10,e10,h10⟩:=(base.2 i kv y e1 e2).2
     rw [e9] at e10
     cases e10
     exact h10
   ·rintro σ H5 ⟨o4,o5,BQ,qs,rfl,s5,LZ,Yb,GP,PK,F⟩
    have hl5:=PK.1
    rw [hl5] at F
    exact ⟨_,rfl,q2 x BQ qs H5 s5 nx Yb GP F.1 (F.sm R) (F.sol R hz)⟩
def jc (H:Hp)(r:Addr)(ls:List Addr)(b6:List (List V)):Prop:=H r=some (.lst (ls.map V.ref))∧ls.length=b6.length∧∀(i:Nat) (l:Addr) (vs:List V),ls[i]? =some l→b6[i]? =some vs→H l=some (.lst vs)
theorem jc.same {H H' :Hp}{r:Addr}{ls:List Addr}{b6:List (List V)}(h:jc H r ls b6)(s:aq H H'):jc H' r ls b6:=⟨s _ _ h.1,h.2.1,fun i l vs e1 e2=>s _ _ (h.2.2 i l vs e1 e2)⟩
def Shape (T B m:Nat)(df:List (List (Int×Int))):Prop:=∀qs∈df,qs.length=m∧∀q∈qs,Sm T B q
def iF (K:Frag)(H:Hp)(b6:List (List V))(df:List (List (Int×Int))):Prop:=b6.length=df.length∧∀(i:Nat) (vs:List V) (qs:List (Int×Int)),b6[i]? =some vs→df[i]? =some qs→cT K H vs qs
theorem iF.same {H H' :Hp}{b6:List (List V)}{df:List (List (Int×Int))}(h:iF K H b6 df)(s:aq H H'):iF K H' b6 df:=⟨h.1,fun i vs qs e1 e2=>(h.2 i vs qs e1 e2).same s⟩
theorem BR {α:Type}{xs:List α}{x y:α}{j:Nat}(e:(xs++[x])[j]? =some y):(j < xs.length∧xs[j]? =some y)∨(j=xs.length∧x=y):=by
 by_cases c:j < xs.length
 ·rw [afv c] at e
  exact .inl ⟨c,e⟩
 ·rw [afy (by omega)] at e
  by_cases z:j - xs.length=0
  ·rw [z] at e
   exact .inr ⟨by omega,afB e⟩
  ·rw [ae_ (by simp;omega)] at e
   cases e
theorem jc.snoc {H:Hp}{r D:Addr}{ls:List Addr}{b6:List (List V)}{us:List V}(h:jc H r ls b6)(nr:r∉ls)(hD:H D=some (.lst us))(nD:D≠r):jc (upd H r (.lst (ls.map V.ref++[.ref D]))) r (ls++[D]) (b6++[us]):=by
 obtain ⟨m1,m2,m3⟩:=h
 refine ⟨by rw [ai,afG];rfl,by simp [m2],fun j l vs e1 e2=> ?_⟩
 rcases BR e1 with ⟨c1,d1⟩ | ⟨c1,d1⟩ <;> rcases BR e2 with ⟨c2,d2⟩ | ⟨c2,d2⟩
 ·have ne:l≠r:=fun z=>nr (by rw [← z];exact abt d1)
  rw [aj ne]
  exact m3 j l vs d1 d2
 ·omega
 ·omega
 ·subst d1 d2
  rw [aj nD]
  exact hD
theorem jc.row {H:Hp}{r:Addr}{ls:List Addr}{b6:List (List V)}(h:jc H r ls b6){i:Nat}{vs:List V}(e:b6[i]? =some vs):∃l,ls[i]? =some l∧H l=some (.lst vs):=by
 have hi:i < b6.length:=(ir.mp e).1
 have l1:=h.2.1
 have e1:ls[i]? =some (ls[i]'(by omega)):=gE (by omega)
 exact ⟨_,e1,h.2.2 i _ _ e1 e⟩
def yz (b6:List (List V))(j:Nat):List V:=b6.map fun vs=>vs.getD j .cj
def jd (b6:List (List V))(m:Nat):List (List V):=(agx m).map fun j=>yz b6 j
inductive mO (vs:List V)(H:Hp)(Q:VK)(E_:XK):Prop where
 | mk (r:Addr) (ls:List Addr) (b6:List (List V:_)) (m:Int) (_:vs=[.ref r,.int m]) (_:jc H r ls b6) (_:0≤m) (_:m≤1000) (_:ls.length≤1000) (_:(∀vs∈b6,m≤(vs.length:Int))) (_:∀c cs H',aq H H' →jc H' c cs (jd b6 m.toNat)→Q (.ref c) H'):mO vs H Q E_
theorem BS:ay ["rows","many","columns","column"] ["rows","many"] (af xG):=sq
theorem PM (D:Def K mg "turned" xG ["rows","many"])(bw:mg "range"=none):Fn P w K mg base (aX P w) 1 "turned" ["rows","many"] mO:=by
 refine D.ok BS (fun vs H Q E h=> ?_) (fun f bf A outer s H vs Q E hr h=> ?_)
 ·obtain ⟨r,ls,b6,m,rfl,_⟩:=h
  rfl
 obtain ⟨r,ls,b6,m,rfl,M,m0,m1,hn,hv,q⟩:=h
 refine ⟨_,(ae (aG (i:=2) BS.nd rfl (ab_ rfl) (bS aa))
  (ae (bh PassesOwn.never rfl (b9 rfl bw (ao (pv 1) aa)) (au (i:=3) BS.nd rfl (afT rfl)) (ah (bK (j9 PySem.F.plainAttrs_list PySem.F.slot_list_append PySem.F.type_list_append dq (pv 2) (ao (cg (tn:=["row"]) (fr:=["column"]) (caps:=[3]) rfl ⟨rfl,by decide+kernel,rfl,by decide+kernel,by decide+kernel,rfl,⟨(by first | exact ab_ rfl | exact afT rfl),trivial⟩,⟨(by first | exact ab_ rfl | exact afT rfl),trivial⟩⟩ (aY (pv 0)) (fun _ _ _ _=>(au (i:=0) (show (["row","column"]:List Str).Nodup from by decide+kernel) rfl (ab_ rfl))) (fun _ _ _ _=>bT) (fun _ _ _ _=>(aT (r6 (K:=K) rfl) (pv 0) (pv 1) (fun _ _=>rfl)))) aa)))))
  (ah (aw (pv 2))))),?_⟩
 have l1:=M.2.1
 refine ⟨(by show 0≤sizeLine;decide),fun c nc=> ?_⟩
 refine ⟨_,rfl,_,rfl,by omega,by omega,?_⟩
 refine cn (lo:=0) (n:=m.toNat) (fun i σ H' =>∃(o:Option V) (cs:List Addr),σ=[some (.ref r),some (.int m),some (.ref c),o]∧aq H H' ∧jc H' c cs (jd b6 i)∧c∉cs) ⟨none,[],rfl,aC nc _,⟨ai,rfl,fun i l vs e=>by simp at e⟩,by simp⟩ ?_ ?_
 ·rintro i σ H' hi ⟨o,cs,rfl,s1,C,Yd⟩
  have M' :=M.same s1
  refine ⟨_,rfl,.inl ⟨rfl,_,aR.of C.1⟩,?_⟩
  refine ⟨_,rfl,r,rfl,⟨_,aR.of M'.1⟩,fun D nD=> ?_⟩
  refine b_ (cap:=[some (.int ((0:Int)+i))]) (K:=K) (a:=r) (xs:=ls.map V.ref) (fun k v _=>∃vs,b6[k]? =some vs∧v=vs.getD i .cj) nD (by rw [Wp];exact afs hn (by decide)) (fun H2 s2=>aR.of (s2 _ _ M'.1)) (fun _ _ _ _ _ _ _ h=>h) ?_ ?_
  ·intro k u H2 R hu s2 kk
   rw [aa_] at hu
   obtain ⟨l,el,rfl⟩:=afu.mp hu
   have hk:k < ls.length:=(ir.mp el).1
   have ev:b6[k]? =some (b6[k]'(by omega)):=gE (by omega)
   have hl:=M'.2.2 k l _ el ev
   have O2 :i < (b6[k]'(by omega)).length:=by
    have:=hv _ (abt ev)
    omega
   have ea:ft (b6[k]'(by omega)) ((0:Int)+(i:Int))=some ((b6[k]'(by omega)).getD i .cj):=by
    rw [af1]
    exact bH (by rw [gE O2,afF,gE O2];rfl)
   exact ⟨_,rfl,_,rfl,l,_,_,_,rfl,rfl,aR.of (s2 _ _ hl),ea,kk _ _ (aq.refl _) ⟨_,ev,rfl⟩⟩
  ·intro ys H2 hy eA s2 hD
   rw [Wp] at hy
   have ey:ys=yz b6 i:=by
    refine af0 fun k=> ?_
    unfold yz
    by_cases hk:k < ys.length
    ·have e1:ys[k]? =some ys[k]:=gE hk
     obtain ⟨vs,ev,e2⟩:=eA k _ e1
     rw [e1,e2,aa_,ev]
     rfl
    ·rw [ae_ (by omega),ae_ (by simp;omega)]
   subst ey
   have lc:cs.length=i:=by have:=C.2.1;simpa [jd] using this
   have nDc:D≠c:=fun z=>by rw [z,C.1] at nD;cases nD
   have fc:∀b o,H b=some o→b≠c:=fun b o e=>ak e nc
   refine ⟨c,_,_,rfl,rfl,s2 _ _ C.1,by rw [Wp,lc];exact afs (show i≤1000 by omega) (by decide),?_⟩
   refine ⟨_,cs++[D],rfl,fun b o e=> ?_,?_,fun z=> ?_⟩
   ·rw [aj (fc b o e)]
    exact s2 _ _ (s1 _ _ e)
   ·have e:jd b6 (i+1)=jd b6 i++[yz b6 i]:=by simp [jd,List.range_succ]
    rw [e]
    exact (C.same s2).snoc Yd hD nDc
   ·rcases afM.mp z with y | y
    ·exact Yd y
    ·exact nDc (afI.mp y).symm
 ·rintro σ H' ⟨o,cs,rfl,s1,C,Yd⟩
  exact ⟨_,rfl,q c cs H' s1 C⟩
def nR (df:List (List (Int×Int)))(j:Nat):List (Int×Int):=df.map fun qs=>qs.getD j (0,1)
theorem Bd.of {b:Nat}{l:List Int}(h:∀t∈l,t.natAbs≤2^b):Bd b l:=fun j=>by
 by_cases hj:j < l.length
 ·have e:l[j]? =some l[j]:=gE hj
  rw [getD_mem e]
  exact h _ (agm hj)
 ·rw [jb (by omega)]
  exact afU _
abbrev Wl:=List Int×Int×Addr×Addr
def Wh (T B m:Nat)(qs:List (Int×Int))(d:Int×Int)(w:Wl):Prop:=kc w.1 (qs++[d]) w.2.1∧0 < w.2.1∧w.2.1.natAbs≤2^(B*(m+1))∧∀t∈w.1,t.natAbs≤2^(T+B*(m+1))
theorem BU {yS:List (List Int)}{j n:Nat}(h:∀l∈yS,l.length=n)(hj:j < n):yz (yS.map fun l=>l.map V.int) j=(yS.map fun l=>l.getD j 0).map V.int:=by
 unfold yz
 rw [afH,afH]
 refine af5 fun l hl=> ?_
 have hlen:=h l hl
 have e:l[j]? =some (l[j]'(by omega)):=gE (by omega)
 show (l.map V.int).getD j .cj=.int (l.getD j 0)
 rw [getD_mem e,afF,aa_,e]
 rfl
theorem mP (j:Nat):∀{ws:List Wl} {ss ys:List (Int×Int)} {cs:List (Int×Int)},ss.length=ws.length→ys.length=ws.length→cs.length=ws.length→
  (∀(i:Nat) (w:Wl) (s y:Int×Int),ws[i]? =some w→ss[i]? =some s→ys[i]? =some y→vl y=vl s*w.2.1)→(∀(i:Nat) (w:Wl) (c:Int×Int),ws[i]? =some w→cs[i]? =some c→((w.1.getD j 0:Int):Rat)=vl c*w.2.1)→fV ys cs=c9 (ss.map vl) (ws.map (·.1)) j
 | [],[],[],[],_,_,_,_,_=>by simp [fV,c9]
 | w::ws,s::ss,y::ys,c::cs,h1,h2,h3,h4,h5=>by
  have ih:=mP j (ws:=ws) (ss:=ss) (ys:=ys) (cs:=cs) (by simpa using h1) (by simpa using h2) (by simpa using h3) (fun i w s y e1 e2 e3=>h4 (i+1) w s y (by simpa using e1) (by simpa using e2) (by simpa using e3)) (fun i w c e1 e2=>h5 (i+1) w c (by simpa using e1) (by simpa using e2))
  have a:=h4 0 w s y rfl rfl rfl
  have b:=h5 0 w c rfl rfl
  have ed:fV (y::ys) (c::cs)=vl y*vl c+fV ys cs:=by simp [fV]
  simp only [afp,c9]
  rw [ed,ih,a,b]
  grind
 | [],_::_,_,_,h,_,_,_,_=>by simp at h
 | [],[],_::_,_,_,h,_,_,_=>by simp at h
 | [],[],[],_::_,_,_,h,_,_=>by simp at h
 | _::_,[],_,_,h,_,_,_,_=>by simp at h
 | _::_,_::_,[],_,_,h,_,_,_=>by simp at h
 | _::_,_::_,_::_,[],_,_,h,_,_=>by simp at h
def tQ (m:Nat)(yS:List (List Int)):List (List Int):=(agx m).map (fun j=>(yS.map fun l=>l.getD j 0)++[0])++[(yS.map fun l=>l.getD m 0)++[1]]
theorem qp {m:Nat}{yS:List (List Int)}{o:List Int}(h:o∈tQ m yS):∃k,k < m+1∧o=(yS.map fun l=>l.getD k 0)++[if k=m then 1 else 0]∧True:=by
 unfold tQ at h
 rcases afM.mp h with z | z
 ·obtain ⟨j,hj,rfl⟩:=afr.mp z
  have Pa :j < m:=agH.mp hj
  exact ⟨j,by omega,by rw [if_neg (by omega)],trivial⟩
 ·exact ⟨m,by omega,by rw [if_pos rfl];exact afI.mp z,trivial⟩
theorem L7 {m k:Nat}{yS:List (List Int)}(h:k < m+1):(yS.map fun l=>l.getD k 0)++[if k=m then 1 else 0]∈tQ m yS:=by
 unfold tQ
 by_cases z:k=m
 ·subst z
  rw [if_pos rfl]
  simp
 ·rw [if_neg z]
  exact afM.mpr (.inl (afr.mpr ⟨k,agH.mpr (by omega),rfl⟩))
theorem uO {m n:Nat}{l0 l1:List Int}{ws:List Wl}(hlen:∀l∈ws.map (·.1),l.length=m+1)(hn:ws.length=n)(c0:jP (ws.map (·.1)) l0)(h0:∀j,j < m→l0.getD j 0=0)(h0m:l0.getD m 0≠0)(c1:jP (tQ m (ws.map (·.1))) l1)(l1l:l1.length=n+1)(h1:∀j,j < n→l1.getD j 0=0)(hp:∀o∈tQ m (ws.map (·.1)),o.length=n+1):l1.getD n 0=0:=by
 obtain ⟨y0,ly,ey⟩:=c0
 have ard :=c7 h0m
 have Wi :(y0.map fun a=>a*(1 / ((l0.getD m 0:Int):Rat))).length=(ws.map (·.1)).length:=by simp [ly]
 have all:∀o∈tQ m (ws.map (·.1)),ev o (kh (y0.map fun a=>a*(1 / ((l0.getD m 0:Int):Rat))))=0:=by
  intro o ho
  obtain ⟨k,hk,rfl,_⟩:=qp ho
  rw [uw k _ (ws.map (·.1)) _ Wi,mJ, ← ey k]
  by_cases z:k=m
  ·subst z
   rw [if_pos rfl]
   have e' :((1:Int):Rat)=1:=by simp
   rw [e']
   grind
  ·rw [if_neg z,h0 k (by omega)]
   simp
   grind
 have e:=FT (n:=n+1) c1 (by omega) (fun o ho=>by rw [hp o ho];exact ad_ _) all
 rw [qh l1 _ n (fun j hj=>by
  by_cases z:j < n
  ·rw [h1 j z]
   simp
  ·rw [jb (by omega)]
   simp)] at e
 have zn:kh (y0.map fun a=>a*(1 / ((l0.getD m 0:Int):Rat))) n= -1:=by
  unfold kh
  rw [if_neg (by rw [Wi,Wp];omega)]
 rw [zn] at e
 have:((l1.getD n 0:Int):Rat)=0:=by grind
 exact_mod_cast this
theorem yA {ts:List Int}{qs:List (Int×Int)}{d:Int×Int}{b:Int}{j:Nat}(h:kc ts (qs++[d]) b)(hj:j < qs.length):((ts.getD j 0:Int):Rat)=vl (qs.getD j (0,1))*b:=by
 have l:=h.1
 rw [afq] at l
 simp at l
 have e1:ts[j]? =some (ts[j]'(by omega)):=gE (by omega)
 have e2:qs[j]? =some qs[j]:=gE hj
 have:=h.2 j _ _ e1 (by rw [afv hj];exact e2)
 rw [getD_mem e1,afF,e2]
 exact this
theorem uP {ts:List Int}{qs:List (Int×Int)}{d:Int×Int}{b:Int}{m:Nat}(h:kc ts (qs++[d]) b)(hm:qs.length=m):((ts.getD m 0:Int):Rat)=vl d*b:=by
 have l:=h.1
 rw [afq] at l
 simp at l
 have e1:ts[m]? =some (ts[m]'(by omega)):=gE (by omega)
 have:=h.2 m _ d e1 (by rw [afy (by omega),hm];simp)
 rw [getD_mem e1]
 exact this
inductive qt (K:Frag)(vs:List V)(H:Hp)(Q:VK)(E_:XK):Prop where
 | mk (r dl:Addr) (m:Nat) (ls:List Addr) (b6:List (List V:_)) (df:List (List (Int×Int))) (PN:List V) (ds:List (Int×Int)) (T B Z:Nat) (_:vs=[.ref r,.ref dl,.int (m:Int)]) (_:jc H r ls b6) (_:iF K H b6 df) (_:H dl=some (.lst PN)) (_:cT K H PN ds) (_:ds.length=df.length) (_:Shape T B m df) (_:(∀d∈ds,Sm T B d)) (_:m≤100) (_:df.length≤100) (_:T≤20000) (_:B*(m+1)≤8000) (_:bb (T+B*(m+1)) (min (m+1) df.length)≤Z) (_:Z≤29000000) (_:(∀(p x:Addr) (us:List V) (xs:List (Int×Int)) (H' :Hp),aq H H' →H' p=some (.tup [.str "solved",.ref x])→H' x=some (.lst us)→cT K H' us xs→xs.length=m→(∀q∈xs,Sm Z Z q)→(∀(i:Nat) (qs:List (Int×Int)) (d:Int×Int),df[i]? =some qs→ds[i]? =some d→fV qs xs=vl d)→Q (.ref p) H')) (_:(∀(p y:Addr) (us:List V) (ys:List (Int×Int)) (H' :Hp),aq H H' →H' p=some (.tup [.str "paper",.ref y])→H' y=some (.lst us)→cT K H' us ys→ys.length=df.length→(∀q∈ys,Sm (Z+B*(m+1)) Z q)→(∀j,j < m→fV ys (nR df j)=0)→fV ys ds=1→Q (.ref p) H')):qt K vs H Q E_
theorem mQ:ay ["rows","due","many","wholes","lines","x","columns","papers","shares"] ["rows","due","many"] (af xF):=sq
theorem PQ (D:Def K mg "solve_rows" xF ["rows","due","many"])(ik:mg "zip"=none)(aZ:mg "len"=none)(Ye:Fn P w K mg base (aX P w) 2 "whole_row" ["row"] (LV K))(PU:Fn P w K mg base (aX P w) 36 "solution_of" ["lines","many"] (iE K))(Yf:Fn P w K mg base (aX P w) 1 "turned" ["rows","many"] mO)(BP:Fn P w K mg base (aX P w) 33 "lowest_terms" ["top","bottom"] fG):
  Fn P w K mg base (aX P w) 37 "solve_rows" ["rows","due","many"] (qt K):=by
 refine D.ok mQ (fun vs H Q E h=> ?_) (fun f bf A outer s H vs Q E hr h=> ?_)
 ·obtain ⟨r,dl,m,ls,b6,df,PN,ds,T,B,Z,rfl,_⟩:=h
  rfl
 obtain ⟨r,dl,m,ls,b6,df,PN,ds,T,B,Z,rfl,M,NN,hdl,ND,JH,sh,sd,hm,hn,hT,hB,hZ,hZ1,q1,q2⟩:=h
 refine ⟨_,(ae (fU (i:=3) mQ.nd rfl (ab_ rfl) (tn:=["row","number"]) (fr:=[]) (caps:=[]) rfl ⟨rfl,by decide+kernel,rfl,by decide+kernel,by decide+kernel,rfl,trivial,trivial⟩ (uq rfl ik (ao (pv 0) (ao (pv 1) aa))) (fun _ _ _ _=>(qc (K:=K) (n:=2) rfl rfl (aU (au (i:=0) (show (["row","number"]:List Str).Nodup from by decide+kernel) rfl (ab_ rfl)) (aU (au (i:=1) (show (["row","number"]:List Str).Nodup from by decide+kernel) rfl (ab_ rfl)) cz)))) (fun _ _ _ _=>bT) (fun _ _ _ _=>(aA Ye hr.mo (mx (by first | assumption | exact aX.kG) rfl) (ao (aO jH (pv 0) (bS (ao (pv 1) aa))) aa))))
  (ae (fU (i:=4) mQ.nd rfl (ab_ rfl) (tn:=["whole"]) (fr:=[]) (caps:=[]) rfl ⟨rfl,by decide+kernel,rfl,by decide+kernel,by decide+kernel,rfl,trivial,trivial⟩ (aY (pv 3)) (fun _ _ _ _=>(au (i:=0) (show (["whole"]:List Str).Nodup from by decide+kernel) rfl (ab_ rfl))) (fun _ _ _ _=>bT) (fun _ _ _ _=>(aT (bO (K:=K) rfl) (pv 0) ag (fun _ _=>rfl))))
  (ae (aG (i:=5) mQ.nd rfl (ab_ rfl) (aA PU hr.mo pX (ao (pv 4) (ao (pv 2) aa))))
  (ae (ba (aJ EK (pv 5) lM (aQ _)) (ah (aw (aV (ao cL (ao (pv 5) aa))))) aI)
  (ae (aG (i:=6) mQ.nd rfl (ab_ rfl) (aA Yf hr.mo pX (ao (pv 4) (ao (aO b7 (pv 2) ag) aa))))
  (ae (aG (i:=7) mQ.nd rfl (ab_ rfl) (aO jH (cg (tn:=["column"]) (fr:=[]) (caps:=[]) rfl ⟨rfl,by decide+kernel,rfl,by decide+kernel,by decide+kernel,rfl,trivial,trivial⟩ (aY (d7 iT (pv 6) gT (eQ (pv 2)))) (fun _ _ _ _=>(au (i:=0) (show (["column"]:List Str).Nodup from by decide+kernel) rfl (ab_ rfl))) (fun _ _ _ _=>bT) (fun _ _ _ _=>(aO jH (pv 0) (bS (ao ag aa))))) (bS (ao (aO jH (aT aS (pv 6) (pv 2) (fun _ _=>rfl)) (bS (ao ag aa))) aa))))
  (ae (aG (i:=8) mQ.nd rfl (ab_ rfl) (aA PU hr.mo pX (ao (pv 7) (ao (aD aF rfl aZ bQ (ao (pv 4) aa)) aa))))
  (ah (aw (aV (ao cL (ao (cg (tn:=["share","whole"]) (fr:=[]) (caps:=[]) rfl ⟨rfl,by decide+kernel,rfl,by decide+kernel,by decide+kernel,rfl,trivial,trivial⟩ (uq rfl ik (ao (pv 8) (ao (pv 3) aa))) (fun _ _ _ _=>(qc (K:=K) (n:=2) rfl rfl (aU (au (i:=0) (show (["share","whole"]:List Str).Nodup from by decide+kernel) rfl (ab_ rfl)) (aU (au (i:=1) (show (["share","whole"]:List Str).Nodup from by decide+kernel) rfl (ab_ rfl)) cz)))) (fun _ _ _ _=>bT) (fun _ _ _ _=>(aA BP hr.mo (mx (by first | assumption | exact aX.kG) rfl) (ao (aO gZ (aT (bO (K:=K) rfl) (pv 0) ag (fun _ _=>rfl)) (aT (bO (K:=K) rfl) (pv 1) ag (fun _ _=>rfl))) (ao (aT (bO (K:=K) rfl) (pv 0) ag (fun _ _=>rfl)) aa))))) aa)))))))))))),?_⟩
 have l1:=M.2.1
 have l2:=NN.1
 have l3:=ND.1
 have hB1:B≤8000:=ac_ (Nat.le_mul_of_pos_right B (Nat.succ_pos m)) hB
 refine ⟨_,rfl,_,rfl,r,dl,rfl,⟨_,aR.of M.1⟩,⟨_,aR.of hdl⟩,fun D1 n1=> ?_⟩
 refine xi (cap:=[]) (K:=K) (xs:=ls.map V.ref) (ys:=PN) (fun i v H=>∃w:Wl,v=.ref w.2.2.2∧w.2.2.1≠D1∧H w.2.2.2=some (.tup [.ref w.2.2.1,.int w.2.1])∧H w.2.2.1=some (.lst (w.1.map V.int))∧∀qs d,df[i]? =some qs→ds[i]? =some d→Wh T B m qs d w) n1 (by rw [Wp];exact afs (show ls.length≤1000 by omega) (by decide)) (by rw [Wp];omega) (fun H2 s2=>aR.of (s2 _ _ M.1)) (fun H2 s2=>aR.of (s2 _ _ hdl)) ?_ ?_ ?_
 ·rintro i v H2 H3 ys hD ks ⟨w,e1,e2,e3,e4,e5⟩
  exact ⟨w,e1,e2,ks _ _ (fun z=>by rw [z,hD] at e3;cases e3) e3,ks _ _ e2 e4,e5⟩
 ·rintro i x y H2 RR ex ey s2 ⟨ys0,hD0⟩ kk
  rw [aa_] at ex
  obtain ⟨l,el,rfl⟩:=afu.mp ex
  have hi:i < ls.length:=(ir.mp el).1
  obtain ⟨qs,eq⟩:∃qs,df[i]? =some qs:=⟨_,gE (by omega)⟩
  obtain ⟨vs,ev⟩:∃vs,b6[i]? =some vs:=⟨_,gE (by omega)⟩
  have hl:=M.2.2 i l vs el ev
  have hq:=NN.2 i vs qs ev eq
  obtain ⟨d,ed,nd⟩:=ND.at ey
  obtain ⟨lq,sq⟩:=sh qs (abt eq)
  have lvs:=hq.1
  refine ⟨_,rfl,_,rfl,(by show 1≤sizeLine;decide),fun p1 np1=> ?_⟩
  have t1:=aC np1 (.lst [y])
  refine ⟨l,p1,vs,_,rfl,rfl,t1 _ _ (s2 _ _ hl),ai,ac_ (show vs.length+1≤1000 by omega) (by decide),fun p2 np2=> ?_⟩
  have t2:=aC np2 (.lst (vs++[y]))
  have Wj:=t1.trans t2
  refine ⟨p2,qs++[d],T,B,rfl,⟨_,aR.of ai,(cT.snoc ((hq.same s2).same Wj) ((nd.same s2).same Wj))⟩,fun q' iw => ?_,hT,by rw [afq,lq];exact hB,hB1,by rw [afq,lq];show m+1≤1000;omega,fun p3 l3' ts b H3 s3 nl Wk hl3 hb PV wh hts=> ?_⟩
  ·rcases afM.mp iw with z | z
   ·exact sq q' z
   ·rw [afI.mp z]
    exact sd d (abt ed)
  ·refine kk _ _ (Wj.trans s3) ⟨(ts,b,l3',p3),rfl,fun z=> ?_,Wk,hl3,fun qs' d' e1 e2=> ?_⟩
   ·have:=Wj _ _ hD0
    rw [show l3' =D1 from z,this] at nl
    cases nl
   ·rw [eq] at e1
    rw [ed] at e2
    cases e1
    cases e2
    rw [afq,lq] at PV hts
    exact ⟨wh,hb,PV,hts⟩
 ·intro zs H2 hz eA s2 Yg
  rw [Wp] at hz
  obtain ⟨ws,lw,hw⟩:=jU (P:=fun i v (w:Wl)=>v=.ref w.2.2.2∧w.2.2.1≠D1∧H2 w.2.2.2=some (.tup [.ref w.2.2.1,.int w.2.1])∧H2 w.2.2.1=some (.lst (w.1.map V.int))∧∀qs d,df[i]? =some qs→ds[i]? =some d→Wh T B m qs d w) zs eA
  have ez:zs=ws.map (fun w=>V.ref w.2.2.2):=by
   refine af0 fun i=> ?_
   rw [aa_]
   by_cases hi:i < zs.length
   ·have e1:zs[i]? =some zs[i]:=gE hi
    have e2:ws[i]? =some (ws[i]'(by omega)):=gE (by omega)
    have h:=(hw i _ _ e1 e2).1
    rw [e1,e2,h]
    rfl
   ·rw [ae_ (by omega),ae_ (by omega)]
    rfl
  subst ez
  have GU:ws.length=df.length:=by omega
  have NA:∀(i:Nat) (w:Wl),ws[i]? =some w→H2 w.2.2.2=some (.tup [.ref w.2.2.1,.int w.2.1])∧H2 w.2.2.1=some (.lst (w.1.map V.int))∧∀qs d,df[i]? =some qs→ds[i]? =some d→Wh T B m qs d w:=fun i w e=>(hw i _ w (by rw [aa_,e];rfl) e).2.2
  have wp:∀(i:Nat) (w:Wl),ws[i]? =some w→∃qs d,df[i]? =some qs∧ds[i]? =some d∧Wh T B m qs d w:=fun i w e=>by
   have hi:i < ws.length:=(ir.mp e).1
   obtain ⟨qs,eq⟩:∃qs,df[i]? =some qs:=⟨_,gE (by omega)⟩
   obtain ⟨d,ed⟩:∃d,ds[i]? =some d:=⟨_,gE (by omega)⟩
   exact ⟨qs,d,eq,ed,(NA i w e).2.2 qs d eq ed⟩
  have GV:∀l∈ws.map (·.1),l.length=m+1:=fun l hl=>by
   obtain ⟨w,Yh,rfl⟩:=afr.mp hl
   obtain ⟨i,e⟩:=afE Yh
   obtain ⟨qs,d,eq,_,wh,_⟩:=wp i w e
   have:=wh.1
   rw [afq,(sh qs (abt eq)).1] at this
   exact this
  have wbd:∀l∈ws.map (·.1),Bd (T+B*(m+1)) l:=fun l hl=>by
   obtain ⟨w,Yh,rfl⟩:=afr.mp hl
   obtain ⟨i,e⟩:=afE Yh
   obtain ⟨qs,d,eq,_,_,_,_,h⟩:=wp i w e
   exact Bd.of h
  have hlm:(ws.map (·.1)).length=df.length:=by rw [Wp];exact GU
  refine ⟨_,rfl,D1,rfl,⟨_,aR.of Yg⟩,fun D2 n2=> ?_⟩
  refine b_ (cap:=[]) (K:=K) (a:=D1) (xs:=ws.map (fun w=>V.ref w.2.2.2)) (fun k v _=>∃w,ws[k]? =some w∧v=.ref w.2.2.1) n2 (by rw [Wp];exact afs (show ws.length≤1000 by omega) (by decide)) (fun H3 s3=>aR.of (s3 _ _ Yg)) (fun _ _ _ _ _ _ _ h=>h) ?_ ?_
  ·intro k x H3 RR ex s3 kk
   rw [aa_] at ex
   obtain ⟨w,ew,rfl⟩:=afu.mp ex
   exact ⟨_,rfl,w.2.2.2,_,_,_,rfl,rfl,bF.of (s3 _ _ (NA k w ew).1),iP,kk _ _ (aq.refl _) ⟨w,ew,rfl⟩⟩
  intro ys H3 hy PX s3 Nw
  have ey:ys=(ws.map (fun w=>w.2.2.1)).map V.ref:=by
   refine af0 fun i=> ?_
   rw [Wp] at hy
   by_cases hi:i < ys.length
   ·have e1:ys[i]? =some ys[i]:=gE hi
    obtain ⟨w,e2,e3⟩:=PX i _ e1
    rw [e1,e3,aa_,aa_,e2]
    rfl
   ·rw [ae_ (by omega),ae_ (by simp;omega)]
  subst ey
  have hLl:nq H3 ((ws.map (fun w=>w.2.2.1)).map V.ref) (ws.map (·.1)):=⟨by simp,fun i u l e1 e2=>by
   rw [aa_,aa_] at e1
   rw [aa_] at e2
   cases e:ws[i]? with
   | none=>rw [e] at e2;cases e2
   | some w=>
    rw [e] at e1 e2
    cases e1
    cases e2
    exact ⟨w.2.2.1,rfl,s3 _ _ (NA i w e).2.1⟩⟩
  have hMm:jc H3 D2 (ws.map (fun w=>w.2.2.1)) ((ws.map (·.1)).map fun l=>l.map V.int):=⟨Nw,by simp,fun i l vs e1 e2=>by
   rw [aa_] at e1
   rw [aa_,aa_] at e2
   cases e:ws[i]? with
   | none=>rw [e] at e2;cases e2
   | some w=>
    rw [e] at e1 e2
    cases e1
    cases e2
    exact s3 _ _ (NA i w e).2.1⟩
  have mn:bb (T+B*(m+1)) (min m (ws.map (·.1)).length)≤Z:=ac_ (ja _ (by rw [hlm];omega)) hZ
  have Yi:=s2.trans s3
  refine ⟨_,rfl,_,rfl,D2,_,ws.map (·.1),m,T+B*(m+1),rfl,aR.of Nw,hLl,GV,by omega,by omega,wbd,ac_ mn hZ1,fun l0 H4 s4 l0l cm l00 l0m=> ?_,fun x jI xs H4 s4 nx hx nxs lxs sxs sol=> ?_⟩
  ·refine ⟨_,rfl,rfl,_,rfl,?_⟩
   refine a8 (fun z=>by simp at z) (fun _=> ?_)
   have M4:=hMm.same s4
   refine ⟨_,rfl,_,rfl,_,_,rfl,rfl,D2,ws.map (fun w=>w.2.2.1),_,(m:Int)+1,rfl,M4,by omega,by omega,by rw [Wp];omega,fun vs hvs=> ?_,fun c cs H5 s5 M5=> ?_⟩
   ·obtain ⟨l,hl,rfl⟩:=afr.mp hvs
    rw [Wp,GV l hl]
    omega
   have lcs:cs.length=m+1:=by
    have:=M5.2.1
    unfold jd at this
    simp at this
    omega
   have col:∀k,k < m+1→∃l,cs[k]? =some l∧H5 l=some (.lst (((ws.map (·.1)).map fun l=>l.getD k 0).map V.int)):=fun k hk=>by
    have e:(jd ((ws.map (·.1)).map fun l=>l.map V.int) ((m:Int)+1).toNat)[k]? =some (((ws.map (·.1)).map fun l=>l.getD k 0).map V.int):=by
     rw [← BU GV hk]
     unfold jd
     rw [aa_,apq (by omega)]
     rfl
    exact M5.row e
   refine ⟨_,rfl,_,rfl,_,rfl,c,_,rfl,aR.of M5.1,fun p6 n6=> ?_⟩
   have t6:=aC n6 (.lst (d9 (cs.map V.ref) none (some (m:Int))))
   refine ⟨p6,rfl,⟨_,aR.of ai⟩,fun D6 nD6=> ?_⟩
   have lcl:((ws.map (·.1)).map fun l=>l.getD 0 0).length≤100:=by simp;omega
   refine mC (cap:=[]) (K:=K) (a:=p6) (xs:=(cs.map V.ref).take m) (fun k v H=>∃p,v=.ref p∧p≠D6∧H p=some (.lst ((List.map (fun l:List Int=>l.getD k 0) (ws.map (fun w:Wl=>w.1))++[(0:Int)]).map V.int))) nD6 (afs (show ((cs.map V.ref).take m).length≤1000 by simp;omega) (by decide)) (fun H7 s7=>aR.of (s7 _ _ (by rw [ai,vQ (by simp;omega)]))) ?_ ?_ ?_
   ·rintro k v H7 H8 ys hD ks ⟨p,e1,e2,e3⟩
    exact ⟨p,e1,e2,ks _ _ e2 e3⟩
   ·rintro k x H7 RR ex s7 ⟨ys0,uN⟩ kk
    have hk:k < m:=by have:=(ir.mp ex).1;simp at this;omega
    obtain ⟨l,el,hl⟩:=col k (by omega)
    rw [List.getElem?_take,if_pos hk,aa_,el] at ex
    cases ex
    refine ⟨_,rfl,(by show 1≤sizeLine;decide),fun pz nz=> ?_⟩
    have tz:=aC nz (.lst [.int 0])
    refine ⟨l,pz,_,_,rfl,rfl,tz _ _ (s7 _ _ (t6 _ _ hl)),ai,ac_ (show _≤1000 by simp;omega) (by decide),fun pn nn=> ?_⟩
    have tn:=aC nn (.lst (((ws.map (·.1)).map fun l=>l.getD k 0).map V.int++[.int 0]))
    refine kk _ _ (tz.trans tn) ⟨pn,rfl,fun z=> ?_,by rw [ai,afG];rfl⟩
    have:=tz _ _ uN
    rw [z,this] at nn
    cases nn
   intro EA H7 hy6 PY s7 hD6
   have ly6:EA.length=m:=by rw [hy6];simp;omega
   have Yj:=t6.trans s7
   obtain ⟨lm,elm,Yk⟩:=col m (by omega)
   refine ⟨_,rfl,_,rfl,c,_,_,_,rfl,rfl,aR.of (Yj _ _ M5.1),bH (by rw [aa_,elm];rfl),(by show 1≤sizeLine;decide),fun pz nz=> ?_⟩
   have tz:=aC nz (.lst [.int 1])
   refine ⟨lm,pz,_,_,rfl,rfl,tz _ _ (Yj _ _ Yk),ai,ac_ (show _≤1000 by simp;omega) (by decide),fun pn nn=> ?_⟩
   have tn:=aC nn (.lst (((ws.map (·.1)).map fun l=>l.getD m 0).map V.int++[.int 1]))
   refine ⟨(by show 1≤sizeLine;decide),fun pL nL=> ?_⟩
   have tL:=aC nL (.lst [V.ref pn])
   have tzL:=(tz.trans tn).trans tL
   refine ⟨D6,pL,EA,_,rfl,rfl,tzL _ _ hD6,ai,ac_ (show EA.length+1≤1000 by omega) (by decide),fun pP nP=> ?_⟩
   have tP:=aC nP (.lst (EA++[V.ref pn]))
   have s7P:=tzL.trans tP
   have hpn:=tP _ _ (tL _ _ (ai (H:=upd H7 pz (.lst [.int 1])) (a:=pn) (o:=.lst (((ws.map (·.1)).map fun l=>l.getD m 0).map V.int++[.int 1]))))
   have eP:upd (upd (upd (upd H7 pz (.lst [.int 1])) pn (.lst (((ws.map (·.1)).map fun l=>l.getD m 0).map V.int++[.int 1]))) pL (.lst [V.ref pn])) pP (.lst (EA++[V.ref pn])) pP=some (.lst (EA++[V.ref pn])):=ai
   have Yl:∀(k:Nat) (v:V),EA[k]? =some v→Ln H7 v (((ws.map (·.1)).map fun l=>l.getD k 0)++[0]):=fun k v e=>by
    obtain ⟨p,e1,_,e3⟩:=PY k v e
    exact ⟨p,e1,e3⟩
   have s5P:=Yj.trans s7P
   generalize upd (upd (upd (upd H7 pz (.lst [.int 1])) pn (.lst (((ws.map (·.1)).map fun l=>l.getD m 0).map V.int++[.int 1]))) pL (.lst [V.ref pn])) pP (.lst (EA++[V.ref pn]))=H9 at*
   have Ym:nq H9 (EA++[V.ref pn]) (tQ m (ws.map (·.1))):=by
    refine ⟨by simp [tQ,ly6],fun k u l e1 e2=> ?_⟩
    unfold tQ at e2
    by_cases hk:k < m
    ·rw [afv (by omega)] at e1
     rw [afv (by simpa using hk),aa_,apq hk] at e2
     cases e2
     exact (Yl k u e1).same s7P
    ·rw [afy (by omega)] at e1
     rw [afy (by simp;omega)] at e2
     by_cases hkm:k=m
     ·subst hkm
      rw [show k - EA.length=0 by omega] at e1
      rw [show k - ((agx k).map fun j=>((ws.map (·.1)).map fun l=>l.getD j 0)++[0]).length=0 by simp] at e2
      cases e1
      cases e2
      exact ⟨pn,rfl,by rw [hpn,afG];rfl⟩
     ·rw [ae_ (by simp;omega)] at e1
      cases e1
   have ppl:∀o∈tQ m (ws.map (·.1)),o.length=df.length+1:=fun o ho=>by
    rcases qp ho with ⟨k,hk,e⟩
    rw [e.1]
    simp [GU]
   have ppb:∀o∈tQ m (ws.map (·.1)),Bd (T+B*(m+1)) o:=fun o ho=>by
    rcases qp ho with ⟨k,hk,e,hc⟩
    rw [e]
    refine Bd.of fun t ht=> ?_
    rcases afM.mp ht with z | z
    ·obtain ⟨l,hl,rfl⟩:=afr.mp z
     exact wbd l hl k
    ·rw [afI.mp z]
     refine ac_ ?_ (apx (n:=T+B*(m+1)))
     split <;> decide
   have lpp:(tQ m (ws.map (·.1))).length=m+1:=by simp [tQ]
   have Wm:bb (T+B*(m+1)) (min df.length (tQ m (ws.map (·.1))).length)≤Z:=ac_ (ja _ (by rw [lpp];omega)) hZ
   have s39:=(s4.trans s5).trans s5P
   refine ⟨_,rfl,_,rfl,D2,_,rfl,.inl (aR.of (s39 _ _ Nw)),pP,_,tQ m (ws.map (·.1)),df.length,T+B*(m+1),by simp [GU],aR.of eP,Ym,ppl,by omega,by omega,ppb,ac_ Wm hZ1,fun l1 rY vx l1l cm1 l10 l1m=> ?_,fun x2 BQ ss rY vx nx2 wK nss L8 Yn Yo=> ?_⟩
   ·exact absurd (uO GV GU cm l00 l0m cm1 l1l l10 ppl) l1m
   have csm:∀k,k < m+1→c9 (ss.map vl) (ws.map (·.1)) k=if k=m then 1 else 0:=fun k hk=>by
    have e:=Yo _ (L7 hk)
    rw [uw k _ (ws.map (·.1)) (ss.map vl) (by simp [GU,L8])] at e
    by_cases z:k=m
    ·rw [if_pos z] at e ⊢
     have e' :((1:Int):Rat)=1:=by simp
     rw [e'] at e
     grind
    ·rw [if_neg z] at e ⊢
     have e' :((0:Int):Rat)=0:=by simp
     rw [e'] at e
     grind
   have L9:=s39.trans vx
   have PZ:=L9 _ _ (s3 _ _ Yg)
   have arH:=nss.1
   refine ⟨_,rfl,_,rfl,x2,D1,rfl,⟨_,aR.of wK⟩,⟨_,aR.of PZ⟩,fun D9 n9=> ?_⟩
   refine r8 (cap:=[]) (K:=K) (xs:=BQ) (ys:=ws.map (fun w=>V.ref w.2.2.2)) (fun k v H=>∃w q,ws[k]? =some w∧ss[k]? =some q∧Nm H v (low (q.1*w.2.1) q.2)) n9 (afs (show BQ.length≤1000 by omega) (by decide)) (by rw [Wp];omega) (fun FJ p_=>aR.of (p_ _ _ wK)) (fun FJ p_=>aR.of (p_ _ _ PZ)) ?_ ?_ ?_
   ·rintro k v FJ P0 ys hD ks ⟨w,q,e1,e2,e3⟩
    exact ⟨w,q,e1,e2,e3.kept hD ks⟩
   ·intro k x y FJ RR ex ey p_ kk
    obtain ⟨q,L_,ps,rfl,hps⟩:=nss.at ex
    rw [aa_] at ey
    obtain ⟨w,ew,rfl⟩:=afu.mp ey
    obtain ⟨qs,d,eqs,P1,wh,wb,Yp,_⟩:=wp k w ew
    have sq:=Yn q (abt L_)
    have Yq:=p_ _ _ (L9 _ _ (s3 _ _ (NA k w ew).1))
    have P2:=Ty.aq.cN p_ hps
    refine ⟨_,rfl,ps,_,_,_,rfl,rfl,P2,iP,_,rfl,w.2.2.2,_,_,_,rfl,rfl,bF.of Yq,iQ,_,_,rfl,rfl,fD (mB sq.top Wm) Yp (by omega),_,rfl,ps,_,_,_,rfl,rfl,P2,iQ,?_⟩
    exact ⟨_,_,rfl,by have:=sq.pos;omega,fun p8 H8 s8 e8=>kk _ _ s8 ⟨w,q,ew,L_,p8,rfl,e8⟩⟩
   intro Yr FJ h9 P4 p_ hD9
   refine ⟨(by show 2≤sizeLine;decide),fun Ys NC=> ?_⟩
   have ig:=aC NC (.tup [.str "paper",.ref D9])
   have Yt:∀(k:Nat) (w:Wl) (q:Int×Int),ws[k]? =some w→ss[k]? =some q→(age (fun (w:Wl) (q:Int×Int)=>low (q.1*w.2.1) q.2) ws ss)[k]? =some (low (q.1*w.2.1) q.2):=fun k w q e1 e2=>by rw [agR,e1,e2]
   have BV:(age (fun (w:Wl) (q:Int×Int)=>low (q.1*w.2.1) q.2) ws ss).length=df.length:=by simp [GU,L8]
   have vly:∀(k:Nat) (w:Wl) (q y:Int×Int),ws[k]? =some w→ss[k]? =some q→(age (fun (w:Wl) (q:Int×Int)=>low (q.1*w.2.1) q.2) ws ss)[k]? =some y→vl y=vl q*w.2.1:=fun k w q y e1 e2 e3=>by
    rw [Yt k w q e1 e2] at e3
    cases e3
    have sq:=Yn q (abt e2)
    rw [qd (by have:=sq.pos;omega)]
    unfold vl
    push_cast
    grind
   refine q2 Ys D9 Yr (age (fun (w:Wl) (q:Int×Int)=>low (q.1*w.2.1) q.2) ws ss) _ (((Yi.trans L9).trans p_).trans ig) ai (ig _ _ hD9) ⟨by rw [h9,BV];omega,fun k u y e1 e2=> ?_⟩ BV (fun y hy=> ?_) (fun j hj=> ?_) ?_
   ·obtain ⟨w,q,ew,L_,p,e,hp⟩:=P4 k u e1
    rw [Yt k w q ew L_] at e2
    cases e2
    exact ⟨p,e,bF.of (ig _ _ hp)⟩
   ·obtain ⟨k,hk⟩:=afE hy
    have hkl:k < df.length:=by rw [← BV];exact (ir.mp hk).1
    obtain ⟨w,ew⟩:∃w,ws[k]? =some w:=⟨_,gE (by omega)⟩
    obtain ⟨q,L_⟩:∃q,ss[k]? =some q:=⟨_,gE (by omega)⟩
    rw [Yt k w q ew L_] at hk
    cases hk
    obtain ⟨qs,d,eqs,P1,wh,wb,Yp,_⟩:=wp k w ew
    have sq:=Yn q (abt L_)
    exact vR (by have:=sq.pos;omega) (qe (mB sq.top Wm) Yp) (mB sq.bot Wm)
   ·rw [mP j (ws:=ws) (ss:=ss) (by omega) (by rw [BV,GU]) (by simp [nR,GU]) vly ?_,csm j (by omega),if_neg (by omega)]
    intro k w cq ew ec
    obtain ⟨qs,d,eqs,P1,wh,_⟩:=wp k w ew
    unfold nR at ec
    rw [aa_,eqs] at ec
    cases ec
    exact yA wh (by rw [(sh qs (abt eqs)).1];exact hj)
   ·rw [mP m (ws:=ws) (ss:=ss) (by omega) (by rw [BV,GU]) (by omega) vly ?_,csm m (by omega),if_pos rfl]
    intro k w cq ew ec
    obtain ⟨qs,d,eqs,P1,wh,_⟩:=wp k w ew
    rw [ec] at P1
    cases P1
    exact uP wh (sh qs (abt eqs)).1
  ·refine ⟨_,rfl,rfl,_,rfl,?_⟩
   refine a8 (fun _=> ?_) (fun z=>by simp at z)
   refine ⟨_,rfl,(by show 2≤sizeLine;decide),fun p5 n5=> ?_⟩
   have s5:=aC n5 (.tup [.str "solved",.ref x])
   refine q1 p5 x jI xs _ ((Yi.trans s4).trans s5) ai (s5 _ _ hx) (nxs.same s5) lxs (fun q hq=>(sxs q hq).up mn mn) (fun i qs d eq ed=> ?_)
   have hi:i < df.length:=(ir.mp eq).1
   obtain ⟨w,ew⟩:∃w,ws[i]? =some w:=⟨_,gE (by omega)⟩
   obtain ⟨wh,wb,_⟩:=(NA i w ew).2.2 qs d eq ed
   have e0:=sol w.1 (afr.mpr ⟨w,abt ew,rfl⟩)
   rw [sM wh (by rw [lxs,(sh qs (abt eq)).1])] at e0
   have wb' :=c7 (b:=w.2.1) (by omega)
   grind
inductive qu (C:Addr)(f:Str)(vs:List V)(H:Hp)(Q:VK)(E_:XK):Prop where
 | mk (a:Addr) (v:V) (_:vs=[.ref a,v]) (_:H a=some (fu C a none)) (_:∀(d:Addr) (H' :Hp),(∀b o,b≠a→H b=some o→H' b=some o)→H d=none→H' d=some (yQ d [(f,v)])→H' a=some (fu C a (some d))→Q .cj H'):qu C f vs H Q E_
def g7 (H:Hp)(E:XK)(C:Addr)(f:Str)(v:V):Prop:=∀(d:Addr) (H' :Hp),aq H H' →H d=none→H' d=some (yQ d [(f,v)])→E (.ref C) (some d) H'
theorem g7.go {H:Hp}{E:XK}{C:Addr}{f:Str}{v:V}(h:g7 H E C f v):∀e,H e=none→qu C f [.ref e,v] (upd H e (fu C e none)) (fun v' H2=>v' =.cj∧∃dx,H2 e=some (fu C e dx)∧E (.ref C) dx (i0 H2 e)) E0:=fun e ne=>by
 refine ⟨e,v,rfl,ai,fun d H' k nd hd he=>⟨rfl,some d,he,?_⟩⟩
 have de:d≠e:=fun z=>by rw [z,ai] at nd;cases nd
 rw [aj de] at nd
 refine h d (i0 H' e) (fun b o z=> ?_) nd ?_
 ·have be:b≠e:=ak z ne
  rw [cS be]
  exact k b o be (by rw [aj be];exact z)
 ·rw [cS de]
  exact hd
theorem P5 (f:Str)(v:V):af2 f [(f,v)]=some v:=by simp [af2]
theorem P6:ay ["self","bar"] ["self","bar"] (af yi):=sq
theorem P7 {f:Addr}{fd:FuncData}{C Y:Addr}(F:lV K "__init__" "NoBar.__init__" yi f fd)(hY:AA K Y)(yB:mg "YardError"=some (.ref Y))(xf:TyExc.rW K C "bar")(hv:PySem.W.mroIn K C (.type "ValueError")=some true):cp P w K mg base (aX P w) 1 f fd ["self","bar"] (qu C "bar"):=by
 refine cI F P6 (fun vs H Q E h=> ?_) (fun bf A outer s H vs Q E hr h=> ?_)
 ·obtain ⟨a,v,rfl,_⟩:=h
  rfl
 obtain ⟨a,v,rfl,ea,q⟩:=h
 refine ⟨_,(ae (bK (FE hY yB (ao (pv 0) (ao (pv 1) aa))))
  (ah (FF (pv 0) (pv 1) rfl))),?_⟩
 refine ⟨_,rfl,_,rfl,a,C,none,[v],rfl,ea,xf.k,hv,(by show 1≤sizeLine;decide),?_⟩
 refine ⟨_,rfl,_,rfl,a,C,rfl,xf,.inl ⟨ea,fun d nd ne=> ?_⟩⟩
 refine q d _ (fun b o n e=>by rw [aj n,aj (ak e nd)];exact e) nd ?_ ai
 rw [aj ne,ai]
inductive uQ (K:Frag)(f:Int×Int→Int×Int→Int×Int)(vs:List V)(H:Hp)(Q:VK)(E_:XK):Prop where
 | mk (u v:V) (x y:Int×Int) (_:vs=[u,v]) (_:jy K H u x) (_:jy K H v y) (_:Pk 100000 x) (_:Pk 100000 y) (_:gives H Q (f x y)):uQ K f vs H Q E_
theorem P8:ay ["one","other"] ["one","other"] (af uI):=sq
theorem P9 (hM:rQ CX)(D:Def K mg "difference_of" uI ["one","other"])(BP:Fn P w K mg base CX 33 "lowest_terms" ["top","bottom"] fG):Fn P w K mg base CX 34 "difference_of" ["one","other"] (uQ K subQ):=by
 refine D.ok P8 (fun vs H Q E h=> ?_) (fun f bf A outer s H vs Q E hr h=> ?_)
 ·obtain ⟨u,v,x,y,rfl,_⟩:=h
  rfl
 obtain ⟨u,v,x,y,rfl,⟨p1,rfl,h1⟩,⟨p2,rfl,h2⟩,k1,k2,q⟩:=h
 have px:=rR (X:=kD CX P w K mg base ["one","other"] "difference_of" (af uI) f bf A outer s H E) hM
 refine ⟨_,(ah (aw (aA BP hr.mo px (ao (aO dJ (aO cA (aK (pv 0)) (aK (pv 1))) (aO cA (aK (pv 1)) (aK (pv 0)))) (ao (aO cA (aK (pv 0)) (aK (pv 1))) aa))))),?_⟩
 have b1:=k1.top
 have b2:=k1.bot
 have b3:=k2.top
 have b4:=k2.bot
 have c:∀{i j:Int},intBits i≤100000→intBits j≤100000→rN i j:=fun a b=>⟨ac_ a (by decide),ac_ b (by decide)⟩
 refine ⟨_,rfl,p1,_,_,_,rfl,rfl,h1,iP,_,rfl,p2,_,_,_,rfl,rfl,h2,iQ,_,_,rfl,rfl,c b1 b4,?_⟩
 refine ⟨_,rfl,p2,_,_,_,rfl,rfl,h2,iP,_,rfl,p1,_,_,_,rfl,rfl,h1,iQ,_,_,rfl,rfl,c b3 b2,?_⟩
 refine ⟨_,_,rfl,rfl,?_⟩
 refine ⟨_,rfl,p1,_,_,_,rfl,rfl,h1,iQ,_,rfl,p2,_,_,_,rfl,rfl,h2,iQ,_,_,rfl,rfl,c b2 b4,?_⟩
 exact ⟨_,_,rfl,GB k1 k2,q⟩
inductive uR (K:Frag)(f:Rat→Rat→Rat)(vs:List V)(H:Hp)(Q:VK)(E_:XK):Prop where
 | mk (u v:V) (x y:Rat) (_:vs=[u,v]) (_:dE K H u x) (_:dE K H v y) (_:Sz 100000 x) (_:Sz 100000 y) (_:gives H Q (qr (f x y))):uR K f vs H Q E_
theorem BW {k:Nat}{r:Rat}(h:Sz k r):Pk k (qr r):=⟨cO r,h.top,h.bot⟩
theorem Ma {k:Nat}{x:Str}{ps:List Str}(F:Fn P w K mg base CX k x ps (uQ K subQ)):Fn P w K mg base CX k x ps (uR K fun a b=>a - b):=by
 obtain ⟨f,fd,G,r⟩:=F.ex
 refine ⟨f,fd,G.imp fun vs H Q E h=> ?_,r⟩
 obtain ⟨u,v,a,b,e,h1,h2,k1,k2,q⟩:=h
 refine ⟨u,v,qr a,qr b,e,h1,h2,BW k1,BW k2,?_⟩
 unfold subQ
 rw [BA]
 exact q
def BX (K:Frag)(H:Hp)(Q:VK)(p:Rat×Rat):Prop:=∀(v:V) (H' :Hp),aq H H' →eh K H' v p→Q v H'
inductive uS (K:Frag)(f:Rat→Rat→Rat)(vs:List V)(H:Hp)(Q:VK)(E_:XK):Prop where
 | mk (u v:V) (x y:Rat×Rat) (_:vs=[u,v]) (_:eh K H u x) (_:eh K H v y) (_:Sz 100000 x.1) (_:Sz 100000 x.2) (_:Sz 100000 y.1) (_:Sz 100000 y.2) (_:BX K H Q (f x.1 y.1,f x.2 y.2)):uS K f vs H Q E_
theorem P_:ay ["one","other"] ["one","other"] (af uJ):=sq
theorem P' (hM:rQ CX)(D:Def K mg "pair_difference" uJ ["one","other"])(Qa:Fn P w K mg base CX 34 "difference_of" ["one","other"] (uR K fun a b=>a - b)):Fn P w K mg base CX 35 "pair_difference" ["one","other"] (uS K fun a b=>a - b):=by
 refine D.ok P_ (fun vs H Q E h=> ?_) (fun f bf A outer s H vs Q E hr h=> ?_)
 ·obtain ⟨u,v,x,y,rfl,_⟩:=h
  rfl
 obtain ⟨u,v,x,y,rfl,⟨p1,a1,a2,rfl,h1,n1,n2⟩,⟨p2,b1,b2,rfl,h2,m1,m2⟩,k1,k2,l1,l2,q⟩:=h
 have px:=rR (X:=(kD (aX P w) P w K mg base ["one","other"] "pair_difference" (af uJ) f bf A outer s H E)) hM
 refine ⟨_,(ah (aw (aV (ao (aA Qa hr.mo px (ao (aK (pv 0)) (ao (aK (pv 1)) aa))) (ao (aA Qa hr.mo px (ao (aK (pv 0)) (ao (aK (pv 1)) aa))) aa))))),?_⟩
 refine ⟨_,rfl,p1,_,_,_,rfl,rfl,h1,iP,_,rfl,p2,_,_,_,rfl,rfl,h2,iP,a1,b1,_,_,rfl,n1,m1,k1,l1,fun c1 H1 s1 e1=> ?_⟩
 refine ⟨_,rfl,p1,_,_,_,rfl,rfl,Ty.aq.cN s1 h1,iQ,_,rfl,p2,_,_,_,rfl,rfl,Ty.aq.cN s1 h2,iQ,a2,b2,_,_,rfl,n2.same s1,m2.same s1,k2,l2,fun c2 H2 s2 e2=> ?_⟩
 refine ⟨(by show 2≤sizeLine;decide),fun c3 n3=> ?_⟩
 have s3:=aC n3 (.tup [.ref c1,.ref c2])
 exact q (.ref c3) _ (fun b o z=>s3 _ _ (s2 _ _ (s1 _ _ z))) ⟨c3,_,_,rfl,bF.of ai,⟨c1,rfl,bF.of (s3 _ _ (s2 _ _ e1))⟩,⟨c2,rfl,bF.of (s3 _ _ e2)⟩⟩
inductive qv (K:Frag)(C:Addr)(vs:List V)(H:Hp)(Q:VK)(E_:XK):Prop where
 | mk (a dx:Addr) (_:vs=[.ref a]) (_:H a=some (.ins C dx [])) (_:∀(pP pW pB:Addr) (H' :Hp),bU a H H' →H pP=none→H pW=none→H pB=none→eL K H' C a dx pP pW pB [] [] [] [] []→Q .cj H'):qv K C vs H Q E_
theorem GX {x:V}:cQ "pin_places" x []=([("pin_places",x)]:List (Str×V)):=rfl
theorem GY {x y:V}:cQ "pin_ways" y [("pin_places",x)]=([("pin_places",x),("pin_ways",y)]:List (Str×V)):=by
 simp only [cQ]
 rw [if_neg (by decide)]
theorem GZ {x y z:V}:cQ "bar_ends" z [("pin_places",x),("pin_ways",y)]=([("pin_places",x),("pin_ways",y),("bar_ends",z)]:List (Str×V)):=by
 simp only [cQ]
 rw [if_neg (by decide),if_neg (by decide)]
theorem Qb:ay ["self"] ["self"] (af yj):=sq
theorem Qc {f:Addr}{fd:FuncData}{C:Addr}(F:lV K "__init__" "Frame.__init__" yj f fd)(fc:AZ K C):cp P w K mg base (aX P w) 1 f fd ["self"] (qv K C):=by
 refine cI F Qb (fun vs H Q E h=> ?_) (fun bf A outer s H vs Q E hr h=> ?_)
 ·obtain ⟨a,dx,rfl,_⟩:=h
  rfl
 obtain ⟨a,dx,rfl,ha,q⟩:=h
 refine ⟨_,(ae (ph (pv 0) ef rfl)
  (ae (ph (pv 0) ef rfl)
  (ah (ph (pv 0) ef rfl)))),?_⟩
 intro pP nP
 have aP:a≠pP:=ak ha nP
 refine ⟨_,rfl,a,C,dx,_,rfl,(by rw [aj aP];exact ha),fc.cls,fc.pl,(by show 0 < 1000;decide),?_⟩
 rw [GX]
 generalize e1:upd (upd H pP (.dK [])) a (.ins C dx [("pin_places",.ref pP)])=H1
 have o1:H1 a=some (.ins C dx [("pin_places",.ref pP)]):=by rw [← e1,ai]
 have p1:H1 pP=some (.dK []):=by rw [← e1,aj (afO aP),ai]
 have k1:∀b o,b≠a→H b=some o→H1 b=some o:=fun b o n e=>by rw [← e1,aj n,aj (ak e nP)];exact e
 intro pW nW
 have aW:a≠pW:=ak o1 nW
 refine ⟨_,rfl,a,C,dx,_,rfl,(by rw [aj aW];exact o1),fc.cls,fc.wy,(by show 1 < 1000;decide),?_⟩
 rw [GY]
 generalize e2:upd (upd H1 pW (.dK [])) a (.ins C dx [("pin_places",.ref pP),("pin_ways",.ref pW)])=H2
 have PW:pP≠pW:=ak p1 nW
 have o2:H2 a=some (.ins C dx [("pin_places",.ref pP),("pin_ways",.ref pW)]):=by rw [← e2,ai]
 have w2:H2 pW=some (.dK []):=by rw [← e2,aj (afO aW),ai]
 have k2:∀b o,b≠a→H1 b=some o→H2 b=some o:=fun b o n e=>by rw [← e2,aj n,aj (ak e nW)];exact e
 intro pB nB
 have aB:a≠pB:=ak o2 nB
 have p2:=k2 _ _ (afO aP) p1
 refine ⟨_,rfl,a,C,dx,_,rfl,(by rw [aj aB];exact o2),fc.cls,fc.br,(by show 2 < 1000;decide),?_⟩
 rw [GZ]
 have PB:pP≠pB:=ak p2 nB
 have WB:pW≠pB:=ak w2 nB
 have k3:∀b o,b≠a→H2 b=some o→(upd (upd H2 pB (.dK [])) a (.ins C dx [("pin_places",.ref pP),("pin_ways",.ref pW),("bar_ends",.ref pB)])) b=some o:=fun b o n e=>by rw [aj n,aj (ak e nB)];exact e
 have f1:∀b,b≠a→H1 b=none→H b=none:=fun b n e=>by
  cases z:H b with
  | none=>rfl
  | some o=>rw [k1 b o n z] at e;cases e
 have f2:∀b,b≠a→H2 b=none→H b=none:=fun b n e=>by
  cases z:H b with
  | none=>rfl
  | some o=>rw [k2 b o n (k1 b o n z)] at e;cases e
 refine q pP pW pB _ (fun b o n e=>k3 b o n (k2 b o n (k1 b o n e))) nP (f1 _ (afO aW) nW) (f2 _ (afO aB) nB) ⟨ai,k3 _ _ (afO aP) p2,k3 _ _ (afO aW) w2,?_,PW,PB,WB,.nil,.nil⟩
 rw [aj (afO aB),ai]
inductive iG (K:Frag)(C:Addr)(vs:List V)(H:Hp)(Q:VK)(E_:XK):Prop where
 | mk (a dx pP pW pB:Addr) (ps:List (Str×Pt)) (bs:List (Str×Str×Str)) (kP kW kB:List (Key×V)) (_:vs=[.ref a]) (_:eL K H C a dx pP pW pB ps bs kP kW kB) (_:∀(l:Addr) (H' :Hp),aq H H' →H l=none→H' l=some (.lst ((bs.map (·.1)).map V.str))→Q (.ref l) H'):iG K C vs H Q E_
theorem Qd:ay ["self"] ["self"] (af yo):=sq
theorem Qe {f:Addr}{fd:FuncData}{C:Addr}(F:lV K "bars" "Frame.bars" yo f fd)(fc:AZ K C)(bX:mg "list"=none):cp P w K mg base (aX P w) 1 f fd ["self"] (iG K C):=by
 refine cI F Qd (fun vs H Q E h=> ?_) (fun bf A outer s H vs Q E hr h=> ?_)
 ·obtain ⟨a,dx,pP,pW,pB,ps,bs,kP,kW,kB,rfl,_⟩:=h
  rfl
 obtain ⟨a,dx,pP,pW,pB,ps,bs,kP,kW,kB,rfl,R,q⟩:=h
 refine ⟨_,(ah (aw (cG (dr rfl) rfl bX fQ (ao (cM (pv 0) rfl) aa)))),?_⟩
 refine ⟨_,rfl,a,C,dx,_,_,rfl,R.obj,fc.cls,fc.br,rfl,pB,kB,rfl,.inl R.br,fun l nl=> ?_⟩
 refine q l _ (aC nl _) nl ?_
 rw [ai]
 have e:kB.map (fun kv=>kV kv.1)=(bs.map (·.1)).map V.str:=by
  have z:kB.map (fun kv=>kV kv.1)=(kB.map (·.1)).map kV:=by rw [afH];rfl
  rw [z,R.kj,afH]
  rfl
 rw [e]
inductive gK (K:Frag)(C:Addr)(vs:List V)(H:Hp)(Q:VK)(E_:XK):Prop where
 | mk (a dx pP pW pB:Addr) (ps:List (Str×Pt)) (bs:List (Str×Str×Str)) (kP kW kB:List (Key×V)) (_:vs=[.ref a]) (_:eL K H C a dx pP pW pB ps bs kP kW kB) (_:∀(l:Addr) (H' :Hp),aq H H' →H l=none→H' l=some (.lst ((ps.map (·.1)).map V.str))→Q (.ref l) H'):gK K C vs H Q E_
theorem Qf:ay ["self"] ["self"] (af yn):=sq
theorem Qg {f:Addr}{fd:FuncData}{C:Addr}(F:lV K "pins" "Frame.pins" yn f fd)(fc:AZ K C)(bX:mg "list"=none):cp P w K mg base (aX P w) 1 f fd ["self"] (gK K C):=by
 refine cI F Qf (fun vs H Q E h=> ?_) (fun bf A outer s H vs Q E hr h=> ?_)
 ·obtain ⟨a,dx,pP,pW,pB,ps,bs,kP,kW,kB,rfl,_⟩:=h
  rfl
 obtain ⟨a,dx,pP,pW,pB,ps,bs,kP,kW,kB,rfl,R,q⟩:=h
 refine ⟨_,(ah (aw (cG (dr rfl) rfl bX fQ (ao (cM (pv 0) rfl) aa)))),?_⟩
 refine ⟨_,rfl,a,C,dx,_,_,rfl,R.obj,fc.cls,fc.pl,rfl,pP,kP,rfl,.inl R.pl,fun l nl=> ?_⟩
 refine q l _ (aC nl _) nl ?_
 rw [ai]
 have e:kP.map (fun kv=>kV kv.1)=(ps.map (·.1)).map V.str:=by
  have z:kP.map (fun kv=>kV kv.1)=(kP.map (·.1)).map kV:=by rw [afH];rfl
  rw [z,R.vE,afH]
  rfl
 rw [e]
inductive du (K:Frag)(C:Addr)(vs:List V)(H:Hp)(Q:VK)(E_:XK):Prop where
 | mk (a dx pP pW pB:Addr) (ps:List (Str×Pt)) (bs:List (Str×Str×Str)) (kP kW kB:List (Key×V)) (x:Str) (_:vs=[.ref a,.str x]) (_:eL K H C a dx pP pW pB ps bs kP kW kB) (_:x∈ps.map (·.1)) (_:Q .cj H):du K C vs H Q E_
theorem Qh:ay ["self","pin"] ["self","pin"] (af ym):=sq
theorem Qi {f:Addr}{fd:FuncData}{C:Addr}(F:lV K "check_pin" "Frame.check_pin" ym f fd)(fc:AZ K C):cp P w K mg base (aX P w) 1 f fd ["self","pin"] (du K C):=by
 refine cI F Qh (fun vs H Q E h=> ?_) (fun bf A outer s H vs Q E hr h=> ?_)
 ·obtain ⟨a,dx,pP,pW,pB,ps,bs,kP,kW,kB,x,rfl,_⟩:=h
  rfl
 obtain ⟨a,dx,pP,pW,pB,ps,bs,kP,kW,kB,x,rfl,R,hx,q⟩:=h
 refine ⟨_,(ah (ba (o_ (oC (bN hr) (pv 1) (cM (pv 0) rfl))) (ah (cX)) aI)),?_⟩
 refine ⟨_,rfl,_,rfl,a,C,dx,_,_,rfl,R.obj,fc.cls,fc.pl,rfl,pP,_,rfl,cH.k (k:=.inr x) R.pl,_,rfl,?_⟩
 rw [R.pin x,decide_eq_true hx]
 exact q
inductive lE (K:Frag)(C:Addr)(vs:List V)(H:Hp)(Q:VK)(E_:XK):Prop where
 | mk (a dx pP pW pB:Addr) (ps:List (Str×Pt)) (bs:List (Str×Str×Str)) (kP kW kB:List (Key×V)) (x:Str) (p:Pt) (_:vs=[.ref a,.str x]) (_:eL K H C a dx pP pW pB ps bs kP kW kB) (_:(ps.map (·.1)).Nodup) (_:(x,p)∈ps) (_:∀v,Spot K H v p→Q v H):lE K C vs H Q E_
theorem Qj:ay ["self","pin"] ["self","pin"] (af yp):=sq
theorem Qk {f:Addr}{fd:FuncData}{C:Addr}(F:lV K "place" "Frame.place" yp f fd)(fc:AZ K C)(MC:bG P w K mg base (aX P w) 1 C "check_pin" ["self","pin"] (du K C)):cp P w K mg base (aX P w) 2 f fd ["self","pin"] (lE K C):=by
 refine cI F Qj (fun vs H Q E h=> ?_) (fun bf A outer s H vs Q E hr h=> ?_)
 ·obtain ⟨a,dx,pP,pW,pB,ps,bs,kP,kW,kB,x,p,rfl,_⟩:=h
  rfl
 obtain ⟨a,dx,pP,pW,pB,ps,bs,kP,kW,kB,x,p,rfl,R,nd,hx,q⟩:=h
 refine ⟨_,(ae (bK (c6 (k:=1) (pv 0) hr.mo (pY P w) (ao (pv 1) aa)))
  (ah (aw (bM (bN hr) (cM (pv 0) rfl) (pv 1) (fun _ _=>rfl))))),?_⟩
 refine ⟨_,rfl,a,C,dx,_,_,_,rfl,R.obj,rfl,MC,_,rfl,a,dx,pP,pW,pB,ps,bs,kP,kW,kB,x,rfl,R,afr.mpr ⟨_,hx,rfl⟩,?_⟩
 obtain ⟨v,ev,hv⟩:=R.place nd hx
 exact ⟨_,rfl,a,C,dx,_,_,rfl,R.obj,fc.cls,fc.pl,rfl,_,rfl,pP,v,rfl,(by rw [← ev];exact cH.k (k:=.inr x) R.pl),q v hv⟩
inductive mR (K:Frag)(C:Addr)(vs:List V)(H:Hp)(Q:VK)(E_:XK):Prop where
 | mk (a dx pP pW pB:Addr) (ps:List (Str×Pt)) (bs:List (Str×Str×Str)) (kP kW kB:List (Key×V)) (x one other:Str) (_:vs=[.ref a,.str x]) (_:eL K H C a dx pP pW pB ps bs kP kW kB) (_:(bs.map (·.1)).Nodup) (_:(x,one,other)∈bs) (_:∀p,Rd H p (.tup [.str one,.str other])→Q (.ref p) H):mR K C vs H Q E_
theorem Ql:ay ["self","bar"] ["self","bar"] (af yr):=sq
theorem Qm {f:Addr}{fd:FuncData}{C:Addr}(F:lV K "ends" "Frame.ends" yr f fd)(fc:AZ K C):cp P w K mg base (aX P w) 1 f fd ["self","bar"] (mR K C):=by
 refine cI F Ql (fun vs H Q E h=> ?_) (fun bf A outer s H vs Q E hr h=> ?_)
 ·obtain ⟨a,dx,pP,pW,pB,ps,bs,kP,kW,kB,x,one,other,rfl,_⟩:=h
  rfl
 obtain ⟨a,dx,pP,pW,pB,ps,bs,kP,kW,kB,x,one,other,rfl,R,nd,hx,q⟩:=h
 refine ⟨_,(ae (ba (o_ (oC (bN hr) (pv 1) (cM (pv 0) rfl))) (ah (cX)) aI)
  (ah (aw (bM (bN hr) (cM (pv 0) rfl) (pv 1) (fun _ _=>rfl))))),?_⟩
 have hm:x∈bs.map (·.1):=afr.mpr ⟨_,hx,rfl⟩
 refine ⟨_,rfl,_,rfl,a,C,dx,_,_,rfl,R.obj,fc.cls,fc.br,rfl,pB,_,rfl,cH.k (k:=.inr x) R.br,_,rfl,?_⟩
 rw [R.bar x,decide_eq_true hm]
 obtain ⟨p,ev,hv⟩:=R.ends nd hx
 exact ⟨_,rfl,a,C,dx,_,_,rfl,R.obj,fc.cls,fc.br,rfl,_,rfl,pB,.ref p,rfl,(by rw [← ev];exact cH.k (k:=.inr x) R.br),q p hv⟩
inductive mS (K:Frag)(C:Addr)(vs:List V)(H:Hp)(Q:VK)(E_:XK):Prop where
 | mk (a dx pP pW pB:Addr) (ps:List (Str×Pt)) (bs:List (Str×Str×Str)) (kP kW kB:List (Key×V)) (pw:List (Str×List (Rat×Rat))) (x:Str) (ws:List (Rat×Rat)) (_:vs=[.ref a,.str x]) (_:eL K H C a dx pP pW pB ps bs kP kW kB) (_:tO K H pw kW) (_:(pw.map (·.1)).Nodup) (_:(x,ws)∈pw) (_:x∈ps.map (·.1)) (_:∀(l:Addr) (us:List V) (H' :Hp),aq H H' →H l=none→H' l=some (.lst us)→hW K H' us ws→Q (.ref l) H'):mS K C vs H Q E_
theorem Qn:ay ["self","pin"] ["self","pin"] (af yq):=sq
theorem Qo {f:Addr}{fd:FuncData}{C:Addr}(F:lV K "ways" "Frame.ways" yq f fd)(fc:AZ K C)(bX:mg "list"=none)(MC:bG P w K mg base (aX P w) 1 C "check_pin" ["self","pin"] (du K C)):cp P w K mg base (aX P w) 2 f fd ["self","pin"] (mS K C):=by
 refine cI F Qn (fun vs H Q E h=> ?_) (fun bf A outer s H vs Q E hr h=> ?_)
 ·obtain ⟨a,dx,pP,pW,pB,ps,bs,kP,kW,kB,pw,x,ws,rfl,_⟩:=h
  rfl
 obtain ⟨a,dx,pP,pW,pB,ps,bs,kP,kW,kB,pw,x,ws,rfl,R,W,nd,hx,hp,q⟩:=h
 refine ⟨_,(ae (bK (c6 (k:=1) (pv 0) hr.mo (pY P w) (ao (pv 1) aa)))
  (ah (aw (cG my rfl bX fQ (ao (bM (bN hr) (cM (pv 0) rfl) (pv 1) (fun _ _=>rfl)) aa))))),?_⟩
 refine ⟨_,rfl,a,C,dx,_,_,_,rfl,R.obj,rfl,MC,_,rfl,a,dx,pP,pW,pB,ps,bs,kP,kW,kB,x,rfl,R,hp,?_⟩
 obtain ⟨v,ev,l,us,el,hl,pt⟩:=fZ W nd hx
 have el' :v=.ref l:=el
 subst el'
 refine ⟨_,rfl,a,C,dx,_,_,rfl,R.obj,fc.cls,fc.wy,rfl,_,rfl,pW,.ref l,rfl,(by rw [← ev];exact cH.k (k:=.inr x) R.wy),?_⟩
 exact ⟨l,us,rfl,aR.of hl,fun l2 n2=>q l2 us _ (aC n2 _) n2 ai (pt.same (aC n2 _))⟩
def Mb (K:Frag)(H:Hp)(Q:VK)(ws:List (Rat×Rat)):Prop:=∀(l:Addr) (us:List V) (H' :Hp),aq H H' →H l=none→H' l=some (.lst us)→hW K H' us ws→Q (.ref l) H'
theorem qw {x:Rat}(h:(qr x).1=0):x=0:=by
 have:=eW x
 unfold vl at this
 rw [h] at this
 have z:=xj (r:=x)
 have e:((0:Int):Rat)=0:=by rfl
 rw [e] at this
 grind
inductive qz (K:Frag)(C:Addr)(vs:List V)(H:Hp)(Q:VK)(E_:XK):Prop where
 | mk (a dx:Addr) (ux uy:V) (x y:Rat) (_:vs=[.ref a,ux,uy]) (_:H a=some (.ins C dx [])) (_:dE K H ux x) (_:dE K H uy y) (_:¬ (x=0∧y=0)) (_:∀p,H p=none→Q .cj (upd (upd H p (.tup [ux,uy])) a (.ins C dx [("way",.ref p)]))):qz K C vs H Q E_
theorem Qp:ay ["self","x","y"] ["self","x","y"] (af yt):=sq
theorem Qq {f:Addr}{fd:FuncData}{C:Addr}(F:lV K "__init__" "Roller.__init__" yt f fd)(cl:rA K C)(nw:d6 K C "way"):cp P w K mg base (aX P w) 1 f fd ["self","x","y"] (qz K C):=by
 refine cI F Qp (fun vs H Q E h=> ?_) (fun bf A outer s H vs Q E hr h=> ?_)
 ·obtain ⟨a,dx,ux,uy,x,y,rfl,_⟩:=h
  rfl
 obtain ⟨a,dx,ux,uy,x,y,rfl,ha,⟨p1,rfl,h1⟩,⟨p2,rfl,h2⟩,nz,q⟩:=h
 have sz:(2:Nat)≤sizeLine:=by decide
 refine ⟨_,(ae (ba (PW.pt (jB (aJ cP (aK (pv 1)) ag (aQ _)) (iR (aJ cP (aK (pv 2)) ag (aQ _))))) (ah (cX)) aI)
  (ah (ph (pv 0) (aV (ao (pv 1) (ao (pv 2) aa))) rfl))),?_⟩
 refine ⟨_,rfl,p1,_,_,_,rfl,rfl,h1,iP,rfl,_,rfl,?_⟩
 refine a8 (fun c1=> ?_) (fun c1=> ?_)
 ·have e1:(qr x).1=0:=by simpa using of_decide_eq_true c1
  refine ⟨_,rfl,p2,_,_,_,rfl,rfl,h2,iP,rfl,_,rfl,?_⟩
  refine a8 (fun c2=> ?_) (fun c2=> ?_)
  ·have e2:(qr y).1=0:=by simpa using of_decide_eq_true c2
   exact absurd ⟨qw e1,qw e2⟩ nz
  ·exact ⟨_,rfl,_,rfl,sz,fun p hp=>⟨_,rfl,a,C,dx,[],rfl,(by rw [aj (ak ha hp)];exact ha),cl,nw,(by show 0 < 1000;decide),q p hp⟩⟩
 ·refine Li ?_
  exact ⟨_,rfl,_,rfl,sz,fun p hp=>⟨_,rfl,a,C,dx,[],rfl,(by rw [aj (ak ha hp)];exact ha),cl,nw,(by show 0 < 1000;decide),q p hp⟩⟩
inductive je (K:Frag)(C:Addr)(vs:List V)(H:Hp)(Q:VK)(E_:XK):Prop where
 | mk (a dx p:Addr) (w:Rat×Rat) (_:vs=[.ref a]) (_:H a=some (.ins C dx [("way",.ref p)])) (_:eh K H (.ref p) w) (_:Mb K H Q [w]):je K C vs H Q E_
theorem Qr:ay ["self"] ["self"] (af yu):=sq
theorem Qs {f:Addr}{fd:FuncData}{C:Addr}(F:lV K "ways" "Roller.ways" yu f fd)(cl:rA K C)(nw:d6 K C "way"):cp P w K mg base (aX P w) 1 f fd ["self"] (je K C):=by
 refine cI F Qr (fun vs H Q E h=> ?_) (fun bf A outer s H vs Q E hr h=> ?_)
 ·obtain ⟨a,dx,p,w,rfl,_⟩:=h
  rfl
 obtain ⟨a,dx,p,w,rfl,ha,hw,q⟩:=h
 refine ⟨_,(ah (aw (bS (ao (cM (pv 0) rfl) aa)))),?_⟩
 refine ⟨_,rfl,a,C,dx,_,.ref p,rfl,ha,cl,nw,(by simp),(by show 1≤sizeLine;decide),fun l hl=> ?_⟩
 exact q l [.ref p] _ (aC hl _) hl ai (.cons (hw.same (aC hl _)) .nil)
inductive jf (K:Frag)(vs:List V)(H:Hp)(Q:VK)(E_:XK):Prop where
 | mk (a:Addr) (_:vs=[.ref a]) (_:Mb K H Q [(1,0),(0,1)]):jf K vs H Q E_
theorem mT:qr 1=(1,1):=by
 have:=mM 1
 simpa using this
theorem cy:qr 0=(0,1):=by
 have:=mM 0
 simpa using this
theorem tf {H:Hp}{p p1 p2:Addr}{a b:Rat}{x y:Int×Int}(ea:qr a=x)(eb:qr b=y)(h:H p=some (.tup [.ref p1,.ref p2]))(h1:H p1=some (.tup [.int x.1,.int x.2]))(h2:H p2=some (.tup [.int y.1,.int y.2])):eh K H (.ref p) (a,b):=
 ⟨p,.ref p1,.ref p2,rfl,bF.of h,⟨p1,rfl,by rw [ea];exact bF.of h1⟩,⟨p2,rfl,by rw [eb];exact bF.of h2⟩⟩
theorem Qt:ay ["self"] ["self"] (af yv):=sq
theorem Qu {f:Addr}{fd:FuncData}(F:lV K "ways" "Fixed.ways" yv f fd):cp P w K mg base (aX P w) 1 f fd ["self"] (jf K):=by
 refine cI F Qt (fun vs H Q E h=> ?_) (fun bf A outer s H vs Q E hr h=> ?_)
 ·obtain ⟨a,rfl,_⟩:=h
  rfl
 obtain ⟨a,rfl,q⟩:=h
 have sz:(2:Nat)≤sizeLine:=by decide
 refine ⟨_,(ah (aw (bS (ao (aV (ao (aV (ao ag (ao ag aa))) (ao (aV (ao ag (ao ag aa))) aa))) (ao (aV (ao (aV (ao ag (ao ag aa))) (ao (aV (ao ag (ao ag aa))) aa))) aa))))),?_⟩
 refine ⟨sz,fun p1 n1=> ?_⟩
 have s1:=aC n1 (.tup [.int 1,.int 1])
 have e1:upd H p1 (.tup [.int 1,.int 1]) p1=some (.tup [.int 1,.int 1]):=ai
 generalize upd H p1 (.tup [.int 1,.int 1])=H1 at s1 e1 ⊢
 refine ⟨sz,fun p2 n2=> ?_⟩
 have s2:=aC n2 (.tup [.int 0,.int 1])
 have e2:upd H1 p2 (.tup [.int 0,.int 1]) p2=some (.tup [.int 0,.int 1]):=ai
 generalize upd H1 p2 (.tup [.int 0,.int 1])=H2 at s2 e2 ⊢
 refine ⟨sz,fun p3 n3=> ?_⟩
 have s3:=aC n3 (.tup [.ref p1,.ref p2])
 have e3:upd H2 p3 (.tup [.ref p1,.ref p2]) p3=some (.tup [.ref p1,.ref p2]):=ai
 generalize upd H2 p3 (.tup [.ref p1,.ref p2])=H3 at s3 e3 ⊢
 refine ⟨sz,fun p4 n4=> ?_⟩
 have s4:=aC n4 (.tup [.int 0,.int 1])
 have e4:upd H3 p4 (.tup [.int 0,.int 1]) p4=some (.tup [.int 0,.int 1]):=ai
 generalize upd H3 p4 (.tup [.int 0,.int 1])=H4 at s4 e4 ⊢
 refine ⟨sz,fun p5 n5=> ?_⟩
 have s5:=aC n5 (.tup [.int 1,.int 1])
 have e5:upd H4 p5 (.tup [.int 1,.int 1]) p5=some (.tup [.int 1,.int 1]):=ai
 generalize upd H4 p5 (.tup [.int 1,.int 1])=H5 at s5 e5 ⊢
 refine ⟨sz,fun p6 n6=> ?_⟩
 have s6:=aC n6 (.tup [.ref p4,.ref p5])
 have e6:upd H5 p6 (.tup [.ref p4,.ref p5]) p6=some (.tup [.ref p4,.ref p5]):=ai
 generalize upd H5 p6 (.tup [.ref p4,.ref p5])=H6 at s6 e6 ⊢
 refine ⟨sz,fun l nl=> ?_⟩
 have s7:=aC nl (.lst [.ref p3,.ref p6])
 have e7:upd H6 l (.lst [.ref p3,.ref p6]) l=some (.lst [.ref p3,.ref p6]):=ai
 generalize upd H6 l (.lst [.ref p3,.ref p6])=H7 at s7 e7 ⊢
 have Wn:=s1.trans (s2.trans (s3.trans (s4.trans (s5.trans s6))))
 have w1:eh K H7 (.ref p3) (1,0):=tf mT cy (s7 _ _ (s6 _ _ (s5 _ _ (s4 _ _ e3)))) (s7 _ _ (s6 _ _ (s5 _ _ (s4 _ _ (s3 _ _ (s2 _ _ e1)))))) (s7 _ _ (s6 _ _ (s5 _ _ (s4 _ _ (s3 _ _ e2)))))
 have w2:eh K H7 (.ref p6) (0,1):=tf cy mT (s7 _ _ e6) (s7 _ _ (s6 _ _ (s5 _ _ e4))) (s7 _ _ (s6 _ _ e5))
 exact q l [.ref p3,.ref p6] H7 (Wn.trans s7) (Wn.free nl) e7 (.cons w1 (.cons w2 .nil))
def Ki (P:Program)(w:World)(K:Frag)(mg:Str→Option Value)(base:Heap)(H:Hp)(hv:V)(ws:List (Rat×Rat)):Prop:=(hv=.cj∧ws=[])∨∃(h Ch Qv:Addr) (NF:List (Str×V)) (Yu:List Str) (Wo:Sp),hv=.ref h∧H h=some (.ins Ch Qv NF)∧NF.lookup ("ways":Str)=none∧bG P w K mg base (aX P w) 2 Ch "ways" Yu Wo∧(∀H1,H1 h=some (.ins Ch Qv NF)→bB H H1→∀Q',Mb K H1 Q' ws→Wo [.ref h] H1 Q' E0)
inductive dw (P:Program)(w:World)(K:Frag)(mg:Str→Option Value)(base:Heap)(C:Addr)(vs:List V)(H:Hp)(Q:VK)(E_:XK):Prop where
 | mk (a dx pP pW pB:Addr) (ps:List (Str×Pt)) (bs:List (Str×Str×Str)) (kP kW kB:List (Key×V)) (pw:List (Str×List (Rat×Rat))) (x:Str) (u v hv:V) (p:Pt) (ws:List (Rat×Rat)) (_:vs=[.ref a,.str x,u,v,hv]) (_:eL K H C a dx pP pW pB ps bs kP kW kB) (_:tO K H pw kW) (_:pw.map (·.1)=ps.map (·.1)) (_:jy K H u p.1) (_:jy K H v p.2) (_:x∉ps.map (·.1)) (_:(∀z∈ps,z.2≠p)) (_:ps.length < 24) (_:Ki P w K mg base H hv ws) (_:∀(H' :Hp) (BY sO :List (Key×V)),(∀b o,b≠pP→b≠pW→H b=some o→H' b=some o)→eL K H' C a dx pP pW pB (ps++[(x,p)]) bs BY sO kB→tO K H' (pw++[(x,ws)]) sO →Q .cj H'):dw P w K mg base C vs H Q E_
theorem BZ:ay ["self","name","x","y","hold","pin","spot"] ["self","name","x","y","hold"] (af kK):=sq
theorem Qw {f:Addr}{fd:FuncData}{C:Addr}(F:LL K "put_pin" "Frame.put_pin" kK f fd)(fc:AZ K C){tkP:Tok}(Mc:mg "MOST_PINS"=some (.int 24 tkP))(aZ:mg "len"=none)(bX:mg "list"=none):cp P w K mg base (aX P w) 3 f fd ["self","name","x","y","hold"] (dw P w K mg base C):=by
 refine AX F BZ (fun vs H Q E h=> ?_) (fun bf A outer s H vs Q E hr h=> ?_)
 ·obtain ⟨a,dx,pP,pW,pB,ps,bs,kP,kW,kB,pw,x,u,v,hv,p,ws,rfl,_⟩:=h
  rfl
 obtain ⟨a,dx,pP,pW,pB,ps,bs,kP,kW,kB,pw,x,u,v,hvv,p,ws,rfl,R,W,ew,hu,hv,hx,hs,hl,hH,q⟩:=h
 refine ⟨_,(ae (ba (o_ (AL (bN hr) (pv 1) (cM (pv 0) rfl))) (ah (cX)) aI)
  (ae (FU (bh PassesOwn.never rfl (sy (cM (pv 0) rfl)) (dI rfl (aU (au (i:=5) BZ.nd rfl (ab_ rfl)) (aU (au (i:=6) BZ.nd rfl (ab_ rfl)) cz))) (ah (ba (aJ (k_ hr.units) (pv 6) (aV (ao (pv 2) (ao (pv 3) aa))) (aQ _)) (ah (cX)) aI))))
  (ae (ba (aJ JB (aD oI rfl aZ bQ (ao (cM (pv 0) rfl) aa)) (gR (v:=.int 24) rfl Mc ⟨_,rfl⟩) (aQ _)) (ah (cX)) aI)
  (ae (fW (bN hr) (cM (pv 0) rfl) (pv 1) (aV (ao (pv 2) (ao (pv 3) aa))) rfl)
  (ah (fW (bN hr) (cM (pv 0) rfl) (pv 1) (rh (aJ zk (pv 4) lM (aQ _)) (bS aa) (cG my rfl bX fQ (ao (dz (k:=2) (pv 4) hr.mo (pY P w)) aa))) rfl)))))),?_⟩
 refine ⟨_,rfl,_,rfl,a,C,dx,_,_,rfl,R.obj,fc.cls,fc.pl,rfl,pP,_,rfl,cH.k (k:=.inr x) R.pl,_,rfl,?_⟩
 rw [R.pin x,decide_eq_false hx]
 have lk:kP.length=ps.length:=(Paired.length R.rp).symm
 refine ⟨_,rfl,a,C,dx,_,_,rfl,R.obj,fc.cls,fc.pl,rfl,pP,kP,rfl,R.pl,fun o=> ?_⟩
 have k0:bU pP H (upd H pP (.ip o (.dK kP))):=fun b o' n e=>by rw [aj n];exact e
 refine oF (d:=pP) (o:=o) (kvs:=kP) (fun t σ H' =>∃(o2 o3:Option V),σ=[some (.ref a),some (.str x),some u,some v,some hvv,o2,o3]∧bU pP H H' ∧H' pP=some (.ip o (.dK kP))) ⟨none,none,rfl,k0,ai⟩ (fun t σ H' _ h=>by
   obtain ⟨_,_,_,_,h⟩:=h
   exact h) ?_ ?_
 ·rintro t k y σ H6 p7 LY ⟨o2,o3,rfl,k6,hd6⟩ n7
  obtain ⟨z,ez,hz1,Pf⟩:=aH (cu R.rp) LY
  have Yv :k=.inr z.1:=hz1
  subst Yv
  have s6:bB H H6:=fun b xs r=>by
   rcases r with r | ⟨o',r⟩
   ·exact .inl (k6 _ _ (fun e=>by rw [e,R.pl] at r;cases r) r)
   ·exact .inr ⟨o',k6 _ _ (fun e=>by rw [e,R.pl] at r;cases r) r⟩
  have s7:=aC n7 (.tup [kV (.inr z.1),y])
  have s67:bB H (upd H6 p7 (.tup [kV (.inr z.1),y])):=s6.trans (.of s7)
  refine ⟨p7,_,rfl,bF.of ai,rfl,_,_,rfl,_,_,rfl,rfl,?_⟩
  refine ⟨_,rfl,_,rfl,_,rfl,(by show 2≤sizeLine;decide),fun t8 n8=> ?_⟩
  have s8:=aC n8 (.tup [u,v])
  have GQ:bB H (upd (upd H6 p7 (.tup [kV (.inr z.1),y])) t8 (.tup [u,v])):=s67.trans (.of s8)
  refine ⟨dj z.2,dj p,.inl ⟨(Spot.a_ Pf GQ).is,(Spot.is (p:=p) ⟨t8,u,v,rfl,bF.of ai,hu.a_ GQ,hv.a_ GQ⟩)⟩,ki _ _,oJ _,?_⟩
  rw [sN]
  refine ⟨_,rfl,?_⟩
  refine a8 (fun c=>absurd (of_decide_eq_true c) (hs z (abt ez))) (fun _=> ?_)
  exact ⟨_,_,rfl,fun b o' n e=>s8 _ _ (s7 _ _ (k6 b o' n e)),s8 _ _ (s7 _ _ hd6)⟩
 ·rintro σ H1 ⟨o2,o3,rfl,k1,Yw⟩
  refine ⟨pP,o,kP,Yw,fun o' u' z=>(by have z' :H pP=some (.ip o' u'):=z;rw [R.pl] at z';cases z'),?_⟩
  have s2:aq H (upd H1 pP (.dK kP)):=fun b o' e=>by
   by_cases n:b=pP
   ·subst n
    rw [R.pl] at e
    rw [ai]
    exact e
   ·rw [aj n]
    exact k1 b o' n e
  generalize upd H1 pP (.dK kP)=H2 at s2 ⊢
  have R2:=R.same s2
  refine ⟨_,rfl,a,C,dx,_,_,rfl,R2.obj,fc.cls,fc.pl,rfl,pP,kP,rfl,.inl R2.pl,_,_,rfl,rfl,_,rfl,?_⟩
  refine a8 (fun c=> ?_) (fun _=> ?_)
  ·have c' :(24:Int)≤(kP.length:Int):=of_decide_eq_true c
   omega
  refine ⟨_,rfl,_,rfl,(by show 2≤sizeLine;decide),fun t nt=> ?_⟩
  have s3:=aC nt (.tup [u,v])
  have R3:=R2.same s3
  have Wf:=(hu.same s2).same s3
  have hv3:=(hv.same s2).same s3
  refine ⟨_,rfl,a,C,dx,_,_,rfl,R3.obj,fc.cls,fc.pl,rfl,_,rfl,pP,_,rfl,kJ.k (k:=.inr x) R3.pl (afs (show kP.length≤1000 by omega) (by decide)),?_⟩
  have e:putK kP (.inr x) (.ref t)=kP++[(.inr x,.ref t)]:=c8 _ (cx (by rw [R.vE];exact fun z=>hx (eV.mp z)))
  rw [e]
  have R4:=R3.LN (x:=x) (p:=p) (t:=t) ⟨t,u,v,rfl,bF.of ai,Wf,hv3⟩
  have k4:∀b o,b≠pP→H b=some o→(upd (upd H2 t (.tup [u,v])) pP (.dK (kP++[(.inr x,.ref t)]))) b=some o:=fun b o n e=>by rw [aj n];exact s3 _ _ (s2 _ _ e)
  generalize upd (upd H2 t (.tup [u,v])) pP (.dK (kP++[(.inr x,.ref t)]))=H4 at R4 k4 ⊢
  have lw:kW.length=ps.length:=by
   have e1:kW.length=pw.length:=(Paired.length W).symm
   have e2:=congrArg ago ew
   rw [Wp,Wp] at e2
   omega
  have t4:bB H H4:=fun b xs r=>by
   rcases r with r | ⟨o',r⟩
   ·exact .inl (k4 _ _ (fun e=>by rw [e,R.pl] at r;cases r) r)
   ·exact .inr ⟨o',k4 _ _ (fun e=>by rw [e,R.pl] at r;cases r) r⟩
  have W4:tO K H4 pw kW:=Paired.cw W fun _ _ z=>⟨z.1,by
   obtain ⟨l,us,e1,e2,e3⟩:=z.2
   exact ⟨l,us,e1,k4 _ _ (fun e=>by rw [e,R.pl] at e2;cases e2) e2,e3.a_ t4⟩⟩
  refine ⟨_,rfl,rfl,_,rfl,?_⟩
  rcases hH with ⟨rfl,rfl⟩ | ⟨h,Ch,Qv,NF,Yu,Wo,rfl,hh,Nq,MH,q5⟩
  ·refine a8 (fun _=> ?_) (fun c=>absurd (by decide) c)
   refine ⟨by show 0≤sizeLine;decide,fun l2 n6=> ?_⟩
   have s6:=aC n6 (.lst [])
   have R6:=R4.same s6
   have W6:=W4.same s6
   refine ⟨_,rfl,a,C,dx,_,_,rfl,R6.obj,fc.cls,fc.wy,rfl,_,rfl,pW,_,rfl,kJ.k (k:=.inr x) R6.wy (afs (show kW.length≤1000 by omega) (by decide)),?_⟩
   have ek:putK kW (.inr x) (.ref l2)=kW++[(.inr x,.ref l2)]:=c8 _ (cx (by rw [W.keys,ew];exact fun z=>hx (eV.mp z)))
   rw [ek]
   have Yx:l2≠pW:=fun z=>by have h:=R6.wy;rw [← z,ai] at h;cases h
   exact q _ _ _ (fun b o n1 n2 e=>by rw [aj n2];exact s6 _ _ (k4 b o n1 e)) (R6.vF _) (Paired.snoc (W6.dict R6.wy) ⟨rfl,l2,[],rfl,by rw [aj Yx,ai],.nil⟩)
  have h4:H4 h=some (.ins Ch Qv NF):=k4 _ _ (fun e=>by rw [e,R.pl] at hh;cases hh) hh
  refine a8 (fun c=>absurd (of_decide_eq_true c) (fun z=>nomatch z)) (fun _=> ?_)
  refine ⟨_,rfl,h,Ch,Qv,NF,Yu,Wo,rfl,h4,Nq,MH,q5 H4 h4 t4 _ fun l1 us H5 s5 n5 e5 p5=> ?_⟩
  refine ⟨l1,us,rfl,aR.of e5,fun l2 n6=> ?_⟩
  have s6:=aC n6 (.lst us)
  have R6:=(R4.same s5).same s6
  have W6:=(W4.same s5).same s6
  refine ⟨_,rfl,a,C,dx,_,_,rfl,R6.obj,fc.cls,fc.wy,rfl,_,rfl,pW,_,rfl,kJ.k (k:=.inr x) R6.wy (afs (show kW.length≤1000 by omega) (by decide)),?_⟩
  have ek:putK kW (.inr x) (.ref l2)=kW++[(.inr x,.ref l2)]:=c8 _ (cx (by rw [W.keys,ew];exact fun z=>hx (eV.mp z)))
  rw [ek]
  have B_:aq H4 (upd H5 l2 (.lst us)):=fun b o z=>s6 _ _ (s5 _ _ z)
  refine q _ _ _ (fun b o n1 n2 e=>by rw [aj n2];exact B_ _ _ (k4 b o n1 e)) (R6.vF _) ?_
  have Yx:l2≠pW:=fun z=>by have h:=R6.wy;rw [← z,ai] at h;cases h
  exact Paired.snoc (W6.dict R6.wy) ⟨rfl,l2,us,rfl,by rw [aj Yx,ai],(p5.same s6).a_ (.dict R6.wy)⟩
inductive f9 (K:Frag)(C:Addr)(vs:List V)(H:Hp)(Q:VK)(E_:XK):Prop where
 | mk (a dx pP pW pB:Addr) (ps:List (Str×Pt)) (bs:List (Str×Str×Str)) (kP kW kB:List (Key×V)) (x one other:Str) (_:vs=[.ref a,.str x,.str one,.str other]) (_:eL K H C a dx pP pW pB ps bs kP kW kB) (_:x∉bs.map (·.1)) (_:one∈ps.map (·.1)) (_:other∈ps.map (·.1)) (_:one≠other) (_:bs.length < 60) (_:Q .cj H):f9 K C vs H Q E_
theorem Qx:ay ["self","name","one","other"] ["self","name","one","other"] (af yl):=sq
theorem Qy {f:Addr}{fd:FuncData}{C:Addr}(F:lV K "check_bar" "Frame.check_bar" yl f fd)(fc:AZ K C){tkB:Tok}(Md:mg "MOST_BARS"=some (.int 60 tkB))(aZ:mg "len"=none)
  (MC:bG P w K mg base (aX P w) 1 C "check_pin" ["self","pin"] (du K C)):cp P w K mg base (aX P w) 2 f fd ["self","name","one","other"] (f9 K C):=by
 refine cI F Qx (fun vs H Q E h=> ?_) (fun bf A outer s H vs Q E hr h=> ?_)
 ·obtain ⟨a,dx,pP,pW,pB,ps,bs,kP,kW,kB,x,one,other,rfl,_⟩:=h
  rfl
 obtain ⟨a,dx,pP,pW,pB,ps,bs,kP,kW,kB,x,one,other,rfl,R,hx,h1,h2,ne,hl,q⟩:=h
 refine ⟨_,(ae (ba (o_ (AL (bN hr) (pv 1) (cM (pv 0) rfl))) (ah (cX)) aI)
  (ae (bK (c6 (k:=1) (pv 0) hr.mo (pY P w) (ao (pv 2) aa)))
  (ae (bK (c6 (k:=1) (pv 0) hr.mo (pY P w) (ao (pv 3) aa)))
  (ae (ba (aJ cP (pv 2) (pv 3) (aQ _)) (ah (cX)) aI)
  (ah (ba (aJ JB (aD oI rfl aZ bQ (ao (cM (pv 0) rfl) aa)) (gR (v:=.int 60) rfl Md ⟨_,rfl⟩) (aQ _)) (ah (cX)) aI)))))),?_⟩
 refine ⟨_,rfl,_,rfl,a,C,dx,_,_,rfl,R.obj,fc.cls,fc.br,rfl,pB,_,rfl,cH.k (k:=.inr x) R.br,_,rfl,?_⟩
 rw [R.bar x,decide_eq_false hx]
 refine ⟨_,rfl,a,C,dx,_,_,_,rfl,R.obj,rfl,MC,_,rfl,a,dx,pP,pW,pB,ps,bs,kP,kW,kB,one,rfl,R,h1,?_⟩
 refine ⟨_,rfl,a,C,dx,_,_,_,rfl,R.obj,rfl,MC,_,rfl,a,dx,pP,pW,pB,ps,bs,kP,kW,kB,other,rfl,R,h2,?_⟩
 refine ⟨_,rfl,_,rfl,rfl,_,rfl,?_⟩
 refine a8 (fun c=>absurd (by simpa [ia] using c) ne) (fun _=> ?_)
 have lk:kB.length=bs.length:=(Paired.length R.rb).symm
 refine ⟨_,rfl,a,C,dx,_,_,rfl,R.obj,fc.cls,fc.br,rfl,pB,kB,rfl,.inl R.br,_,_,rfl,rfl,_,rfl,?_⟩
 refine a8 (fun c=> ?_) (fun _=>q)
 have c' :(60:Int)≤(kB.length:Int):=of_decide_eq_true c
 omega
inductive jg (K:Frag)(C:Addr)(vs:List V)(H:Hp)(Q:VK)(E_:XK):Prop where
 | mk (a dx pP pW pB:Addr) (ps:List (Str×Pt)) (bs:List (Str×Str×Str)) (kP kW kB:List (Key×V)) (x one other:Str) (_:vs=[.ref a,.str x,.str one,.str other]) (_:eL K H C a dx pP pW pB ps bs kP kW kB) (_:x∉bs.map (·.1)) (_:one∈ps.map (·.1)) (_:other∈ps.map (·.1)) (_:one≠other) (_:bs.length < 60) (_:∀(H' :Hp) (Yy :List (Key×V)),bU pB H H' →eL K H' C a dx pP pW pB ps (bs++[(x,one,other)]) kP kW Yy →Q .cj H'):jg K C vs H Q E_
theorem Qz:ay ["self","name","one","other"] ["self","name","one","other"] (af yk):=sq
theorem QC {f:Addr}{fd:FuncData}{C:Addr}(F:lV K "put_bar" "Frame.put_bar" yk f fd)(fc:AZ K C)
  (MC:bG P w K mg base (aX P w) 2 C "check_bar" ["self","name","one","other"] (f9 K C)):cp P w K mg base (aX P w) 3 f fd ["self","name","one","other"] (jg K C):=by
 refine cI F Qz (fun vs H Q E h=> ?_) (fun bf A outer s H vs Q E hr h=> ?_)
 ·obtain ⟨a,dx,pP,pW,pB,ps,bs,kP,kW,kB,x,one,other,rfl,_⟩:=h
  rfl
 obtain ⟨a,dx,pP,pW,pB,ps,bs,kP,kW,kB,x,one,other,rfl,R,hx,h1,h2,ne,hl,q⟩:=h
 refine ⟨_,(ae (bK (c6 (k:=2) (pv 0) hr.mo (pY P w) (ao (pv 1) (ao (pv 2) (ao (pv 3) aa)))))
  (ah (fW (bN hr) (cM (pv 0) rfl) (pv 1) (aV (ao (pv 2) (ao (pv 3) aa))) rfl))),?_⟩
 refine ⟨_,rfl,a,C,dx,_,_,_,rfl,R.obj,rfl,MC,_,rfl,_,rfl,_,rfl,a,dx,pP,pW,pB,ps,bs,kP,kW,kB,x,one,other,rfl,R,hx,h1,h2,ne,hl,?_⟩
 refine ⟨_,rfl,_,rfl,(by show 2≤sizeLine;decide),fun t nt=> ?_⟩
 have s:=aC nt (.tup [.str one,.str other])
 have R' :=R.same s
 have lk:kB.length=bs.length:=(Paired.length R.rb).symm
 refine ⟨_,rfl,a,C,dx,_,_,rfl,R'.obj,fc.cls,fc.br,rfl,_,rfl,pB,_,rfl,kJ.k (k:=.inr x) R'.br (afs (show kB.length≤1000 by omega) (by decide)),?_⟩
 have e:putK kB (.inr x) (.ref t)=kB++[(.inr x,.ref t)]:=c8 _ (cx (by rw [R.kj];exact fun z=>hx (eV.mp z)))
 rw [e]
 refine q _ _ (fun b o n z=> ?_) (R'.LM (.inl ai))
 rw [aj n]
 exact s _ _ z
def gL (p q:aE):Rat×Rat:=(q.sp.1 - p.sp.1,q.sp.2 - p.sp.2)
inductive CA (K:Frag)(C:Addr)(vs:List V)(H:Hp)(Q:VK)(E_:XK):Prop where
 | mk (a:Addr) (pins:List aE) (bars:List bg) (p q:aE) (_:vs=[.ref a,.str p.nm,.str q.nm]) (_:vH K H C a pins bars) (_:eY pins bars) (_:p∈pins) (_:q∈pins) (_:BX K H Q (gL p q)):CA K C vs H Q E_
theorem Kj {pins:List aE}(h:(pins.map (·.nm)).Nodup):((pins.map fun p=>(p.nm,sQ p.sp)).map (·.1)).Nodup:=by
 rw [afH]
 exact h
theorem Kk {pins:List aE}(h:(pins.map (·.nm)).Nodup):((pins.map fun p=>(p.nm,p.ws)).map (·.1)).Nodup:=by
 rw [afH]
 exact h
theorem Kl {bars:List bg}(h:(bars.map (·.nm)).Nodup):((bars.map fun b=>(b.nm,b.one.nm,b.other.nm)).map (·.1)).Nodup:=by
 rw [afH]
 exact h
theorem QD:ay ["F","one","other"] ["F","one","other"] (af xx):=sq
theorem QE {C:Addr}(D:Def K mg "arm_between" xx ["F","one","other"])(MP:bG P w K mg base (aX P w) 2 C "place" ["self","pin"] (lE K C))(Yz:Fn P w K mg base (aX P w) 35 "pair_difference" ["one","other"] (uS K fun a b=>a - b)):Fn P w K mg base (aX P w) 36 "arm_between" ["F","one","other"] (CA K C):=by
 refine D.ok QD (fun vs H Q E h=> ?_) (fun f bf A outer s H vs Q E hr h=> ?_)
 ·obtain ⟨a,pins,bars,p,q,rfl,_⟩:=h
  rfl
 obtain ⟨a,pins,bars,p,q,rfl,R,g,hp,hq,k⟩:=h
 obtain ⟨dx,pP,pW,pB,kP,kW,kB,R,W⟩:=R.ex
 refine ⟨_,(ah (aw (aA Yz hr.mo (pY P w) (ao (c6 (k:=2) (pv 0) hr.mo (pY P w) (ao (pv 2) aa)) (ao (c6 (k:=2) (pv 0) hr.mo (pY P w) (ao (pv 1) aa)) aa))))),?_⟩
 refine ⟨_,rfl,a,C,dx,_,_,_,rfl,R.obj,rfl,MP,_,rfl,a,dx,pP,pW,pB,_,_,kP,kW,kB,q.nm,sQ q.sp,rfl,R,Kj g.np,afr.mpr ⟨q,hq,rfl⟩,fun v1 h1=> ?_⟩
 refine ⟨_,rfl,a,C,dx,_,_,_,rfl,R.obj,rfl,MP,_,rfl,a,dx,pP,pW,pB,_,_,kP,kW,kB,p.nm,sQ p.sp,rfl,R,Kj g.np,afr.mpr ⟨p,hp,rfl⟩,fun v2 h2=> ?_⟩
 have z1:=g.sz q hq
 have z2:=g.sz p hp
 exact ⟨v1,v2,q.sp,p.sp,rfl,h1,h2,z1.1.up (by decide),z1.2.1.up (by decide),z2.1.up (by decide),z2.2.1.up (by decide),k⟩
def mv (M:Str→Option (Rat×Rat))(x:Str):Rat×Rat:=(M x).getD (0,0)
def YA (M:Str→Option (Rat×Rat)):Prop:=∀x,Sz 45 (mv M x).1∧Sz 45 (mv M x).2
def di (F:Str→Option (Rat×Rat))(pins:List aE):List (Int×Int):=pins.flatMap fun p=>[qr (mv F p.nm).1,qr (mv F p.nm).2]
theorem jh (F:Str→Option (Rat×Rat)):∀pins:List aE,(di F pins).length=2*pins.length
 | []=>rfl
 | p::ps=>by
  have:=jh F ps
  unfold di at this ⊢
  rw [afA,afq,this]
  simp
  omega
theorem yC (F:Str→Option (Rat×Rat))(ps:List aE)(p:aE):di F (ps++[p])=di F ps++[qr (mv F p.nm).1,qr (mv F p.nm).2]:=by
 unfold di
 rw [agb]
 simp
def dy (x:Str)(w:Rat×Rat):Str→Option (Rat×Rat):=fun y=>if y=x then some w else none
def dN (b:bg):Str→Option (Rat×Rat):=fun y=>if y=b.one.nm then some (gL b.one b.other) else if y=b.other.nm then some (gL b.other b.one) else none
def jW (pins:List aE)(p:aE):List (List (Int×Int)):=p.ws.map fun w=>di (dy p.nm w) pins
def dk (pins:List aE)(bars:List bg):List (List (Int×Int)):=(pins.flatMap fun p=>jW pins p)++bars.map fun b=>di (dN b) pins
structure gi (K:Frag)(H:Hp)(r:Addr)(ls:List Addr)(b6:List (List V))(df:List (List (Int×Int))):Prop where
 nS:jc H r ls b6
 num:iF K H b6 df
 nr:r∉ls
theorem gi.same {H H' :Hp}{r:Addr}{ls:List Addr}{b6:List (List V)}{df:List (List (Int×Int))}(h:gi K H r ls b6 df)(s:aq H H'):gi K H' r ls b6 df:=⟨h.nS.same s,h.num.same s,h.nr⟩
theorem uT {H:Hp}{b6:List (List V)}{df:List (List (Int×Int))}{us:List V}{qs:List (Int×Int)}(h:iF K H b6 df)(n:cT K H us qs):iF K H (b6++[us]) (df++[qs]):=by
 refine ⟨by simp [h.1],fun i u q' e1 e2=> ?_⟩
 have l:=h.1
 by_cases c:i < b6.length
 ·rw [afv c] at e1
  rw [afv (by omega)] at e2
  exact h.2 i u q' e1 e2
 ·rw [afy (by omega)] at e1 e2
  by_cases z:i - b6.length=0
  ·rw [z] at e1
   rw [show i - df.length=0 by omega] at e2
   cases e1
   cases e2
   exact n
  ·rw [ae_ (by simp;omega)] at e1
   cases e1
theorem G_ {H:Hp}{ls:List Addr}{b6:List (List V)}{l:Addr}{us:List V}(hl:ls.length=b6.length)(h:∀(i:Nat) (l:Addr) (vs:List V),ls[i]? =some l→b6[i]? =some vs→H l=some (.lst vs))(e:H l=some (.lst us)):
  ∀(i:Nat) (l' :Addr) (vs:List V),(ls++[l])[i]? =some l' →(b6++[us])[i]? =some vs→H l' =some (.lst vs):=fun i l' vs e1 e2=>by
 by_cases c:i < ls.length
 ·rw [afv c] at e1
  rw [afv (by omega)] at e2
  exact h i l' vs e1 e2
 ·rw [afy (by omega)] at e1 e2
  by_cases z:i - ls.length=0
  ·rw [z] at e1
   rw [show i - b6.length=0 by omega] at e2
   cases e1
   cases e2
   exact e
  ·rw [ae_ (by simp;omega)] at e1
   cases e1
theorem gi.push {H:Hp}{r l:Addr}{ls:List Addr}{b6:List (List V)}{df:List (List (Int×Int))}{us:List V}{qs:List (Int×Int)}(h:gi K H r ls b6 df)(e:H l=some (.lst us))(ne:l≠r)(n:cT K H us qs):
  gi K (upd H r (.lst (ls.map V.ref++[.ref l]))) r (ls++[l]) (b6++[us]) (df++[qs]):=by
 have st:bB H (upd H r (.lst (ls.map V.ref++[.ref l]))):=.list h.nS.1
 have hm:∀(i:Nat) (l' :Addr) (vs:List V),ls[i]? =some l' →b6[i]? =some vs→(upd H r (.lst (ls.map V.ref++[.ref l]))) l' =some (.lst vs):=fun i l' vs e1 e2=>by
  rw [aj (fun z:l' =r=>h.nr (by rw [← z];exact abt e1))]
  exact h.nS.2.2 i l' vs e1 e2
 refine ⟨⟨by rw [ai,afG];rfl,by simp [h.nS.2.1],G_ h.nS.2.1 hm (by rw [aj ne];exact e)⟩,?_,?_⟩
 ·exact uT ⟨h.num.1,fun i vs qs e1 e2=>(h.num.2 i vs qs e1 e2).a_ st⟩ (n.a_ st)
 ·intro z
  rcases afM.mp z with z | z
  ·exact h.nr z
  ·exact ne (afI.mp z).symm
inductive g8 (K:Frag)(C:Addr)(vs:List V)(H:Hp)(Q:VK)(E_:XK):Prop where
 | mk (a d:Addr) (pins:List aE) (bars:List bg) (kvs:List (Key×V)) (F:Str→Option (Rat×Rat)) (_:vs=[.ref a,.ref d]) (_:vH K H C a pins bars) (_:pins.length≤100) (_:H d=some (.dK kvs)) (_:LP K H kvs F) (_:∀(l:Addr) (us:List V) (H' :Hp),aq H H' →H l=none→H' l=some (.lst us)→cT K H' us (di F pins)→Q (.ref l) H'):g8 K C vs H Q E_
theorem f_ (pins:List aE):((pins.map fun p=>(p.nm,sQ p.sp)).map (·.1))=pins.map (·.nm):=by rw [afH];rfl
theorem CC:ay ["F","draws","row","pin"] ["F","draws"] (af xy):=sq
theorem QF {C aM:Addr}(hM:∀H:Hp,eh K H (.ref aM) (0,0))(Me:mg "NO_MOVE"=some (.ref aM))(D:Def K mg "pair_row" xy ["F","draws"])(MP:bG P w K mg base (aX P w) 1 C "pins" ["self"] (gK K C)):Fn P w K mg base (aX P w) 2 "pair_row" ["F","draws"] (g8 K C):=by
 refine D.ok CC (fun vs H Q E h=> ?_) (fun f bf A outer s H vs Q E hr h=> ?_)
 ·obtain ⟨a,d,pins,bars,kvs,F,rfl,_⟩:=h
  rfl
 obtain ⟨a,d,pins,bars,kvs,F,rfl,R,lp,hd,hP,q⟩:=h
 refine ⟨_,(ae (aG (i:=2) CC.nd rfl (ab_ rfl) (bS aa))
  (ae (bh PassesOwn.never rfl (aY (dz (k:=1) (pv 0) hr.mo (pY P w))) (au (i:=3) CC.nd rfl (ab_ rfl)) (ah (bK (j9 PySem.F.plainAttrs_list PySem.F.slot_list_extend PySem.F.type_list_extend FZ (pv 2) (ao (sk (bN hr) (pv 1) (pv 3) (gR (v:=.ref aM) rfl Me rfl) ⟨rfl,rfl,rfl,rfl⟩) aa)))))
  (ah (aw (pv 2))))),?_⟩
 refine ⟨(by show 0≤sizeLine;decide),?_⟩
 intro l nl;generalize eX:upd _ l _=H1;have ⟨s1,el⟩:=nw nl eX;clear eX
 have R1:=R.same s1
 obtain ⟨dx,pP,pW,pB,kP,kW,kB,F1,W1⟩:=R1.ex
 refine ⟨_,rfl,a,C,dx,_,_,_,rfl,F1.obj,rfl,MP,a,dx,pP,pW,pB,_,_,kP,kW,kB,rfl,F1,fun lp H2 s2 uU q_=> ?_⟩
 rw [f_] at q_
 have kN:=s1.trans s2
 have Mf:lp≠l:=fun z=>by rw [z,el] at uU;cases uU
 refine ⟨lp,rfl,⟨_,aR.of q_⟩,bI (K:=K) (a:=lp) (xs:=(pins.map (·.nm)).map V.str) (fun i σ H' =>∃(o3:Option V) (us:List V),σ=[some (.ref a),some (.ref d),some (.ref l),o3]∧aq H H' ∧H' lp=some (.lst ((pins.map (·.nm)).map V.str))∧H' l=some (.lst us)∧cT K H' us (di F (pins.take i))) ⟨none,[],rfl,kN,q_,s2 _ _ el,⟨rfl,fun i u q e=>by simp at e⟩⟩ (fun i σ H' _ h=>by
   obtain ⟨_,_,_,_,h,_⟩:=h
   exact aR.of h) ?_ ?_⟩
 ·rintro i z σ H4 hi ⟨o3,us,rfl,s4,l4,e4,n4⟩
  rw [aa_,aa_] at hi
  obtain ⟨x,hx,rfl⟩:=afu.mp hi
  obtain ⟨p,hp,rfl⟩:=afu.mp hx
  have il:i < pins.length:=(ir.mp hp).1
  have d4:=s4 _ _ hd
  have g1:eh K H4 ((bV kvs (.inr p.nm)).getD (.ref aM)) (mv F p.nm):=(hP.same s4).Pb (hM H4)
  obtain ⟨b,u1,u2,eb,hb,h1,h2⟩:=g1
  have lu:us.length≤200:=by
   have:=n4.1
   rw [jh,afN] at this
   omega
  refine ⟨_,rfl,.inl ⟨rfl,_,aR.of e4⟩,_,rfl,d,rfl,.inl ⟨_,.inl d4⟩,_,rfl,_,cH.k (k:=.inr p.nm) d4,l,b,us,[u1,u2],rfl,by rw [eb],e4,hb,by simp;omega,?_⟩
  have st:bB H4 (upd H4 l (.lst (us++[u1,u2]))):=.list e4
  refine ⟨_,us++[u1,u2],rfl,fun c o z=> ?_,?_,ai,?_⟩
  ·rw [aj (ak z nl)]
   exact s4 _ _ z
  ·rw [aj Mf]
   exact l4
  ·rw [take_snoc hp,yC]
   have a1:=cT.snoc (K:=K) (n4.a_ st) (dE.a_ h1 st)
   have a2:=cT.snoc (K:=K) a1 (dE.a_ h2 st)
   simpa using a2
 ·rintro σ H4 ⟨o3,us,rfl,s4,l4,e4,n4⟩
  rw [Wp,Wp,afS] at n4
  exact ⟨_,rfl,q l us H4 s4 nl e4 n4⟩
inductive mU (K:Frag)(C:Addr)(vs:List V)(H:Hp)(Q:VK)(E_:XK):Prop where
 | mk (a:Addr) (pins:List aE) (bars:List bg) (b:bg) (_:vs=[.ref a,.str b.one.nm,.str b.other.nm]) (_:vH K H C a pins bars) (_:eY pins bars) (_:b.one∈pins) (_:b.other∈pins) (_:b.one.nm≠b.other.nm) (_:∀(l:Addr) (us:List V) (H' :Hp),aq H H' →H l=none→H' l=some (.lst us)→cT K H' us (di (dN b) pins)→Q (.ref l) H'):mU K C vs H Q E_
theorem Mg (k:Key)(v:V):bW [] [(k,v)]=[(k,v)]:=rfl
theorem Mh {k j:Key}(v u:V)(h:k≠j):bW [] [(k,v),(j,u)]=[(k,v),(j,u)]:=by
 show putK [(k,v)] j u=_
 rw [c8]
 ·rfl
 ·rw [bu h]
  rfl
theorem QG:ay ["F","one","other"] ["F","one","other"] (af xA):=sq
theorem QH {C:Addr}(D:Def K mg "bar_row" xA ["F","one","other"])(QI:Fn P w K mg base (aX P w) 36 "arm_between" ["F","one","other"] (CA K C))(Mi:Fn P w K mg base (aX P w) 2 "pair_row" ["F","draws"] (g8 K C)):Fn P w K mg base (aX P w) 37 "bar_row" ["F","one","other"] (mU K C):=by
 refine D.ok QG (fun vs H Q E h=> ?_) (fun f bf A outer s H vs Q E hr h=> ?_)
 ·obtain ⟨a,pins,bars,b,rfl,_⟩:=h
  rfl
 obtain ⟨a,pins,bars,b,rfl,R,g,m1,m2,ne,q⟩:=h
 refine ⟨_,(ah (aw (aA Mi hr.mo pX (ao (pv 0) (ao (vz (mE (pv 1) (aA QI hr.mo pX (ao (pv 0) (ao (pv 1) (ao (pv 2) aa)))) (mE (pv 2) (aA QI hr.mo pX (ao (pv 0) (ao (pv 2) (ao (pv 1) aa)))) vy)) rfl rfl (apO _ _) (by decide)) aa))))),?_⟩
 refine ⟨_,rfl,fun d nd=> ?_⟩
 have s1:=aC nd (.dK [])
 have e1:(upd H d (.dK [])) d=some (.dK []):=ai
 generalize upd H d (.dK [])=H1 at s1 e1 ⊢
 refine ⟨_,rfl,_,rfl,_,rfl,_,rfl,a,pins,bars,b.one,b.other,rfl,R.same s1,g,m1,m2,fun v1 H2 s2 h2=> ?_⟩
 refine ⟨_,rfl,_,rfl,_,rfl,_,rfl,a,pins,bars,b.other,b.one,rfl,(R.same s1).same s2,g,m2,m1,fun v2 H3 s3 h3=> ?_⟩
 have e3:=s3 _ _ (s2 _ _ e1)
 refine ⟨e3,[(.inr b.one.nm,v1),(.inr b.other.nm,v2)],rfl,(by show 2≤15;decide),?_⟩
 rw [Mh _ _ (fun z=>ne (af8 z))]
 have st:bB H3 (upd H3 d (.dK [(.inr b.one.nm,v1),(.inr b.other.nm,v2)])):=.dict e3
 have e4:(upd H3 d (.dK [(.inr b.one.nm,v1),(.inr b.other.nm,v2)])) d=some (.dK [(.inr b.one.nm,v1),(.inr b.other.nm,v2)]):=ai
 have s4:aq H (upd H3 d (.dK [(.inr b.one.nm,v1),(.inr b.other.nm,v2)])):=fun c o z=>by
  rw [aj (ak z nd)]
  exact s3 _ _ (s2 _ _ (s1 _ _ z))
 generalize upd H3 d (.dK [(.inr b.one.nm,v1),(.inr b.other.nm,v2)])=H4 at st e4 s4 ⊢
 refine ⟨a,d,pins,bars,_,dN b,rfl,R.same s4,ac_ g.lp (by decide),e4,fun x=> ?_,fun l us H5 s5 n5 e5 nm=>q l us H5 (s4.trans s5) (s4.free n5) e5 nm⟩
 by_cases c1:x=b.one.nm
 ·subst c1
  exact .inr ⟨v1,gL b.one b.other,bJ rfl,by unfold dN;rw [if_pos rfl],(h2.same s3).a_ st⟩
 ·by_cases c2:x=b.other.nm
  ·subst c2
   exact .inr ⟨v2,gL b.other b.one,by rw [bu (fun z=>c1 (af8 z).symm),bJ rfl],by unfold dN;rw [if_neg c1,if_pos rfl],h3.a_ st⟩
  ·exact .inl ⟨by rw [bu (fun z=>c1 (af8 z).symm),bu (fun z=>c2 (af8 z).symm)];rfl,by unfold dN;rw [if_neg c1,if_neg c2]⟩
inductive iH (K:Frag)(C:Addr)(vs:List V)(H:Hp)(Q:VK)(E_:XK):Prop where
 | mk (a:Addr) (pins:List aE) (bars:List bg) (_:vs=[.ref a]) (_:vH K H C a pins bars) (_:eY pins bars) (_:∀(r:Addr) (ls:List Addr) (b6:List (List V)) (H' :Hp),aq H H' →H r=none→gi K H' r ls b6 (dk pins bars)→Q (.ref r) H'):iH K C vs H Q E_
theorem lF (bars:List bg):((bars.map fun b=>(b.nm,b.one.nm,b.other.nm)).map (·.1))=bars.map (·.nm):=by rw [afH];rfl
theorem mV (pins:List aE)(h:∀p∈pins,p.ws.length≤2):(pins.flatMap fun p=>p.ws).length≤2*pins.length:=by
 induction pins with
 | nil=>simp
 | cons p ps ih=>
  have h1:=h p afD
  have h2:=ih fun q hq=>h q (aft _ hq)
  rw [afA,afq,afL]
  omega
theorem gM (all pins:List aE):(pins.flatMap fun p=>jW all p).length=(pins.flatMap fun p=>p.ws).length:=by
 induction pins with
 | nil=>rfl
 | cons p ps ih=>
  rw [afA,afA,afq,afq,ih]
  unfold jW
  rw [Wp]
theorem yD (pins:List aE)(bars:List bg):(dk pins bars).length=(pins.flatMap fun p=>p.ws).length+bars.length:=by
 unfold dk
 rw [afq,gM,Wp]
theorem oR:ay ["F","rows","pin","way","bar","two"] ["F"] (af xB):=sq
theorem QJ {C:Addr}(D:Def K mg "draw_rows" xB ["F"])(MP:bG P w K mg base (aX P w) 1 C "pins" ["self"] (gK K C))(MW:bG P w K mg base (aX P w) 2 C "ways" ["self","pin"] (mS K C))(MB:bG P w K mg base (aX P w) 1 C "bars" ["self"] (iG K C))(ME:bG P w K mg base (aX P w) 1 C "ends" ["self","bar"] (mR K C))
  (Mi:Fn P w K mg base (aX P w) 2 "pair_row" ["F","draws"] (g8 K C)) (YB:Fn P w K mg base (aX P w) 37 "bar_row" ["F","one","other"] (mU K C)):Fn P w K mg base (aX P w) 38 "draw_rows" ["F"] (iH K C):=by
 refine D.ok oR (fun vs H Q E h=> ?_) (fun f bf A outer s H vs Q E hr h=> ?_)
 ·obtain ⟨a,pins,bars,rfl,_⟩:=h
  rfl
 obtain ⟨a,pins,bars,rfl,R,g,q⟩:=h
 refine ⟨_,(ae (aG (i:=1) oR.nd rfl (ab_ rfl) (bS aa))
  (ae (bh PassesOwn.never rfl (aY (dz (k:=1) (pv 0) hr.mo (pY P w))) (au (i:=2) oR.nd rfl (ab_ rfl)) (ah (bh PassesOwn.never rfl (aY (c6 (k:=2) (pv 0) hr.mo (pY P w) (ao (pv 2) aa))) (au (i:=3) oR.nd rfl (ab_ rfl)) (ah (bK (j9 PySem.F.plainAttrs_list PySem.F.slot_list_append PySem.F.type_list_append dq (pv 1) (ao (aA Mi hr.mo (pY P w) (ao (pv 0) (ao (vz (mE (pv 2) (pv 3) vy) rfl rfl (apO _ _) (by decide)) aa))) aa)))))))
  (ae (bh PassesOwn.never rfl (aY (dz (k:=1) (pv 0) hr.mo (pY P w))) (au (i:=4) oR.nd rfl (ab_ rfl)) (ae (aG (i:=5) oR.nd rfl (ab_ rfl) (c6 (k:=1) (pv 0) hr.mo (pY P w) (ao (pv 4) aa)))
   (ah (bK (j9 PySem.F.plainAttrs_list PySem.F.slot_list_append PySem.F.type_list_append dq (pv 1) (ao (aA YB hr.mo (pY P w) (ao (pv 0) (ao (aK (pv 5)) (ao (aK (pv 5)) aa)))) aa))))))
  (ah (aw (pv 1)))))),?_⟩
 refine ⟨(by show 0≤sizeLine;decide),?_⟩
 intro r nr;generalize eX:upd _ r _=H1;have ⟨s1,er⟩:=nw nr eX;clear eX
 have big:(40:Nat)≤sizeLine:=by decide
 have wl:=mV pins g.lw
 have gl:=g.lp
 have R0:gi K H1 r [] [] []:=⟨⟨er,rfl,fun i l vs e=>by simp at e⟩,⟨rfl,fun i vs qs e=>by simp at e⟩,by simp⟩
 have R1:=R.same s1
 obtain ⟨dx,pP,pW,pB,kP,kW,kB,F1,W1⟩:=R1.ex
 refine ⟨_,rfl,a,C,dx,_,_,_,rfl,F1.obj,rfl,MP,a,dx,pP,pW,pB,_,_,kP,kW,kB,rfl,F1,fun lp H2 s2 uU q_=> ?_⟩
 rw [f_] at q_
 have kN:=s1.trans s2
 have Mf:lp≠r:=fun z=>by rw [z,er] at uU;cases uU
 refine ⟨lp,rfl,⟨_,aR.of q_⟩,bI (K:=K) (a:=lp) (xs:=(pins.map (·.nm)).map V.str) (fun i σ H' =>∃(o2 o3:Option V) (ls:List Addr) (b6:List (List V)),σ=[some (.ref a),some (.ref r),o2,o3,none,none]∧aq H H' ∧H' lp=some (.lst ((pins.map (·.nm)).map V.str))∧gi K H' r ls b6 ((pins.take i).flatMap fun p=>jW pins p)) ⟨none,none,[],[],rfl,kN,q_,R0.same s2⟩ (fun i σ H' _ h=>by
   obtain ⟨_,_,_,_,_,_,h,_⟩:=h
   exact aR.of h) ?_ ?_⟩
 ·rintro i z σ H4 hi ⟨o2,o3,ls,b6,rfl,s4,l4,RR⟩
  rw [aa_,aa_] at hi
  obtain ⟨x,hx,rfl⟩:=afu.mp hi
  obtain ⟨p,hp,rfl⟩:=afu.mp hx
  have mp:p∈pins:=abt hp
  have R4:=R.same s4
  obtain ⟨dx,pP,pW,pB,kP,kW,kB,F4,W4⟩:=R4.ex
  have YC:p.nm∈(pins.map fun p=>(p.nm,sQ p.sp)).map (·.1):=by rw [f_];exact afr.mpr ⟨p,mp,rfl⟩
  refine ⟨_,rfl,a,C,dx,_,_,_,rfl,F4.obj,rfl,MW,_,rfl,a,dx,pP,pW,pB,_,_,kP,kW,kB,_,p.nm,p.ws,rfl,F4,W4,Kk g.np,afr.mpr ⟨p,mp,rfl⟩,YC,fun m us H5 s5 n5 e5 p5=> ?_⟩
  have lu:us.length=p.ws.length:=Paired.length p5
  have tj:=s4.trans s5
  have mr:m≠r:=fun z=>by rw [z,RR.nS.1] at n5;cases n5
  refine ⟨m,rfl,⟨_,aR.of e5⟩,bI (K:=K) (a:=m) (xs:=us) (fun j σ H' =>∃(o3:Option V) (ls:List Addr) (b6:List (List V)),σ=[some (.ref a),some (.ref r),some (.str p.nm),o3,none,none]∧aq H H' ∧H' lp=some (.lst ((pins.map (·.nm)).map V.str))∧H' m=some (.lst us)∧hW K H' us p.ws∧gi K H' r ls b6 (((pins.take i).flatMap fun p=>jW pins p)++(p.ws.take j).map fun w=>di (dy p.nm w) pins)) ⟨o3,ls,b6,rfl,tj,s5 _ _ l4,e5,p5,by simpa using RR.same s5⟩ (fun j σ H' _ h=>by
    obtain ⟨_,_,_,_,_,_,h,_⟩:=h
    exact aR.of h) ?_ ?_⟩
  ·rintro j u σ H6 hu ⟨o3,ls,b6,rfl,s6,l6,e6,p6,tm⟩
   obtain ⟨w,ew,hw⟩:=aH p6 hu
   have jl:=(ir.mp hu).1
   refine ⟨_,rfl,.inl ⟨rfl,_,aR.of tm.nS.1⟩,_,rfl,fun d nd=> ?_⟩
   have t1:=aC nd (.dK [])
   have d1:(upd H6 d (.dK [])) d=some (.dK []):=ai
   generalize upd H6 d (.dK [])=H7 at t1 d1 ⊢
   refine ⟨_,rfl,_,rfl,d1,[(.inr p.nm,u)],rfl,(by show 1≤15;decide),?_⟩
   rw [Mg]
   have st:bB H7 (upd H7 d (.dK [(.inr p.nm,u)])):=.dict d1
   have d8:(upd H7 d (.dK [(.inr p.nm,u)])) d=some (.dK [(.inr p.nm,u)]):=ai
   have t8:aq H6 (upd H7 d (.dK [(.inr p.nm,u)])):=fun c o z=>by
    rw [aj (ak z nd)]
    exact t1 _ _ z
   have hw8:=(hw.same t1).a_ st
   generalize upd H7 d (.dK [(.inr p.nm,u)])=H8 at d8 t8 hw8 ⊢
   have s8:=s6.trans t8
   refine ⟨a,d,pins,bars,_,dy p.nm w,rfl,R.same s8,ac_ g.lp (by decide),d8,fun x=> ?_,fun l jI H9 t9 n9 e9 nm=> ?_⟩
   ·by_cases c1:x=p.nm
    ·subst c1
     exact .inr ⟨u,w,bJ rfl,by unfold dy;rw [if_pos rfl],hw8⟩
    ·exact .inl ⟨by rw [bu (fun z=>c1 (af8 z).symm)];rfl,by unfold dy;rw [if_neg c1]⟩
   have YD:=t8.trans t9
   have G':=tm.same YD
   have lr:l≠r:=fun z=>by rw [z,t8 _ _ tm.nS.1] at n9;cases n9
   have L8:ls.length≤14:=by
    have h1:=tm.nS.2.1
    have h2:=tm.num.1
    rw [afq,Wp,afN,gM] at h2
    have h3:((pins.take i).flatMap fun p=>p.ws).length+p.ws.length≤(pins.flatMap fun p=>p.ws).length:=by
     have e:pins=pins.take i++p::pins.drop (i+1):=by
      have lt:=(ir.mp hp).1
      have e2:=(ir.mp hp).2
      rw [← e2,apj,agS]
     have e3:=congrArg (fun l:List aE=>(l.flatMap fun p=>p.ws).length) e
     simp only [agb,afA,afq] at e3
     omega
    omega
   refine ⟨r,_,_,rfl,rfl,G'.nS.1,(by rw [Wp];omega),?_⟩
   have RN:=G'.push e9 lr nm
   have tr:bB H9 (upd H9 r (.lst (ls.map V.ref++[.ref l]))):=.list G'.nS.1
   have kk:∀b o,b≠r→H6 b=some o→(upd H9 r (.lst (ls.map V.ref++[.ref l]))) b=some o:=fun b o n e=>by rw [aj n];exact YD _ _ e
   refine ⟨_,ls++[l],b6++[jI],rfl,fun b o e=> ?_,kk _ _ Mf l6,kk _ _ mr e6,(p6.same YD).a_ tr,?_⟩
   ·exact kk _ _ (ak e nr) (s6 _ _ e)
   ·rw [take_snoc ew,afG, ← agt]
    exact RN
  ·rintro σ H6 ⟨o3,ls,b6,rfl,s6,l6,e6,p6,tm⟩
   refine ⟨_,_,ls,b6,rfl,s6,l6,?_⟩
   rw [lu,afS] at tm
   rw [take_snoc hp,agb]
   simpa [jW] using tm
 ·rintro σ H4 ⟨o2,o3,ls,b6,rfl,s4,l4,RR⟩
  rw [Wp,Wp,afS] at RR
  have R4:=R.same s4
  obtain ⟨dx,pP,pW,pB,kP,kW,kB,F4,W4⟩:=R4.ex
  refine ⟨_,rfl,a,C,dx,_,_,_,rfl,F4.obj,rfl,MB,a,dx,pP,pW,pB,_,_,kP,kW,kB,rfl,F4,fun lb H5 s5 QK vS=> ?_⟩
  rw [lF] at vS
  have bne:lb≠r:=fun z=>by rw [z,RR.nS.1] at QK;cases QK
  refine ⟨lb,rfl,⟨_,aR.of vS⟩,bI (K:=K) (a:=lb) (xs:=(bars.map (·.nm)).map V.str) (fun i σ H' =>∃(o4 o5:Option V) (ls:List Addr) (b6:List (List V)),σ=[some (.ref a),some (.ref r),o2,o3,o4,o5]∧aq H H' ∧H' lb=some (.lst ((bars.map (·.nm)).map V.str))∧gi K H' r ls b6 ((pins.flatMap fun p=>jW pins p)++(bars.take i).map fun b=>di (dN b) pins)) ⟨none,none,ls,b6,rfl,s4.trans s5,vS,by simpa using RR.same s5⟩ (fun i σ H' _ h=>by
    obtain ⟨_,_,_,_,_,_,h,_⟩:=h
    exact aR.of h) ?_ ?_⟩
  ·rintro i z σ H6 hi ⟨o4,o5,ls,b6,rfl,s6,l6,tm⟩
   rw [aa_,aa_] at hi
   obtain ⟨x,hx,rfl⟩:=afu.mp hi
   obtain ⟨b,hb,rfl⟩:=afu.mp hx
   have mb:b∈bars:=abt hb
   have il:=(ir.mp hb).1
   have R6:=R.same s6
   obtain ⟨dx,pP,pW,pB,kP,kW,kB,F6,W6⟩:=R6.ex
   refine ⟨_,rfl,a,C,dx,_,_,_,rfl,F6.obj,rfl,ME,_,rfl,a,dx,pP,pW,pB,_,_,kP,kW,kB,b.nm,b.one.nm,b.other.nm,rfl,F6,Kl g.nb,afr.mpr ⟨b,mb,rfl⟩,fun p rd=> ?_⟩
   have tp:bF K H6 p [.str b.one.nm,.str b.other.nm]:=.inl rd
   obtain ⟨m1,m2,m3⟩:=g.ends b mb
   refine ⟨_,rfl,.inl ⟨rfl,_,aR.of tm.nS.1⟩,_,rfl,_,rfl,p,_,_,_,rfl,rfl,tp,iP,_,rfl,p,_,_,_,rfl,rfl,tp,iQ,?_⟩
   refine ⟨a,pins,bars,b,rfl,R6,g,m1,m2,m3,fun l jI H9 t9 n9 e9 nm=> ?_⟩
   have G':=tm.same t9
   have lr:l≠r:=fun z=>by rw [z,tm.nS.1] at n9;cases n9
   have L8:ls.length≤22:=by
    have h1:=tm.nS.2.1
    have h2:=tm.num.1
    rw [afq,Wp,afN,gM] at h2
    have:=g.lb
    omega
   refine ⟨r,_,_,rfl,rfl,G'.nS.1,(by rw [Wp];omega),?_⟩
   have RN:=G'.push e9 lr nm
   have kk:∀c o,c≠r→H6 c=some o→(upd H9 r (.lst (ls.map V.ref++[.ref l]))) c=some o:=fun c o n e=>by rw [aj n];exact t9 _ _ e
   refine ⟨_,_,ls++[l],b6++[jI],rfl,fun c o e=>kk _ _ (ak e nr) (s6 _ _ e),kk _ _ bne l6,?_⟩
   rw [take_snoc hb,afG, ← agt]
   exact RN
  ·rintro σ H6 ⟨o4,o5,ls,b6,rfl,s6,l6,tm⟩
   rw [Wp,Wp,afS] at tm
   exact ⟨_,rfl,q r ls b6 H6 s6 nr tm⟩
theorem CD {xs:List V}{i j:Nat}(h:i≤j)(hj:j≤xs.length):d9 xs (some (i:Int)) (some (j:Int))=(xs.drop i).take (j - i):=by
 unfold d9
 rw [HT.kX,HT.kX,ag2 hj,ag2 (show i≤xs.length by omega)]
theorem f' {α β:Type}{R:α→β→Prop}:∀{l:List α} {m:List β} (n:Nat),Paired R l m→Paired R (l.drop n) (m.drop n)
 | _,_,0,h=>h
 | _,_,_+1,.nil=>.nil
 | _,_,n+1,.cons _ t=>f' n t
theorem ji {α β:Type}{R:α→β→Prop}:∀{l:List α} {m:List β} (n:Nat),Paired R l m→Paired R (l.take n) (m.take n)
 | _,_,0,_=>.nil
 | _,_,_+1,.nil=>.nil
 | _,_,n+1,.cons h t=>.cons h (ji n t)
theorem jk:∀(more kvs:List (Key×V)),((kvs++more).map (·.1)).Nodup→bW kvs more=kvs++more
 | [],kvs,_=>by simp [bW]
 | p::r,kvs,h=>by
  have e:bW kvs (p::r)=bW (putK kvs p.1 p.2) r:=rfl
  have hn:p.1∉kvs.map (·.1):=fun z=>by
   rw [afG,afp,agw] at h
   exact h.2.2 p.1 z p.1 afD rfl
  rw [e,c8 _ (cx hn),jk r (kvs++[(p.1,p.2)]) (by rw [agt];exact h),agt]
  rfl
theorem vT {R:V→Rat→Prop}:∀{bars:List bg} {ys:List V} {rs:List Rat},(bars.map (·.nm)).Nodup→bars.length=rs.length→Paired R ys rs→
  ∃T:Str→Rat,bars.map (fun b=>T b.nm)=rs∧(((bars.map fun b=>(afV b.nm:Key)).zip ys).map (·.1))=bars.map (fun b=>(afV b.nm:Key))∧∀b∈bars,∃v,bV ((bars.map fun b=>(afV b.nm:Key)).zip ys) (.inr b.nm)=some v∧R v (T b.nm)
 | [],_,[],_,_,.nil=>⟨fun _=>0,rfl,rfl,by simp⟩
 | _::_,[],_,_,hl,.nil=>by simp at hl
 | b::bs,y::ys,r::rs,nd,hl,.cons h t=>by
  rw [afp,afX] at nd
  obtain ⟨T,h1,h2,h3⟩:=vT nd.2 (by simpa using hl) t
  have ne:∀c∈bs,c.nm≠b.nm:=fun c hc z=>nd.1 (z▸afr.mpr ⟨c,hc,rfl⟩)
  obtain ⟨T',t1,t2⟩:∃T' :Str→Rat,T' b.nm=r∧∀x,x≠b.nm→T' x=T x:=⟨fun x=>if x=b.nm then r else T x,if_pos rfl,fun x h=>if_neg h⟩
  refine ⟨T',?_,?_,fun c hc=> ?_⟩
  ·have em:bs.map (fun c=>T' c.nm)=rs:=by
    rw [← h1]
    exact af5 fun c hc=>t2 _ (ne c hc)
   rw [afp,t1,em]
  ·rw [afp,apy,afp,h2]
  ·rw [afp,apy]
   rcases afK.mp hc with e | hc
   ·subst e
    exact ⟨y,bJ rfl,by rw [t1];exact h⟩
   ·obtain ⟨v,e1,e2⟩:=h3 c hc
    refine ⟨v,?_,by rw [t2 _ (ne c hc)];exact e2⟩
    rw [bu (fun z=>ne c hc (af8 z).symm)]
    exact e1
def bC (pins:List aE):Nat:=(pins.flatMap fun p=>p.ws).length
theorem mW (ps:List aE)(p:aE):bC (ps++[p])=bC ps+p.ws.length:=by
 unfold bC
 rw [agb,afq]
 simp
theorem uV {pins:List aE}{i:Nat}{p:aE}(h:pins[i]? =some p):bC (pins.take i)+p.ws.length≤bC pins:=by
 have e:pins=pins.take i++p::pins.drop (i+1):=by
  have lt:=(ir.mp h).1
  have e2:=(ir.mp h).2
  rw [← e2,apj,agS]
 have e3:=congrArg (fun l:List aE=>(l.flatMap fun p=>p.ws).length) e
 simp only [agb,afA,afq] at e3
 unfold bC
 omega
structure YE (K:Frag)(H H' :Hp)(pins:List aE)(bars:List bg)(dT dU:Addr)(kT kU:List (Key×V))(T:Str→Rat)(U:Str→List Rat)(L:Str→Addr):Prop where
 nT:H dT=none
 nU:H dU=none
 ne:dT≠dU
 hT:H' dT=some (.dK kT)
 hU:H' dU=some (.dK kU)
 CG:kT.map (·.1)=bars.map (fun b=>(afV b.nm:Key))
 CH:kU.map (·.1)=pins.map (fun p=>(afV p.nm:Key))
 tT:∀b∈bars,∃v,bV kT (.inr b.nm)=some v∧dE K H' v (T b.nm)
 tU:∀p∈pins,∃vs,bV kU (.inr p.nm)=some (.ref (L p.nm))∧H (L p.nm)=none∧H' (L p.nm)=some (.lst vs)∧Paired (dE K H') vs (U p.nm)
 lU:∀p∈pins,(U p.nm).length=p.ws.length
 inj:∀p∈pins,∀q∈pins,L p.nm=L q.nm→p.nm=q.nm
inductive Mj (K:Frag)(C:Addr)(vs:List V)(H:Hp)(Q:VK)(E_:XK):Prop where
 | mk (a nl:Addr) (pins:List aE) (bars:List bg) (us:List V) (rs:List Rat) (_:vs=[.ref a,.ref nl]) (_:vH K H C a pins bars) (_:eY pins bars) (_:H nl=some (.lst us)) (_:Paired (dE K H) us rs) (_:rs.length=bC pins+bars.length) (_:∀(T:Str→Rat) (U:Str→List Rat) (L:Str→Addr) (p dT dU:Addr) (kT kU:List (Key×V)) (H' :Hp),aq H H' →rs=(pins.flatMap fun p=>U p.nm)++bars.map (fun b=>T b.nm)→H' p=some (.tup [.ref dT,.ref dU])→YE K H H' pins bars dT dU kT kU T U L→Q (.ref p) H'):Mj K C vs H Q E_
theorem uW {ps:List aE}{U W:Str→List Rat}(h:∀p∈ps,U p.nm=W p.nm):(ps.flatMap fun p=>U p.nm)=ps.flatMap fun p=>W p.nm:=by
 induction ps with
 | nil=>rfl
 | cons p ps ih=>
  rw [afA,afA,h p afD,ih fun q hq=>h q (aft _ hq)]
theorem mX:ay ["F","numbers","pushes","at","pin","behind","pulls"] ["F","numbers"] (af xC):=sq
theorem QL {C:Addr}(D:Def K mg "pulls_and_pushes" xC ["F","numbers"])(aZ:mg "len"=none)(fj:mg "dict"=none)(ik:mg "zip"=none)(MP:bG P w K mg base (aX P w) 1 C "pins" ["self"] (gK K C))(MW:bG P w K mg base (aX P w) 2 C "ways" ["self","pin"] (mS K C))(MB:bG P w K mg base (aX P w) 1 C "bars" ["self"] (iG K C)):
  Fn P w K mg base (aX P w) 3 "pulls_and_pushes" ["F","numbers"] (Mj K C):=by
 refine D.ok mX (fun vs H Q E h=> ?_) (fun f bf A outer s H vs Q E hr h=> ?_)
 ·obtain ⟨a,nl,pins,bars,us,rs,rfl,_⟩:=h
  rfl
 obtain ⟨a,nl,pins,bars,us,rs,rfl,R,g,hn,hu,hl,q⟩:=h
 have lu:us.length=rs.length:=Paired.length hu
 have wl:bC pins≤2*pins.length:=mV pins g.lw
 have gl:=g.lp
 have gb:=g.lb
 refine ⟨_,(ae (aG (i:=2) mX.nd rfl (ab_ rfl) ef)
  (ae (aG (i:=3) mX.nd rfl (ab_ rfl) ag)
  (ae (bh PassesOwn.never rfl (aY (dz (k:=1) (pv 0) hr.mo (pY P w))) (au (i:=4) mX.nd rfl (ab_ rfl)) (ae (aG (i:=5) mX.nd rfl (ab_ rfl) (aO b7 (pv 3) (aD aF rfl aZ bQ (ao (c6 (k:=2) (pv 0) hr.mo (pY P w) (ao (pv 4) aa)) aa))))
   (ae (fW (bN hr) (pv 2) (pv 4) (d7 iT (pv 1) (eQ (pv 3)) (eQ (pv 5))) rfl)
   (ah (aG (i:=3) mX.nd rfl (ab_ rfl) (pv 5))))))
  (ae (aG (i:=6) mX.nd rfl (ab_ rfl) (BH rfl rfl fj rfl ik (ao (dz (k:=1) (pv 0) hr.mo (pY P w)) (ao (d7 iT (pv 1) (eQ (pv 3)) gT) aa))))
  (ah (aw (aV (ao (pv 6) (ao (pv 2) aa))))))))),?_⟩
 intro dU nU
 have s1:=aC nU (.dK [])
 have e1:(upd H dU (.dK [])) dU=some (.dK []):=ai
 generalize upd H dU (.dK [])=H1 at s1 e1 ⊢
 have R1:=R.same s1
 obtain ⟨dx,pP,pW,pB,kP,kW,kB,F1,W1⟩:=R1.ex
 refine ⟨_,rfl,a,C,dx,_,_,_,rfl,F1.obj,rfl,MP,a,dx,pP,pW,pB,_,_,kP,kW,kB,rfl,F1,fun lp H2 s2 uU q_=> ?_⟩
 rw [f_] at q_
 have kN:=s1.trans s2
 have Mf:lp≠dU:=fun z=>by rw [z,e1] at uU;cases uU
 refine ⟨lp,rfl,⟨_,aR.of q_⟩,bI (K:=K) (a:=lp) (xs:=(pins.map (·.nm)).map V.str) (fun i σ H' =>∃(o4 o5:Option V) (kU:List (Key×V)) (U:Str→List Rat) (L:Str→Addr),σ=[some (.ref a),some (.ref nl),some (.ref dU),some (.int (bC (pins.take i):Int)),o4,o5,none]∧aq H H' ∧H' lp=some (.lst ((pins.map (·.nm)).map V.str))∧H' dU=some (.dK kU)∧kU.map (·.1)=(pins.take i).map (fun p=>(afV p.nm:Key))∧((pins.take i).flatMap fun p=>U p.nm)=rs.take (bC (pins.take i))∧
   (∀p∈pins.take i,∃vs,bV kU (.inr p.nm)=some (.ref (L p.nm))∧H (L p.nm)=none∧H' (L p.nm)=some (.lst vs)∧Paired (dE K H') vs (U p.nm))∧(∀p∈pins.take i,(U p.nm).length=p.ws.length)∧(∀p∈pins.take i,∀q∈pins.take i,L p.nm=L q.nm→p.nm=q.nm))
   ⟨none,none,[],fun _=>[],fun _=>0,rfl,kN,q_,s2 _ _ e1,rfl,rfl,by simp,by simp,by simp⟩ (fun i σ H' _ h=>by
   obtain ⟨_,_,_,_,_,_,_,h,_⟩:=h
   exact aR.of h) ?_ ?_⟩
 ·rintro i z σ H4 hi ⟨o4,o5,kU,U,L,rfl,s4,l4,e4,ks,fl,tU,lU,inj⟩
  rw [aa_,aa_] at hi
  obtain ⟨x,hx,rfl⟩:=afu.mp hi
  obtain ⟨p,hp,rfl⟩:=afu.mp hx
  have mp:p∈pins:=abt hp
  have il:i < pins.length:=(ir.mp hp).1
  have R4:=R.same s4
  obtain ⟨dx,pP,pW,pB,kP,kW,kB,F4,W4⟩:=R4.ex
  have YC:p.nm∈(pins.map fun p=>(p.nm,sQ p.sp)).map (·.1):=by rw [f_];exact afr.mpr ⟨p,mp,rfl⟩
  refine ⟨_,rfl,_,rfl,a,C,dx,_,_,_,rfl,F4.obj,rfl,MW,_,rfl,a,dx,pP,pW,pB,_,_,kP,kW,kB,_,p.nm,p.ws,rfl,F4,W4,Kk g.np,afr.mpr ⟨p,mp,rfl⟩,YC,fun m vs H5 s5 n5 e5 p5=> ?_⟩
  have lv:vs.length=p.ws.length:=Paired.length p5
  refine ⟨m,_,rfl,.inl (aR.of e5),_,_,rfl,rfl,?_⟩
  have tk:=take_snoc hp
  have wn:bC (pins.take (i+1))=bC (pins.take i)+p.ws.length:=by rw [tk,mW]
  have wt:=uV hp
  have eb:(bC (pins.take i):Int)+((vs.length:Nat):Int)=((bC (pins.take (i+1)):Nat):Int):=by rw [wn,lv];omega
  have HE:=s4.trans s5
  have GP:=HE _ _ hn
  dsimp only
  rw [eb]
  refine ⟨_,rfl,_,rfl,_,rfl,_,rfl,_,rfl,nl,_,rfl,aR.of GP,?_⟩
  rw [CD (by omega) (by omega)]
  intro m2 n6;generalize eX:upd _ m2 _=H6;have ⟨s6,e6⟩:=nw n6 eX;clear eX
  have QM:=s6 _ _ (s5 _ _ e4)
  have lk:kU.length≤7:=by
   have z:=congrArg ago ks
   rw [Wp,Wp,afN] at z
   omega
  refine ⟨_,rfl,_,rfl,dU,_,rfl,kJ.k (k:=.inr p.nm) QM (afs (show kU.length≤1000 by omega) (by decide)),?_⟩
  have fresh:(afV p.nm:Key)∉kU.map (·.1):=by
   rw [ks]
   intro z
   obtain ⟨b',gX,PL⟩:=afr.mp z
   exact fE (nm:=aE.nm) g.np hp gX (af8 PL)
  have pk:putK kU (.inr p.nm) (.ref m2)=kU++[(.inr p.nm,.ref m2)]:=c8 _ (cx fresh)
  have t6:bB H6 (upd H6 dU (.dK (putK kU (.inr p.nm) (.ref m2)))):=.dict QM
  have B_:=s5.trans s6
  have md:m2≠dU:=fun z=>by rw [z,s5 _ _ e4] at n6;cases n6
  have kk:∀b o,b≠dU→H4 b=some o→(upd H6 dU (.dK (putK kU (.inr p.nm) (.ref m2)))) b=some o:=fun b o n e=>by rw [aj n];exact B_ _ _ e
  have ne:∀p' ∈pins.take i,p'.nm≠p.nm:=fun p' jX =>fE (nm:=aE.nm) g.np hp jX
  have qA :∀p' ∈pins.take (i+1),p' ∈pins.take i∨p' =p:=fun p' jX =>by
   rw [tk] at jX
   rcases afM.mp jX with h | h
   ·exact .inl h
   ·exact .inr (afI.mp h)
  have hold:∀p' ∈pins.take i,∃o,H4 (L p'.nm)=some o:=fun p' jX =>by
   obtain ⟨vs,_,_,h,_⟩:=tU p' jX
   exact ⟨_,h⟩
  obtain ⟨U',YF,YG⟩:∃U' :Str→List Rat,U' p.nm=(rs.drop (bC (pins.take i))).take p.ws.length∧∀x,x≠p.nm→U' x=U x:=⟨fun x=>if x=p.nm then (rs.drop (bC (pins.take i))).take p.ws.length else U x,if_pos rfl,fun x h=>if_neg h⟩
  obtain ⟨L',LW,Kh⟩:∃L' :Str→Addr,L' p.nm=m2∧∀x,x≠p.nm→L' x=L x:=⟨fun x=>if x=p.nm then m2 else L x,if_pos rfl,fun x h=>if_neg h⟩
  refine ⟨_,rfl,_,_,putK kU (.inr p.nm) (.ref m2),U',L',rfl,fun b o e=> ?_,kk _ _ Mf l4,ai,?_,?_,fun p' jX => ?_,fun p' jX => ?_,fun p' jX q' iw => ?_⟩
  ·rw [aj (ak e nU)]
   exact B_ _ _ (s4 _ _ e)
  ·rw [pk,afG,ks,tk,afG]
   rfl
  ·rw [tk,agb,mW]
   rw [uW (U:=U') (W:=U) fun p' jX =>YG _ (ne p' jX),fl]
   simp only [afA,apP,agc,YF]
   rw [List.take_add]
  ·rw [se]
   rcases qA p' jX with h | h
   ·rw [if_neg (fun z=>ne p' h (af8 z)),Kh _ (ne p' h),YG _ (ne p' h)]
    obtain ⟨eJ,h1,h2,h3,h4⟩:=tU p' h
    exact ⟨eJ,h1,h2,kk _ _ (fun z=>by rw [z,e4] at h3;cases h3) h3,Paired.cw h4 fun _ _ z=>(z.same B_).a_ t6⟩
   ·subst h
    rw [if_pos rfl,LW,YF]
    refine ⟨_,rfl,(s4.trans s5).free n6,by rw [aj md];exact e6,?_⟩
    have a1:=ji (bC (pins.take (i+1)) - bC (pins.take i)) (f' (bC (pins.take i)) hu)
    have a2:bC (pins.take (i+1)) - bC (pins.take i)=p'.ws.length:=by omega
    rw [a2] at a1 ⊢
    exact Paired.cw a1 fun _ _ z=>((z.same s4).same B_).a_ t6
  ·rcases qA p' jX with h | h
   ·rw [YG _ (ne p' h)]
    exact lU p' h
   ·subst h
    rw [YF,afN,agT]
    omega
  ·rcases qA p' jX with h | h <;> rcases qA q' iw with h' | h'
   ·rw [Kh _ (ne p' h),Kh _ (ne q' h')]
    exact inj p' h q' h'
   ·subst h'
    rw [Kh _ (ne p' h),LW]
    intro z
    obtain ⟨o,ho⟩:=hold p' h
    rw [z,s5.free n6] at ho
    cases ho
   ·subst h
    rw [Kh _ (ne q' h'),LW]
    intro z
    obtain ⟨o,ho⟩:=hold q' h'
    rw [← z,s5.free n6] at ho
    cases ho
   ·intro _
    rw [h,h']
 ·rintro σ H4 ⟨o4,o5,kU,U,L,rfl,s4,l4,e4,ks,fl,tU,lU,inj⟩
  rw [Wp,Wp,afS] at ks fl tU lU inj
  have R4:=R.same s4
  obtain ⟨dx,pP,pW,pB,kP,kW,kB,F4,W4⟩:=R4.ex
  refine ⟨_,rfl,a,C,dx,_,_,_,rfl,F4.obj,rfl,MB,a,dx,pP,pW,pB,_,_,kP,kW,kB,rfl,F4,fun lb H5 s5 QK vS=> ?_⟩
  rw [lF] at vS
  have HE:=s4.trans s5
  refine ⟨_,rfl,_,rfl,_,rfl,nl,_,rfl,aR.of (HE _ _ hn),?_⟩
  have hw:bC pins≤us.length:=by omega
  rw [Wp,Wp,afS,oQ hw]
  intro m2 n6;generalize eX:upd _ m2 _=H6;have ⟨s6,e6⟩:=nw n6 eX;clear eX
  have hp6:Paired (dE K H6) (us.drop (bC pins)) (rs.drop (bC pins)):=Paired.cw (f' (bC pins) hu) fun _ _ z=>(z.same HE).same s6
  obtain ⟨T,h1,h2,h3⟩:=vT (R:=dE K H6) g.nb (by rw [agT];omega) hp6
  have eks:(bars.map (·.nm)).map V.str=(bars.map fun b=>(afV b.nm:Key)).map kV:=by
   rw [afH,afH]
   rfl
  rw [eks] at vS
  refine ⟨lb,m2,bars.map fun b=>(afV b.nm:Key),us.drop (bC pins),rfl,s6 _ _ vS,e6,by rw [Wp];omega,fun dT H7 s7 n7 e7=> ?_⟩
  have ndk:(bars.map fun b=>(afV b.nm:Key)).Nodup:=by
   have:=xm g.nb
   rw [afH] at this
   exact this
  rw [jk _ [] (by rw [agD,h2];exact ndk),agD] at e7
  refine ⟨_,rfl,_,rfl,(by show 2≤sizeLine;decide),?_⟩
  intro pt n8;generalize eX:upd _ pt _=H8;have ⟨s8,e8⟩:=nw n8 eX;clear eX
  have Wq:=(s5.trans s6).trans (s7.trans s8)
  have Wr:=s4.trans Wq
  have er:rs=(pins.flatMap fun p=>U p.nm)++bars.map (fun b=>T b.nm):=by rw [fl,h1,agS]
  refine q T U L pt dT dU _ kU H8 Wr er e8 ⟨(HE.trans s6).free n7,nU,(fun z=>by rw [z,s6 _ _ (s5 _ _ e4)] at n7;cases n7),s8 _ _ e7,Wq _ _ e4,h2,ks,fun b hb=> ?_,fun p hp=> ?_,lU,inj⟩
  ·obtain ⟨v,e1,e2⟩:=h3 b hb
   exact ⟨v,e1,(e2.same s7).same s8⟩
  ·obtain ⟨eJ,a1,a2,a3,a4⟩:=tU p hp
   exact ⟨eJ,a1,a2,Wq _ _ a3,Paired.cw a4 fun _ _ z=>z.same Wq⟩
inductive mY (K:Frag)(C:Addr)(vs:List V)(H:Hp)(Q:VK)(E_:XK):Prop where
 | mk (a nl:Addr) (pins:List aE) (bars:List bg) (us:List V) (rs:List Rat) (_:vs=[.ref a,.ref nl]) (_:vH K H C a pins bars) (_:eY pins bars) (_:H nl=some (.lst us)) (_:Paired (dE K H) us rs) (_:rs.length=2*pins.length) (_:∀(M:Str→Rat×Rat) (d:Addr) (kM:List (Key×V)) (H' :Hp),aq H H' →rs=(pins.flatMap fun p=>[(M p.nm).1,(M p.nm).2])→H d=none→H' d=some (.dK kM)→kM.map (·.1)=pins.map (fun p=>(afV p.nm:Key))→(∀p∈pins,∃t v1 v2,bV kM (.inr p.nm)=some (.ref t)∧H' t=some (.tup [v1,v2])∧dE K H' v1 (M p.nm).1∧dE K H' v2 (M p.nm).2)→Q (.ref d) H'):mY K C vs H Q E_
theorem tq {ps:List aE}{U W:Str→Rat×Rat}(h:∀p∈ps,U p.nm=W p.nm):(ps.flatMap fun p=>[(U p.nm).1,(U p.nm).2])=ps.flatMap fun p=>[(W p.nm).1,(W p.nm).2]:=by
 induction ps with
 | nil=>rfl
 | cons p ps ih=>
  rw [afA,afA,h p afD,ih fun q hq=>h q (aft _ hq)]
theorem vU:ay ["F","numbers","motion","at","pin"] ["F","numbers"] (af xD):=sq
theorem QN {C:Addr}(D:Def K mg "motion_from" xD ["F","numbers"])(cW:mg "enumerate"=none)(MP:bG P w K mg base (aX P w) 1 C "pins" ["self"] (gK K C)):
  Fn P w K mg base (aX P w) 2 "motion_from" ["F","numbers"] (mY K C):=by
 refine D.ok vU (fun vs H Q E h=> ?_) (fun f bf A outer s H vs Q E hr h=> ?_)
 ·obtain ⟨a,nl,pins,bars,us,rs,rfl,_⟩:=h
  rfl
 obtain ⟨a,nl,pins,bars,us,rs,rfl,R,g,hn,hu,hl,q⟩:=h
 have lu:us.length=rs.length:=Paired.length hu
 have gl:=g.lp
 refine ⟨_,(ae (aG (i:=2) vU.nd rfl (ab_ rfl) ef)
  (ae (bh PassesOwn.never rfl (vC rfl cW (ao (dz (k:=1) (pv 0) hr.mo (pY P w)) aa)) (dI rfl (aU (au (i:=3) vU.nd rfl (ab_ rfl)) (aU (au (i:=4) vU.nd rfl (ab_ rfl)) cz))) (ah (fW (bN hr) (pv 2) (pv 4) (aV (ao (aT aS (pv 1) (aO cA ag (pv 3)) (fun _ _=>rfl)) (ao (aT aS (pv 1) (aO b7 (aO cA ag (pv 3)) ag) (fun _ _=>rfl)) aa))) rfl)))
  (ah (aw (pv 2))))),?_⟩
 intro d nd
 have s1:=aC nd (.dK [])
 have e1:(upd H d (.dK [])) d=some (.dK []):=ai
 generalize upd H d (.dK [])=H1 at s1 e1 ⊢
 have R1:=R.same s1
 obtain ⟨dx,pP,pW,pB,kP,kW,kB,F1,W1⟩:=R1.ex
 refine ⟨_,rfl,a,C,dx,_,_,_,rfl,F1.obj,rfl,MP,a,dx,pP,pW,pB,_,_,kP,kW,kB,rfl,F1,fun lp H2 s2 uU q_=> ?_⟩
 rw [f_] at q_
 have kN:=s1.trans s2
 have Mf:lp≠d:=fun z=>by rw [z,e1] at uU;cases uU
 refine ⟨lp,rfl,⟨_,aR.of q_⟩,sL (K:=K) (a:=lp) (xs:=(pins.map (·.nm)).map V.str) (fun i σ H' =>∃(o3 o4:Option V) (kM:List (Key×V)) (M:Str→Rat×Rat),σ=[some (.ref a),some (.ref nl),some (.ref d),o3,o4]∧aq H H' ∧H' lp=some (.lst ((pins.map (·.nm)).map V.str))∧H' d=some (.dK kM)∧kM.map (·.1)=(pins.take i).map (fun p=>(afV p.nm:Key))∧((pins.take i).flatMap fun p=>[(M p.nm).1,(M p.nm).2])=rs.take (2*i)∧
   (∀p∈pins.take i,∃t v1 v2,bV kM (.inr p.nm)=some (.ref t)∧H' t=some (.tup [v1,v2])∧dE K H' v1 (M p.nm).1∧dE K H' v2 (M p.nm).2))
   ⟨none,none,[],fun _=>(0,0),rfl,kN,q_,s2 _ _ e1,rfl,rfl,by simp⟩ (fun i σ H' _ h=>by
   obtain ⟨_,_,_,_,_,_,h,_⟩:=h
   exact aR.of h) ?_ ?_⟩
 ·rintro i z σ H4 p9 hi ⟨o3,o4,kM,M,rfl,s4,l4,e4,ks,fl,tM⟩ n9
  rw [aa_,aa_] at hi
  obtain ⟨x,hx,rfl⟩:=afu.mp hi
  obtain ⟨p,hp,rfl⟩:=afu.mp hx
  have il:i < pins.length:=(ir.mp hp).1
  have t9:=aC n9 (.tup [.int (i:Int),.str p.nm])
  have e9:(upd H4 p9 (.tup [.int (i:Int),.str p.nm])) p9=some (.tup [.int (i:Int),.str p.nm]):=ai
  generalize upd H4 p9 (.tup [.int (i:Int),.str p.nm])=H5 at t9 e9 ⊢
  refine ⟨p9,_,rfl,bF.of e9,rfl,_,_,rfl,_,_,rfl,rfl,?_⟩
  have HE:=s4.trans t9
  have GP:=HE _ _ hn
  have l1:2*i < us.length:=by omega
  have l2:2*i+1 < us.length:=by omega
  have c2:rN 2 (i:Int):=⟨by decide+kernel,ac_ (intBits_le_64 (by omega) (by omega)) (by decide)⟩
  have a1:ft us (2*(i:Int))=some us[2*i]:=by
   have:=bH (xs:=us) (j:=2*i) (gE l1)
   rw [show ((2*i:Nat):Int)=2*(i:Int) by omega] at this
   exact this
  have a2:ft us (2*(i:Int)+1)=some us[2*i+1]:=by
   have:=bH (xs:=us) (j:=2*i+1) (gE l2)
   rw [show ((2*i+1:Nat):Int)=2*(i:Int)+1 by omega] at this
   exact this
  refine ⟨_,rfl,_,rfl,_,_,rfl,rfl,c2,nl,_,_,_,rfl,rfl,aR.of GP,a1,?_⟩
  refine ⟨_,rfl,_,rfl,_,_,rfl,rfl,c2,_,_,rfl,rfl,nl,_,_,_,rfl,rfl,aR.of GP,a2,(by show 2≤sizeLine;decide),?_⟩
  intro t n6;generalize eX:upd _ t _=H6;have ⟨s6,e6⟩:=nw n6 eX;clear eX
  have QM:=s6 _ _ (t9 _ _ e4)
  have lk:kM.length≤7:=by
   have z:=congrArg ago ks
   rw [Wp,Wp,afN] at z
   omega
  refine ⟨_,rfl,_,rfl,d,_,rfl,kJ.k (k:=.inr p.nm) QM (afs (show kM.length≤1000 by omega) (by decide)),?_⟩
  have fresh:(afV p.nm:Key)∉kM.map (·.1):=by
   rw [ks]
   intro z
   obtain ⟨b',gX,PL⟩:=afr.mp z
   exact fE (nm:=aE.nm) g.np hp gX (af8 PL)
  have pk:putK kM (.inr p.nm) (.ref t)=kM++[(.inr p.nm,.ref t)]:=c8 _ (cx fresh)
  have t6:bB H6 (upd H6 d (.dK (putK kM (.inr p.nm) (.ref t)))):=.dict QM
  have B_:=t9.trans s6
  have td:t≠d:=fun z=>by rw [z,t9 _ _ e4] at n6;cases n6
  have kk:∀b o,b≠d→H4 b=some o→(upd H6 d (.dK (putK kM (.inr p.nm) (.ref t)))) b=some o:=fun b o n e=>by rw [aj n];exact B_ _ _ e
  have ne:∀p' ∈pins.take i,p'.nm≠p.nm:=fun p' jX =>fE (nm:=aE.nm) g.np hp jX
  have tk:=take_snoc hp
  obtain ⟨r1,er1,hr1⟩:=aH hu (gE l1)
  obtain ⟨r2,er2,hr2⟩:=aH hu (gE l2)
  obtain ⟨M',hM1,hM2⟩:∃M' :Str→Rat×Rat,M' p.nm=(r1,r2)∧∀x,x≠p.nm→M' x=M x:=⟨fun x=>if x=p.nm then (r1,r2) else M x,if_pos rfl,fun x h=>if_neg h⟩
  refine ⟨_,_,putK kM (.inr p.nm) (.ref t),M',rfl,fun b o e=> ?_,kk _ _ Mf l4,ai,?_,?_,fun p' jX => ?_⟩
  ·rw [aj (ak e nd)]
   exact B_ _ _ (s4 _ _ e)
  ·rw [pk,afG,ks,tk,afG]
   rfl
  ·rw [tk,agb,tq (U:=M') (W:=M) fun p' jX =>hM2 _ (ne p' jX),fl]
   simp only [afA,apP,agc,hM1]
   rw [show 2*(i+1)=2*i+1+1 by omega,agO,agO,er1,er2]
   simp
  ·rw [se]
   rw [tk] at jX
   rcases afM.mp jX with h | h
   ·rw [if_neg (fun z=>ne p' h (af8 z)),hM2 _ (ne p' h)]
    obtain ⟨t',v1,v2,h1,h2,h3,h4⟩:=tM p' h
    exact ⟨t',v1,v2,h1,kk _ _ (fun z=>by rw [z,e4] at h2;cases h2) h2,(h3.same B_).a_ t6,(h4.same B_).a_ t6⟩
   ·rw [afI.mp h,if_pos rfl,hM1]
    exact ⟨t,_,_,rfl,by rw [aj td];exact e6,((hr1.same HE).same s6).a_ t6,((hr2.same HE).same s6).a_ t6⟩
 ·rintro σ H4 ⟨o3,o4,kM,M,rfl,s4,l4,e4,ks,fl,tM⟩
  rw [Wp,Wp] at ks fl tM
  rw [afS] at ks fl tM
  rw [← hl,afS] at fl
  exact ⟨_,rfl,q M d kM H4 s4 fl.symm nd e4 ks tM⟩
def dt (a b:Rat×Rat):Rat:=a.1*b.1+a.2*b.2
def sP (as bs:List Rat):Rat:=(age (·*·) as bs).sum
theorem iI (bs:List Rat):sP [] bs=0:=by simp [sP]
theorem cJ (a b:Rat)(as bs:List Rat):sP (a::as) (b::bs)=a*b+sP as bs:=by simp [sP]
theorem iJ:∀{a c:List Rat} (b d:List Rat),a.length=c.length→sP (a++b) (c++d)=sP a c+sP b d
 | [],[],b,d,_=>by
  rw [agD,agD,iI]
  grind
 | x::a,y::c,b,d,h=>by
  rw [agU,agU,cJ,cJ,iJ b d (by simpa using h)]
  grind
 | [],_::_,_,_,h=>by simp at h
 | _::_,[],_,_,h=>by simp at h
theorem lG:∀(ys cs:List (Int×Int)),fV ys cs=sP (ys.map vl) (cs.map vl)
 | [],_=>by simp [fV,sP]
 | _::_,[]=>by simp [fV,sP]
 | y::ys,c::cs=>by rw [wX,afp,afp,cJ,lG ys cs]
theorem qB (F:Str→Option (Rat×Rat))(M:Str→Rat×Rat):∀pins:List aE,sP ((di F pins).map vl) (pins.flatMap fun p=>[(M p.nm).1,(M p.nm).2])=(pins.map fun p=>dt (mv F p.nm) (M p.nm)).sum
 | []=>by simp [di,sP]
 | p::ps=>by
  have ih:=qB F M ps
  unfold di at ih ⊢
  rw [afA,afA,afG,iJ _ _ (by simp),ih]
  simp only [afp,agi,eW,cJ,iI,agk]
  unfold dt
  grind
theorem HF {pins:List aE}(nd:(pins.map (·.nm)).Nodup){p:aE}(hp:p∈pins){f:Str→Rat}(h:∀q∈pins,q.nm≠p.nm→f q.nm=0):(pins.map fun q=>f q.nm).sum=f p.nm:=by
 induction pins with
 | nil=>simp at hp
 | cons q ps ih=>
  rw [afp,afX] at nd
  rw [afp,agk]
  have zero:∀(l:List aE),(∀r∈l,f r.nm=0)→(l.map fun q=>f q.nm).sum=0:=fun l hl=>by
   induction l with
   | nil=>simp
   | cons r l ihl=>
    rw [afp,agk,hl r afD,ihl fun s hs=>hl s (aft _ hs)]
    grind
  by_cases e:q.nm=p.nm
  ·rw [e,zero ps fun r hr=>h r (aft _ hr) fun z=>nd.1 (by rw [e, ← z];exact afr.mpr ⟨r,hr,rfl⟩)]
   grind
  ·rw [h q afD e]
   have jX :p∈ps:=by
    rcases afK.mp hp with z | z
    ·exact absurd (by rw [z]) e
    ·exact z
   rw [ih nd.2 jX fun r hr=>h r (aft _ hr)]
   grind
theorem iK (x:Str)(w:Rat×Rat)(y:Str):mv (dy x w) y=if y=x then w else (0,0):=by
 unfold mv dy
 by_cases e:y=x
 ·rw [if_pos e,if_pos e]
  rfl
 ·rw [if_neg e,if_neg e]
  rfl
theorem jm (m:Rat×Rat):dt (0,0) m=0:=by
 unfold dt
 grind
theorem qC {pins:List aE}(nd:(pins.map (·.nm)).Nodup){p:aE}(hp:p∈pins)(w:Rat×Rat)(M:Str→Rat×Rat):(pins.map fun q=>dt (mv (dy p.nm w) q.nm) (M q.nm)).sum=dt w (M p.nm):=by
 rw [HF nd hp (f:=fun x=>dt (mv (dy p.nm w) x) (M x)) fun q _ e=>by rw [iK,if_neg e];exact jm _]
 rw [iK,if_pos rfl]
theorem sum_add (f g:aE→Rat):∀l:List aE,(l.map fun q=>f q+g q).sum=(l.map f).sum+(l.map g).sum
 | []=>by
  simp only [agi,List.sum_nil]
  grind
 | p::l=>by
  rw [afp,agk,sum_add f g l,afp,afp,agk,agk]
  grind
def HG (M:Str→Rat×Rat)(b:bg):Rat:=dt (gL b.one b.other) ((M b.other.nm).1 - (M b.one.nm).1,(M b.other.nm).2 - (M b.one.nm).2)
theorem Ml (b:bg)(h:b.one.nm≠b.other.nm)(x:Str)(m:Rat×Rat):dt (mv (dN b) x) m=dt (mv (dy b.one.nm (gL b.one b.other)) x) m+dt (mv (dy b.other.nm (gL b.other b.one)) x) m:=by
 rw [iK,iK]
 unfold mv dN
 by_cases c1:x=b.one.nm
 ·rw [if_pos c1,if_pos c1,if_neg (fun z=>h (c1.symm.trans z)),jm]
  show dt (gL b.one b.other) m=_
  grind
 ·rw [if_neg c1,if_neg c1,jm]
  by_cases c2:x=b.other.nm
  ·rw [if_pos c2,if_pos c2]
   show dt (gL b.other b.one) m=_
   grind
  ·rw [if_neg c2,if_neg c2,jm]
   show dt (0,0) m=_
   rw [jm]
   grind
theorem HH {pins:List aE}(nd:(pins.map (·.nm)).Nodup)(b:bg)(h1:b.one∈pins)(h2:b.other∈pins)(h:b.one.nm≠b.other.nm)(M:Str→Rat×Rat):(pins.map fun q=>dt (mv (dN b) q.nm) (M q.nm)).sum= -(HG M b):=by
 have e:(pins.map fun q=>dt (mv (dN b) q.nm) (M q.nm))=pins.map fun q=>dt (mv (dy b.one.nm (gL b.one b.other)) q.nm) (M q.nm)+dt (mv (dy b.other.nm (gL b.other b.one)) q.nm) (M q.nm):=af5 fun q _=>Ml b h _ _
 rw [e,sum_add,qC nd h1,qC nd h2]
 unfold HG dt gL
 grind
def eE (bars:List bg)(T:Str→Rat)(U:Str→List Rat)(p:aE)(c:Rat×Rat→Rat):Rat:=sP (U p.nm) (p.ws.map c)+(bars.map fun b=>T b.nm*c (mv (dN b) p.nm)).sum
def CI (pins:List aE)(bars:List bg)(T:Str→Rat)(U:Str→List Rat)(L:Str→Option (Rat×Rat)):Prop:=∀p∈pins,eE bars T U p (·.1)+(mv L p.nm).1=0∧eE bars T U p (·.2)+(mv L p.nm).2=0
theorem qD:∀(as:List Rat) {α:Type} (l:List α),sP as (l.map fun _=>(0:Rat))=0
 | [],_,_=>iI _
 | _::_,_,[]=>by simp [sP]
 | a::as,_,x::l=>by
  rw [afp,cJ,qD as l]
  grind
theorem vV {U:Str→List Rat}{c:Rat×Rat→Rat}(c0:c (0,0)=0)(p:aE):∀(ps:List aE),(ps.map (·.nm)).Nodup→(∀q∈ps,(U q.nm).length=q.ws.length)→(∀q∈ps,q.nm=p.nm→q=p)→
  sP (ps.flatMap fun q=>U q.nm) (ps.flatMap fun q=>q.ws.map fun w=>c (mv (dy q.nm w) p.nm))=if p.nm∈ps.map (·.nm) then sP (U p.nm) (p.ws.map c) else 0
 | [],_,_,_=>by simp [sP]
 | q::ps,nd,hl,inj=>by
  rw [afp,afX] at nd
  have ih:=vV c0 p ps nd.2 (fun r hr=>hl r (aft _ hr)) fun r hr=>inj r (aft _ hr)
  rw [afA,afA,iJ _ _ (by rw [hl q afD,Wp]),ih,afp]
  by_cases e:q.nm=p.nm
  ·have eq:q=p:=inj q afD e
   subst eq
   have ec:(q.ws.map fun w=>c (mv (dy q.nm w) q.nm))=q.ws.map c:=af5 fun w _=>by rw [iK,if_pos rfl]
   rw [if_neg nd.1,if_pos afD,ec]
   grind
  ·have ec:(q.ws.map fun w=>c (mv (dy q.nm w) p.nm))=q.ws.map fun _=>(0:Rat):=af5 fun w _=>by rw [iK,if_neg (fun z=>e z.symm)];exact c0
   rw [ec,qD]
   by_cases hm:p.nm∈ps.map (·.nm)
   ·rw [if_pos hm,if_pos (aft _ hm)]
    grind
   ·rw [if_neg hm,if_neg (fun z=>by
     rcases afK.mp z with z | z
     ·exact e z.symm
     ·exact hm z)]
    grind
theorem CJ {α:Type}(f g:α→Rat):∀l:List α,sP (l.map f) (l.map g)=(l.map fun x=>f x*g x).sum
 | []=>by simp [sP]
 | x::l=>by rw [afp,afp,cJ,CJ f g l,afp,agk]
theorem HI {pins:List aE}{bars:List bg}{T:Str→Rat}{U:Str→List Rat}{L:Str→Option (Rat×Rat)}{c:Rat×Rat→Rat}(c0:c (0,0)=0)(nd:(pins.map (·.nm)).Nodup)(hl:∀q∈pins,(U q.nm).length=q.ws.length){p:aE}(hp:p∈pins)(y:Rat):
  sP ((pins.flatMap fun q=>U q.nm)++bars.map (fun b=>T b.nm)++[y]) (((pins.flatMap fun q=>q.ws.map fun w=>c (mv (dy q.nm w) p.nm))++bars.map fun b=>c (mv (dN b) p.nm))++[c (mv L p.nm)])=eE bars T U p c+y*c (mv L p.nm):=by
 have l1:(pins.flatMap fun q=>U q.nm).length=(pins.flatMap fun q=>q.ws.map fun w=>c (mv (dy q.nm w) p.nm)).length:=by
  clear hp nd
  induction pins with
  | nil=>rfl
  | cons q ps ih=>rw [afA,afA,afq,afq,ih fun r hr=>hl r (aft _ hr),hl q afD,Wp]
 rw [iJ _ _ (by rw [afq,afq,l1,Wp,Wp]),iJ _ _ l1,vV c0 p pins nd hl fun q hq e=>LQ (nm:=aE.nm) nd hq hp e,if_pos (afr.mpr ⟨p,hp,rfl⟩),CJ,cJ,iI]
 unfold eE
 grind
theorem qE (F:Str→Option (Rat×Rat)):∀{pins:List aE} {k:Nat} {p:aE},pins[k]? =some p→vl ((di F pins).getD (2*k) (0,1))=(mv F p.nm).1∧vl ((di F pins).getD (2*k+1) (0,1))=(mv F p.nm).2
 | q::ps,0,p,h=>by
  cases h
  unfold di
  rw [afA]
  exact ⟨eW _,eW _⟩
 | q::ps,k+1,p,h=>by
  have ih:=qE F (pins:=ps) (k:=k) (p:=p) (by simpa using h)
  unfold di at ih ⊢
  rw [afA]
  exact ih
theorem yE (pins:List aE)(bars:List bg)(L:Str→Option (Rat×Rat)){k:Nat}{p:aE}(h:pins[k]? =some p)(j:Nat)(c:Rat×Rat→Rat)(hj:∀F,vl ((di F pins).getD j (0,1))=c (mv F p.nm)):
  (nR (dk pins bars++[di L pins]) j).map vl=((pins.flatMap fun q=>q.ws.map fun w=>c (mv (dy q.nm w) p.nm))++bars.map fun b=>c (mv (dN b) p.nm))++[c (mv L p.nm)]:=by
 have flat:∀ps:List aE,((ps.flatMap fun q=>jW pins q).map fun qs=>vl (qs.getD j (0,1)))=ps.flatMap fun q=>q.ws.map fun w=>c (mv (dy q.nm w) p.nm):=fun ps=>by
  induction ps with
  | nil=>rfl
  | cons q ps ih=>
   rw [afA,afA,afG,ih]
   congr 1
   unfold jW
   rw [afH]
   exact af5 fun w _=>hj _
 unfold nR dk
 rw [afH,afG,afG,afp,agi]
 congr 1
 ·congr 1
  ·exact flat pins
  ·rw [afH]
   exact af5 fun b _=>hj _
 ·rw [← hj]
  rfl
theorem gc {k:Nat}(h:1≤k):Sz k 0:=by
 have:=uC (i:=0) (k:=k) (by simpa using Nat.two_pow_pos k) h
 simpa using this
structure Zb (n:Nat)(r:Rat):Prop where
 top:(qr r).1.natAbs≤2^n
 bot:(qr r).2.natAbs≤2^n
def zR (n:Nat):Nat:=bb (50+50*(2*n+1)) (2*n+1)+50*(2*n+1)
theorem Km {T B:Nat}{q:Int×Int}(h:Sm T B q):q=qr (vl q):=oM h.pos h.low
theorem Kn {k:Nat}{r:Rat}(h:Sz k r)(h2:k≤50):Sm 50 50 (qr r):=
 ⟨cO r,mL r,agh (afw (intBits_le_iff.mp h.top) (afP (by decide) h2)),agh (afw (intBits_le_iff.mp h.bot) (afP (by decide) h2))⟩
theorem vW {F:Str→Option (Rat×Rat)}(h:∀x,Sz 50 (mv F x).1∧Sz 50 (mv F x).2)(pins:List aE):∀q∈di F pins,Sm 50 50 q:=fun q hq=>by
 unfold di at hq
 obtain ⟨p,_,hq⟩:=agn.mp hq
 have z:=h p.nm
 rcases afK.mp hq with e | hq
 ·rw [e]
  exact Kn z.1 (ad_ _)
 ·rw [afI.mp hq]
  exact Kn z.2 (ad_ _)
theorem Mm {x:Str}{w:Rat×Rat}(h:Sz 50 w.1∧Sz 50 w.2)(y:Str):Sz 50 (mv (dy x w) y).1∧Sz 50 (mv (dy x w) y).2:=by
 rw [iK]
 by_cases c:y=x
 ·rw [if_pos c]
  exact h
 ·rw [if_neg c]
  exact ⟨gc (by decide),gc (by decide)⟩
theorem Mn {pins:List aE}{bars:List bg}(g:eY pins bars){b:bg}(hb:b∈bars)(y:Str):Sz 50 (mv (dN b) y).1∧Sz 50 (mv (dN b) y).2:=by
 obtain ⟨m1,m2,_⟩:=g.ends b hb
 have z1:=g.sz _ m1
 have z2:=g.sz _ m2
 unfold mv dN
 by_cases c1:y=b.one.nm
 ·rw [if_pos c1]
  exact ⟨(z2.1.sub z1.1).up (by decide),(z2.2.1.sub z1.2.1).up (by decide)⟩
 ·rw [if_neg c1]
  by_cases c2:y=b.other.nm
  ·rw [if_pos c2]
   exact ⟨(z1.1.sub z2.1).up (by decide),(z1.2.1.sub z2.2.1).up (by decide)⟩
  ·rw [if_neg c2]
   exact ⟨gc (by decide),gc (by decide)⟩
theorem uX {pins:List aE}{bars:List bg}(g:eY pins bars):∀qs∈dk pins bars,qs.length=2*pins.length∧∀q∈qs,Sm 50 50 q:=fun qs hq=>by
 unfold dk at hq
 rcases afM.mp hq with h | h
 ·obtain ⟨p,hp,h⟩:=agn.mp h
  unfold jW at h
  obtain ⟨w,hw,rfl⟩:=afr.mp h
  have z:=(g.sz p hp).2.2 w hw
  exact ⟨jh _ _,vW (Mm ⟨z.1.up (by decide),z.2.up (by decide)⟩) pins⟩
 ·obtain ⟨b,hb,rfl⟩:=afr.mp h
  exact ⟨jh _ _,vW (Mn g hb) pins⟩
theorem CK {n:Nat}(h:n≤7):bb (50+50*(2*n+1)) (2*n+1)≤29000000:=by
 have:n=0∨n=1∨n=2∨n=3∨n=4∨n=5∨n=6∨n=7:=by omega
 rcases this with rfl | rfl | rfl | rfl | rfl | rfl | rfl | rfl <;> decide
theorem mZ {H:Hp}{T B:Nat}:∀{us:List V} {qs:List (Int×Int)},cT K H us qs→(∀q∈qs,Sm T B q)→Paired (dE K H) us (qs.map vl)
 | [],[],_,_=>.nil
 | u::us,q::qs,h,hs=>by
  refine .cons ?_ (mZ ⟨by simpa using h.1,fun i u q e1 e2=>h.2 (i+1) u q (by simpa using e1) (by simpa using e2)⟩ fun r hr=>hs r (aft _ hr))
  have n:=h.2 0 u q rfl rfl
  show jy K H u (qr (vl q))
  rw [← Km (hs q afD)]
  exact n
 | [],_::_,h,_=>(nomatch h.1)
 | _::_,[],h,_=>(nomatch h.1)
structure MoR (K:Frag)(H H' :Hp)(pins:List aE)(d:Addr)(kM:List (Key×V))(M:Str→Rat×Rat):Prop where
 nM:H d=none
 hM:H' d=some (.dK kM)
 keys:kM.map (·.1)=pins.map (fun p=>(afV p.nm:Key))
 tM:∀p∈pins,∃t v1 v2,bV kM (.inr p.nm)=some (.ref t)∧H' t=some (.tup [v1,v2])∧dE K H' v1 (M p.nm).1∧dE K H' v2 (M p.nm).2
theorem g7.same {H H1:Hp}{E:XK}{C:Addr}{f:Str}{v:V}(h:g7 H E C f v)(s:aq H H1):g7 H1 E C f v:=fun d H' s' nd hd=>h d H' (s.trans s') (s.free nd) hd
theorem Ko {m n:Nat}{q:Int×Int}{T B:Nat}(h:Sm T B q)(h1:T≤n)(h2:B≤n):Zb n (vl q):=by
 have e:=Km h
 refine ⟨?_,?_⟩
 ·rw [← e]
  exact ac_ h.top (afP (by decide) h1)
 ·rw [← e]
  exact ac_ h.bot (afP (by decide) h2)
inductive qF (K:Frag)(vs:List V)(H:Hp)(Q:VK)(E_:XK):Prop where
 | mk (l:Addr) (us:List V) (rs:List Rat) (_:vs=[.ref l]) (_:H l=some (.lst us)) (_:Paired (dE K H) us rs) (_:us.length≤100) (_:∀(l' :Addr) (jI :List V) (H' :Hp),aq H H' →H' l' =some (.lst jI)→Paired (dE K H') jI (rs.map fun r=> -r)→Q (.ref l') H'):qF K vs H Q E_
theorem fJ {α:Type}{R:V→α→Prop}:∀{us:List V} {zs:List α},us.length=zs.length→(∀(i:Nat) (u:V),us[i]? =some u→∃z,zs[i]? =some z∧R u z)→Paired R us zs
 | [],[],_,_=>.nil
 | u::us,z::zs,l,h=>by
  obtain ⟨z',e,hz⟩:=h 0 u rfl
  cases e
  exact .cons hz (fJ (by simpa using l) fun i u e=>h (i+1) u (by simpa using e))
theorem QO:ay ["numbers"] ["numbers"] (af xE):=sq
theorem QP (D:Def K mg "signs_turned" xE ["numbers"]):Fn P w K mg base (aX P w) 1 "signs_turned" ["numbers"] (qF K):=by
 refine D.ok QO (fun vs H Q E h=> ?_) (fun f bf A outer s H vs Q E hr h=> ?_)
 ·obtain ⟨l,us,rs,rfl,_⟩:=h
  rfl
 obtain ⟨l,us,rs,rfl,hl,pp,ln,q⟩:=h
 have lu:=Paired.length pp
 refine ⟨_,(ah (aw (cg (tn:=["number"]) (fr:=[]) (caps:=[]) rfl ⟨rfl,by decide+kernel,rfl,by decide+kernel,by decide+kernel,rfl,trivial,trivial⟩ (aY (pv 0)) (fun _ _ _ _=>(au (i:=0) (show (["number"]:List Str).Nodup from by decide+kernel) rfl (ab_ rfl))) (fun _ _ _ _=>bT) (fun _ _ _ _=>(aV (ao (vf pd (aT (bO (K:=K) rfl) (pv 0) ag (fun _ _=>rfl))) (ao (aT (bO (K:=K) rfl) (pv 0) ag (fun _ _=>rfl)) aa))))))),?_⟩
 refine ⟨_,rfl,l,rfl,⟨_,aR.of hl⟩,fun D1 n1=> ?_⟩
 refine b_ (cap:=[]) (K:=K) (a:=l) (xs:=us) (fun i v H' =>∃r,rs[i]? =some r∧dE K H' v (-r)) n1 (afs ln (by decide)) (fun H2 s2=>aR.of (s2 _ _ hl)) (fun i v H6 H7 ys e ks ⟨r,h1,h2⟩=>⟨r,h1,h2.a_ (bB.ks e ks)⟩) ?_ ?_
 ·intro i u H2 R hu s2 k
  obtain ⟨r,er,hr⟩:=aH pp hu
  obtain ⟨p,rfl,hq⟩:jy K H2 u (qr r):=hr.same s2
  refine ⟨_,rfl,p,_,_,_,rfl,rfl,hq,iP,_,rfl,_,rfl,p,_,_,_,rfl,rfl,hq,iQ,(by show 2≤sizeLine;decide),?_⟩
  intro p3 n3;generalize eX:upd _ p3 _=H3;have ⟨s3,e3⟩:=nw n3 eX;clear eX
  refine k _ _ s3 ⟨r,er,p3,rfl,?_⟩
  rw [uB]
  exact bF.of e3
 ·intro ys H2 ly hy s2 hD
  refine q D1 ys H2 s2 hD (fJ (by rw [ly,lu,Wp]) fun i v e=> ?_)
  obtain ⟨r,er,hr⟩:=hy i v e
  exact ⟨-r,by rw [aa_,er];rfl,hr⟩
def nV (n t:Nat):List (Int×Int):=(afz n ((0,1):Int×Int)).set t (-1,1)
theorem qG {n t i:Nat}{d:Int×Int}(h:(nV n t)[i]? =some d):d=if i=t then (-1,1) else (0,1):=by
 unfold nV at h
 rw [afZ] at h
 by_cases c:t=i
 ·rw [if_pos c,agg] at h
  rw [if_pos c.symm]
  split at h
  ·exact (afB h).symm
  ·cases h
 ·rw [if_neg c,af9] at h
  rw [if_neg (fun z=>c z.symm)]
  split at h
  ·exact (afB h).symm
  ·cases h
theorem HJ:∀{ys:List Rat} {n t:Nat},ys.length=n→t < n→sP ys ((nV n t).map vl)= -(ys.getD t 0):=fun {ys n t}=>by
 have v0:vl ((0,1):Int×Int)=0:=by decide+kernel
 have v1:vl ((-1,1):Int×Int)= -1:=by decide+kernel
 unfold nV
 induction ys generalizing n t with
 | nil=>
  intro h1 h2
  simp at h1
  omega
 | cons y ys ih=>
  intro h1 h2
  obtain ⟨n,rfl⟩:∃m,n=m+1:=⟨n - 1,by omega⟩
  rw [aga]
  match t with
  | 0=>
   rw [apv,afp,cJ,List.map_replicate,v0,v1]
   have ez:afz n (0:Rat)=(afz n ()).map fun _=>(0:Rat):=by simp
   rw [ez,qD]
   show y* -1+0= -y
   grind
  | t+1=>
   rw [apw,afp,cJ,v0,ih (n:=n) (by simpa using h1) (by omega)]
   show y*0+ -(ys.getD t 0)= -((y::ys).getD (t+1) 0)
   rw [List.getD_cons_succ]
   grind
inductive jY (K:Frag)(C:Addr)(vs:List V)(H:Hp)(Q:VK)(E_:XK):Prop where
 | mk (a r:Addr) (pins:List aE) (bars:List bg) (ls:List Addr) (b6:List (List V:_)) (df:List (List (Int×Int))) (t:Nat) (_:vs=[.ref a,.ref r,.int (t:Int)]) (_:vH K H C a pins bars) (_:eY pins bars) (_:gi K H r ls b6 df) (_:Shape 50 50 (2*pins.length) df) (_:df.length≤40) (_:t < df.length) (_:(∀(p x:Addr) (us:List V) (xs:List Rat) (H' :Hp),aq H H' →H' p=some (.tup [.str "solved",.ref x])→H' x=some (.lst us)→Paired (dE K H') us xs→xs.length=2*pins.length→(∀r∈xs,Zb (zR pins.length) r)→(∀(i:Nat) (qs:List (Int×Int)),df[i]? =some qs→sP (qs.map vl) xs=if i=t then -1 else 0)→Q (.ref p) H')) (_:(∀(p y:Addr) (us:List V) (ys:List Rat) (H' :Hp),aq H H' →H' p=some (.tup [.str "paper",.ref y])→H' y=some (.lst us)→Paired (dE K H') us ys→ys.length=df.length→(∀r∈ys,Zb (zR pins.length) r)→(∀j,j < 2*pins.length→sP ys ((nR df j).map vl)=0)→ys.getD t 0= -1→Q (.ref p) H')):jY K C vs H Q E_
theorem Kq:ay ["F","rows","at","due"] ["F","rows","at"] (af xO):=sq
theorem QQ {C aN:Addr}(hN:∀H:Hp,bF K H aN [.int 0,.int 1])(yy:mg "NOUGHT"=some (.ref aN))(D:Def K mg "stretch_of" xO ["F","rows","at"])(aZ:mg "len"=none)(MP:bG P w K mg base (aX P w) 1 C "pins" ["self"] (gK K C))(YH:Fn P w K mg base (aX P w) 37 "solve_rows" ["rows","due","many"] (qt K)):
  Fn P w K mg base (aX P w) 38 "stretch_of" ["F","rows","at"] (jY K C):=by
 refine D.ok Kq (fun vs H Q E h=> ?_) (fun f bf A outer s H vs Q E hr h=> ?_)
 ·obtain ⟨a,r,pins,bars,ls,b6,df,t,rfl,_⟩:=h
  rfl
 obtain ⟨a,r,pins,bars,ls,b6,df,t,rfl,R,g,RR,sh,lq,ht,q1,q2⟩:=h
 have gl:=g.lp
 have big:(100:Nat)≤sizeLine:=by decide
 refine ⟨_,(ae (aG (i:=3) Kq.nd rfl (ab_ rfl) (aO zF (bS (ao (gR (v:=.ref aN) rfl yy rfl) aa)) (aD aF rfl aZ bQ (ao (pv 1) aa))))
  (ae (tS (aV (ao (vf pd ag) (ao ag aa))) (tR (pv 3) (pv 2) set_list))
  (ah (aw (aA YH hr.mo (pY P w) (ao (pv 1) (ao (pv 3) (ao (aO cA ag (aD aF rfl aZ bQ (ao (dz (k:=1) (pv 0) hr.mo (pY P w)) aa))) aa)))))))),?_⟩
 refine ⟨(by show 1≤sizeLine;decide),?_⟩
 intro l5 n5;generalize eX:upd _ l5 _=H5;have ⟨s5,e5⟩:=nw n5 eX;clear eX
 have RR5:=RR.same s5
 have lls:ls.length=df.length:=by rw [RR.nS.2.1,RR.num.1]
 refine ⟨_,rfl,r,_,rfl,.inl (aR.of RR5.nS.1),l5,_,_,rfl,rfl,e5,by omega,(by rw [Wp];omega),(by rw [Wp];simp;omega),?_⟩
 intro l6 n6;generalize eX:upd _ l6 _=H6;have ⟨s6,e6⟩:=nw n6 eX;clear eX
 have YI:(afz (((ls.map V.ref).length:Nat):Int).toNat [V.ref aN]).flatten=afz ls.length (V.ref aN):=by simp
 rw [YI] at e6
 refine ⟨_,rfl,(by show 2≤sizeLine;decide),?_⟩
 intro p7 n7;generalize eX:upd _ p7 _=H7;have ⟨s7,e7⟩:=nw n7 eX;clear eX
 have ix:vn (afz ls.length (V.ref aN)).length (t:Int)=some t:=by
  rw [agg]
  unfold vn
  simp
  omega
 refine ⟨_,rfl,_,rfl,l6,_,_,t,rfl,rfl,s7 _ _ e6,ix,?_⟩
 have s57:=s5.trans (s6.trans s7)
 have h8:aq H (upd H7 l6 (.lst ((afz ls.length (V.ref aN)).set t (.ref p7)))):=fun b o z=>by
  rw [aj (fun e=>by rw [e] at z;rw [s5 _ _ z] at n6;cases n6)]
  exact s57 _ _ z
 have e8:(upd H7 l6 (.lst ((afz ls.length (V.ref aN)).set t (.ref p7)))) l6=some (.lst ((afz ls.length (V.ref aN)).set t (.ref p7))):=ai
 have p8:bF K (upd H7 l6 (.lst ((afz ls.length (V.ref aN)).set t (.ref p7)))) p7 [.int (-1),.int 1]:=bF.of (by rw [aj (fun e=>by rw [e,s7 _ _ e6] at e7;cases e7)];exact e7)
 generalize upd H7 l6 (.lst ((afz ls.length (V.ref aN)).set t (.ref p7)))=H8 at h8 e8 p8 ⊢
 have R8:=R.same h8
 obtain ⟨dx,pP,pW,pB,kP,kW,kB,F8,W8⟩:=R8.ex
 have c2:rN 2 ((pins.length:Nat):Int):=⟨by decide+kernel,ac_ (intBits_le_64 (by omega) (by omega)) (by decide)⟩
 refine ⟨_,rfl,_,rfl,_,rfl,a,C,dx,_,_,_,rfl,F8.obj,rfl,MP,a,dx,pP,pW,pB,_,_,kP,kW,kB,rfl,F8,fun lp H9 s9 uU q_=> ?_⟩
 rw [f_] at q_
 refine ⟨lp,_,rfl,.inl (aR.of q_),_,_,rfl,rfl,(by rw [Wp,Wp];exact c2),?_⟩
 have em:(2:Int)*((((pins.map (·.nm)).map V.str).length:Nat):Int)=((2*pins.length:Nat):Int):=by rw [Wp,Wp];omega
 have Kr:=h8.trans s9
 have G':=RR.same Kr
 have nds:cT K H9 ((afz ls.length (V.ref aN)).set t (.ref p7)) (nV ls.length t):=by
  refine ⟨by simp [nV],fun i u d e1 e2=> ?_⟩
  have ed:=qG e2
  rw [afZ] at e1
  by_cases c:t=i
  ·rw [if_pos c,agg,if_pos (by omega)] at e1
   rw [if_pos c.symm] at ed
   cases e1
   rw [ed]
   exact ⟨p7,rfl,Ty.aq.cN s9 p8⟩
  ·rw [if_neg c,af9] at e1
   rw [if_neg (fun z=>c z.symm)] at ed
   split at e1
   ·cases e1
    rw [ed]
    exact ⟨aN,rfl,hN _⟩
   ·cases e1
 have YJ:Sm 50 50 ((0,1):Int×Int):=⟨by decide,by decide,by decide+kernel,by decide+kernel⟩
 have p_:Sm 50 50 ((-1,1):Int×Int):=⟨by decide,by decide,by decide+kernel,by decide+kernel⟩
 refine ⟨r,l6,2*pins.length,ls,b6,df,_,nV ls.length t,50,50,bb (50+50*(2*pins.length+1)) (2*pins.length+1),(by rw [← em];rfl),G'.nS,G'.num,s9 _ _ e8,nds,by simp [lls,nV],sh,fun d hd=> ?_,by omega,by omega,by decide,by omega,ja _ (Nat.min_le_left _ _),CK g.lp,?_,?_⟩
 ·obtain ⟨i,ei⟩:=afE hd
  rw [qG ei]
  split
  ·exact p_
  ·exact YJ
 ·intro p x jI xs HA sA ep ex nx lx zx hx
  refine q1 p x jI (xs.map vl) HA (Kr.trans sA) ep ex (mZ nx zx) (by rw [Wp];exact lx) (fun r hr=> ?_) fun i qs e=> ?_
  ·obtain ⟨q,hq,rfl⟩:=afr.mp hr
   exact Ko (m:=0) (zx q hq) (am_ _ _) (am_ _ _)
  ·have hi:=(ir.mp e).1
   have hd:i < (nV ls.length t).length:=by simp [nV];omega
   have h2:=hx i qs _ e (gE hd)
   rw [lG,qG (gE hd)] at h2
   rw [h2]
   split
   ·decide+kernel
   ·decide+kernel
 ·intro p y jI ys HA sA ep ey ny ly zy uN QR
  refine q2 p y jI (ys.map vl) HA (Kr.trans sA) ep ey (mZ ny zy) (by rw [Wp];exact ly) (fun r hr=> ?_) (fun j hj=> ?_) ?_
  ·obtain ⟨q,hq,rfl⟩:=afr.mp hr
   exact Ko (m:=0) (zy q hq) (by unfold zR;omega) (am_ _ _)
  ·have:=uN j hj
   rw [lG] at this
   exact this
  ·rw [lG,HJ (by rw [Wp];omega) (by omega)] at QR
   grind
structure qH (pins:List aE)(bars:List bg)(x:Str)(M:Str→Rat×Rat):Prop where
 YK:∀p∈pins,∀w∈p.ws,dt w (M p.nm)=0
 bars:∀b∈bars,HG M b=if b.nm=x then 1 else 0
theorem CL:∀(ys zs:List Rat),sP (ys.map fun r=> -r) zs= -(sP ys zs)
 | [],_=>by simp [sP]
 | _::_,[]=>by simp [sP]
 | y::ys,z::zs=>by
  rw [afp,cJ,cJ,CL ys zs]
  grind
theorem yF (pins:List aE)(bars:List bg){j:Nat}{b:bg}(h:bars[j]? =some b):(dk pins bars)[bC pins+j]? =some (di (dN b) pins):=by
 have e:(pins.flatMap fun p=>jW pins p).length=bC pins:=gM pins pins
 unfold dk
 rw [afy (by omega),e,anX,aa_,h]
 rfl
theorem yG (pins:List aE)(bars:List bg){p:aE}(hp:p∈pins){w:Rat×Rat}(hw:w∈p.ws):∃i,i < bC pins∧(dk pins bars)[i]? =some (di (dy p.nm w) pins):=by
 have e:(pins.flatMap fun p=>jW pins p).length=bC pins:=gM pins pins
 have m:di (dy p.nm w) pins∈pins.flatMap fun p=>jW pins p:=agn.mpr ⟨p,hp,afr.mpr ⟨w,hw,rfl⟩⟩
 obtain ⟨i,ei⟩:=afE m
 have hi:=(ir.mp ei).1
 refine ⟨i,by omega,?_⟩
 unfold dk
 rw [afv hi]
 exact ei
theorem dA {α:Type}{l:List α}(h:l.Nodup){i j:Nat}{x:α}(hi:l[i]? =some x)(hj:l[j]? =some x):i=j:=by
 obtain ⟨i1,i2⟩:=ir.mp hi
 obtain ⟨j1,j2⟩:=ir.mp hj
 exact (apK h).mp (i2.trans j2.symm)
theorem CM {pins:List aE}{bars:List bg}(g:eY pins bars){j:Nat}{b0:bg}(h0:bars[j]? =some b0){M:Str→Rat×Rat}(h:∀(i:Nat) (qs:List (Int×Int)),(dk pins bars)[i]? =some qs→sP (qs.map vl) (pins.flatMap fun p=>[(M p.nm).1,(M p.nm).2])=if i=bC pins+j then -1 else 0):qH pins bars b0.nm M:=by
 refine ⟨fun p hp w hw=> ?_,fun b hb=> ?_⟩
 ·obtain ⟨i,hi,ei⟩:=yG pins bars hp hw
  have:=h i _ ei
  rw [qB,qC g.np hp w M,if_neg (by omega)] at this
  exact this
 ·obtain ⟨k,ek⟩:=afE hb
  have:=h _ _ (yF pins bars ek)
  obtain ⟨m1,m2,m3⟩:=g.ends b hb
  rw [qB,HH g.np b m1 m2 m3] at this
  by_cases c:b.nm=b0.nm
  ·have ekj:k=j:=dA g.nb (x:=b0.nm) (by rw [aa_,ek, ← c];rfl) (by rw [aa_,h0];rfl)
   rw [if_pos (by omega)] at this
   rw [if_pos c]
   grind
  ·have ekj:k≠j:=fun z=>c (by rw [z,h0] at ek;rw [afB ek])
   rw [if_neg (by omega)] at this
   rw [if_neg c]
   grind
theorem uY (pins:List aE)(bars:List bg){k:Nat}{p:aE}(h:pins[k]? =some p)(j:Nat)(c:Rat×Rat→Rat)(hj:∀F,vl ((di F pins).getD j (0,1))=c (mv F p.nm)):
  (nR (dk pins bars) j).map vl=(pins.flatMap fun q=>q.ws.map fun w=>c (mv (dy q.nm w) p.nm))++bars.map fun b=>c (mv (dN b) p.nm):=by
 have:=yE pins bars (fun _=>none) h j c hj
 unfold nR at this ⊢
 rw [afG,afG] at this
 exact (List.append_inj' this rfl).1
theorem CO {pins:List aE}{bars:List bg}{T:Str→Rat}{U:Str→List Rat}{c:Rat×Rat→Rat}(c0:c (0,0)=0)(nd:(pins.map (·.nm)).Nodup)(hl:∀q∈pins,(U q.nm).length=q.ws.length){p:aE}(hp:p∈pins):
  sP ((pins.flatMap fun q=>U q.nm)++bars.map (fun b=>T b.nm)) ((pins.flatMap fun q=>q.ws.map fun w=>c (mv (dy q.nm w) p.nm))++bars.map fun b=>c (mv (dN b) p.nm))=eE bars T U p c:=by
 have l1:(pins.flatMap fun q=>U q.nm).length=(pins.flatMap fun q=>q.ws.map fun w=>c (mv (dy q.nm w) p.nm)).length:=by
  clear hp nd
  induction pins with
  | nil=>rfl
  | cons q ps ih=>rw [afA,afA,afq,afq,ih fun r hr=>hl r (aft _ hr),hl q afD,Wp]
 have:=HI (L:=fun _=>none) (bars:=bars) (T:=T) c0 nd hl hp 0
 rw [iJ _ _ (by rw [afq,afq,l1,Wp,Wp]),cJ,iI] at this
 grind
theorem tu {pins:List aE}{U:Str→List Rat}(hl:∀q∈pins,(U q.nm).length=q.ws.length):(pins.flatMap fun q=>U q.nm).length=bC pins:=by
 unfold bC
 induction pins with
 | nil=>rfl
 | cons q ps ih=>rw [afA,afA,afq,afq,ih fun r hr=>hl r (aft _ hr),hl q afD]
def m4 (pins:List aE)(bars:List bg)(T:Str→Rat)(U:Str→List Rat):Prop:=∀p∈pins,eE bars T U p (·.1)=0∧eE bars T U p (·.2)=0
theorem yH {pins:List aE}{bars:List bg}(g:eY pins bars){T:Str→Rat}{U:Str→List Rat}(hl:∀q∈pins,(U q.nm).length=q.ws.length)(h:∀j,j < 2*pins.length→sP ((pins.flatMap fun q=>U q.nm)++bars.map (fun b=>T b.nm)) ((nR (dk pins bars) j).map vl)=0):m4 pins bars T U:=fun p hp=>by
 obtain ⟨k,ek⟩:=afE hp
 have hk:=(ir.mp ek).1
 have one:∀(j:Nat) (c:Rat×Rat→Rat),j < 2*pins.length→c (0,0)=0→(∀F,vl ((di F pins).getD j (0,1))=c (mv F p.nm))→eE bars T U p c=0:=fun j c hj c0 hc=>by
  have:=h j hj
  rw [uY pins bars ek j c hc,CO c0 g.np hl hp] at this
  exact this
 exact ⟨one (2*k) (·.1) (by omega) rfl fun F=>(qE F ek).1,one (2*k+1) (·.2) (by omega) rfl fun F=>(qE F ek).2⟩
inductive jZ (K:Frag)(C CB:Addr)(vs:List V)(H:Hp)(Q:VK)(E:XK):Prop where
 | mk (a:Addr) (pins:List aE) (bars:List bg) (x:Str) (_:vs=[.ref a,.str x]) (_:vH K H C a pins bars) (_:eY pins bars) (_:(x∉bars.map (·.nm)→g7 H E CB "bar" (.str x))) (_:(∀(M:Str→Rat×Rat) (p dM:Addr) (kM:List (Key×V)) (H' :Hp),x∈bars.map (·.nm)→aq H H' →H' p=some (.tup [.str "looser",.ref dM])→MoR K H H' pins dM kM M→qH pins bars x M→(∀p∈pins,Zb (zR pins.length) (M p.nm).1∧Zb (zR pins.length) (M p.nm).2)→Q (.ref p) H')) (_:(∀(T:Str→Rat) (U:Str→List Rat) (Lx:Str→Addr) (p dT dU:Addr) (kT kU:List (Key×V)) (H' :Hp),x∈bars.map (·.nm)→aq H H' →H' p=some (.tup [.str "less",.ref dT,.ref dU])→YE K H H' pins bars dT dU kT kU T U Lx→m4 pins bars T U→T x=1→(∀b∈bars,Zb (zR pins.length) (T b.nm))→(∀p∈pins,∀u∈U p.nm,Zb (zR pins.length) u)→Q (.ref p) H')):jZ K C CB vs H Q E
theorem Zb.neg {n:Nat}{r:Rat}(h:Zb n r):Zb n (-r):=by
 refine ⟨?_,?_⟩
 ·rw [uB]
  show (-(qr r).1).natAbs≤_
  rw [apm]
  exact h.top
 ·rw [uB]
  exact h.bot
theorem tw:ay ["F","name","bars","rows","told","forces"] ["F","name"] (af uK):=sq
theorem QS {C CB fN:Addr}{fdN:FuncData}(D:Def K mg "would_take" uK ["F","name"])(aZ:mg "len"=none)(MB:bG P w K mg base (aX P w) 1 C "bars" ["self"] (iG K C))
  (yI:mg "NoBar"=some (.ref CB)) (Mo:Lu K CB fN) (YL:cp P w K mg base (aX P w) 1 fN fdN ["self","bar"] (qu CB "bar")) (Mp:Binds K fdN ["self","bar"] [])
  (YM:Fn P w K mg base (aX P w) 38 "draw_rows" ["F"] (iH K C)) (YN:Fn P w K mg base (aX P w) 38 "stretch_of" ["F","rows","at"] (jY K C)) (YO:Fn P w K mg base (aX P w) 1 "signs_turned" ["numbers"] (qF K)) (YQ:Fn P w K mg base (aX P w) 2 "motion_from" ["F","numbers"] (mY K C)) (YR:Fn P w K mg base (aX P w) 3 "pulls_and_pushes" ["F","numbers"] (Mj K C)):
  Fn P w K mg base (aX P w) 39 "would_take" ["F","name"] (jZ K C CB):=by
 refine D.okX tw (fun vs H Q E h=> ?_) (fun f bf A outer s H vs Q E hr h=> ?_)
 ·obtain ⟨a,pins,bars,x,rfl,_⟩:=h
  rfl
 obtain ⟨a,pins,bars,x,rfl,R,g,hs,q1,q2⟩:=h
 have px:Passes (aX P w) (jx P w K mg base ["F","name","bars","rows","told","forces"] "would_take" (af uK) f bf A outer s H E) E:=EZ
 have gl:=g.lp
 have gb:=g.lb
 have wl:bC pins≤2*pins.length:=mV pins g.lw
 have ql:(dk pins bars).length=bC pins+bars.length:=yD pins bars
 refine ⟨_,(ae (aG (i:=2) tw.nd rfl (ab_ rfl) (dz (k:=1) (pv 0) hr.mo px))
  (ae (ba (aJ fP (pv 1) (pv 2) rfl) (ah (wQ Mo YL hr.mo Mp yI (ao (pv 1) aa))) aI)
  (ae (aG (i:=3) tw.nd rfl (ab_ rfl) (aA YM hr.mo px (ao (pv 0) aa)))
  (ae (aG (i:=4) tw.nd rfl (ab_ rfl) (aA YN hr.mo px (ao (pv 0) (ao (pv 3) (ao (aO b7 (aO dJ (aD aF rfl aZ bQ (ao (pv 3) aa)) (aD aF rfl aZ bQ (ao (pv 2) aa))) (j9 PySem.F.plainAttrs_list PySem.F.slot_list_index PySem.F.type_list_index BI (pv 2) (ao (pv 1) aa))) aa)))))
  (ae (ba (aJ cP (aK (pv 4)) cL (aQ _)) (ah (aw (aV (ao cL (ao (aA YQ hr.mo px (ao (pv 0) (ao (aK (pv 4)) aa))) aa))))) aI)
  (ae (aG (i:=5) tw.nd rfl (ab_ rfl) (aA YR hr.mo px (ao (pv 0) (ao (aA YO hr.mo px (ao (aK (pv 4)) aa)) aa))))
  (ah (aw (aV (ao cL (ao (aK (pv 5)) (ao (aK (pv 5)) aa)))))))))))),?_⟩
 obtain ⟨dx,pP,pW,pB,kP,kW,kB,F1,W1⟩:=R.ex
 refine ⟨_,rfl,a,C,dx,_,_,_,rfl,F1.obj,rfl,MB,a,dx,pP,pW,pB,_,_,kP,kW,kB,rfl,F1,fun lb H1 s1 QK vS=> ?_⟩
 rw [lF] at vS
 refine ⟨_,rfl,_,rfl,lb,_,rfl,.inl (aR.of vS),rfl,oK _,_,rfl,?_⟩
 refine a8 (fun c=> ?_) (fun c=> ?_)
 ·have c' :(!yO (.str x) ((bars.map (·.nm)).map V.str))=true:=c
  have nx:x∉bars.map (·.nm):=fun z=>by
   rw [gJ,decide_eq_true z] at c'
   cases c'
  exact ⟨_,rfl,(by show 1≤sizeLine;decide),((hs nx).same s1).go⟩
 have c' :¬ (!yO (.str x) ((bars.map (·.nm)).map V.str))=true:=c
 have hx:x∈bars.map (·.nm):=by
  by_cases hx:x∈bars.map (·.nm)
  ·exact hx
  ·rw [gJ,decide_eq_false hx] at c'
   exact absurd rfl c'
 obtain ⟨j,ej⟩:=afE hx
 have hj:j < bars.length:=by
  have:=(ir.mp ej).1
  rw [Wp] at this
  exact this
 obtain ⟨b0,eb⟩:∃b0,bars[j]? =some b0:=⟨_,gE hj⟩
 have xb:x=b0.nm:=by
  rw [aa_,eb] at ej
  exact (afB ej).symm
 have first:∀i,i < j→(bars.map (·.nm))[i]? ≠some x:=fun i hi e=>by
  have:=dA g.nb e ej
  omega
 refine ⟨_,rfl,a,pins,bars,rfl,R.same s1,g,fun r ls b6 H2 s2 nr RR=> ?_⟩
 have lls:ls.length=(dk pins bars).length:=by rw [RR.nS.2.1,RR.num.1]
 have Mq:=s2 _ _ vS
 have et:((ls.map V.ref).length:Int) - (((bars.map (·.nm)).map V.str).length:Int)+(j:Int)=((bC pins+j:Nat):Int):=by
  rw [Wp,Wp,Wp]
  omega
 refine ⟨_,rfl,_,rfl,_,rfl,r,_,rfl,.inl (aR.of RR.nS.1),_,rfl,lb,_,rfl,.inl (aR.of Mq),_,_,rfl,rfl,_,rfl,.inl ⟨rfl,_,aR.of Mq⟩,_,rfl,lb,_,x,j,rfl,rfl,Mq,(by rw [Wp];omega),ej,first,_,_,rfl,rfl,?_⟩
 rw [et]
 have kN:=s1.trans s2
 refine ⟨a,r,pins,bars,ls,b6,dk pins bars,bC pins+j,rfl,R.same kN,g,RR,fun qs hq=>uX g qs hq,by omega,by omega,?_,?_⟩
 ·intro p y us xs HA sA ep ex nx lx zx Pu
  refine ⟨_,rfl,p,_,_,_,rfl,rfl,bF.of ep,rfl,rfl,_,rfl,?_⟩
  refine a8 (fun _=> ?_) (fun c=>absurd (by simp [ia]) c)
  have QT:=kN.trans sA
  refine ⟨_,rfl,_,rfl,p,_,_,_,rfl,rfl,bF.of ep,rfl,a,y,pins,bars,us,xs,rfl,R.same QT,g,ex,nx,lx,fun M dM kM HB sB eM nM hM ks tM=>⟨(by show 2≤sizeLine;decide),?_⟩⟩
  intro pt nC;generalize eX:upd _ pt _=HC;have ⟨sC,eC⟩:=nw nC eX;clear eX
  rw [eM] at Pu zx
  refine q1 M pt dM kM HC hx (QT.trans (sB.trans sC)) eC ⟨QT.free nM,sC _ _ hM,ks,fun p hp=> ?_⟩ (by rw [xb];exact CM g eb Pu) fun p hp=> ?_
  ·obtain ⟨t,v1,v2,h1,h2,h3,h4⟩:=tM p hp
   exact ⟨t,v1,v2,h1,sC _ _ h2,h3.same sC,h4.same sC⟩
  ·exact ⟨zx _ (agn.mpr ⟨p,hp,afD⟩),zx _ (agn.mpr ⟨p,hp,aft _ afD⟩)⟩
 ·intro p y us ys HA sA ep ey ny ly zy uN QR
  refine ⟨_,rfl,p,_,_,_,rfl,rfl,bF.of ep,rfl,rfl,_,rfl,?_⟩
  refine a8 (fun c=>absurd c (by simp [ia];decide+kernel)) (fun _=> ?_)
  have QT:=kN.trans sA
  have lus:us.length=ys.length:=Paired.length ny
  refine ⟨_,rfl,_,rfl,p,_,_,_,rfl,rfl,bF.of ep,rfl,y,us,ys,rfl,ey,ny,by omega,fun l9 Yr HB sB eB pB=> ?_⟩
  have QU:=QT.trans sB
  refine ⟨a,l9,pins,bars,Yr,_,rfl,R.same QU,g,eB,pB,by rw [Wp,ly,ql],fun T U Lx pf dT dU kT kU HC sC er epf PR=> ?_⟩
  refine ⟨_,rfl,pf,_,_,_,rfl,rfl,bF.of epf,rfl,_,rfl,pf,_,_,_,rfl,rfl,bF.of epf,rfl,(by show 3≤sizeLine;decide),?_⟩
  intro pt nD;generalize eX:upd _ pt _=HD;have ⟨sD,eD⟩:=nw nD eX;clear eX
  have sx:=QU.trans (sC.trans sD)
  have mem:∀r∈(pins.flatMap fun p=>U p.nm)++bars.map (fun b=>T b.nm),Zb (zR pins.length) r:=fun r hr=>by
   rw [← er] at hr
   obtain ⟨z,hz,rfl⟩:=afr.mp hr
   exact (zy z hz).neg
  have col:∀k,k < 2*pins.length→sP ((pins.flatMap fun q=>U q.nm)++bars.map (fun b=>T b.nm)) ((nR (dk pins bars) k).map vl)=0:=fun k hk=>by
   rw [← er,CL,uN k hk]
   grind
  have tx:T x=1:=by
   have e1:((pins.flatMap fun q=>U q.nm)++bars.map (fun b=>T b.nm)).getD (bC pins+j) 0=T x:=by
    rw [afF,afy (by rw [tu PR.lU];omega),tu PR.lU,anX,aa_,eb,xb]
    rfl
   rw [← er,afF,aa_] at e1
   rw [afF] at QR
   have hl:bC pins+j < ys.length:=by omega
   rw [gE hl] at QR e1
   have h1:ys[bC pins+j]= -1:=QR
   have h2: -ys[bC pins+j]=T x:=e1
   rw [← h2,h1]
   grind
  refine q2 T U Lx pt dT dU kT kU HD hx sx eD ⟨QU.free PR.nT,QU.free PR.nU,PR.ne,sD _ _ PR.hT,sD _ _ PR.hU,PR.CG,PR.CH,fun b hb=> ?_,fun p hp=> ?_,PR.lU,PR.inj⟩ (yH g PR.lU col) tx (fun b hb=>mem _ (afQ _ (afr.mpr ⟨b,hb,rfl⟩))) fun p hp u hu=>mem _ (agX _ (agn.mpr ⟨p,hp,hu⟩))
  ·obtain ⟨v,h1,h2⟩:=PR.tT b hb
   exact ⟨v,h1,h2.same sD⟩
  ·obtain ⟨vs,h1,h2,h3,h4⟩:=PR.tU p hp
   exact ⟨vs,h1,QU.free h2,sD _ _ h3,Paired.cw h4 fun _ _ z=>z.same sD⟩
def cell (ns:List Int)(k:Int):Int:=if k < (ns.length:Int) then (ns[k.toNat]?).getD 0 else ((((k+5)*(k+5)*48271).fmod 2147483647)*(((k+5)*(k+5)*48271).fmod 2147483647)).fmod 2147483629
theorem lH {x m:Int}(h:0 < m):0≤x.fmod m∧x.fmod m < m:=⟨agp x h,ag7 x h⟩
inductive m5 (K:Frag)(vs:List V)(H:Hp)(Q:VK)(E_:XK):Prop where
 | mk (a:Addr) (ns:List Int) (k:Int) (_:vs=[.ref a,.int k]) (_:aR K H a (ns.map V.int)) (_:0≤k) (_:k≤1000) (_:Q (.int (cell ns k)) H):m5 K vs H Q E_
theorem cell_in {ns:List Int}{k:Int}(h0:0≤k)(h:k < (ns.length:Int)):ft (ns.map V.int) k=some (.int (cell ns k)):=by
 have hk:k.toNat < ns.length:=by omega
 have ek:k=((k.toNat:Nat):Int):=by omega
 have q:ft (ns.map V.int) ((k.toNat:Nat):Int)=some (.int (cell ns k)):=bH (by
  unfold cell
  rw [if_pos h,aa_,gE hk]
  rfl)
 rw [← ek] at q
 exact q
theorem iL {i:Int}{k:Nat}(h:i.natAbs < 2^k):intBits i≤k:=intBits_le_iff.mpr h
theorem Ks:ay ["_law_script","_law_k","_law_part"] ["_law_script","_law_k"] (af xP):=sq
theorem QV (D:Def K mg "_law_cell_at" xP ["_law_script","_law_k"])(aZ:mg "len"=none):Fn P w K mg base CX 1 "_law_cell_at" ["_law_script","_law_k"] (m5 K):=by
 refine D.ok Ks (fun vs H Q E h=> ?_) (fun f bf A outer s H vs Q E hr h=> ?_)
 ·obtain ⟨a,ns,k,rfl,_⟩:=h
  rfl
 obtain ⟨a,ns,k,rfl,hS,h0,h1,q⟩:=h
 refine ⟨_,(ae (ba (aJ rn (pv 1) (aD aF rfl aZ bQ (ao (pv 0) aa)) (aQ _)) (ah (aw (aT aS (pv 0) (pv 1) (fun _ _=>rfl)))) aI)
  (ae (aG (i:=2) Ks.nd rfl (ab_ rfl) (aO eR (aO cA (aO cA (aO b7 (pv 1) ag) (aO b7 (pv 1) ag)) ag) ag))
  (ah (aw (aO eR (aO cA (pv 2) (pv 2)) ag))))),?_⟩
 have hl:(ns.map V.int).length=ns.length:=Wp _
 refine ⟨_,rfl,_,rfl,a,_,rfl,.inl hS,_,_,rfl,rfl,_,rfl,?_⟩
 refine a8 (fun c=> ?_) (fun c=> ?_)
 ·have c' :k < (((ns.map V.int).length:Nat):Int):=of_decide_eq_true c
  rw [hl] at c'
  exact ⟨_,rfl,_,rfl,a,_,k,_,rfl,rfl,hS,cell_in h0 c',q⟩
 ·have c' :¬ k < (((ns.map V.int).length:Nat):Int):=of_decide_eq_false (agv.mpr c)
  rw [hl] at c'
  have b5:intBits (k+5)≤11:=iL (by show _ < 2048;omega)
  have e1:=lH (x:=(k+5)*(k+5)*48271) (m:=2147483647) (by decide)
  have bp:intBits (((k+5)*(k+5)*48271).fmod 2147483647)≤31:=iL (by show _ < 2147483648;omega)
  refine ⟨_,rfl,_,_,rfl,rfl,_,rfl,_,_,rfl,rfl,_,_,rfl,rfl,⟨ac_ b5 (by decide),ac_ b5 (by decide)⟩,?_⟩
  refine ⟨_,_,rfl,rfl,⟨ac_ (intBits_mul_le b5 b5) (by decide),by decide+kernel⟩,_,_,rfl,rfl,nz (by decide),?_⟩
  refine ⟨_,rfl,_,rfl,_,_,rfl,rfl,⟨ac_ bp (by decide),ac_ bp (by decide)⟩,_,_,rfl,rfl,nz (by decide),?_⟩
  have e:cell ns k=((((k+5)*(k+5)*48271).fmod 2147483647)*(((k+5)*(k+5)*48271).fmod 2147483647)).fmod 2147483629:=by
   unfold cell
   rw [if_neg c']
  rw [e] at q
  exact q
def field (c p m:Int):Int:=(((c.fmod p+11)*48271).fmod p).fmod m
theorem a9 {c p m:Int}(h:0 < m):0≤field c p m∧field c p m < m:=lH h
inductive e_ (vs:List V)(H:Hp)(Q:VK)(E_:XK):Prop where
 | mk (c p m:Int) (_:vs=[.int c,.int p,.int m]) (_:0 < p) (_:p≤2000000) (_:0 < m) (_:Q (.int (field c p m)) H):e_ vs H Q E_
theorem QW:ay ["_law_cell","_law_prime","_law_many"] ["_law_cell","_law_prime","_law_many"] (af xQ):=sq
theorem QX (D:Def K mg "_law_field" xQ ["_law_cell","_law_prime","_law_many"]):Fn P w K mg base CX 1 "_law_field" ["_law_cell","_law_prime","_law_many"] e_:=by
 refine D.ok QW (fun vs H Q E h=> ?_) (fun f bf A outer s H vs Q E hr h=> ?_)
 ·obtain ⟨c,p,m,rfl,_⟩:=h
  rfl
 obtain ⟨c,p,m,rfl,hp,w6,hm,q⟩:=h
 refine ⟨_,(ah (aw (aO eR (aO eR (aO cA (aO b7 (aO eR (pv 0) (pv 1)) ag) ag) (pv 1)) (pv 2)))),?_⟩
 have e1:=lH (x:=c) hp
 refine ⟨_,rfl,_,rfl,_,_,rfl,rfl,nz (by omega),_,_,rfl,rfl,_,_,rfl,rfl,⟨ac_ (iL (k:=22) (by show _ < 4194304;omega)) (by decide),by decide+kernel⟩,?_⟩
 exact ⟨_,rfl,_,_,rfl,rfl,nz (by omega),_,rfl,_,_,rfl,rfl,nz (by omega),q⟩
inductive cU (vs:List V)(H:Hp)(Q:VK)(E_:XK):Prop where
 | mk (t b:Int) (_:vs=[.int t,.int b]) (_:0 < b) (_:gives H Q (low t b)):cU vs H Q E_
theorem vX:ay ["_law_top","_law_bottom","_law_one","_law_other"] ["_law_top","_law_bottom"] (af xR):=sq
theorem QY (ht:P.given.tree=none)(D:Def K mg "_law_lowest" xR ["_law_top","_law_bottom"])(oO:mg "abs"=none):Fn P w K mg base (aX P w) 33 "_law_lowest" ["_law_top","_law_bottom"] cU:=by
 refine D.ok vX (fun vs H Q E h=> ?_) (fun f bf A outer s H vs Q E hr h=> ?_)
 ·obtain ⟨t,b,rfl,_⟩:=h
  rfl
 obtain ⟨t,b,rfl,hb,q⟩:=h
 refine ⟨_,(ae (aG (i:=2) vX.nd rfl (ab_ rfl) (aD rq rfl oO JK (ao (pv 0) aa)))
  (ae (aG (i:=3) vX.nd rfl (ab_ rfl) (pv 1))
  (ae (lO PassesOwn.never (aJ d5 (pv 3) ag (aQ _)) (ah (K4 (i:=2) (j:=3) rfl vX.nd rfl rfl (by decide) rfl rfl (ao (pv 3) (ao (aO eR (pv 2) (pv 3)) aa)) rfl)))
  (ah (aw (aV (ao (aO (eg ht (Ty.bY.py hr (by decide)) rfl rfl rfl rfl rfl) (pv 0) (pv 2)) (ao (aO (eg ht (Ty.bY.py hr (by decide)) rfl rfl rfl rfl rfl) (pv 1) (pv 2)) aa)))))))),?_⟩
 refine ⟨_,rfl,t,rfl,?_⟩
 refine ⟨_,rfl,?_⟩
 refine rm (fun σ H' =>∃x y:Int,σ=[some (.int t),some (.int b),some (.int x),some (.int y)]∧H' =H∧0≤x∧0≤y∧afW x y=afW t b) (fun σ _=>match σ with | [_,_,_,some (.int y)]=>y.natAbs | _=>0) ⟨_,b,rfl,rfl,?_,by omega,?_⟩ ?_ ?_
 ·split <;> omega
 ·split
  ·exact Int.neg_gcd
  ·rfl
 ·rintro σ H' ⟨x,y,rfl,rfl,hx,hy,g⟩
  refine ⟨_,rfl,rfl,_,rfl,?_⟩
  refine a8 (fun c=> ?_) (fun c=> ?_)
  ·have uN:y≠0:=by
    intro z
    subst z
    simp at c
   refine ⟨_,rfl,_,rfl,_,rfl,_,_,rfl,rfl,uN,_,_,rfl,?_⟩
   exact ⟨⟨_,_,rfl,rfl,hy,agp _ (by omega),by rw [rL];exact g⟩,oq uN⟩
  ·have uN:y=0:=by
    have:=agv.mpr c
    simp at this
    exact this
   subst uN
   have e:x=sg t b:=by
    rw [apu] at g
    unfold sg
    rw [if_neg (by omega)]
    unfold gz
    rw [← g]
    omega
   subst e
   have hbn:b≠0:=by omega
   have c:=lW (t:=t) hbn
   refine ⟨_,rfl,_,rfl,_,_,rfl,rfl,c,_,rfl,_,rfl,_,_,rfl,rfl,c,(by show 2≤sizeLine;decide),fun p hp=> ?_⟩
   exact q p _ (aC hp _) ai
 ·rintro σ H' Q1 Q2 h ⟨v,e1,e2,k,ek,z⟩
  exact ⟨v,e1,e2,k,ek,h _ _ z⟩
structure Ns (n:Nat)(q:Int×Int):Prop where
 top:q.1.natAbs≤2^n
 bot:q.2.natAbs≤2^n
theorem Ns.up {m n:Nat}{q:Int×Int}(h:Ns m q)(l:m≤n):Ns n q:=⟨ac_ h.top (afP (by decide) l),ac_ h.bot (afP (by decide) l)⟩
def gN (K:Frag)(H:Hp)(v:V)(n:Nat)(r:Rat):Prop:=∃q:Int×Int,jy K H v q∧0 < q.2∧vl q=r∧Ns n q
theorem gN.same {H H' :Hp}{v:V}{n:Nat}{r:Rat}(h:gN K H v n r)(s:aq H H'):gN K H' v n r:=by
 obtain ⟨q,h1,h2⟩:=h
 exact ⟨q,h1.same s,h2⟩
theorem gN.a_ {H H' :Hp}{v:V}{n:Nat}{r:Rat}(h:gN K H v n r)(s:bB H H'):gN K H' v n r:=by
 obtain ⟨q,h1,h2⟩:=h
 exact ⟨q,h1.a_ s,h2⟩
theorem gN.up {H:Hp}{v:V}{m n:Nat}{r:Rat}(h:gN K H v m r)(l:m≤n):gN K H v n r:=by
 obtain ⟨q,h1,h2,h3,h4⟩:=h
 exact ⟨q,h1,h2,h3,h4.up l⟩
theorem dO {H:Hp}{v:V}{n:Nat}{r:Rat}(h:dE K H v r)(z:Zb n r):gN K H v n r:=⟨qr r,h,cO r,eW r,⟨z.top,z.bot⟩⟩
theorem oT {k n:Nat}{r:Rat}(h:Sz k r)(l:k≤n):Zb n r:=⟨agh (afw (intBits_le_iff.mp h.top) (afP (by decide) l)),agh (afw (intBits_le_iff.mp h.bot) (afP (by decide) l))⟩
theorem qI {q:Int×Int}(h:0 < q.2):q.1=0 ↔ vl q=0:=by
 unfold vl
 have z:((q.2:Int):Rat)≠0:=c7 (af7 h)
 constructor
 ·intro e
  rw [e]
  have:((0:Int):Rat)=0:=by rfl
  rw [this]
  grind
 ·intro e
  apply Classical.byContradiction
  intro n
  have y:((q.1:Int):Rat)≠0:=c7 n
  exact (by grind:¬ ((q.1:Int):Rat) / ((q.2:Int):Rat)=0) e
theorem Mr {q:Int×Int}(h:0 < q.2):q.1=q.2 ↔ vl q=1:=by
 unfold vl
 have z:((q.2:Int):Rat)≠0:=c7 (af7 h)
 constructor
 ·intro e
  rw [e]
  grind
 ·intro e
  have:((q.1:Int):Rat)=((q.2:Int):Rat):=by grind
  exact Rat.intCast_inj.mp this
def fm (x y:Int×Int):Int×Int:=(x.1*y.2+y.1*x.2,x.2*y.2)
def j0 (x y:Int×Int):Int×Int:=(x.1*y.1,x.2*y.2)
theorem dF {a b:Int}{m n:Nat}(h1:a.natAbs≤2^m)(h2:b.natAbs≤2^n):(a*b).natAbs≤2^(m+n):=by
 rw [ag8,apR]
 exact apn h1 h2
theorem HK {x y:Int×Int}{m n:Nat}(hx:0 < x.2)(hy:0 < y.2)(zx:Ns m x)(zy:Ns n y):0 < (fm x y).2∧vl (fm x y)=vl x+vl y∧Ns (m+n+1) (fm x y):=by
 refine ⟨agy hx hy,?_,?_,?_⟩
 ·unfold vl fm
  have z1:((x.2:Int):Rat)≠0:=c7 (af7 hx)
  have z2:((y.2:Int):Rat)≠0:=c7 (af7 hy)
  push_cast
  grind
 ·have h1:=dF zx.top zy.bot
  have h2:=dF zy.top zx.bot
  rw [an_ n m] at h2
  have h3:=ahb (x.1*y.2) (y.1*x.2)
  show (x.1*y.2+y.1*x.2).natAbs≤2^(m+n+1)
  rw [ag5]
  omega
 ·exact ac_ (dF zx.bot zy.bot) (afP (by decide) (by omega))
theorem HL {x y:Int×Int}{m n:Nat}(hx:0 < x.2)(hy:0 < y.2)(zx:Ns m x)(zy:Ns n y):0 < (j0 x y).2∧vl (j0 x y)=vl x*vl y∧Ns (m+n) (j0 x y):=by
 refine ⟨agy hx hy,?_,dF zx.top zy.top,dF zx.bot zy.bot⟩
 unfold vl j0
 have z1:((x.2:Int):Rat)≠0:=c7 (af7 hx)
 have z2:((y.2:Int):Rat)≠0:=c7 (af7 hy)
 push_cast
 grind
inductive b8 (K:Frag)(f:Int×Int→Int×Int→Int×Int)(vs:List V)(H:Hp)(Q:VK)(E_:XK):Prop where
 | mk (u v:V) (x y:Int×Int) (m n:Nat) (_:vs=[u,v]) (_:jy K H u x) (_:jy K H v y) (_:Ns m x) (_:Ns n y) (_:m+n≤130000000) (_:gives H Q (f x y)):b8 K f vs H Q E_
theorem jn {H:Hp}{u v:V}{m n:Nat}{x y:Rat}{Q:VK}{E:XK}(h1:gN K H u m x)(h2:gN K H v n y)(l:m+n≤130000000)(k:∀(p:Addr) (H' :Hp),aq H H' →gN K H' (.ref p) (m+n+1) (x+y)→Q (.ref p) H'):b8 K fm [u,v] H Q E:=by
 obtain ⟨q1,a1,a2,a3,a4⟩:=h1
 obtain ⟨q2,b1,b2,b3,b4⟩:=h2
 obtain ⟨c1,c2,c3⟩:=HK a2 b2 a4 b4
 exact ⟨u,v,q1,q2,m,n,rfl,a1,b1,a4,b4,l,fun p H' s e=>k p H' s ⟨fm q1 q2,⟨p,rfl,bF.of e⟩,c1,by rw [c2,a3,b3],c3⟩⟩
theorem lI {H:Hp}{u v:V}{m n:Nat}{x y:Rat}{Q:VK}{E:XK}(h1:gN K H u m x)(h2:gN K H v n y)(l:m+n≤130000000)(k:∀(p:Addr) (H' :Hp),aq H H' →gN K H' (.ref p) (m+n) (x*y)→Q (.ref p) H'):b8 K j0 [u,v] H Q E:=by
 obtain ⟨q1,a1,a2,a3,a4⟩:=h1
 obtain ⟨q2,b1,b2,b3,b4⟩:=h2
 obtain ⟨c1,c2,c3⟩:=HL a2 b2 a4 b4
 exact ⟨u,v,q1,q2,m,n,rfl,a1,b1,a4,b4,l,fun p H' s e=>k p H' s ⟨j0 q1 q2,⟨p,rfl,bF.of e⟩,c1,by rw [c2,a3,b3],c3⟩⟩
inductive dS (K:Frag)(vs:List V)(H:Hp)(Q:VK)(E_:XK):Prop where
 | mk (u:V) (x:Int×Int) (_:vs=[u]) (_:jy K H u x) (_:gives H Q (0 - x.1,x.2)):dS K vs H Q E_
theorem m7 {H:Hp}{u:V}{m:Nat}{x:Rat}{Q:VK}{E:XK}(h1:gN K H u m x)(k:∀(p:Addr) (H' :Hp),aq H H' →gN K H' (.ref p) m (-x)→Q (.ref p) H'):dS K [u] H Q E:=by
 obtain ⟨q1,a1,a2,a3,a4⟩:=h1
 refine ⟨u,q1,rfl,a1,fun p H' s e=>k p H' s ⟨(0 - q1.1,q1.2),⟨p,rfl,bF.of e⟩,a2,?_,?_,a4.bot⟩⟩
 ·rw [← a3]
  unfold vl
  push_cast
  grind
 ·have:=a4.top
  show (0 - q1.1).natAbs≤2^m
  omega
theorem QZ:ay ["_law_one","_law_other"] ["_law_one","_law_other"] (af xS):=sq
theorem Q0 (D:Def K mg "_law_sum" xS ["_law_one","_law_other"]):Fn P w K mg base (aX P w) 1 "_law_sum" ["_law_one","_law_other"] (b8 K fm):=by
 refine D.ok QZ (fun vs H Q E h=> ?_) (fun f bf A outer s H vs Q E hr h=> ?_)
 ·obtain ⟨u,v,x,y,m,n,rfl,_⟩:=h
  rfl
 obtain ⟨u,v,x,y,m,n,rfl,⟨p1,rfl,h1⟩,⟨p2,rfl,h2⟩,zx,zy,l,q⟩:=h
 refine ⟨_,(ah (aw (aV (ao (aO b7 (aO gZ (aK (pv 0)) (aK (pv 1))) (aO gZ (aK (pv 1)) (aK (pv 0)))) (ao (aO gZ (aK (pv 0)) (aK (pv 1))) aa))))),?_⟩
 refine ⟨_,rfl,p1,_,_,_,rfl,rfl,h1,iP,_,rfl,p2,_,_,_,rfl,rfl,h2,iQ,_,_,rfl,rfl,fD zx.top zy.bot (by omega),?_⟩
 refine ⟨_,rfl,p2,_,_,_,rfl,rfl,h2,iP,_,rfl,p1,_,_,_,rfl,rfl,h1,iQ,_,_,rfl,rfl,fD zy.top zx.bot (by omega),?_⟩
 refine ⟨_,_,rfl,rfl,?_⟩
 refine ⟨_,rfl,p1,_,_,_,rfl,rfl,h1,iQ,_,rfl,p2,_,_,_,rfl,rfl,h2,iQ,_,_,rfl,rfl,fD zx.bot zy.bot (by omega),(by show 2≤sizeLine;decide),?_⟩
 intro p3 n3;generalize eX:upd _ p3 _=H3;have ⟨s3,e3⟩:=nw n3 eX;clear eX
 exact q p3 H3 s3 e3
theorem Q3:ay ["_law_one","_law_other"] ["_law_one","_law_other"] (af xT):=sq
theorem Q4 (D:Def K mg "_law_times" xT ["_law_one","_law_other"]):Fn P w K mg base (aX P w) 1 "_law_times" ["_law_one","_law_other"] (b8 K j0):=by
 refine D.ok Q3 (fun vs H Q E h=> ?_) (fun f bf A outer s H vs Q E hr h=> ?_)
 ·obtain ⟨u,v,x,y,m,n,rfl,_⟩:=h
  rfl
 obtain ⟨u,v,x,y,m,n,rfl,⟨p1,rfl,h1⟩,⟨p2,rfl,h2⟩,zx,zy,l,q⟩:=h
 refine ⟨_,(ah (aw (aV (ao (aO gZ (aK (pv 0)) (aK (pv 1))) (ao (aO gZ (aK (pv 0)) (aK (pv 1))) aa))))),?_⟩
 refine ⟨_,rfl,p1,_,_,_,rfl,rfl,h1,iP,_,rfl,p2,_,_,_,rfl,rfl,h2,iP,_,_,rfl,rfl,fD zx.top zy.top (by omega),?_⟩
 refine ⟨_,rfl,p1,_,_,_,rfl,rfl,h1,iQ,_,rfl,p2,_,_,_,rfl,rfl,h2,iQ,_,_,rfl,rfl,fD zx.bot zy.bot (by omega),(by show 2≤sizeLine;decide),?_⟩
 intro p3 n3;generalize eX:upd _ p3 _=H3;have ⟨s3,e3⟩:=nw n3 eX;clear eX
 exact q p3 H3 s3 e3
theorem Q6:ay ["_law_one"] ["_law_one"] (af xU):=sq
theorem Q7 (D:Def K mg "_law_turned" xU ["_law_one"]):Fn P w K mg base (aX P w) 1 "_law_turned" ["_law_one"] (dS K):=by
 refine D.ok Q6 (fun vs H Q E h=> ?_) (fun f bf A outer s H vs Q E hr h=> ?_)
 ·obtain ⟨u,x,rfl,_⟩:=h
  rfl
 obtain ⟨u,x,rfl,⟨p1,rfl,h1⟩,q⟩:=h
 refine ⟨_,(ah (aw (aV (ao (aO dJ ag (aK (pv 0))) (ao (aK (pv 0)) aa))))),?_⟩
 refine ⟨_,rfl,p1,_,_,_,rfl,rfl,h1,iP,_,_,rfl,rfl,_,rfl,p1,_,_,_,rfl,rfl,h1,iQ,(by show 2≤sizeLine;decide),?_⟩
 intro p3 n3;generalize eX:upd _ p3 _=H3;have ⟨s3,e3⟩:=nw n3 eX;clear eX
 exact q p3 H3 s3 e3
def nameOf (st a k:Int):Str:=if st=0 then Txt.mul "p" (k+1) else if st=1 then Txt.mul "p" a++⟨#[(ft (Str.ofString "bcdefghijklm").cps.toList k).getD 0]⟩++Txt.mul "p" (5 - a) else Txt.slice "12345" none (some a)++(toString k:String)
theorem tD:∀st:Fin 3,∀a:Fin 6,∀k:Fin 12,∀j:Fin 12,k≠j→nameOf (st.val:Int) (a.val:Int) (k.val:Int)≠nameOf (st.val:Int) (a.val:Int) (j.val:Int):=by decide+kernel
theorem Ms:∀n:Fin 20,MulOk "p" (n.val:Int):=by
 intro n
 unfold MulOk
 revert n
 decide+kernel
theorem Mt:∀k:Fin 12,ft (Str.ofString "bcdefghijklm").cps.toList (k.val:Int)=some ((ft (Str.ofString "bcdefghijklm").cps.toList (k.val:Int)).getD 0):=by decide+kernel
theorem CQ:∀a:Fin 6,∀k:Fin 12,(Txt.mul "p" (a.val:Int)).length+(⟨#[(ft (Str.ofString "bcdefghijklm").cps.toList (k.val:Int)).getD 0]⟩:Str).length≤1000∧
  (Txt.mul "p" (a.val:Int)++(⟨#[(ft (Str.ofString "bcdefghijklm").cps.toList (k.val:Int)).getD 0]⟩:Str)).length+(Txt.mul "p" (5 - (a.val:Int))).length≤1000∧(Txt.slice "12345" none (some (a.val:Int))).length+(Str.ofString (toString (k.val:Int))).length≤1000:=by decide+kernel
inductive qJ (vs:List V)(H:Hp)(Q:VK)(E_:XK):Prop where
 | mk (c k:Int) (_:vs=[.int c,.int k]) (_:0≤k) (_:k < 12) (_:Q (.str (nameOf (field c 3001 3) (field c 4001 6) k)) H):qJ vs H Q E_
theorem CS:ay ["_law_cell","_law_k","_law_style","_law_at"] ["_law_cell","_law_k"] (af uL):=sq
theorem Q8 (hM:rQ CX)(D:Def K mg "_law_name" uL ["_law_cell","_law_k"])(CU:mg "str"=none)(c_:Fn P w K mg base CX 1 "_law_field" ["_law_cell","_law_prime","_law_many"] e_):Fn P w K mg base CX 2 "_law_name" ["_law_cell","_law_k"] qJ:=by
 refine D.ok CS (fun vs H Q E h=> ?_) (fun f bf A outer s H vs Q E hr h=> ?_)
 ·obtain ⟨c,k,rfl,_⟩:=h
  rfl
 obtain ⟨c,k,rfl,h0,h12,q⟩:=h
 have px:=rR (X:=kD CX P w K mg base ["_law_cell","_law_k","_law_style","_law_at"] "_law_name" (af uL) f bf A outer s H E) hM
 refine ⟨_,(ae (aG (i:=2) CS.nd rfl (ab_ rfl) (aA c_ hr.mo px (ao (pv 0) (ao ag (ao ag aa)))))
  (ae (aG (i:=3) CS.nd rfl (ab_ rfl) (aA c_ hr.mo px (ao (pv 0) (ao ag (ao ag aa)))))
  (ae (ba (aJ cP (pv 2) ag (aQ _)) (ah (aw (aO qa cL (aO b7 (pv 1) ag)))) aI)
  (ae (ba (aJ cP (pv 2) ag (aQ _)) (ah (aw (aO iq (aO iq (aO qa cL (pv 3)) (aT Le cL (pv 1) (fun _ _=>rfl))) (aO qa cL (aO dJ ag (pv 3)))))) aI)
  (ah (aw (aO iq (d7 LA cL gT (eQ (pv 3))) (cG pe rfl CU Ow (ao (pv 1) aa))))))))),?_⟩
 have i1:=a9 (c:=c) (p:=3001) (m:=3) (by decide)
 have i2:=a9 (c:=c) (p:=4001) (m:=6) (by decide)
 refine ⟨_,rfl,_,_,_,rfl,by decide,by decide,by decide,?_⟩
 refine ⟨_,rfl,_,_,_,rfl,by decide,by decide,by decide,?_⟩
 generalize field c 3001 3=st at i1 q ⊢
 generalize field c 4001 6=a at i2 q ⊢
 obtain ⟨kn,rfl⟩:∃n:Nat,k=(n:Int):=⟨k.toNat,by omega⟩
 obtain ⟨an,rfl⟩:∃n:Nat,a=(n:Int):=⟨a.toNat,by omega⟩
 have mk:∀i:Int,0≤i→i < 20→MulOk "p" i:=fun i a b=>by
  have:=Ms ⟨i.toNat,by omega⟩
  rwa [show ((⟨i.toNat,by omega⟩:Fin 20).val:Int)=i by show ((i.toNat:Nat):Int)=i;omega] at this
 refine ⟨_,rfl,rfl,_,rfl,?_⟩
 refine a8 (fun z=> ?_) (fun z=> ?_)
 ·have z' :st=0:=by simpa [ia] using z
  subst z'
  refine ⟨_,rfl,_,_,rfl,rfl,_,_,rfl,rfl,mk _ (by omega) (by omega),?_⟩
  exact q
 have z' :¬ st=0:=by simpa [ia] using z
 have nl:=CQ ⟨an,by omega⟩ ⟨kn,by omega⟩
 refine ⟨_,rfl,rfl,_,rfl,?_⟩
 refine a8 (fun z3=> ?_) (fun z3=> ?_)
 ·have YS :st=1:=by simpa [ia] using z3
  subst YS
  refine ⟨_,rfl,_,_,rfl,rfl,mk _ (by omega) (by omega),_,rfl,_,_,_,rfl,rfl,(by decide+kernel),Mt ⟨kn,by omega⟩,?_⟩
  refine ⟨_,_,rfl,rfl,ac_ nl.1 (by decide),_,rfl,_,_,rfl,rfl,_,_,rfl,rfl,mk _ (by omega) (by omega),_,_,rfl,rfl,ac_ nl.2.1 (by decide),?_⟩
  exact q
 ·have YS :¬ st=1:=by simpa [ia] using z3
  refine ⟨_,rfl,_,rfl,_,rfl,(by decide+kernel),?_⟩
  have lg:(kn:Int).natAbs.log2 < 1920:=afs (Nat.log2_le_self _) (by show kn < 1920;omega)
  refine ⟨_,rfl,_,rfl,lg,_,_,rfl,rfl,ac_ nl.2.2 (by decide),?_⟩
  have e:nameOf st (an:Int) (kn:Int)=Txt.slice "12345" none (some (an:Int))++Str.ofString (toString (kn:Int)):=by
   unfold nameOf
   rw [if_neg z',if_neg YS]
  rw [e] at q
  exact q
def iM (ws:List (Rat×Rat)):Prop:=ws=[]∨(∃x y:Rat,ws=[(x,y)]∧¬ (x=0∧y=0)∧Sz 22 x∧Sz 22 y)∨ws=[(1,0),(0,1)]
theorem uZ {K:Frag}{H:Hp}{p:Addr}(i:Int)(h:H p=some (.tup [.int i,.int 1])):dE K H (.ref p) (i:Rat):=⟨p,rfl,by rw [mM];exact bF.of h⟩
theorem kr {K:Frag}{H:Hp}{p:Addr}{r:Rat}(h:H p=some (.tup [.int (qr r).1,.int (qr r).2])):dE K H (.ref p) r:=⟨p,rfl,bF.of h⟩
theorem oU {K:Frag}{H:Hp}{p:Addr}{u v:V}{r s:Rat}(h:H p=some (.tup [u,v]))(h1:dE K H u r)(h2:dE K H v s):eh K H (.ref p) (r,s):=⟨p,u,v,rfl,bF.of h,h1,h2⟩
theorem jo {k:Nat}{i:Int}(h:i.natAbs < 1048576)(hk:20≤k):Sz k (i:Rat):=uC (afw h (show 2^20≤2^k from afP (by decide) hk)) (by omega)
theorem g9 {t b:Int}(h:0 < b)(h1:t.natAbs < 1048576)(h2:b < 1048576):Sz 20 ((t:Rat) / (b:Rat)):=BB (af7 h) (intBits_le_iff.mpr (by show _ < 1048576;omega)) (intBits_le_iff.mpr (by show _ < 1048576;omega))
theorem CV {i:Int}(h:i≤500002):(i:Rat)≤500002:=by
 have:=agQ.mpr h
 simpa using this
theorem vY {t b:Int}(hb:0 < b)(h:t≤500002):(t:Rat) / (b:Rat)≤500002:=by
 have gX :(0:Rat) < (b:Rat):=by
  have:=Rat.intCast_lt_intCast.mpr hb
  simpa using this
 have h1:t≤500002*b:=by
  have:(500002:Int)*1≤500002*b:=Int.mul_le_mul_of_nonneg_left (by omega) (by decide)
  omega
 have h2:(t:Rat)≤500002*(b:Rat):=by
  have:=agQ.mpr h1
  simpa using this
 have e:(t:Rat) / (b:Rat)*(b:Rat)=(t:Rat):=by
  have yP:(b:Rat)≠0:=by grind
  grind
 generalize (t:Rat) / (b:Rat)=z at e
 by_cases c:z≤500002
 ·exact c
 ·have c' :500002 < z:=by grind
  have:=Rat.mul_lt_mul_of_pos_right c' gX
  grind
inductive qK (K:Frag)(vs:List V)(H:Hp)(Q:VK)(E_:XK):Prop where
 | mk (c k:Int) (_:vs=[.int c,.int k]) (_:∀(p:Addr) (x y:Rat) (H' :Hp),aq H H' →Sz 20 x→Sz 20 y→x≤500002→eh K H' (.ref p) (x,y)→Q (.ref p) H'):qK K vs H Q E_
theorem CW:ay ["_law_cell","_law_kind","_law_x"] ["_law_cell","_law_kind"] (af xV):=sq
theorem Q9 (D:Def K mg "_law_spot" xV ["_law_cell","_law_kind"])(c_:Fn P w K mg base (aX P w) 1 "_law_field" ["_law_cell","_law_prime","_law_many"] e_)(qL:Fn P w K mg base (aX P w) 33 "_law_lowest" ["_law_top","_law_bottom"] cU):Fn P w K mg base (aX P w) 34 "_law_spot" ["_law_cell","_law_kind"] (qK K):=by
 refine D.ok CW (fun vs H Q E h=> ?_) (fun f bf A outer s H vs Q E hr h=> ?_)
 ·obtain ⟨c,k,rfl,_⟩:=h
  rfl
 obtain ⟨c,k,rfl,q⟩:=h
 have L2:2≤sizeLine:=by decide
 refine ⟨_,(ae (ba (aJ cP (pv 1) ag (aQ _)) (ah (aw (aV (ao (aV (ao (aA c_ hr.mo pX (ao (pv 0) (ao ag (ao ag aa)))) (ao ag aa))) (ao (aV (ao (aA c_ hr.mo pX (ao (pv 0) (ao ag (ao ag aa)))) (ao ag aa))) aa))))) aI)
  (ae (ba (aJ cP (pv 1) ag (aQ _)) (ae (aG (i:=2) CW.nd rfl (ab_ rfl) (aA qL hr.mo pX (ao (aO dJ (aA c_ hr.mo pX (ao (pv 0) (ao ag (ao ag aa)))) ag) (ao (aO b7 ag (aA c_ hr.mo pX (ao (pv 0) (ao ag (ao ag aa))))) aa))))
   (ah (aw (aV (ao (pv 2) (ao (aA qL hr.mo pX (ao (aO dJ (aA c_ hr.mo pX (ao (pv 0) (ao ag (ao ag aa)))) ag) (ao (aO b7 ag (aA c_ hr.mo pX (ao (pv 0) (ao ag (ao ag aa))))) aa))) aa)))))) aI)
  (ae (aG (i:=2) CW.nd rfl (ab_ rfl) (aA qL hr.mo pX (ao (aO dJ (aA c_ hr.mo pX (ao (pv 0) (ao ag (ao ag aa)))) ag) (ao (aO b7 ag (aA c_ hr.mo pX (ao (pv 0) (ao ag (ao ag aa))))) aa))))
  (ah (aw (aV (ao (pv 2) (ao (aA qL hr.mo pX (ao (aO dJ (aA c_ hr.mo pX (ao (pv 0) (ao ag (ao ag aa)))) ag) (ao (aO b7 ag (aA c_ hr.mo pX (ao (pv 0) (ao ag (ao ag aa))))) aa))) aa)))))))),?_⟩
 refine ⟨_,rfl,rfl,_,rfl,?_⟩
 refine a8 (fun _=> ?_) (fun _=> ?_)
 ·have i1:=a9 (c:=c) (p:=1009) (m:=4) (by decide)
  have i2:=a9 (c:=c) (p:=2003) (m:=4) (by decide)
  refine ⟨_,rfl,_,_,_,rfl,by decide,by decide,by decide,L2,?_⟩
  intro p1 n1;generalize eX:upd _ p1 _=H1;have ⟨s1,e1⟩:=nw n1 eX;clear eX
  refine ⟨_,rfl,_,_,_,rfl,by decide,by decide,by decide,L2,?_⟩
  intro p2 n2;generalize eX:upd _ p2 _=H2;have ⟨s2,e2⟩:=nw n2 eX;clear eX
  refine ⟨L2,?_⟩
  intro p3 n3;generalize eX:upd _ p3 _=H3;have ⟨s3,e3⟩:=nw n3 eX;clear eX
  exact q p3 _ _ H3 ((s1.trans s2).trans s3) (jo (by omega) (by decide)) (jo (by omega) (by decide)) (CV (by omega)) (oU e3 (((uZ _ e1).same s2).same s3) ((uZ _ e2).same s3))
 refine ⟨_,rfl,rfl,_,rfl,?_⟩
 refine a8 (fun _=> ?_) (fun _=> ?_)
 ·have i1:=a9 (c:=c) (p:=1009) (m:=13) (by decide)
  have i2:=a9 (c:=c) (p:=3001) (m:=3) (by decide)
  have i3:=a9 (c:=c) (p:=2003) (m:=13) (by decide)
  have i4:=a9 (c:=c) (p:=4001) (m:=2) (by decide)
  refine ⟨_,rfl,_,_,_,rfl,by decide,by decide,by decide,_,_,rfl,rfl,_,rfl,_,_,_,rfl,by decide,by decide,by decide,_,_,rfl,rfl,_,_,rfl,by omega,fun p1 H1 s1 e1=> ?_⟩
  rw [fY (by omega)] at e1
  refine ⟨_,rfl,_,rfl,_,_,_,rfl,by decide,by decide,by decide,_,_,rfl,rfl,_,rfl,_,_,_,rfl,by decide,by decide,by decide,_,_,rfl,rfl,_,_,rfl,by omega,fun p2 H2 s2 e2=>⟨L2,?_⟩⟩
  rw [fY (by omega)] at e2
  intro p3 n3;generalize eX:upd _ p3 _=H3;have ⟨s3,e3⟩:=nw n3 eX;clear eX
  exact q p3 _ _ H3 ((s1.trans s2).trans s3) (g9 (by omega) (by omega) (by omega)) (g9 (by omega) (by omega) (by omega)) (vY (by omega) (by omega)) (oU e3 (((kr e1).same s2).same s3) ((kr e2).same s3))
 ·have i1:=a9 (c:=c) (p:=1000003) (m:=1000003) (by decide)
  have i2:=a9 (c:=c) (p:=3001) (m:=997) (by decide)
  have i3:=a9 (c:=c) (p:=1000033) (m:=1000003) (by decide)
  have i4:=a9 (c:=c) (p:=4001) (m:=997) (by decide)
  refine ⟨_,rfl,_,_,_,rfl,by decide,by decide,by decide,_,_,rfl,rfl,_,rfl,_,_,_,rfl,by decide,by decide,by decide,_,_,rfl,rfl,_,_,rfl,by omega,fun p1 H1 s1 e1=> ?_⟩
  rw [fY (by omega)] at e1
  refine ⟨_,rfl,_,rfl,_,_,_,rfl,by decide,by decide,by decide,_,_,rfl,rfl,_,rfl,_,_,_,rfl,by decide,by decide,by decide,_,_,rfl,rfl,_,_,rfl,by omega,fun p2 H2 s2 e2=>⟨L2,?_⟩⟩
  rw [fY (by omega)] at e2
  intro p3 n3;generalize eX:upd _ p3 _=H3;have ⟨s3,e3⟩:=nw n3 eX;clear eX
  exact q p3 _ _ H3 ((s1.trans s2).trans s3) (g9 (by omega) (by omega) (by omega)) (g9 (by omega) (by omega) (by omega)) (vY (by omega) (by omega)) (oU e3 (((kr e1).same s2).same s3) ((kr e2).same s3))
inductive qM (K:Frag)(vs:List V)(H:Hp)(Q:VK)(E_:XK):Prop where
 | mk (c:Int) (_:vs=[.int c]) (_:∀(l:Addr) (us:List V) (ws:List (Rat×Rat)) (H' :Hp),iM ws→aq H H' →H l=none→H' l=some (.lst us)→hW K H' us ws→Q (.ref l) H'):qM K vs H Q E_
theorem HM {r:Rat}:(qr r).1=0 ↔ r=0:=⟨qw,fun e=>by rw [e,cy]⟩
theorem tE:ay ["_law_cell","_law_kind","_law_x","_law_y"] ["_law_cell"] (af xW):=sq
theorem Q_ (D:Def K mg "_law_ways" xW ["_law_cell"])(c_:Fn P w K mg base (aX P w) 1 "_law_field" ["_law_cell","_law_prime","_law_many"] e_)(qL:Fn P w K mg base (aX P w) 33 "_law_lowest" ["_law_top","_law_bottom"] cU):Fn P w K mg base (aX P w) 34 "_law_ways" ["_law_cell"] (qM K):=by
 refine D.ok tE (fun vs H Q E h=> ?_) (fun f bf A outer s H vs Q E hr h=> ?_)
 ·obtain ⟨c,rfl,_⟩:=h
  rfl
 obtain ⟨c,rfl,q⟩:=h
 have L0:0≤sizeLine:=by decide
 have L1:1≤sizeLine:=by decide
 have L2:2≤sizeLine:=by decide
 refine ⟨_,(ae (aG (i:=1) tE.nd rfl (ab_ rfl) (aA c_ hr.mo pX (ao (pv 0) (ao ag (ao ag aa)))))
  (ae (ba (aJ rn (pv 1) ag (aQ _)) (ah (aw (bS aa))) aI)
  (ae (ba (aJ rn (pv 1) ag (aQ _)) (ah (aw (bS (ao (aV (ao (aV (ao ag (ao ag aa))) (ao (aV (ao ag (ao ag aa))) aa))) (ao (aV (ao (aV (ao ag (ao ag aa))) (ao (aV (ao ag (ao ag aa))) aa))) aa))))) aI)
  (ae (aG (i:=2) tE.nd rfl (ab_ rfl) (aA qL hr.mo pX (ao (aO dJ (aA c_ hr.mo pX (ao (pv 0) (ao ag (ao ag aa)))) ag) (ao (aO b7 ag (aA c_ hr.mo pX (ao (pv 0) (ao ag (ao ag aa))))) aa))))
  (ae (aG (i:=3) tE.nd rfl (ab_ rfl) (aA qL hr.mo pX (ao (aO dJ (aA c_ hr.mo pX (ao (pv 0) (ao ag (ao ag aa)))) ag) (ao (aO b7 ag (aA c_ hr.mo pX (ao (pv 0) (ao ag (ao ag aa))))) aa))))
  (ae (ba (PW.pt (jB (aJ cP (aK (pv 2)) ag (aQ _)) (iR (aJ cP (aK (pv 3)) ag (aQ _))))) (ah (aG (i:=3) tE.nd rfl (ab_ rfl) (aV (ao ag (ao ag aa))))) aI)
  (ah (aw (bS (ao (aV (ao (pv 2) (ao (pv 3) aa))) aa)))))))))),?_⟩
 refine ⟨_,rfl,_,_,_,rfl,by decide,by decide,by decide,?_⟩
 refine ⟨_,rfl,_,_,rfl,rfl,_,rfl,?_⟩
 refine a8 (fun _=> ?_) (fun _=> ?_)
 ·refine ⟨L0,?_⟩
  intro l nl;generalize eX:upd _ l _=H1;have ⟨s1,e1⟩:=nw nl eX;clear eX
  exact q l [] [] H1 (.inl rfl) s1 nl e1 .nil
 refine ⟨_,rfl,_,_,rfl,rfl,_,rfl,?_⟩
 refine a8 (fun _=> ?_) (fun _=> ?_)
 ·refine ⟨L2,?_⟩
  intro p1 n1;generalize eX:upd _ p1 _=H1;have ⟨s1,e1⟩:=nw n1 eX;clear eX
  refine ⟨L2,?_⟩
  intro p2 n2;generalize eX:upd _ p2 _=H2;have ⟨s2,e2⟩:=nw n2 eX;clear eX
  refine ⟨L2,?_⟩
  intro p3 n3;generalize eX:upd _ p3 _=H3;have ⟨s3,e3⟩:=nw n3 eX;clear eX
  refine ⟨L2,?_⟩
  intro p4 n4;generalize eX:upd _ p4 _=H4;have ⟨s4,e4⟩:=nw n4 eX;clear eX
  refine ⟨L2,?_⟩
  intro p5 n5;generalize eX:upd _ p5 _=H5;have ⟨s5,e5⟩:=nw n5 eX;clear eX
  refine ⟨L2,?_⟩
  intro p6 n6;generalize eX:upd _ p6 _=H6;have ⟨s6,e6⟩:=nw n6 eX;clear eX
  refine ⟨L2,?_⟩
  intro p7 n7;generalize eX:upd _ p7 _=H7;have ⟨s7,e7⟩:=nw n7 eX;clear eX
  have sh:=s1.trans (s2.trans (s3.trans (s4.trans (s5.trans s6))))
  have w1:eh K H7 (.ref p3) (1,0):=tf mT cy (s7 _ _ (s6 _ _ (s5 _ _ (s4 _ _ e3)))) (s7 _ _ (s6 _ _ (s5 _ _ (s4 _ _ (s3 _ _ (s2 _ _ e1)))))) (s7 _ _ (s6 _ _ (s5 _ _ (s4 _ _ (s3 _ _ e2)))))
  have w2:eh K H7 (.ref p6) (0,1):=tf cy mT (s7 _ _ e6) (s7 _ _ (s6 _ _ (s5 _ _ e4))) (s7 _ _ (s6 _ _ e5))
  exact q p7 _ [(1,0),(0,1)] _ (.inr (.inr rfl)) (sh.trans s7) (sh.free n7) e7 (.cons w1 (.cons w2 .nil))
 have i1:=a9 (c:=c) (p:=6007) (m:=7) (by decide)
 have i2:=a9 (c:=c) (p:=7001) (m:=3) (by decide)
 have i3:=a9 (c:=c) (p:=8009) (m:=7) (by decide)
 have i4:=a9 (c:=c) (p:=9001) (m:=2) (by decide)
 refine ⟨_,rfl,_,_,_,rfl,by decide,by decide,by decide,_,_,rfl,rfl,_,rfl,_,_,_,rfl,by decide,by decide,by decide,_,_,rfl,rfl,_,_,rfl,by omega,fun p1 H1 s1 e1=> ?_⟩
 rw [fY (by omega)] at e1
 refine ⟨_,rfl,_,_,_,rfl,by decide,by decide,by decide,_,_,rfl,rfl,_,rfl,_,_,_,rfl,by decide,by decide,by decide,_,_,rfl,rfl,_,_,rfl,by omega,fun p2 H2 s2 e2=> ?_⟩
 rw [fY (by omega)] at e2
 have z1:=g9 (t:=field c 6007 7 - 3) (b:=1+field c 7001 3) (by omega) (by omega) (by omega)
 have z2:=g9 (t:=field c 8009 7 - 3) (b:=1+field c 9001 2) (by omega) (by omega) (by omega)
 generalize ((field c 6007 7 - 3:Int):Rat) / ((1+field c 7001 3:Int):Rat)=x at e1 z1 ⊢
 generalize ((field c 8009 7 - 3:Int):Rat) / ((1+field c 9001 2:Int):Rat)=y at e2 z2 ⊢
 have AE :=s2 _ _ e1
 have ig:=s1.trans s2
 have fin:∀(v:V) (y' :Rat) (H3:Hp),aq H2 H3→dE K H3 v y' →Sz 22 y' →¬ (x=0∧y' =0)→∀(p:Addr) (l:Addr) (H5:Hp),aq H3 H5→H3 l=none→H5 p=some (.tup [.ref p1,v])→H5 l=some (.lst [.ref p])→Q (.ref l) H5:=fun v y' H3 s3 hv zy hn p l H5 s5 nl ep el=>
  q l [.ref p] [(x,y')] H5 (.inr (.inl ⟨x,y',rfl,hn,z1.up (by decide),zy⟩)) (ig.trans (s3.trans s5)) ((ig.trans s3).free nl) el (.cons (oU ep (((kr AE).same s3).same s5) (hv.same s5)) .nil)
 refine ⟨_,rfl,p1,_,_,_,rfl,rfl,bF.of AE,iP,rfl,_,rfl,?_⟩
 refine a8 (fun c1=> ?_) (fun c1=> ?_)
 ·have c1' :x=0:=HM.mp (by simpa using of_decide_eq_true c1)
  refine ⟨_,rfl,p2,_,_,_,rfl,rfl,bF.of e2,iP,rfl,_,rfl,?_⟩
  refine a8 (fun c2=> ?_) (fun c2=> ?_)
  ·refine ⟨L2,?_⟩
   intro p3 n3;generalize eX:upd _ p3 _=H3;have ⟨s3,e3⟩:=nw n3 eX;clear eX
   refine ⟨_,rfl,_,rfl,L2,?_⟩
   intro p4 n4;generalize eX:upd _ p4 _=H4;have ⟨s4,e4⟩:=nw n4 eX;clear eX
   refine ⟨L1,?_⟩
   intro l5 n5;generalize eX:upd _ l5 _=H5;have ⟨s5,e5⟩:=nw n5 eX;clear eX
   exact fin (.ref p3) 1 H3 s3 (uZ 1 e3) (jo (i:=1) (by decide) (by decide)) (fun z=>absurd z.2 (by decide)) p4 l5 H5 (s4.trans s5) (s4.free n5) (s5 _ _ e4) e5
  ·have c2' :¬ y=0:=fun z=>c2 (by rw [z,cy];decide)
   refine ⟨_,rfl,_,rfl,L2,?_⟩
   intro p4 n4;generalize eX:upd _ p4 _=H4;have ⟨s4,e4⟩:=nw n4 eX;clear eX
   refine ⟨L1,?_⟩
   intro l5 n5;generalize eX:upd _ l5 _=H5;have ⟨s5,e5⟩:=nw n5 eX;clear eX
   exact fin (.ref p2) y H2 (aq.refl _) (kr e2) (z2.up (by decide)) (fun z=>c2' z.2) p4 l5 H5 (s4.trans s5) (s4.free n5) (s5 _ _ e4) e5
 ·have c1' :¬ x=0:=fun z=>c1 (by rw [z,cy];decide)
  refine Li ?_
  refine ⟨_,rfl,_,rfl,L2,?_⟩
  intro p4 n4;generalize eX:upd _ p4 _=H4;have ⟨s4,e4⟩:=nw n4 eX;clear eX
  refine ⟨L1,?_⟩
  intro l5 n5;generalize eX:upd _ l5 _=H5;have ⟨s5,e5⟩:=nw n5 eX;clear eX
  exact fin (.ref p2) y H2 (aq.refl _) (kr e2) (z2.up (by decide)) (fun z=>c1' z.1) p4 l5 H5 (s4.trans s5) (s4.free n5) (s5 _ _ e4) e5
inductive jq (K:Frag)(H:Hp)(d:Addr)(v:V)(p:aE):Prop where
 | mk (a l:Addr) (s:V) (us:List V) (_:v=.ref a) (_:bF K H a [.str p.nm,s,.ref l]) (_:eh K H s p.sp) (_:H l=some (.lst us)) (_:hW K H us p.ws) (_:l≠d):jq K H d v p
inductive gm (K:Frag)(H:Hp)(v:V)(p:aE):Prop where
 | mk (a l:Addr) (s:V) (us:List V) (_:v=.ref a) (_:bF K H a [.str p.nm,s,.ref l]) (_:eh K H s p.sp) (_:H l=some (.lst us)) (_:hW K H us p.ws):gm K H v p
inductive j3 (K:Frag)(H:Hp)(pins:List aE)(v:V)(b:bg):Prop where
 | mk (a:Addr) (i j:Nat) (_:v=.ref a) (_:bF K H a [.str b.nm,.int (i:Int),.int (j:Int)]) (_:pins[i]? =some b.one) (_:pins[j]? =some b.other):j3 K H pins v b
section
variable {K:Frag}{H H' :Hp}{v:V}{p:aE}{d:Addr}
theorem jq.same (h:jq K H d v p)(s:aq H H'):jq K H' d v p:=by
 obtain ⟨a,l,sv,us,e,h1,h2,h3,h4,h5⟩:=h
 exact ⟨a,l,sv,us,e,Ty.aq.cN s h1,h2.same s,s _ _ h3,h4.same s,h5⟩
theorem jq.upd {xs:List V}{o:HO}(h:jq K H d v p)(e:H d=some (.lst xs)):jq K (L2.upd H d o) d v p:=by
 obtain ⟨a,l,sv,us,ev,h1,h2,h3,h4,h5⟩:=h
 have t:bB H (L2.upd H d o):=.list e
 exact ⟨a,l,sv,us,ev,t.cN h1,h2.a_ t,by rw [aj h5];exact h3,h4.a_ t,h5⟩
theorem jq.r (h:jq K H d v p):gm K H v p:=by
 obtain ⟨a,l,sv,us,e,h1,h2,h3,h4,_⟩:=h
 exact ⟨a,l,sv,us,e,h1,h2,h3,h4⟩
theorem gm.same (h:gm K H v p)(s:aq H H'):gm K H' v p:=by
 obtain ⟨a,l,sv,us,e,h1,h2,h3,h4⟩:=h
 exact ⟨a,l,sv,us,e,Ty.aq.cN s h1,h2.same s,s _ _ h3,h4.same s⟩
theorem j3.same {pins:List aE}{b:bg}(h:j3 K H pins v b)(s:aq H H'):j3 K H' pins v b:=by
 obtain ⟨a,i,j,e,h1,h2,h3⟩:=h
 exact ⟨a,i,j,e,Ty.aq.cN s h1,h2,h3⟩
end
structure gO (pins:List aE):Prop where
 np:(pins.map (·.nm)).Nodup
 ns:(pins.map (·.sp)).Nodup
 sz:∀p∈pins,Sz 24 p.sp.1∧Sz 24 p.sp.2
 ws:∀p∈pins,iM p.ws
theorem iM.sz {ws:List (Rat×Rat)}(h:iM ws):∀w∈ws,Sz 22 w.1∧Sz 22 w.2:=fun w hw=>by
 rcases h with rfl | ⟨x,y,rfl,_,h1,h2⟩ | rfl
 ·cases hw
 ·have:w=(x,y):=by simpa using hw
  rw [this]
  exact ⟨h1,h2⟩
 ·have e1:Sz 22 (1:Rat):=jo (k:=22) (i:=1) (by decide) (by decide)
  have e0:Sz 22 (0:Rat):=gc (by decide)
  have:w=(1,0)∨w=(0,1):=by simpa using hw
  rcases this with rfl | rfl
  ·exact ⟨e1,e0⟩
  ·exact ⟨e0,e1⟩
theorem iM.len {ws:List (Rat×Rat)}(h:iM ws):ws.length≤2:=by
 rcases h with rfl | ⟨x,y,rfl,_⟩ | rfl <;> simp
theorem gO.snoc {pins:List aE}{p:aE}(g:gO pins)(h1:p.nm∉pins.map (·.nm))(h2:p.sp∉pins.map (·.sp))(h3:Sz 24 p.sp.1∧Sz 24 p.sp.2)(h4:iM p.ws):gO (pins++[p]):=by
 refine ⟨?_,?_,fun q hq=> ?_,fun q hq=> ?_⟩
 ·rw [afG,agw]
  refine ⟨g.np,by simp,fun a ha b hb e=>h1 ?_⟩
  have:b=p.nm:=by simpa using hb
  rw [← this, ← e]
  exact ha
 ·rw [afG,agw]
  refine ⟨g.ns,by simp,fun a ha b hb e=>h2 ?_⟩
  have:b=p.sp:=by simpa using hb
  rw [← this, ← e]
  exact ha
 ·rcases afM.mp hq with z | z
  ·exact g.sz q z
  ·rw [afI.mp z]
   exact h3
 ·rcases afM.mp hq with z | z
  ·exact g.ws q z
  ·rw [afI.mp z]
   exact h4
structure m8 (pins:List aE)(bars:List bg):Prop where
 nb:(bars.map (·.nm)).Nodup
 ends:∀b∈bars,b.one∈pins∧b.other∈pins∧b.one.nm≠b.other.nm
theorem gP {α β:Type}{F:α→β→Prop}:∀{l₁:List α} {l₂:List β} {a:α} {b:β},Paired F l₁ l₂→F a b→Paired F (l₁++[a]) (l₂++[b])
 | _,_,_,_,.nil,h=>.cons h .nil
 | _,_,_,_,.cons h t,h' =>.cons h (gP t h')
theorem fK {t u:TS}{D:Ends}{σ:L2.St}{H:Hp}(inv:L2.St→Hp→Prop)(h1:∀N:L2.St→Hp→Prop,(∀σ' H',inv σ' H' →N σ' H')→t {D with nx:=N} σ H)(h2:∀σ' H',inv σ' H' →u D σ' H'):NU t u D σ H:=h1 _ h2
theorem Ra {pins:List aE}{bars:List bg}(g:gO pins)(b:m8 pins bars)(lp:pins.length≤7)(lb:bars.length≤8):eY pins bars:=
 ⟨g.np,b.nb,b.ends,fun p hp=>⟨(g.sz p hp).1,(g.sz p hp).2,(g.ws p hp).sz⟩,lp,lb,fun p hp=>(g.ws p hp).len⟩
theorem Rb:bootBuiltins "min"=some (.builtin "min"):=by decide+kernel
def cnt (pins:List aE)(x:Rat):Nat:=(pins.filter fun p=>decide (x≤p.sp.1)).length
theorem CZ (x:Rat):∀pins:List aE,cnt pins (x+1)≤cnt pins x
 | []=>ad_ _
 | p::ps=>by
  have ih:=CZ x ps
  unfold cnt at ih ⊢
  rw [agV,agV]
  by_cases c:x+1≤p.sp.1
  ·have c2:x≤p.sp.1:=by grind
   rw [if_pos (decide_eq_true c),if_pos (decide_eq_true c2)]
   simpa using ih
  ·rw [if_neg (by simpa using c)]
   split
   ·rw [afL]
    omega
   ·exact ih
theorem C_ {x:Rat}:∀{pins:List aE},(∃p∈pins,p.sp.1=x)→cnt pins (x+1) < cnt pins x
 | [],⟨p,h,_⟩=>by simp at h
 | p::ps,⟨q,hq,e⟩=>by
  unfold cnt
  rw [agV,agV]
  by_cases c0:p.sp.1=x
  ·have c:¬ x+1≤p.sp.1:=by grind
   have c2:x≤p.sp.1:=by grind
   rw [if_neg (by simpa using c),if_pos (decide_eq_true c2),afL]
   have:=CZ x ps
   unfold cnt at this
   omega
  ·have iw :q∈ps:=by
    rcases afK.mp hq with z | z
    ·exact absurd (by rw [← z];exact e) c0
    ·exact z
   have ih:=C_ (pins:=ps) ⟨q,iw,e⟩
   unfold cnt at ih
   by_cases c:x+1≤p.sp.1
   ·have c2:x≤p.sp.1:=by grind
    rw [if_pos (decide_eq_true c),if_pos (decide_eq_true c2)]
    simpa using ih
   ·rw [if_neg (by simpa using c)]
    split
    ·rw [afL]
     omega
    ·exact ih
theorem HN (pins:List aE)(x:Rat):cnt pins x≤pins.length:=List.length_filter_le _ _
theorem HP (r:Rat):fm (qr r) (1,1)=qr (r+1):=by
 have e:fm (qr r) (1,1)=((qr r).1+(qr r).2,(qr r).2):=by
  unfold fm
  simp
 have g:afW ((qr r).1+(qr r).2) (qr r).2=1:=by
  have:=mL r
  rw [← this]
  simp
 rw [e,oM (q:=((qr r).1+(qr r).2,(qr r).2)) (cO r) g]
 congr 1
 have z:=xj (r:=r)
 have v:=eW r
 unfold vl at v ⊢
 push_cast
 grind
theorem Rc {k:Nat}{r:Rat}(h:Sz k r):Ns k (qr r):=⟨agh (intBits_le_iff.mp h.top),agh (intBits_le_iff.mp h.bot)⟩
theorem HQ:∀i:Fin 10,∃N:Fin 6,ft [V.int 0,.int 1,.int 2,.int 2,.int 3,.int 3,.int 3,.int 4,.int 4,.int 5] (i.val:Int)=some (.int (N.val:Int)):=by decide+kernel
theorem oV:∀st:Fin 3,∀a:Fin 6,∀k:Fin 12,1≤(nameOf (st.val:Int) (a.val:Int) (k.val:Int)).length∧(nameOf (st.val:Int) (a.val:Int) (k.val:Int)).length≤40:=by decide+kernel
inductive qN (K:Frag)(vs:List V)(H:Hp)(Q:VK)(E_:XK):Prop where
 | mk (sA:Addr) (ns:List Int) (_:vs=[.ref sA]) (_:aR K H sA (ns.map V.int)) (_:∀(l:Addr) (us:List V) (pins:List aE) (H' :Hp),aq H H' →H l=none→H' l=some (.lst us)→Paired (gm K H') us pins→gO pins→pins.length≤5→(∀p∈pins,(1≤p.nm.length∧p.nm.length≤40)∧p.sp.1≤500010)→Q (.ref l) H'):qN K vs H Q E_
theorem jr:ay ["_law_script","_law_cell","_law_many","_law_kind","_law_pins_here","_law_k","_law_spot_here"] ["_law_script"] (af xX):=sq
theorem Rf (D:Def K mg "_law_pins" xX ["_law_script"])(bw:mg "range"=none)(C':mg "min"=none)(nX:Fn P w K mg base (aX P w) 1 "_law_cell_at" ["_law_script","_law_k"] (m5 K))(c_:Fn P w K mg base (aX P w) 1 "_law_field" ["_law_cell","_law_prime","_law_many"] e_)
  (YT:Fn P w K mg base (aX P w) 34 "_law_spot" ["_law_cell","_law_kind"] (qK K)) (YU:Fn P w K mg base (aX P w) 34 "_law_ways" ["_law_cell"] (qM K)) (Mu:Fn P w K mg base (aX P w) 2 "_law_name" ["_law_cell","_law_k"] qJ) (m9:Fn P w K mg base (aX P w) 1 "_law_sum" ["_law_one","_law_other"] (b8 K fm)):
  Fn P w K mg base (aX P w) 35 "_law_pins" ["_law_script"] (qN K):=by
 refine D.ok jr (fun vs H Q E h=> ?_) (fun f bf A outer s H vs Q E hr h=> ?_)
 ·obtain ⟨sA,ns,rfl,_⟩:=h
  rfl
 obtain ⟨sA,ns,rfl,hS,q⟩:=h
 have L2:2≤sizeLine:=by decide
 have L3:3≤sizeLine:=by decide
 refine ⟨_,(ae (aG (i:=1) jr.nd rfl (ab_ rfl) (aA nX hr.mo pX (ao (pv 0) (ao ag aa))))
  (ae (aG (i:=2) jr.nd rfl (ab_ rfl) (aT aS (bS (ao ag (ao ag (ao ag (ao ag (ao ag (ao ag (ao ag (ao ag (ao ag (ao ag aa))))))))))) (aA c_ hr.mo pX (ao (pv 1) (ao ag (ao ag aa)))) (fun _ _=>rfl)))
  (ae (aG (i:=3) jr.nd rfl (ab_ rfl) (aA c_ hr.mo pX (ao (pv 1) (ao ag (ao ag aa)))))
  (ae (ba (aJ cP (pv 3) ag (aQ _)) (ah (aG (i:=2) jr.nd rfl (ab_ rfl) (aD (wu rfl) rfl C' Rb (ao (pv 2) (ao ag aa))))) aI)
  (ae (aG (i:=4) jr.nd rfl (ab_ rfl) (bS aa))
  (ae (bh PassesOwn.never rfl (b9 rfl bw (ao (pv 2) aa)) (au (i:=5) jr.nd rfl (ab_ rfl)) (ae (aG (i:=6) jr.nd rfl (ab_ rfl) (aA YT hr.mo pX (ao (aA nX hr.mo pX (ao (pv 0) (ao (aO b7 ag (pv 5)) aa))) (ao (pv 3) aa))))
   (ae (lO PassesOwn.never (aJ (FX hr.units) (pv 6) (cg (tn:=["_law_pin"]) (fr:=[]) (caps:=[]) rfl ⟨rfl,by decide+kernel,rfl,by decide+kernel,by decide+kernel,rfl,trivial,trivial⟩ (aY (pv 4)) (fun _ _ _ _=>(au (i:=0) (show (["_law_pin"]:List Str).Nodup from by decide+kernel) rfl (ab_ rfl))) (fun _ _ _ _=>bT) (fun _ _ _ _=>(aT (bO (K:=K) rfl) (pv 0) ag (fun _ _=>rfl)))) rfl) (ah (aG (i:=6) jr.nd rfl (ab_ rfl) (aV (ao (aA m9 hr.mo pX (ao (aK (pv 6)) (ao (aV (ao ag (ao ag aa))) aa))) (ao (aK (pv 6)) aa))))))
   (ah (bK (j9 PySem.F.plainAttrs_list PySem.F.slot_list_append PySem.F.type_list_append dq (pv 4) (ao (aV (ao (aA Mu hr.mo pX (ao (pv 1) (ao (pv 5) aa))) (ao (pv 6) (ao (aA YU hr.mo pX (ao (aA nX hr.mo pX (ao (pv 0) (ao (aO b7 ag (pv 5)) aa))) aa)) aa)))) aa)))))))
  (ah (aw (pv 4))))))))),?_⟩
 refine ⟨_,rfl,sA,ns,0,rfl,hS,by decide,by decide,?_⟩
 generalize cell ns 0=c0
 refine ⟨(by show 10≤sizeLine;decide),?_⟩
 intro t0 nt0;generalize eX:upd _ t0 _=H0;have ⟨st0,et0⟩:=nw nt0 eX;clear eX
 have i1:=a9 (c:=c0) (p:=1009) (m:=10) (by decide)
 refine ⟨_,rfl,_,_,_,rfl,by decide,by decide,by decide,?_⟩
 generalize field c0 1009 10=fi at i1 ⊢
 obtain ⟨fn,rfl⟩:∃n:Nat,fi=(n:Int):=⟨fi.toNat,by omega⟩
 obtain ⟨N,eN⟩:=HQ ⟨fn,by omega⟩
 refine ⟨t0,_,_,_,rfl,rfl,aR.of et0,eN,?_⟩
 refine ⟨_,rfl,_,_,_,rfl,by decide,by decide,by decide,?_⟩
 generalize field c0 2003 3=kind
 dsimp only
 refine fK (fun σ' H' =>∃N:Nat,N≤5∧σ' =[some (.ref sA),some (.int c0),some (.int (N:Int)),some (.int kind),none,none,none]∧H' =H0) (fun Nx EB=> ?_) ?_
 ·refine ⟨_,rfl,rfl,_,rfl,?_⟩
  refine a8 (fun _=> ?_) (fun _=> ?_)
  ·have hN:=N.isLt
   refine ⟨_,rfl,_,_,rfl,?_⟩
   refine EB _ _ ⟨min N.val 4,by omega,?_,rfl⟩
   have:(if (4:Int) < (N.val:Int) then (4:Int) else (N.val:Int))=((min N.val 4:Nat):Int):=by
    split <;> omega
   rw [this]
   rfl
  ·exact EB _ _ ⟨N.val,by have:=N.isLt;omega,rfl,rfl⟩
 rintro σ' H' ⟨N,hN,rfl,rfl⟩
 refine ⟨(by show 0≤sizeLine;decide),?_⟩
 intro lp np;generalize eX:upd _ lp _=H1;have ⟨sp,ep⟩:=nw np eX;clear eX
 have YJ:=st0.trans sp
 have uU:H lp=none:=st0.free np
 refine ⟨_,rfl,(N:Int),rfl,by omega,by omega,cn (lo:=0) (n:=N) (fun i σ H' =>∃(o5 o6:Option V) (us:List V) (pins:List aE),σ=[some (.ref sA),some (.int c0),some (.int (N:Int)),some (.int kind),some (.ref lp),o5,o6]∧aq H H' ∧H' lp=some (.lst us)∧Paired (jq K H' lp) us pins∧gO pins∧pins.length=i∧∀p∈pins,∃j,j < i∧p.nm=nameOf (field c0 3001 3) (field c0 4001 6) (j:Int)∧p.sp.1≤500010) ⟨none,none,[],[],rfl,YJ,ep,.nil,⟨by simp,by simp,by simp,by simp⟩,rfl,by simp⟩ ?_ ?_⟩
 ·rintro i σ H2 hi ⟨o5,o6,us,pins,rfl,s2,e2,pp,gp,lpi,nm⟩
  have ei:(0:Int)+(i:Int)=(i:Int):=af1 _
  rw [ei]
  have lu:us.length=pins.length:=Paired.length pp
  refine ⟨_,rfl,_,rfl,_,_,rfl,rfl,sA,ns,_,rfl,s2.seq hS,by omega,by omega,_,rfl,?_⟩
  refine ⟨_,_,rfl,fun p3 x0 y0 H3 s3 zx zy xb h3=> ?_⟩
  have Yi:=s2.trans s3
  have h30:eh K H3 (.ref p3) (x0+((0:Nat):Rat),y0):=by
   have e:x0+((0:Nat):Rat)=x0:=by
    have:((0:Nat):Rat)=0:=by rfl
    rw [this]
    grind
   rw [e]
   exact h3
  dsimp only
  refine fK (fun σ' H' =>∃(sv:V) (x:Rat),σ' =[some (.ref sA),some (.int c0),some (.int (N:Int)),some (.int kind),some (.ref lp),some (.int (i:Int)),some sv]∧aq H3 H' ∧eh K H' sv (x,y0)∧(Sz 24 x∧x≤500010)∧(x,y0)∉pins.map (·.sp)) (fun Nx EB=> ?_) ?_
  ·refine ⟨fun m σ H' =>∃(sv:V) (j:Nat),σ=[some (.ref sA),some (.int c0),some (.int (N:Int)),some (.int kind),some (.ref lp),some (.int (i:Int)),some sv]∧aq H3 H' ∧eh K H' sv (x0+(j:Rat),y0)∧m=cnt pins (x0+(j:Rat))∧j+cnt pins (x0+(j:Rat))≤pins.length,⟨_,_,0,rfl,aq.refl _,h30,rfl,by have:=HN pins (x0+((0:Nat):Rat));omega⟩,?_⟩
   rintro m σ H4 ⟨sv,j,rfl,s4,h4,rfl,hj⟩
   have e4:=(s3.trans s4) _ _ e2
   have YV:Paired (jq K H4 lp) us pins:=Paired.cw pp fun _ _ z=>z.same (s3.trans s4)
   have zj:Sz 24 (x0+(j:Rat)):=(zx.add (uC (i:=(j:Int)) (k:=3) (show _ < 8 by omega) (by decide))).up (by decide)
   refine ⟨_,rfl,_,rfl,lp,rfl,⟨_,aR.of e4⟩,fun D1 n1=> ?_⟩
   refine b_ (cap:=[]) (K:=K) (a:=lp) (xs:=us) (fun i v H=>∃p,pins[i]? =some p∧eh K H v p.sp) n1 (by rw [lu];exact afs (show pins.length≤1000 by omega) (by decide)) (fun H2 s2=>aR.of (s2 _ _ e4)) (fun _ _ _ _ _ h0 ks h=>by
     obtain ⟨p,h1,h2⟩:=h
     refine ⟨p,h1,h2.a_ fun b xs r=> ?_⟩
     rcases r with r | ⟨o',r⟩
     ·exact .inl (ks _ _ (fun e=>by rw [e,h0] at r;cases r) r)
     ·exact .inr ⟨o',ks _ _ (fun e=>by rw [e,h0] at r;cases r) r⟩) ?_ ?_
   ·intro jj u H6 R hu s6 k
    obtain ⟨p,va,hp⟩:=aH YV hu
    obtain ⟨a,l,sv,jI,rfl,h1,h2,_⟩:=hp
    exact ⟨_,rfl,a,_,_,_,rfl,rfl,Ty.aq.cN s6 h1,rfl,k _ _ (aq.refl _) ⟨p,va,h2.same s6⟩⟩
   intro ys H6 hy eA s6 hD
   have pq:hW K H6 ys (pins.map (·.sp)):=jN (by rw [Wp,hy,lu]) fun j u q' AE Ws =>by
    obtain ⟨p,h1,h2⟩:=eA j u AE
    rw [aa_,h1] at Ws
    cases Ws
    exact h2
   have h6:=h4.same s6
   refine ⟨(x0+(j:Rat),y0),D1,ys,_,rfl,aR.of hD,h6,pq,_,rfl,?_⟩
   refine a8 (fun cc=> ?_) (fun cc=> ?_)
   ·have mem:(x0+(j:Rat),y0)∈pins.map (·.sp):=by simpa using cc
    obtain ⟨p,hp,va⟩:=afr.mp mem
    have lt:=C_ (x:=x0+(j:Rat)) ⟨p,hp,by rw [va]⟩
    have ej:x0+(j:Rat)+1=x0+((j+1:Nat):Rat):=by
     push_cast
     grind
    rw [ej] at lt
    refine ⟨fun σ' H' =>∃(sv:V),σ' =[some (.ref sA),some (.int c0),some (.int (N:Int)),some (.int kind),some (.ref lp),some (.int (i:Int)),some sv]∧aq H3 H' ∧eh K H' sv (x0+((j+1:Nat):Rat),y0),fun σ' H' ⟨sv',h1,h2,h3⟩=>⟨_,lt,sv',j+1,h1,h2,h3,rfl,by omega⟩,?_⟩
    obtain ⟨sa,u1,u2,rfl,HR,YW,yN⟩:=h6
    refine ⟨_,rfl,sa,_,_,_,rfl,rfl,HR,iP,L2,?_⟩
    intro p7 n7;generalize eX:upd _ p7 _=H7;have ⟨s7,e7⟩:=nw n7 eX;clear eX
    refine ⟨u1,.ref p7,qr (x0+(j:Rat)),(1,1),24,1,rfl,YW.same s7,⟨p7,rfl,bF.of e7⟩,Rc zj,⟨by decide,by decide⟩,by decide,fun p8 H8 s8 e8=> ?_⟩
    rw [HP,ej] at e8
    refine ⟨_,rfl,sa,_,_,_,rfl,rfl,Ty.aq.cN (s7.trans s8) HR,iQ,L2,?_⟩
    intro p9 n9;generalize eX:upd _ p9 _=H9;have ⟨s9,e9⟩:=nw n9 eX;clear eX
    have s69:=(s7.trans s8).trans s9
    exact ⟨.ref p9,rfl,(s4.trans s6).trans s69,oU e9 ((kr e8).same s9) (yN.same s69)⟩
   ·have fresh:(x0+(j:Rat),y0)∉pins.map (·.sp):=by simpa using cc
    exact EB _ _ ⟨sv,x0+(j:Rat),rfl,s4.trans s6,h6,⟨zj,(by have Pa :((j:Int):Rat)≤((5:Int):Rat):=agQ.mpr (by omega);have e1:((j:Int):Rat)=(j:Rat):=rfl;have e2:((5:Int):Rat)=5:=rfl;rw [e1,e2] at Pa;grind)⟩,fresh⟩
  rintro σ' H4 ⟨sv,x,rfl,s4,h4,⟨zx',xb'⟩,fresh⟩
  have YX:=s3.trans s4
  have qO:=s2.trans YX
  have e4:=YX _ _ e2
  have YV:Paired (jq K H4 lp) us pins:=Paired.cw pp fun _ _ z=>z.same YX
  refine ⟨_,rfl,.inl ⟨rfl,_,aR.of e4⟩,_,rfl,_,rfl,_,_,rfl,by omega,by omega,_,rfl,?_⟩
  refine ⟨_,rfl,_,rfl,_,_,rfl,rfl,sA,ns,_,rfl,qO.seq hS,by omega,by omega,?_⟩
  refine ⟨_,rfl,fun l8 us8 ws H8 wk s8 n8 e8 p8=>⟨L3,?_⟩⟩
  intro p9 n9;generalize eX:upd _ p9 _=H9;have ⟨s9,e9⟩:=nw n9 eX;clear eX
  have Wt:=s8.trans s9
  have YY:=Wt _ _ e4
  have pp9:Paired (jq K H9 lp) us pins:=Paired.cw YV fun _ _ z=>z.same Wt
  refine ⟨lp,_,_,rfl,rfl,YY,(by rw [lu];exact afs (show pins.length≤1000 by omega) (by decide)),?_⟩
  have q5:jq K H9 lp (.ref p9) ⟨nameOf (field c0 3001 3) (field c0 4001 6) (i:Int),(x,y0),ws⟩:=⟨p9,l8,sv,us8,rfl,bF.of e9,h4.same Wt,s9 _ _ e8,p8.same s9,fun z=>by rw [z,e4] at n8;cases n8⟩
  refine ⟨_,_,_,pins++[⟨nameOf (field c0 3001 3) (field c0 4001 6) (i:Int),(x,y0),ws⟩],rfl,fun b o z=> ?_,ai,gP (Paired.cw pp9 fun _ _ z=>z.upd YY) (q5.upd YY),gp.snoc (fun z=> ?_) fresh ⟨zx',zy.up (by decide)⟩ wk,by simp [lpi],fun p hp=> ?_⟩
  ·rw [aj (ak z uU)]
   exact Wt _ _ (qO _ _ z)
  ·obtain ⟨p,hp,va⟩:=afr.mp z
   obtain ⟨j,hj,ej,_⟩:=nm p hp
   have i3:=a9 (c:=c0) (p:=3001) (m:=3) (by decide)
   have i4:=a9 (c:=c0) (p:=4001) (m:=6) (by decide)
   have:=tD ⟨(field c0 3001 3).toNat,by omega⟩ ⟨(field c0 4001 6).toNat,by omega⟩ ⟨j,by omega⟩ ⟨i,by omega⟩ (fun z=>by
    have:=congrArg Fin.val z
    simp at this
    omega)
   refine this ?_
   show nameOf (((field c0 3001 3).toNat:Nat):Int) (((field c0 4001 6).toNat:Nat):Int) (j:Int)=nameOf (((field c0 3001 3).toNat:Nat):Int) (((field c0 4001 6).toNat:Nat):Int) (i:Int)
   rw [show (((field c0 3001 3).toNat:Nat):Int)=field c0 3001 3 by omega,show (((field c0 4001 6).toNat:Nat):Int)=field c0 4001 6 by omega, ← ej]
   exact va
  ·rcases afM.mp hp with z | z
   ·obtain ⟨j,hj,ej,eb⟩:=nm p z
    exact ⟨j,by omega,ej,eb⟩
   ·rw [afI.mp z]
    exact ⟨i,by omega,rfl,xb'⟩
 ·rintro σ H2 ⟨o5,o6,us,pins,rfl,s2,e2,pp,gp,lpi,nm⟩
  refine ⟨_,rfl,q lp us pins H2 s2 uU e2 (Paired.cw pp fun _ _ z=>z.r) gp (by omega) fun p hp=> ?_⟩
  obtain ⟨j,hj,ej,eb⟩:=nm p hp
  refine ⟨?_,eb⟩
  rw [ej]
  have f1:=a9 (c:=c0) (p:=3001) (m:=3) (by decide)
  have f2:=a9 (c:=c0) (p:=4001) (m:=6) (by decide)
  obtain ⟨u,hu⟩:∃n:Nat,field c0 3001 3=(n:Int):=⟨(field c0 3001 3).toNat,by omega⟩
  obtain ⟨v,hv⟩:∃n:Nat,field c0 4001 6=(n:Int):=⟨(field c0 4001 6).toNat,by omega⟩
  rw [hu,hv]
  exact oV ⟨u,by omega⟩ ⟨v,by omega⟩ ⟨j,by omega⟩
inductive qP (K:Frag)(vs:List V)(H:Hp)(Q:VK)(E_:XK):Prop where
 | mk (sA pA:Addr) (ns:List Int) (us:List V) (pins:List aE) (_:vs=[.ref sA,.ref pA]) (_:aR K H sA (ns.map V.int)) (_:H pA=some (.lst us)) (_:us.length=pins.length) (_:(pins.map (·.nm)).Nodup) (_:pins.length≤6) (_:∀(l:Addr) (eJ :List V) (bars:List bg) (H' :Hp),aq H H' →H l=none→H' l=some (.lst eJ)→Paired (j3 K H' pins) eJ bars→m8 pins bars→bars.length≤7→(∀b∈bars,∃st a j:Nat,st < 3∧a < 6∧j < 12∧b.nm=nameOf (st:Int) (a:Int) (j:Int))→Q (.ref l) H'):qP K vs H Q E_
theorem m8.snoc {pins:List aE}{bars:List bg}{b:bg}(g:m8 pins bars)(h1:b.nm∉bars.map (·.nm))(h2:b.one∈pins∧b.other∈pins∧b.one.nm≠b.other.nm):m8 pins (bars++[b]):=by
 refine ⟨?_,fun q hq=> ?_⟩
 ·rw [afG,agw]
  refine ⟨g.nb,by simp,fun a ha c hc e=>h1 ?_⟩
  have:c=b.nm:=by simpa using hc
  rw [← this, ← e]
  exact ha
 ·rcases afM.mp hq with z | z
  ·exact g.ends q z
  ·rw [afI.mp z]
   exact h2
theorem ku:ay ["_law_script","_law_pins_here","_law_cell","_law_many","_law_bars_here","_law_k","_law_one","_law_step"] ["_law_script","_law_pins_here"] (af xY):=sq
theorem Rg (D:Def K mg "_law_bars" xY ["_law_script","_law_pins_here"])(bw:mg "range"=none)(aZ:mg "len"=none)(nX:Fn P w K mg base (aX P w) 1 "_law_cell_at" ["_law_script","_law_k"] (m5 K))(c_:Fn P w K mg base (aX P w) 1 "_law_field" ["_law_cell","_law_prime","_law_many"] e_)(Mu:Fn P w K mg base (aX P w) 2 "_law_name" ["_law_cell","_law_k"] qJ):
  Fn P w K mg base (aX P w) 3 "_law_bars" ["_law_script","_law_pins_here"] (qP K):=by
 refine D.ok ku (fun vs H Q E h=> ?_) (fun f bf A outer s H vs Q E hr h=> ?_)
 ·obtain ⟨sA,pA,ns,us,pins,rfl,_⟩:=h
  rfl
 obtain ⟨sA,pA,ns,us,pins,rfl,hS,hp,lu,np,lp,q⟩:=h
 have L3:3≤sizeLine:=by decide
 refine ⟨_,(ae (aG (i:=2) ku.nd rfl (ab_ rfl) (aA nX hr.mo pX (ao (pv 0) (ao ag aa))))
  (ae (aG (i:=3) ku.nd rfl (ab_ rfl) (aA c_ hr.mo pX (ao (pv 2) (ao ag (ao ag aa)))))
  (ae (ba (aJ rn (aD aF rfl aZ bQ (ao (pv 1) aa)) ag (aQ _)) (ah (aG (i:=3) ku.nd rfl (ab_ rfl) ag)) aI)
  (ae (aG (i:=4) ku.nd rfl (ab_ rfl) (bS aa))
  (ae (bh PassesOwn.never rfl (b9 rfl bw (ao (pv 3) aa)) (au (i:=5) ku.nd rfl (ab_ rfl)) (ae (aG (i:=6) ku.nd rfl (ab_ rfl) (aA c_ hr.mo pX (ao (aA nX hr.mo pX (ao (pv 0) (ao (aO b7 ag (pv 5)) aa))) (ao ag (ao (aD aF rfl aZ bQ (ao (pv 1) aa)) aa)))))
   (ae (aG (i:=7) ku.nd rfl (ab_ rfl) (aO b7 ag (aA c_ hr.mo pX (ao (aA nX hr.mo pX (ao (pv 0) (ao (aO b7 ag (pv 5)) aa))) (ao ag (ao (aO dJ (aD aF rfl aZ bQ (ao (pv 1) aa)) ag) aa))))))
   (ah (bK (j9 PySem.F.plainAttrs_list PySem.F.slot_list_append PySem.F.type_list_append dq (pv 4) (ao (aV (ao (aA Mu hr.mo pX (ao (pv 2) (ao (pv 5) aa))) (ao (pv 6) (ao (aO eR (aO b7 (pv 6) (pv 7)) (aD aF rfl aZ bQ (ao (pv 1) aa))) aa)))) aa)))))))
  (ah (aw (pv 4)))))))),?_⟩
 refine ⟨_,rfl,sA,ns,1,rfl,hS,by decide,by decide,?_⟩
 generalize cell ns 1=c0
 have i1:=a9 (c:=c0) (p:=1009) (m:=8) (by decide)
 refine ⟨_,rfl,_,_,_,rfl,by decide,by decide,by decide,?_⟩
 generalize field c0 1009 8=fi at i1 ⊢
 obtain ⟨fn,rfl⟩:∃n:Nat,fi=(n:Int):=⟨fi.toNat,by omega⟩
 dsimp only
 refine fK (fun σ' H' =>∃N:Nat,N≤7∧(0 < N→2≤pins.length)∧σ' =[some (.ref sA),some (.ref pA),some (.int c0),some (.int (N:Int)),none,none,none,none]∧H' =H) (fun Nx EB=> ?_) ?_
 ·refine ⟨_,rfl,pA,_,rfl,.inl (aR.of hp),_,_,rfl,rfl,_,rfl,?_⟩
  refine a8 (fun _=> ?_) (fun c=> ?_)
  ·exact EB _ _ ⟨0,by omega,by omega,rfl,rfl⟩
  ·have c' :¬ (us.length:Int) < 2:=fun z=>c (decide_eq_true z)
   exact EB _ _ ⟨fn,by omega,fun _=>by omega,rfl,rfl⟩
 rintro σ' Hy ⟨N,hN,X2,rfl,rfl⟩
 refine ⟨(by show 0≤sizeLine;decide),?_⟩
 intro lb nb;generalize eX:upd _ lb _=H1;have ⟨sb,eb⟩:=nw nb eX;clear eX
 refine ⟨_,rfl,(N:Int),rfl,by omega,by omega,cn (lo:=0) (n:=N) (fun i σ H' =>∃(o5 o6 o7:Option V) (eJ :List V) (bars:List bg),σ=[some (.ref sA),some (.ref pA),some (.int c0),some (.int (N:Int)),some (.ref lb),o5,o6,o7]∧aq Hy H' ∧H' lb=some (.lst eJ)∧Paired (j3 K H' pins) eJ bars∧m8 pins bars∧bars.length=i∧∀b∈bars,∃j,j < i∧b.nm=nameOf (field c0 3001 3) (field c0 4001 6) (j:Int)) ⟨none,none,none,[],[],rfl,sb,eb,.nil,⟨by simp,by simp⟩,rfl,by simp⟩ ?_ ?_⟩
 ·rintro i σ H2 hi ⟨o5,o6,o7,eJ,bars,rfl,s2,e2,pb,gb,lbi,nm⟩
  have ei:(0:Int)+(i:Int)=(i:Int):=af1 _
  rw [ei]
  have n2:2≤pins.length:=X2 (by omega)
  have lv:eJ.length=bars.length:=Paired.length pb
  have sp:=aR.of (K:=K) (s2 _ _ hp)
  refine ⟨_,rfl,_,rfl,_,_,rfl,rfl,sA,ns,_,rfl,s2.seq hS,by omega,by omega,_,rfl,pA,_,rfl,.inl sp,_,_,_,rfl,by decide,by decide,by omega,?_⟩
  have j1:=a9 (c:=cell ns (8+(i:Int))) (p:=1009) (m:=(us.length:Int)) (by omega)
  have j2:=a9 (c:=cell ns (8+(i:Int))) (p:=2003) (m:=(us.length:Int) - 1) (by omega)
  refine ⟨_,rfl,_,rfl,_,_,rfl,rfl,sA,ns,_,rfl,s2.seq hS,by omega,by omega,_,rfl,pA,_,rfl,.inl sp,_,_,rfl,rfl,_,_,_,rfl,by decide,by decide,by omega,_,_,rfl,rfl,?_⟩
  generalize field (cell ns (8+(i:Int))) 1009 (us.length:Int)=one at j1 ⊢
  generalize field (cell ns (8+(i:Int))) 2003 ((us.length:Int) - 1)=step at j2 ⊢
  obtain ⟨on,rfl⟩:∃n:Nat,one=(n:Int):=⟨one.toNat,by omega⟩
  have oo:∃m:Nat,((on:Int)+(1+step)).fmod (us.length:Int)=(m:Int)∧m < us.length∧m≠on:=by
   have f:=lH (x:=(on:Int)+(1+step)) (m:=(us.length:Int)) (by omega)
   refine ⟨(((on:Int)+(1+step)).fmod (us.length:Int)).toNat,by omega,by omega,fun z=> ?_⟩
   have e:((on:Int)+(1+step)).fmod (us.length:Int)=(on:Int):=by omega
   rw [Int.fmod_eq_emod_of_nonneg _ (by omega)] at e
   by_cases c:(on:Int)+(1+step) < (us.length:Int)
   ·rw [apI (by omega) c] at e
    omega
   ·rw [← Int.sub_emod_right,apI (by omega) (by omega)] at e
    omega
  obtain ⟨Wu,Ws,l2',ne2⟩:=oo
  refine ⟨_,rfl,.inl ⟨rfl,_,aR.of e2⟩,_,rfl,_,rfl,_,_,rfl,by omega,by omega,_,rfl,_,rfl,_,rfl,_,_,rfl,rfl,_,rfl,pA,_,rfl,.inl sp,_,_,rfl,rfl,nz (by omega),L3,?_⟩
  intro p9 n9;generalize eX:upd _ p9 _=H9;have ⟨s9,e9⟩:=nw n9 eX;clear eX
  have e9:H9 p9=some (.tup [.str (nameOf (field c0 3001 3) (field c0 4001 6) (i:Int)),.int (on:Int),.int (((on:Int)+(1+step)).fmod (us.length:Int))]):=e9
  rw [Ws] at e9
  have e29:=s9 _ _ e2
  refine ⟨lb,_,_,rfl,rfl,e29,(by rw [lv];exact afs (show bars.length≤1000 by omega) (by decide)),?_⟩
  have l1:on < pins.length:=by omega
  have l2:Wu < pins.length:=by omega
  have st:bB H9 (upd H9 lb (.lst (eJ ++[.ref p9]))):=.list e29
  have ns9:∀(v:V) (b:bg),j3 K H2 pins v b→j3 K (upd H9 lb (.lst (eJ ++[.ref p9]))) pins v b:=fun v b h=>by
   obtain ⟨a,i',j',e,h1,h2,h3⟩:=h.same s9
   exact ⟨a,i',j',e,st.cN h1,h2,h3⟩
  refine ⟨_,_,_,eJ ++[.ref p9],bars++[⟨nameOf (field c0 3001 3) (field c0 4001 6) (i:Int),pins[on],pins[Wu]⟩],rfl,fun b o z=> ?_,ai,gP (Paired.cw pb fun _ _ z=>ns9 _ _ z) ?_,gb.snoc (fun z=> ?_) ⟨agm l1,agm l2,fun z=> ?_⟩,by simp [lbi],fun b hb=> ?_⟩
  ·rw [aj (ak z nb)]
   exact s9 _ _ (s2 _ _ z)
  ·exact ⟨p9,on,Wu,rfl,st.cN (bF.of e9),gE l1,gE l2⟩
  ·obtain ⟨b,hb,va⟩:=afr.mp z
   obtain ⟨j,hj,ej⟩:=nm b hb
   have i3:=a9 (c:=c0) (p:=3001) (m:=3) (by decide)
   have i4:=a9 (c:=c0) (p:=4001) (m:=6) (by decide)
   have:=tD ⟨(field c0 3001 3).toNat,by omega⟩ ⟨(field c0 4001 6).toNat,by omega⟩ ⟨j,by omega⟩ ⟨i,by omega⟩ (fun z=>by
    have:=congrArg Fin.val z
    simp at this
    omega)
   refine this ?_
   show nameOf (((field c0 3001 3).toNat:Nat):Int) (((field c0 4001 6).toNat:Nat):Int) (j:Int)=nameOf (((field c0 3001 3).toNat:Nat):Int) (((field c0 4001 6).toNat:Nat):Int) (i:Int)
   rw [show (((field c0 3001 3).toNat:Nat):Int)=field c0 3001 3 by omega,show (((field c0 4001 6).toNat:Nat):Int)=field c0 4001 6 by omega, ← ej]
   exact va
  ·have q1:(pins.map (·.nm))[on]? =some pins[on].nm:=by rw [aa_,gE l1];rfl
   have q2:(pins.map (·.nm))[Wu]? =some pins[on].nm:=by rw [aa_,gE l2];exact congrArg some z.symm
   exact ne2 ((agN (by rw [Wp];omega) np).mp (q1.trans q2.symm)).symm
  ·rcases afM.mp hb with z | z
   ·obtain ⟨j,hj,ej⟩:=nm b z
    exact ⟨j,by omega,ej⟩
   ·rw [afI.mp z]
    exact ⟨i,by omega,rfl⟩
 ·rintro σ H2 ⟨o5,o6,o7,eJ,bars,rfl,s2,e2,pb,gb,lbi,nm⟩
  refine ⟨_,rfl,q lb eJ bars H2 s2 nb e2 pb gb (by omega) fun b hb=> ?_⟩
  obtain ⟨j,hj,ej⟩:=nm b hb
  have i3:=a9 (c:=c0) (p:=3001) (m:=3) (by decide)
  have i4:=a9 (c:=c0) (p:=4001) (m:=6) (by decide)
  refine ⟨(field c0 3001 3).toNat,(field c0 4001 6).toNat,j,by omega,by omega,by omega,?_⟩
  rw [show (((field c0 3001 3).toNat:Nat):Int)=field c0 3001 3 by omega,show (((field c0 4001 6).toNat:Nat):Int)=field c0 4001 6 by omega]
  exact ej
theorem HS (v:V):af2 ("ways":Str) [(("way":Str),v)]=none:=by
 have h:(("ways":Str)=="way")=false:=by decide+kernel
 simp [af2,h]
inductive m_ (K:Frag)(C:Addr)(vs:List V)(H:Hp)(Q:VK)(E_:XK):Prop where
 | mk (pA bA:Addr) (us eJ :List V) (pins:List aE) (bars:List bg) (_:vs=[.ref pA,.ref bA]) (_:H pA=some (.lst us)) (_:Paired (gm K H) us pins) (_:H bA=some (.lst eJ)) (_:Paired (j3 K H pins) eJ bars) (_:gO pins) (_:m8 pins bars) (_:pins.length≤6) (_:bars.length≤8) (_:∀(a:Addr) (H' :Hp),aq H H' →vH K H' C a pins bars→Q (.ref a) H'):m_ K C vs H Q E_
theorem ky:ay ["_law_pins_here","_law_bars_here","_law_frame_here","_law_name_here","_law_spot_here","_law_ways_here","_law_one","_law_other"] ["_law_pins_here","_law_bars_here"] (af xZ):=sq
theorem Rh {C CR CF fI fR:Addr}{fdI fdR:FuncData}(D:Def K mg "_law_frame" xZ ["_law_pins_here","_law_bars_here"])(aZ:mg "len"=none)(Mv:Mk K C fI)(Mw:mg "Frame"=some (.ref C))(YZ:cp P w K mg base (aX P w) 1 fI fdI ["self"] (qv K C))(Mx:Binds K fdI ["self"] [])
  (My:mg "Roller"=some (.ref CR)) (Mz:mg "Fixed"=some (.ref CF)) (MA:OJ K CF) (MD:Mk K CR fR) (Y0:cp P w K mg base (aX P w) 1 fR fdR ["self","x","y"] (qz K CR)) (MF:Binds K fdR ["self","x","y"] [])
  (wR:bG P w K mg base (aX P w) 2 CR "ways" ["self"] (je K CR)) (wF:bG P w K mg base (aX P w) 2 CF "ways" ["self"] (jf K))
  (Y1:bG P w K mg base (aX P w) 3 C "put_bar" ["self","name","one","other"] (jg K C)) (Wv:bG P w K mg base (aX P w) 3 C "put_pin" ["self","name","x","y","hold"] (dw P w K mg base C)) (Y2:uz P w K mg base (aX P w) 3 C "put_pin" ["self","name","x","y","hold"] [.none] (dw P w K mg base C)):
  Fn P w K mg base (aX P w) 4 "_law_frame" ["_law_pins_here","_law_bars_here"] (m_ K C):=by
 refine D.ok ky (fun vs H Q E h=> ?_) (fun f bf A outer s H vs Q E hr h=> ?_)
 ·obtain ⟨pA,bA,us,eJ,pins,bars,rfl,_⟩:=h
  rfl
 obtain ⟨pA,bA,us,eJ,pins,bars,rfl,hp,pp,hb,pb,gp,gb,lp6,lb8,q⟩:=h
 have lu:us.length=pins.length:=Paired.length pp
 refine ⟨_,(ae (aG (i:=2) ky.nd rfl (ab_ rfl) (zt Mv YZ hr.mo rfl Mw Mx .nil (pY P w)))
  (ae (bh PassesOwn.never rfl (aY (pv 0)) (dI rfl (aU (au (i:=3) ky.nd rfl (ab_ rfl)) (aU (au (i:=4) ky.nd rfl (ab_ rfl)) (aU (au (i:=5) ky.nd rfl (ab_ rfl)) cz)))) (ae (ba (aJ cP (aD aF rfl aZ bQ (ao (pv 5) aa)) ag (aQ _)) (ah (bK (FW (k:=3) (pv 2) hr.mo (pY P w) (ao (pv 3) (ao (aK (pv 4)) (ao (aK (pv 4)) aa)))))) aI)
   (ae (ba (aJ cP (aD aF rfl aZ bQ (ao (pv 5) aa)) ag (aQ _)) (ah (bK (c6 (k:=3) (pv 2) hr.mo (pY P w) (ao (pv 3) (ao (aK (pv 4)) (ao (aK (pv 4)) (ao (ER MD Y0 hr.mo rfl My MF .nil (pY P w) (ao (aK (BJ (pv 5))) (ao (aK (BJ (pv 5))) aa))) aa))))))) aI)
   (ah (ba (aJ cP (aD aF rfl aZ bQ (ao (pv 5) aa)) ag (aQ _)) (ah (bK (c6 (k:=3) (pv 2) hr.mo (pY P w) (ao (pv 3) (ao (aK (pv 4)) (ao (aK (pv 4)) (ao (Lz MA rfl Mz) aa))))))) aI)))))
  (ae (bh PassesOwn.never rfl (aY (pv 1)) (dI rfl (aU (au (i:=3) ky.nd rfl (ab_ rfl)) (aU (au (i:=6) ky.nd rfl (ab_ rfl)) (aU (au (i:=7) ky.nd rfl (ab_ rfl)) cz)))) (ah (bK (c6 (k:=3) (pv 2) hr.mo (pY P w) (ao (pv 3) (ao (aK (aT aS (pv 0) (pv 6) (fun _ _=>rfl))) (ao (aK (aT aS (pv 0) (pv 7) (fun _ _=>rfl))) aa)))))))
  (ah (aw (pv 2)))))),?_⟩
 intro a dx na ndx nad
 have sF:aq H (upd (upd H dx (.own a)) a (.ins C dx [])):=fun b o e=>by rw [aj (ak e na),aj (ak e ndx)];exact e
 refine ⟨a,dx,rfl,ai,fun pP pW pB H1 k1 nP nW nB R1=>⟨rfl,?_⟩⟩
 have s1:aq H H1:=fun b o e=>k1 b o (ak e na) (sF _ _ e)
 have nP:=jR sF nP
 have nW:=jR sF nW
 have nB:=jR sF nB
 refine ⟨_,rfl,pA,rfl,⟨_,aR.of (s1 _ _ hp)⟩,bI (K:=K) (a:=pA) (xs:=us) (fun i σ H' =>∃(o4 o5 o6:Option V) (kP kW:List (Key×V)),σ=[some (.ref pA),some (.ref bA),some (.ref a),o4,o5,o6,none,none]∧aq H H' ∧eL K H' C a dx pP pW pB ((pins.take i).map fun p=>(p.nm,sQ p.sp)) [] kP kW []∧tO K H' ((pins.take i).map fun p=>(p.nm,p.ws)) kW) ⟨none,none,none,[],[],rfl,s1,R1,.nil⟩ (fun i σ H' _ h=>by
   obtain ⟨_,_,_,_,_,_,s,_⟩:=h
   exact aR.of (s _ _ hp)) ?_ ?_⟩
 ·rintro i u σ H2 hu ⟨o4,o5,o6,kP,kW,rfl,s2,R2,W2⟩
  obtain ⟨p,ep,yJ⟩:=aH pp hu
  have mp:p∈pins:=abt ep
  obtain ⟨ta,l,sv,ws,rfl,h1,h2,h3,h4⟩:=yJ.same s2
  obtain ⟨sa,x1,y1,rfl,HR,YW,yN⟩:=h2
  refine ⟨ta,_,rfl,h1,rfl,_,_,rfl,_,_,rfl,_,_,rfl,rfl,?_⟩
  have tk:=take_snoc ep
  have il:i < pins.length:=(ir.mp ep).1
  have nlP:l≠pP:=fun z=>by rw [z,R2.pl] at h3;cases h3
  have nlW:l≠pW:=fun z=>by rw [z,R2.wy] at h3;cases h3
  have fin:∀(hv:V) (H5:Hp) (Q5:VK) (E5:XK),aq H2 H5→Ki P w K mg base H5 hv p.ws→
    (∀H' BY sO,aq H H' →H' l=some (.lst ws)→eL K H' C a dx pP pW pB ((pins.take (i+1)).map fun p=>(p.nm,sQ p.sp)) [] BY sO []→tO K H' ((pins.take (i+1)).map fun p=>(p.nm,p.ws)) sO →Q5 .cj H')→dw P w K mg base C [.ref a,.str p.nm,x1,y1,hv] H5 Q5 E5:=fun hv H5 Q5 E5 s5 hY fin=>by
   refine ⟨a,dx,pP,pW,pB,_,_,kP,kW,_,_,p.nm,x1,y1,hv,sQ p.sp,p.ws,rfl,R2.same s5,W2.same s5,by rw [afH,afH];rfl,YW.same s5,yN.same s5,fun z=> ?_,fun z hz e=> ?_,?_,hY,fun H' BY sO k' R' W' => ?_⟩
   ·rw [afH] at z
    obtain ⟨p',jX,e'⟩:=afr.mp z
    exact fE (nm:=aE.nm) gp.np ep jX e'
   ·obtain ⟨p',jX,e'⟩:=afr.mp hz
    rw [← e'] at e
    have e1:=congrArg aqu e
    have e2:=congrArg aqv e
    have e3:p'.sp=p.sp:=aku (iC e1) (iC e2)
    obtain ⟨j,hj,ej⟩:=af3.mp jX
    rw [apH] at ej
    rw [afN] at hj
    have q1:(pins.map (·.sp))[j]? =some p.sp:=by rw [aa_,gE (by omega),ej, ← e3];rfl
    have q2:(pins.map (·.sp))[i]? =some p.sp:=by rw [aa_,ep];rfl
    have:=(agN (by rw [Wp];omega) gp.ns).mp (q1.trans q2.symm)
    omega
   ·rw [Wp,afN]
    omega
   ·refine fin H' BY sO (fun b o z=>k' b o (ak z nP) (ak z nW) (s5 _ _ (s2 _ _ z))) (k' _ _ nlP nlW (s5 _ _ h3)) ?_ ?_
    ·rw [tk,afG]
     exact R'
    ·rw [tk,afG]
     exact W'
  have l2:=aR.of (K:=K) h3
  have lw:ws.length=p.ws.length:=Paired.length h4
  refine ⟨_,rfl,l,_,rfl,.inl l2,rfl,_,rfl,?_⟩
  rcases gp.ws p mp with hw | ⟨wx,wy,hw,wn,_,_⟩ | hw
  ·rw [hw] at lw
   refine a8 (fun _=> ?_) (fun c=>by rw [lw] at c;simp at c)
   refine ⟨_,rfl,a,C,dx,_,_,_,rfl,R2.obj,rfl,Y2,_,rfl,_,rfl,sa,_,_,_,rfl,rfl,HR,iP,_,rfl,sa,_,_,_,rfl,rfl,HR,iQ,?_⟩
   dsimp only [gk]
   refine fin .cj H2 _ _ (aq.refl _) (.inl ⟨rfl,hw⟩) fun H' BY sO s' l' R' W' => ?_
   have l' :=aR.of (K:=K) l'
   refine ⟨_,rfl,l,_,rfl,.inl l',rfl,_,rfl,?_⟩
   refine a8 (fun c=>by rw [lw] at c;simp at c) (fun _=> ?_)
   refine ⟨_,rfl,l,_,rfl,.inl l',rfl,_,rfl,?_⟩
   refine a8 (fun c=>by rw [lw] at c;simp at c) (fun _=> ?_)
   exact ⟨_,_,_,BY,sO,rfl,s',R',W'⟩
  ·rw [hw] at lw h4
   obtain ⟨w0,rfl⟩:∃w0,ws=[w0]:=by
    match ws,lw with
    | [w0],_=>exact ⟨w0,rfl⟩
   have hw0:eh K H2 w0 (wx,wy):=by
    cases h4 with
    | cons h _=>exact h
   obtain ⟨wa,y2,y3,rfl,JX,Nt,hm2⟩:=hw0
   refine a8 (fun c=>by simp at c) (fun _=> ?_)
   refine ⟨_,rfl,l,_,rfl,.inl l2,rfl,_,rfl,?_⟩
   refine a8 (fun _=> ?_) (fun c=>absurd rfl c)
   refine ⟨_,rfl,a,C,dx,_,_,_,rfl,R2.obj,rfl,Wv,_,rfl,_,rfl,sa,_,_,_,rfl,rfl,HR,iP,_,rfl,sa,_,_,_,rfl,rfl,HR,iQ,?_⟩
   refine ⟨_,rfl,l,_,_,_,rfl,rfl,l2,rfl,wa,_,_,_,rfl,rfl,JX,iP,_,rfl,l,_,_,_,rfl,rfl,l2,rfl,wa,_,_,_,rfl,rfl,JX,iQ,?_⟩
   intro hV d1 Ww Y3 ne1
   have s4:aq H2 (upd (upd H2 d1 (.own hV)) hV (.ins CR d1 [])):=fun b o e=>by rw [aj (ak e Ww),aj (ak e Y3)];exact e
   have e4:(upd (upd H2 d1 (.own hV)) hV (.ins CR d1 [])) hV =some (.ins CR d1 []):=ai
   generalize upd (upd H2 d1 (.own hV)) hV (.ins CR d1 [])=H4 at s4 e4 ⊢
   refine ⟨hV,d1,y2,y3,wx,wy,rfl,e4,Nt.same s4,hm2.same s4,wn,fun p5 n5=>⟨rfl,?_⟩⟩
   have yP:p5≠hV :=fun z=>by rw [z,e4] at n5;cases n5
   have s5:aq H2 (upd (upd H4 p5 (.tup [y2,y3])) hV (.ins CR d1 [("way",.ref p5)])):=fun b o e=>by
    have z:b≠hV :=fun z=>by rw [z,Ww] at e;cases e
    rw [aj z]
    exact aC n5 _ _ _ (s4 _ _ e)
   have e5:(upd (upd H4 p5 (.tup [y2,y3])) hV (.ins CR d1 [("way",.ref p5)])) hV =some (.ins CR d1 [("way",.ref p5)]):=ai
   have t5:(upd (upd H4 p5 (.tup [y2,y3])) hV (.ins CR d1 [("way",.ref p5)])) p5=some (.tup [y2,y3]):=by rw [aj yP,ai]
   generalize upd (upd H4 p5 (.tup [y2,y3])) hV (.ins CR d1 [("way",.ref p5)])=H5 at s5 e5 t5 ⊢
   have Y4:eh K H5 (.ref p5) (wx,wy):=oU t5 (Nt.same s5) (hm2.same s5)
   dsimp only [gk]
   refine fin (.ref hV) H5 _ _ s5 (.inr ⟨hV,CR,d1,_,["self"],je K CR,rfl,e5,HS _,wR,fun H6 e6 t6 Q' an=>⟨hV,d1,p5,(wx,wy),rfl,e6,Y4.a_ t6,by rw [hw] at an;exact an⟩⟩) fun H' BY sO s' l' R' W' => ?_
   refine ⟨_,rfl,l,_,rfl,.inl (aR.of (K:=K) l'),rfl,_,rfl,?_⟩
   refine a8 (fun c=>by simp at c) (fun _=> ?_)
   exact ⟨_,_,_,BY,sO,rfl,s',R',W'⟩
  ·rw [hw] at lw
   refine a8 (fun c=>by rw [lw] at c;simp at c) (fun _=> ?_)
   refine ⟨_,rfl,l,_,rfl,.inl l2,rfl,_,rfl,?_⟩
   refine a8 (fun c=>by rw [lw] at c;simp at c) (fun _=> ?_)
   refine ⟨_,rfl,l,_,rfl,.inl l2,rfl,_,rfl,?_⟩
   refine a8 (fun _=> ?_) (fun c=>by rw [lw] at c;simp at c)
   refine ⟨_,rfl,a,C,dx,_,_,_,rfl,R2.obj,rfl,Wv,_,rfl,_,rfl,sa,_,_,_,rfl,rfl,HR,iP,_,rfl,sa,_,_,_,rfl,rfl,HR,iQ,?_⟩
   intro hV d1 Ww Y3 ne1
   have s4:aq H2 (upd (upd H2 d1 (.own hV)) hV (.ins CF d1 [])):=fun b o e=>by rw [aj (ak e Ww),aj (ak e Y3)];exact e
   have e4:(upd (upd H2 d1 (.own hV)) hV (.ins CF d1 [])) hV =some (.ins CF d1 []):=ai
   generalize upd (upd H2 d1 (.own hV)) hV (.ins CF d1 [])=H4 at s4 e4 ⊢
   dsimp only [gk]
   refine fin (.ref hV) H4 _ _ s4 (.inr ⟨hV,CF,d1,_,["self"],jf K,rfl,e4,rfl,wF,fun H6 _ _ Q' an=>⟨hV,rfl,by rw [hw] at an;exact an⟩⟩) fun H' BY sO s' l' R' W' => ?_
   exact ⟨_,_,_,BY,sO,rfl,s',R',W'⟩
 ·rintro σ H2 ⟨o4,o5,o6,kP,kW,rfl,s2,R2,W2⟩
  rw [lu,afS] at R2 W2
  have lv:eJ.length=bars.length:=Paired.length pb
  refine ⟨_,rfl,bA,rfl,⟨_,aR.of (s2 _ _ hb)⟩,bI (K:=K) (a:=bA) (xs:=eJ) (fun i σ H' =>∃(o3 o7 o8:Option V) (kB:List (Key×V)),σ=[some (.ref pA),some (.ref bA),some (.ref a),o3,o5,o6,o7,o8]∧aq H H' ∧eL K H' C a dx pP pW pB (pins.map fun p=>(p.nm,sQ p.sp)) ((bars.take i).map fun b=>(b.nm,b.one.nm,b.other.nm)) kP kW kB∧tO K H' (pins.map fun p=>(p.nm,p.ws)) kW) ⟨_,none,none,[],rfl,s2,R2,W2⟩ (fun i σ H' _ h=>by
    obtain ⟨_,_,_,_,_,s,_⟩:=h
    exact aR.of (s _ _ hb)) ?_ ?_⟩
  ·rintro i u σ H3 hu ⟨o3,o7,o8,kB,rfl,s3,R3,W3⟩
   obtain ⟨b,Wx,yK⟩:=aH pb hu
   have mb:b∈bars:=abt Wx
   obtain ⟨ta,i1,j1,rfl,h1,g1,g2⟩:=yK.same s3
   obtain ⟨m1,m2,m3⟩:=gb.ends b mb
   have tk:=take_snoc Wx
   have il:i < bars.length:=(ir.mp Wx).1
   have Ri :∀(k:Nat) (p:aE),pins[k]? =some p→∃(c la:Addr) (sv:V),ft us (k:Int)=some (.ref c)∧bF K H3 c [.str p.nm,sv,.ref la]:=fun k p ek=>by
    obtain ⟨u',Y5,Y6⟩:=aH (cu pp) ek
    obtain ⟨c,la,sv,ws,rfl,q1,_⟩:=gm.same Y6 s3
    exact ⟨c,la,sv,bH Y5,q1⟩
   obtain ⟨c1,la1,Y7,HU,q1⟩:=Ri _ _ g1
   obtain ⟨c2,Wy,Y8,HV,q2⟩:=Ri _ _ g2
   refine ⟨ta,_,rfl,h1,rfl,_,_,rfl,_,_,rfl,_,_,rfl,rfl,?_⟩
   have lp3:=aR.of (K:=K) (s3 _ _ hp)
   refine ⟨_,rfl,a,C,dx,_,_,_,rfl,R3.obj,rfl,Y1,_,rfl,_,rfl,_,rfl,pA,_,_,_,rfl,rfl,lp3,HU,c1,_,_,_,rfl,rfl,q1,rfl,_,rfl,_,rfl,pA,_,_,_,rfl,rfl,lp3,HV,c2,_,_,_,rfl,rfl,q2,rfl,?_⟩
   refine ⟨a,dx,pP,pW,pB,_,_,kP,kW,kB,b.nm,b.one.nm,b.other.nm,rfl,R3,fun z=> ?_,?_,?_,m3,?_,fun H' Yy k' R' => ?_⟩
   ·rw [afH] at z
    obtain ⟨b',gX,e'⟩:=afr.mp z
    exact fE (nm:=bg.nm) gb.nb Wx gX e'
   ·rw [afH]
    exact afr.mpr ⟨_,m1,rfl⟩
   ·rw [afH]
    exact afr.mpr ⟨_,m2,rfl⟩
   ·rw [Wp,afN]
    omega
   ·refine ⟨_,_,_,Yy,rfl,fun c o z=>k' c o (ak z nB) (s3 _ _ z),?_,?_⟩
    ·rw [tk,afG]
     exact R'
    ·refine Paired.cw W3 fun p' kv z=>⟨z.1,?_⟩
     obtain ⟨l',jI,z1,z2,z3⟩:=z.2
     refine ⟨l',jI,z1,k' _ _ (fun z=>by rw [z,R3.br] at z2;cases z2) z2,z3.a_ fun c xs r=> ?_⟩
     rcases r with r | ⟨o',r⟩
     ·exact .inl (k' _ _ (fun e=>by rw [e,R3.br] at r;cases r) r)
     ·exact .inr ⟨o',k' _ _ (fun e=>by rw [e,R3.br] at r;cases r) r⟩
  ·rintro σ H3 ⟨o3,o7,o8,kB,rfl,s3,R3,W3⟩
   rw [lv,afS] at R3
   exact ⟨_,rfl,q a H3 s3 ⟨⟨dx,pP,pW,pB,kP,kW,kB,R3,W3⟩⟩⟩
def ax (k:Int)(p:Rat×Rat):Rat:=if k=0 then p.1 else p.2
theorem tF {K:Frag}{H:Hp}{v:V}{p:Rat×Rat}{k:Int}(hk:k=0∨k=1)(h:eh K H v p):∃(a:Addr) (xs:List V) (u:V),v=.ref a∧bF K H a xs∧ft xs k=some u∧dE K H u (ax k p):=by
 obtain ⟨a,u1,u2,rfl,hq,h1,h2⟩:=h
 rcases hk with rfl | rfl
 ·exact ⟨a,_,u1,rfl,hq,rfl,h1⟩
 ·exact ⟨a,_,u2,rfl,hq,rfl,h2⟩
theorem DA {n:Nat}{p:Rat×Rat}{k:Int}(h:Sz n p.1∧Sz n p.2):Sz n (ax k p):=by
 unfold ax
 split
 ·exact h.1
 ·exact h.2
theorem j4 {K:Frag}{H:Hp}{us:List V}{pins:List aE}{k:Nat}{p:aE}(pp:Paired (gm K H) us pins)(e:pins[k]? =some p):∃(c la:Addr) (sv:V),ft us (k:Int)=some (.ref c)∧bF K H c [.str p.nm,sv,.ref la]∧eh K H sv p.sp:=by
 obtain ⟨u',Y5,Y6⟩:=aH (cu pp) e
 obtain ⟨c,la,sv,ws,rfl,q1,q2,_⟩:gm K H u' p:=Y6
 exact ⟨c,la,sv,bH Y5,q1,q2⟩
inductive qQ (K:Frag)(vs:List V)(H:Hp)(Q:VK)(E_:XK):Prop where
 | mk (pA:Addr) (us:List V) (pins:List aE) (u:V) (b:bg) (k:Int) (_:vs=[.ref pA,u,.int k]) (_:H pA=some (.lst us)) (_:Paired (gm K H) us pins) (_:gO pins) (_:j3 K H pins u b) (_:(k=0∨k=1)) (_:∀(v:V) (H' :Hp),aq H H' →gN K H' v 49 (ax k b.other.sp - ax k b.one.sp)→Q v H'):qQ K vs H Q E_
theorem Rj:ay ["_law_pins_here","_law_bar","_law_axis"] ["_law_pins_here","_law_bar","_law_axis"] (af x4):=sq
theorem Rk (D:Def K mg "_law_arm" x4 ["_law_pins_here","_law_bar","_law_axis"])(m9:Fn P w K mg base (aX P w) 1 "_law_sum" ["_law_one","_law_other"] (b8 K fm))(DB:Fn P w K mg base (aX P w) 1 "_law_turned" ["_law_one"] (dS K)):
  Fn P w K mg base (aX P w) 2 "_law_arm" ["_law_pins_here","_law_bar","_law_axis"] (qQ K):=by
 refine D.ok Rj (fun vs H Q E h=> ?_) (fun f bf A outer s H vs Q E hr h=> ?_)
 ·obtain ⟨pA,us,pins,u,b,k,rfl,_⟩:=h
  rfl
 obtain ⟨pA,us,pins,u,b,k,rfl,hp,pp,gp,⟨ta,i,j,rfl,hb,e1,e2⟩,hk,q⟩:=h
 refine ⟨_,(ah (aw (aA m9 hr.mo pX (ao (aT iy (aK (aT aS (pv 0) (aK (pv 1)) (fun _ _=>rfl))) (pv 2) (fun _ _=>rfl)) (ao (aA DB hr.mo pX (ao (aT iy (aK (aT aS (pv 0) (aK (pv 1)) (fun _ _=>rfl))) (pv 2) (fun _ _=>rfl)) aa)) aa))))),?_⟩
 obtain ⟨c1,l1,Y7,HU,q1,r1⟩:=j4 pp e1
 obtain ⟨c2,l2,Y8,HV,q2,r2⟩:=j4 pp e2
 obtain ⟨a1,xs1,u1,rfl,t1,v1,n1⟩:=tF hk r1
 obtain ⟨a2,xs2,u2,rfl,t2,v2,n2⟩:=tF hk r2
 have z1:=DA (k:=k) (gp.sz _ (abt e1))
 have z2:=DA (k:=k) (gp.sz _ (abt e2))
 have lp:=aR.of (K:=K) hp
 refine ⟨_,rfl,_,rfl,ta,_,_,_,rfl,rfl,hb,rfl,pA,_,_,_,rfl,rfl,lp,HV,c2,_,_,_,rfl,rfl,q2,rfl,_,rfl,a2,_,_,_,rfl,rfl,t2,v2,_,rfl,_,rfl,ta,_,_,_,rfl,rfl,hb,rfl,pA,_,_,_,rfl,rfl,lp,HU,c1,_,_,_,rfl,rfl,q1,rfl,_,rfl,a1,_,_,_,rfl,rfl,t1,v1,?_⟩
 dsimp only [gk]
 show dS K [_] _ _ E0
 refine m7 (dO n1 (oT z1 (ad_ _))) fun p3 H3 s3 n3=> ?_
 show b8 K fm [_,_] _ _ E0
 refine jn ((dO n2 (oT z2 (ad_ _))).same s3) n3 (by decide) fun p4 H4 s4 n4=> ?_
 refine q (.ref p4) H4 (s3.trans s4) ?_
 rw [apA]
 exact n4
inductive qR (K:Frag)(vs:List V)(H:Hp)(Q:VK)(E_:XK):Prop where
 | mk (l1 l2:Addr) (u1 u2 v1 v2:V) (x1 x2 y1 y2:Rat) (m n:Nat) (_:vs=[.ref l1,.ref l2]) (_:(aR K H l1 [u1,u2]∨bF K H l1 [u1,u2])) (_:(aR K H l2 [v1,v2]∨bF K H l2 [v1,v2])) (_:gN K H u1 m x1) (_:gN K H u2 m x2) (_:gN K H v1 n y1) (_:gN K H v2 n y2) (_:m+n≤30000000) (_:∀(v:V) (H' :Hp),aq H H' →gN K H' v (m+n+(m+n)+1) (x1*y1+x2*y2)→Q v H'):qR K vs H Q E_
theorem Rm:ay ["_law_one","_law_other"] ["_law_one","_law_other"] (af yb):=sq
theorem Rn (D:Def K mg "_law_dot" yb ["_law_one","_law_other"])(m9:Fn P w K mg base (aX P w) 1 "_law_sum" ["_law_one","_law_other"] (b8 K fm))(DC:Fn P w K mg base (aX P w) 1 "_law_times" ["_law_one","_law_other"] (b8 K j0)):
  Fn P w K mg base (aX P w) 2 "_law_dot" ["_law_one","_law_other"] (qR K):=by
 refine D.ok Rm (fun vs H Q E h=> ?_) (fun f bf A outer s H vs Q E hr h=> ?_)
 ·obtain ⟨l1,l2,u1,u2,v1,v2,x1,x2,y1,y2,m,n,rfl,_⟩:=h
  rfl
 obtain ⟨l1,l2,u1,u2,v1,v2,x1,x2,y1,y2,m,n,rfl,h1,h2,a1,a2,b1,b2,le,q⟩:=h
 refine ⟨_,(ah (aw (aA m9 hr.mo pX (ao (aA DC hr.mo pX (ao (aT vJ (pv 0) ag (fun _ _=>rfl)) (ao (aT vJ (pv 1) ag (fun _ _=>rfl)) aa))) (ao (aA DC hr.mo pX (ao (aT vJ (pv 0) ag (fun _ _=>rfl)) (ao (aT vJ (pv 1) ag (fun _ _=>rfl)) aa))) aa))))),?_⟩
 refine ⟨_,rfl,l1,_,_,_,rfl,rfl,h1,rfl,_,rfl,l2,_,_,_,rfl,rfl,h2,rfl,?_⟩
 dsimp only [gk]
 show b8 K j0 [_,_] _ _ E0
 refine lI a1 b1 (by omega) fun p3 H3 s3 n3=> ?_
 refine ⟨_,rfl,l1,_,_,_,rfl,rfl,(h1.imp s3.seq (Ty.aq.cN s3)),rfl,_,rfl,l2,_,_,_,rfl,rfl,(h2.imp s3.seq (Ty.aq.cN s3)),rfl,?_⟩
 dsimp only [gk]
 show b8 K j0 [_,_] _ _ E0
 refine lI (a2.same s3) (b2.same s3) (by omega) fun p4 H4 s4 n4=> ?_
 show b8 K fm [_,_] _ _ E0
 refine jn (n3.same s4) n4 (by omega) fun p5 H5 s5 n5=> ?_
 exact q (.ref p5) H5 (s3.trans (s4.trans s5)) n5
structure HW (K:Frag)(H:Hp)(pins:List aE)(d:Addr)(kM:List (Key×V))(M:Str→Rat×Rat)(N:Nat):Prop where
 hM:H d=some (.dK kM)
 keys:kM.map (·.1)=pins.map (fun p=>(afV p.nm:Key))
 tM:∀p∈pins,∃t v1 v2,bV kM (.inr p.nm)=some (.ref t)∧H t=some (.tup [v1,v2])∧dE K H v1 (M p.nm).1∧dE K H v2 (M p.nm).2
 zb:∀p∈pins,Zb N (M p.nm).1∧Zb N (M p.nm).2
 hN:N≤6000000
theorem HW.same {H H' :Hp}{pins:List aE}{d:Addr}{kM:List (Key×V)}{M:Str→Rat×Rat}{N:Nat}(h:HW K H pins d kM M N)(s:aq H H'):HW K H' pins d kM M N:=⟨s _ _ h.hM,h.keys,fun p hp=>by
 obtain ⟨t,v1,v2,a,b,c,d⟩:=h.tM p hp
 exact ⟨t,v1,v2,a,s _ _ b,c.same s,d.same s⟩,h.zb,h.hN⟩
theorem HW.get {H:Hp}{pins:List aE}{d:Addr}{kM:List (Key×V)}{M:Str→Rat×Rat}{N:Nat}(h:HW K H pins d kM M N){p:aE}(hp:p∈pins):∃t v1 v2,cH H d (.str p.nm) (some (.ref t))∧H t=some (.tup [v1,v2])∧dE K H v1 (M p.nm).1∧dE K H v2 (M p.nm).2:=by
 obtain ⟨t,v1,v2,a,b,c,d⟩:=h.tM p hp
 refine ⟨t,v1,v2,?_,b,c,d⟩
 have:=cH.k (k:=.inr p.nm) h.hM
 rw [a] at this
 exact this
theorem Kt {n:Nat}{p:Rat×Rat}{k:Int}(h:Zb n p.1∧Zb n p.2):Zb n (ax k p):=by
 unfold ax
 split
 ·exact h.1
 ·exact h.2
inductive ng (K:Frag)(vs:List V)(H:Hp)(Q:VK)(E_:XK):Prop where
 | mk (pA dM:Addr) (us:List V) (pins:List aE) (u:V) (b:bg) (kM:List (Key×V)) (M:Str→Rat×Rat) (N:Nat) (_:vs=[.ref pA,u,.ref dM]) (_:H pA=some (.lst us)) (_:Paired (gm K H) us pins) (_:gO pins) (_:j3 K H pins u b) (_:HW K H pins dM kM M N) (_:∀(v:V) (H' :Hp),aq H H' →gN K H' v (4*N+200) (HG M b)→Q v H'):ng K vs H Q E_
theorem vZ:ay ["_law_pins_here","_law_bar","_law_motion","_law_here","_law_there","_law_more"] ["_law_pins_here","_law_bar","_law_motion"] (af yd):=sq
theorem Ro (D:Def K mg "_law_longer" yd ["_law_pins_here","_law_bar","_law_motion"])(bw:mg "range"=none)(m9:Fn P w K mg base (aX P w) 1 "_law_sum" ["_law_one","_law_other"] (b8 K fm))(DB:Fn P w K mg base (aX P w) 1 "_law_turned" ["_law_one"] (dS K))(HX:Fn P w K mg base (aX P w) 2 "_law_arm" ["_law_pins_here","_law_bar","_law_axis"] (qQ K))(MG:Fn P w K mg base (aX P w) 2 "_law_dot" ["_law_one","_law_other"] (qR K)):
  Fn P w K mg base (aX P w) 3 "_law_longer" ["_law_pins_here","_law_bar","_law_motion"] (ng K):=by
 refine D.ok vZ (fun vs H Q E h=> ?_) (fun f bf A outer s H vs Q E hr h=> ?_)
 ·obtain ⟨pA,dM,us,pins,u,b,kM,M,N,rfl,_⟩:=h
  rfl
 obtain ⟨pA,dM,us,pins,u,b,kM,M,N,rfl,hp,pp,gp,yK,mo,q⟩:=h
 have hN:=mo.hN
 have L2:2≤sizeLine:=by decide
 refine ⟨_,(ae (aG (i:=3) vZ.nd rfl (afT rfl) (bM (bN hr) (pv 2) (aK (aT aS (pv 0) (aK (pv 1)) (fun _ _=>rfl))) (fun _ _=>rfl)))
  (ae (aG (i:=4) vZ.nd rfl (afT rfl) (bM (bN hr) (pv 2) (aK (aT aS (pv 0) (aK (pv 1)) (fun _ _=>rfl))) (fun _ _=>rfl)))
  (ae (fU (i:=5) vZ.nd rfl (ab_ rfl) (tn:=["_law_axis"]) (fr:=["_law_there","_law_here"]) (caps:=[4,3]) rfl ⟨rfl,by decide+kernel,rfl,by decide+kernel,by decide+kernel,rfl,⟨(by first | exact ab_ rfl | exact afT rfl),⟨(by first | exact ab_ rfl | exact afT rfl),trivial⟩⟩,⟨(by first | exact ab_ rfl | exact afT rfl),⟨(by first | exact ab_ rfl | exact afT rfl),trivial⟩⟩⟩ (b9 rfl bw (ao ag aa)) (fun _ _ _ _=>(au (i:=0) (show (["_law_axis","_law_there","_law_here"]:List Str).Nodup from by decide+kernel) rfl (ab_ rfl))) (fun _ _ _ _=>bT) (fun _ _ _ _=>(aA m9 hr.mo (mx (by first | assumption | exact aX.kG) rfl) (ao (aT (bO (K:=K) rfl) (pv 1) (pv 0) (fun _ _=>rfl)) (ao (aA DB hr.mo (mx (by first | assumption | exact aX.kG) rfl) (ao (aT (bO (K:=K) rfl) (pv 2) (pv 0) (fun _ _=>rfl)) aa)) aa)))))
  (ah (aw (aA MG hr.mo pX (ao (bS (ao (aA HX hr.mo pX (ao (pv 0) (ao (pv 1) (ao ag aa)))) (ao (aA HX hr.mo pX (ao (pv 0) (ao (pv 1) (ao ag aa)))) aa))) (ao (pv 5) aa)))))))),?_⟩
 obtain ⟨ta,i,j,rfl,hb,e1,e2⟩:=id yK
 obtain ⟨c1,l1,Y7,HU,q1,_⟩:=j4 pp e1
 obtain ⟨c2,l2,Y8,HV,q2,_⟩:=j4 pp e2
 obtain ⟨t1,y1,y1',dg1,et1,m11,m12⟩:=mo.get (abt e1)
 obtain ⟨t2,y2,y2',dg2,et2,m21,m22⟩:=mo.get (abt e2)
 have Yq:eh K H (.ref t1) (M b.one.nm):=⟨t1,y1,y1',rfl,bF.of et1,m11,m12⟩
 have hw2:eh K H (.ref t2) (M b.other.nm):=⟨t2,y2,y2',rfl,bF.of et2,m21,m22⟩
 have lp:=aR.of (K:=K) hp
 refine ⟨_,rfl,_,rfl,_,rfl,ta,_,_,_,rfl,rfl,hb,rfl,pA,_,_,_,rfl,rfl,lp,HU,c1,_,_,_,rfl,rfl,q1,rfl,dM,_,rfl,dg1,?_⟩
 refine ⟨_,rfl,_,rfl,_,rfl,ta,_,_,_,rfl,rfl,hb,rfl,pA,_,_,_,rfl,rfl,lp,HV,c2,_,_,_,rfl,rfl,q2,rfl,dM,_,rfl,dg2,?_⟩
 have z1:=mo.zb _ (abt e1)
 have z2:=mo.zb _ (abt e2)
 refine ⟨(2:Int),rfl,by decide,by decide,fun D1 n1=> ?_⟩
 refine uo (lo:=0) (n:=2) (cap:=[some (.ref t2),some (.ref t1)]) (fun k v H=>gN K H v (N+N+1) (ax (k:Int) (M b.other.nm) - ax (k:Int) (M b.one.nm))) n1 (by decide) (fun _ _ _ _ _ h0 ks h=>by
   refine gN.a_ h fun b xs r=> ?_
   rcases r with r | ⟨o',r⟩
   ·exact .inl (ks _ _ (fun e=>by rw [e,h0] at r;cases r) r)
   ·exact .inr ⟨o',ks _ _ (fun e=>by rw [e,h0] at r;cases r) r⟩) ?_ ?_
 ·intro k H3 R hk s3 kk
  have ek:(0:Int)+(k:Int)=(k:Int):=af1 _
  rw [ek]
  have EC:(k:Int)=0∨(k:Int)=1:=by omega
  obtain ⟨a1,xs1,u1,HU,t1,v1,m1⟩:=tF EC (Yq.same s3)
  obtain ⟨a2,xs2,u2,HV,t2,v2,m2⟩:=tF EC (hw2.same s3)
  cases HU
  cases HV
  refine ⟨_,rfl,_,rfl,_,_,_,_,rfl,rfl,t2,v2,_,rfl,_,rfl,_,_,_,_,rfl,rfl,t1,v1,?_⟩
  dsimp only [gk]
  show dS K [_] _ _ E0
  refine m7 (dO m1 (Kt z1)) fun p4 H4 s4 n4=> ?_
  show b8 K fm [_,_] _ _ E0
  refine jn ((dO m2 (Kt z2)).same s4) n4 (by omega) fun p5 H5 s5 n5=> ?_
  refine kk _ _ (s4.trans s5) ?_
  rw [apA]
  exact n5
 intro ys H3 ly hy s3 hD
 obtain ⟨y1,y2,rfl⟩:∃y1 y2,ys=[y1,y2]:=by
  match ys,ly with
  | [y1,y2],_=>exact ⟨y1,y2,rfl⟩
 have k1:=hy 0 y1 rfl
 have k2:=hy 1 y2 rfl
 refine ⟨_,rfl,_,rfl,pA,us,pins,_,b,0,rfl,s3 _ _ hp,Paired.cw pp fun _ _ z=>z.same s3,gp,yK.same s3,.inl rfl,fun v4 H4 s4 n4=> ?_⟩
 have qO:=s3.trans s4
 refine ⟨_,rfl,_,rfl,pA,us,pins,_,b,1,rfl,qO _ _ hp,Paired.cw pp fun _ _ z=>z.same qO,gp,yK.same qO,.inr rfl,fun v5 H5 s5 n5=>⟨L2,?_⟩⟩
 intro l6 m6;generalize eX:upd _ l6 _=H6;have ⟨s6,e6⟩:=nw m6 eX;clear eX
 have Wz:=s4.trans (s5.trans s6)
 refine ⟨_,rfl,l6,D1,_,_,_,_,_,_,_,_,49,N+N+1,rfl,.inl (aR.of e6),.inl (aR.of (Wz _ _ hD)),(n4.same (s5.trans s6)),n5.same s6,k1.same Wz,k2.same Wz,by omega,fun v H7 s7 n7=> ?_⟩
 exact q v H7 (s3.trans (Wz.trans s7)) (n7.up (by omega))
inductive qS (K:Frag)(vs:List V)(H:Hp)(Q:VK)(E_:XK):Prop where
 | mk (pA dM:Addr) (us:List V) (pins:List aE) (kM:List (Key×V)) (M:Str→Rat×Rat) (N:Nat) (_:vs=[.ref pA,.ref dM]) (_:H pA=some (.lst us)) (_:Paired (gm K H) us pins) (_:gO pins) (_:HW K H pins dM kM M N) (_:(∀p∈pins,∀w∈p.ws,dt w (M p.nm)=0)) (_:∀(H' :Hp),aq H H' →Q (.bl true) H'):qS K vs H Q E_
theorem tG:ay ["_law_pins_here","_law_motion","_law_name_here","_law_spot_here","_law_ways_here","_law_way"] ["_law_pins_here","_law_motion"] (af ye):=sq
theorem Rp (D:Def K mg "_law_keeps" ye ["_law_pins_here","_law_motion"])(MG:Fn P w K mg base (aX P w) 2 "_law_dot" ["_law_one","_law_other"] (qR K)):
  Fn P w K mg base (aX P w) 3 "_law_keeps" ["_law_pins_here","_law_motion"] (qS K):=by
 refine D.ok tG (fun vs H Q E h=> ?_) (fun f bf A outer s H vs Q E hr h=> ?_)
 ·obtain ⟨pA,dM,us,pins,kM,M,N,rfl,_⟩:=h
  rfl
 obtain ⟨pA,dM,us,pins,kM,M,N,rfl,hp,pp,gp,mo,ke,q⟩:=h
 have hN:=mo.hN
 refine ⟨_,(ae (bh PassesOwn.never rfl (aY (pv 0)) (dI rfl (aU (au (i:=2) tG.nd rfl (ab_ rfl)) (aU (au (i:=3) tG.nd rfl (ab_ rfl)) (aU (au (i:=4) tG.nd rfl (ab_ rfl)) cz)))) (ah (bh PassesOwn.never rfl (aY (pv 4)) (au (i:=5) tG.nd rfl (ab_ rfl)) (ah (ba (aJ d5 (aK (aA MG hr.mo pX (ao (pv 5) (ao (bM (bN hr) (pv 1) (pv 2) (fun _ _=>rfl)) aa)))) ag (aQ _)) (ah (aw ck)) aI)))))
  (ah (aw ck))),?_⟩
 refine ⟨_,rfl,pA,rfl,⟨_,aR.of hp⟩,bI (K:=K) (a:=pA) (xs:=us) (fun i σ H' =>∃(o2 o3 o4 o5:Option V),σ=[some (.ref pA),some (.ref dM),o2,o3,o4,o5]∧aq H H') ⟨none,none,none,none,rfl,aq.refl _⟩ (fun i σ H' _ h=>by
   obtain ⟨_,_,_,_,_,s⟩:=h
   exact aR.of (s _ _ hp)) ?_ ?_⟩
 ·rintro i u σ H4 hu ⟨o2,o3,o4,o5,rfl,s4⟩
  obtain ⟨p,ep,yJ⟩:=aH pp hu
  have mp:p∈pins:=abt ep
  obtain ⟨ta,l,sv,ws,rfl,h1,h2,h3,h4⟩:=yJ.same s4
  refine ⟨ta,_,rfl,h1,rfl,_,_,rfl,_,_,rfl,_,_,rfl,rfl,?_⟩
  refine ⟨_,rfl,l,rfl,⟨_,aR.of h3⟩,bI (K:=K) (a:=l) (xs:=ws) (fun j σ H' =>∃(o5:Option V),σ=[some (.ref pA),some (.ref dM),some (.str p.nm),some sv,some (.ref l),o5]∧aq H4 H') ⟨o5,rfl,aq.refl _⟩ (fun j σ H' _ h=>by
     obtain ⟨_,_,s⟩:=h
     exact aR.of (s _ _ h3)) ?_ ?_⟩
  ·rintro j wv σ H5 hwv ⟨o5,rfl,s5⟩
   obtain ⟨wq,WA,Y9⟩:=aH h4 hwv
   have mw:wq∈p.ws:=abt WA
   have zw:=(gp.ws p mp).sz wq mw
   obtain ⟨wa,y1,y2,rfl,JX,b1,b2⟩:=Y9.same s5
   have tj:=s4.trans s5
   obtain ⟨t,v1,v2,dg,et,m1,m2⟩:=(mo.same tj).get mp
   have zp:=mo.zb p mp
   refine ⟨_,rfl,_,rfl,_,rfl,dM,_,rfl,dg,?_⟩
   dsimp only [gk]
   refine ⟨wa,t,y1,y2,v1,v2,_,_,_,_,22,N,rfl,.inr JX,.inr (bF.of et),dO b1 (oT zw.1 (ad_ _)),dO b2 (oT zw.2 (ad_ _)),dO m1 zp.1,dO m2 zp.2,by omega,fun v H6 s6 n6=> ?_⟩
   obtain ⟨x,⟨p6,rfl,k1⟩,k2,k3,k4⟩:=n6
   refine ⟨p6,_,_,_,rfl,rfl,k1,iP,rfl,_,rfl,?_⟩
   have e0:x.1=0:=(qI k2).mpr (by rw [k3];exact ke p mp wq mw)
   rw [e0]
   refine a8 (fun c=>by simp at c) (fun _=> ?_)
   exact ⟨_,rfl,s5.trans s6⟩
  ·rintro σ H5 ⟨o5,rfl,s5⟩
   exact ⟨_,_,_,_,rfl,s4.trans s5⟩
 ·rintro σ H4 ⟨o2,o3,o4,o5,rfl,s4⟩
  exact q H4 s4
structure Found (K:Frag)(H:Hp)(fA:Addr)(ls:List Addr)(F:Nat→Rat×Rat)(B:Nat):Prop where
 hf:H fA=some (.lst (ls.map V.ref))
 nd:ls.Nodup
 nf:fA∉ls
 row:∀(i:Nat) (l:Addr),ls[i]? =some l→∃v1 v2,H l=some (.lst [v1,v2])∧gN K H v1 B (F i).1∧gN K H v2 B (F i).2
def KL (ls:List Addr)(H H' :Hp):Prop:=∀b o,b∉ls→H b=some o→H' b=some o
theorem Found.same {H H' :Hp}{fA:Addr}{ls:List Addr}{F:Nat→Rat×Rat}{B:Nat}(h:Found K H fA ls F B)(s:aq H H'):Found K H' fA ls F B:=⟨s _ _ h.hf,h.nd,h.nf,fun i l e=>by
 obtain ⟨v1,v2,a,b,c⟩:=h.row i l e
 exact ⟨v1,v2,s _ _ a,b.same s,c.same s⟩⟩
theorem Found.up {H:Hp}{fA:Addr}{ls:List Addr}{F:Nat→Rat×Rat}{B B' :Nat}(h:Found K H fA ls F B)(l:B≤B'):Found K H fA ls F B' :=⟨h.hf,h.nd,h.nf,fun i x e=>by
 obtain ⟨v1,v2,a,b,c⟩:=h.row i x e
 exact ⟨v1,v2,a,b.up l,c.up l⟩⟩
theorem Found.a_ {H H' :Hp}{fA:Addr}{ls:List Addr}{F:Nat→Rat×Rat}{B:Nat}(h:Found K H fA ls F B)(k:KL ls H H'):bB H H' :=fun b xs r=>by
 have key:∀o,H b=some o→(∀ys,o≠.lst ys)→H' b=some o:=fun o e n=>k b o (fun m=>by
  obtain ⟨i,ei⟩:=afE m
  obtain ⟨v1,v2,a,_⟩:=h.row i b ei
  rw [a] at e
  exact n _ (afB e).symm) e
 rcases r with r | ⟨o',r⟩
 ·exact .inl (key _ r fun ys z=>nomatch z)
 ·exact .inr ⟨o',key _ r fun ys z=>nomatch z⟩
def cQ (F:Nat→Rat×Rat)(k:Nat)(a:Int)(d:Rat):Nat→Rat×Rat:=fun i=>if i=k then (if a=0 then ((F i).1+d,(F i).2) else ((F i).1,(F i).2+d)) else F i
theorem qT {F:Nat→Rat×Rat}{k:Nat}{a:Int}{d:Rat}(ha:a=0∨a=1){c:Int}(hc:c=0∨c=1)(i:Nat):ax c (cQ F k a d i)=ax c (F i)+if i=k∧c=a then d else 0:=by
 unfold cQ ax
 by_cases hi:i=k
 ·subst hi
  rcases ha with rfl | rfl <;> rcases hc with rfl | rfl <;> simp <;> grind
 ·simp [hi]
  grind
inductive u0 (K:Frag)(vs:List V)(H:Hp)(Q:VK)(E_:XK):Prop where
 | mk (fA:Addr) (ls:List Addr) (F:Nat→Rat×Rat) (B:Nat) (k:Nat) (a:Int) (v:V) (m:Nat) (d:Rat) (_:vs=[.ref fA,.int (k:Int),.int a,v]) (_:Found K H fA ls F B) (_:k < ls.length) (_:(a=0∨a=1)) (_:gN K H v m d) (_:B+m≤130000000) (_:∀(H' :Hp),KL ls H H' →Found K H' fA ls (cQ F k a d) (B+m+1)→Q .cj H'):u0 K vs H Q E_
theorem Rq:ay ["_law_found","_law_k","_law_axis","_law_draw"] ["_law_found","_law_k","_law_axis","_law_draw"] (af x5):=sq
theorem Rr (D:Def K mg "_law_add" x5 ["_law_found","_law_k","_law_axis","_law_draw"])(m9:Fn P w K mg base (aX P w) 1 "_law_sum" ["_law_one","_law_other"] (b8 K fm)):
  Fn P w K mg base (aX P w) 2 "_law_add" ["_law_found","_law_k","_law_axis","_law_draw"] (u0 K):=by
 refine D.ok Rq (fun vs H Q E h=> ?_) (fun f bf A outer s H vs Q E hr h=> ?_)
 ·obtain ⟨fA,ls,F,B,k,a,v,m,d,rfl,_⟩:=h
  rfl
 obtain ⟨fA,ls,F,B,k,a,v,m,d,rfl,hF,hk,ha,nv,le,q⟩:=h
 refine ⟨_,(ah (tS (aA m9 hr.mo pX (ao (aT aS (aT aS (pv 0) (pv 1) (fun _ _=>rfl)) (pv 2) (fun _ _=>rfl)) (ao (pv 3) aa))) (tR (aT aS (pv 0) (pv 1) (fun _ _=>rfl)) (pv 2) set_list))),?_⟩
 obtain ⟨l,el⟩:∃l,ls[k]? =some l:=⟨_,gE hk⟩
 obtain ⟨v1,v2,hl,n1,n2⟩:=hF.row k l el
 have ek:ft (ls.map V.ref) (k:Int)=some (.ref l):=bH (by rw [aa_,el];rfl)
 have lm:l∈ls:=abt el
 have lf:l≠fA:=fun z=>hF.nf (z▸lm)
 obtain ⟨u,ea,nu⟩:∃u,ft [v1,v2] a=some u∧gN K H u B (ax a (F k)):=by
  rcases ha with rfl | rfl
  ·exact ⟨v1,rfl,n1⟩
  ·exact ⟨v2,rfl,n2⟩
 refine ⟨_,rfl,_,rfl,fA,_,_,_,rfl,rfl,aR.of hF.hf,ek,_,rfl,l,_,_,_,rfl,rfl,aR.of hl,ea,_,rfl,?_⟩
 dsimp only [gk]
 show b8 K fm [_,_] _ _ E0
 refine jn nu nv le fun p3 H3 s3 n3=> ?_
 obtain ⟨j,ej,hj⟩:∃j,vn [v1,v2].length a=some j∧((a=0∧j=0)∨(a=1∧j=1)):=by
  rcases ha with rfl | rfl
  ·exact ⟨0,rfl,.inl ⟨rfl,rfl⟩⟩
  ·exact ⟨1,rfl,.inr ⟨rfl,rfl⟩⟩
 refine ⟨_,rfl,_,rfl,fA,_,_,_,rfl,rfl,aR.of (s3 _ _ hF.hf),ek,_,rfl,l,_,_,j,rfl,rfl,s3 _ _ hl,ej,?_⟩
 have F3:=hF.same s3
 have kl:KL ls H (upd H3 l (.lst ([v1,v2].set j (.ref p3)))):=fun b o nb e=>by
  rw [aj (fun z=>nb (by rw [z];exact lm))]
  exact s3 _ _ e
 have k3:KL ls H3 (upd H3 l (.lst ([v1,v2].set j (.ref p3)))):=fun b o nb e=>by
  rw [aj (fun z=>nb (by rw [z];exact lm))]
  exact e
 have st:=F3.a_ k3
 refine q _ kl ⟨?_,hF.nd,hF.nf,fun i l' e=> ?_⟩
 ·rw [aj (afO lf)]
  exact F3.hf
 ·by_cases c:i=k
  ·subst c
   rw [el] at e
   cases e
   refine ⟨([v1,v2].set j (.ref p3))[0]?.getD .cj,([v1,v2].set j (.ref p3))[1]?.getD .cj,?_,?_,?_⟩
   ·rw [ai]
    rcases hj with ⟨_,rfl⟩ | ⟨_,rfl⟩ <;> rfl
   ·unfold cQ
    rw [if_pos rfl]
    rcases hj with ⟨rfl,rfl⟩ | ⟨rfl,rfl⟩
    ·exact n3.a_ st
    ·exact ((n1.same s3).a_ st).up (by omega)
   ·unfold cQ
    rw [if_pos rfl]
    rcases hj with ⟨rfl,rfl⟩ | ⟨rfl,rfl⟩
    ·exact ((n2.same s3).a_ st).up (by omega)
    ·exact n3.a_ st
  ·obtain ⟨w1,w2,g1,g2,g3⟩:=F3.row i l' e
   have nl:l' ≠l:=fun z=>c (dA hF.nd e (z▸el))
   refine ⟨w1,w2,?_,?_,?_⟩
   ·rw [aj nl]
    exact g1
   ·unfold cQ
    rw [if_neg c]
    exact (g2.a_ st).up (by omega)
   ·unfold cQ
    rw [if_neg c]
    exact (g3.a_ st).up (by omega)
structure Ku (K:Frag)(H:Hp)(pA bA:Addr)(us vs:List V)(pins:List aE)(bars:List bg):Prop where
 hp:H pA=some (.lst us)
 pp:Paired (gm K H) us pins
 gp:gO pins
 hb:H bA=some (.lst vs)
 pb:Paired (j3 K H pins) vs bars
 en:∀b∈bars,b.one.nm≠b.other.nm
 lp:pins.length≤5
 lb:bars.length≤8
theorem Ku.same {H H' :Hp}{pA bA:Addr}{us vs:List V}{pins:List aE}{bars:List bg}(h:Ku K H pA bA us vs pins bars)(s:aq H H'):Ku K H' pA bA us vs pins bars:=⟨s _ _ h.hp,Paired.cw h.pp fun _ _ z=>z.same s,h.gp,s _ _ h.hb,Paired.cw h.pb fun _ _ z=>z.same s,h.en,h.lp,h.lb⟩
structure LFo (K:Frag)(H:Hp)(tA uA:Addr)(ts xs:List V)(pins:List aE)(bars:List bg)(T:Str→Rat)(U:Str→List Rat)(N:Nat):Prop where
 ht:H tA=some (.lst ts)
 pt:Paired (fun v (b:bg)=>gN K H v N (T b.nm)) ts bars
 hu:H uA=some (.lst xs)
 pu:Paired (fun v (p:aE)=>∃la ys,v=.ref la∧H la=some (.lst ys)∧Paired (fun v r=>gN K H v N r) ys (U p.nm)) xs pins
 lU:∀p∈pins,(U p.nm).length=p.ws.length
 hN:N≤2000000
theorem KL.same {H H6 H7:Hp}{ls:List Addr}(hn:∀l∈ls,H l=none)(s:aq H H6)(k:KL ls H6 H7):aq H H7:=fun b o e=>k b o (fun m=>by rw [hn b m] at e;cases e) (s b o e)
def js (T:Str→Rat)(bs:List bg)(a:Int)(p:aE):Rat:=(bs.map fun b=>T b.nm*ax a (mv (dN b) p.nm)).sum
theorem u3 {T:Str→Rat}{bs:List bg}{b:bg}{a:Int}{p:aE}:js T (bs++[b]) a p=js T bs a p+T b.nm*ax a (mv (dN b) p.nm):=by
 unfold js
 rw [afG,List.sum_append,afp,agi,agk,List.sum_nil]
 grind
theorem u4 {pins:List aE}(nd:(pins.map (·.nm)).Nodup){i j:Nat}{p q:aE}(hi:pins[i]? =some p)(hj:pins[j]? =some q)(e:p.nm=q.nm):i=j:=dA nd (x:=q.nm) (by rw [aa_,hi, ← e];rfl) (by rw [aa_,hj];rfl)
theorem DE {pins:List aE}(nd:(pins.map (·.nm)).Nodup){b:bg}(hb:b.one.nm≠b.other.nm){i i1 i2:Nat}{p:aE}(hi:pins[i]? =some p)(h1:pins[i1]? =some b.one)(h2:pins[i2]? =some b.other)(t:Rat)(k:Int):
  (if i=i1 then t*(ax k b.other.sp - ax k b.one.sp) else 0)+(if i=i2 then -(t*(ax k b.other.sp - ax k b.one.sp)) else 0)=t*ax k (mv (dN b) p.nm):=by
 have NC:i1≠i2:=fun z=>by rw [z,h2] at h1;exact hb (by rw [afB h1])
 unfold mv dN
 by_cases c1:i=i1
 ·subst c1
  rw [h1] at hi
  cases hi
  rw [if_pos rfl,if_neg NC,if_pos rfl]
  show _=t*ax k (gL b.one b.other)
  unfold ax gL
  split <;> grind
 ·rw [if_neg c1,if_neg (fun z=>c1 (u4 nd hi h1 z))]
  by_cases c2:i=i2
  ·subst c2
   rw [h2] at hi
   cases hi
   rw [if_pos rfl,if_pos rfl]
   show _=t*ax k (gL b.other b.one)
   unfold ax gL
   split <;> grind
  ·rw [if_neg c2,if_neg (fun z=>c2 (u4 nd hi h2 z))]
   show (0:Rat)+0=t*ax k (0,0)
   unfold ax
   split <;> grind
inductive nh (K:Frag)(vs:List V)(H:Hp)(Q:VK)(E_:XK):Prop where
 | mk (pA bA tA uA:Addr) (us ws ts xs:List V) (pins:List aE) (bars:List bg) (T:Str→Rat) (U:Str→List Rat) (N:Nat) (_:vs=[.ref pA,.ref bA,.ref tA,.ref uA]) (_:Ku K H pA bA us ws pins bars) (_:LFo K H tA uA ts xs pins bars T U N) (_:∀(fA:Addr) (ls:List Addr) (F:Nat→Rat×Rat) (H' :Hp),aq H H' →ls.length=pins.length→Found K H' fA ls F (1+52*(N+51))→(∀(i:Nat) (p:aE),pins[i]? =some p→(F i).1=eE bars T U p (·.1)∧(F i).2=eE bars T U p (·.2))→Q (.ref fA) H'):nh K vs H Q E_
theorem kz:ay ["_law_pins_here","_law_bars_here","_law_pulls","_law_pushes","_law_found","_law_k","_law_axis","_law_draw","_law_j"] ["_law_pins_here","_law_bars_here","_law_pulls","_law_pushes"] (af x6):=sq
theorem Rt (D:Def K mg "_law_forces" x6 ["_law_pins_here","_law_bars_here","_law_pulls","_law_pushes"])(aZ:mg "len"=none)(bw:mg "range"=none)(DC:Fn P w K mg base (aX P w) 1 "_law_times" ["_law_one","_law_other"] (b8 K j0))(DB:Fn P w K mg base (aX P w) 1 "_law_turned" ["_law_one"] (dS K))(HX:Fn P w K mg base (aX P w) 2 "_law_arm" ["_law_pins_here","_law_bar","_law_axis"] (qQ K))(MI:Fn P w K mg base (aX P w) 2 "_law_add" ["_law_found","_law_k","_law_axis","_law_draw"] (u0 K)):
  Fn P w K mg base (aX P w) 3 "_law_forces" ["_law_pins_here","_law_bars_here","_law_pulls","_law_pushes"] (nh K):=by
 refine D.ok kz (fun vs H Q E h=> ?_) (fun f bf A outer s H vs Q E hr h=> ?_)
 ·obtain ⟨pA,bA,tA,uA,us,ws,ts,xs,pins,bars,T,U,N,rfl,_⟩:=h
  rfl
 obtain ⟨pA,bA,tA,uA,us,ws,ts,xs,pins,bars,T,U,N,rfl,fr,fo,q⟩:=h
 have L2:2≤sizeLine:=by decide
 have hN:=fo.hN
 have lp:=fr.lp
 have lb:=fr.lb
 have lu:us.length=pins.length:=Paired.length fr.pp
 have lw:ws.length=bars.length:=Paired.length fr.pb
 refine ⟨_,(ae (fU (i:=4) kz.nd rfl (ab_ rfl) (tn:=["_law_pin"]) (fr:=[]) (caps:=[]) rfl ⟨rfl,by decide+kernel,rfl,by decide+kernel,by decide+kernel,rfl,trivial,trivial⟩ (aY (pv 0)) (fun _ _ _ _=>(au (i:=0) (show (["_law_pin"]:List Str).Nodup from by decide+kernel) rfl (ab_ rfl))) (fun _ _ _ _=>bT) (fun _ _ _ _=>(bS (ao (aV (ao ag (ao ag aa))) (ao (aV (ao ag (ao ag aa))) aa)))))
  (ae (bh PassesOwn.never rfl (b9 rfl bw (ao (aD aF rfl aZ bQ (ao (pv 1) aa)) aa)) (au (i:=5) kz.nd rfl (ab_ rfl)) (ah (bh PassesOwn.never rfl (b9 rfl bw (ao ag aa)) (au (i:=6) kz.nd rfl (ab_ rfl)) (ae (aG (i:=7) kz.nd rfl (ab_ rfl) (aA DC hr.mo pX (ao (aT aS (pv 2) (pv 5) (fun _ _=>rfl)) (ao (aA HX hr.mo pX (ao (pv 0) (ao (aT aS (pv 1) (pv 5) (fun _ _=>rfl)) (ao (pv 6) aa)))) aa))))
    (ae (bK (aA MI hr.mo pX (ao (pv 4) (ao (aK (aT aS (pv 1) (pv 5) (fun _ _=>rfl))) (ao (pv 6) (ao (pv 7) aa))))))
    (ah (bK (aA MI hr.mo pX (ao (pv 4) (ao (aK (aT aS (pv 1) (pv 5) (fun _ _=>rfl))) (ao (pv 6) (ao (aA DB hr.mo pX (ao (pv 7) aa)) aa))))))))))))
  (ae (bh PassesOwn.never rfl (b9 rfl bw (ao (aD aF rfl aZ bQ (ao (pv 0) aa)) aa)) (au (i:=5) kz.nd rfl (ab_ rfl)) (ah (bh PassesOwn.never rfl (b9 rfl bw (ao (aD aF rfl aZ bQ (ao (aK (aT aS (pv 0) (pv 5) (fun _ _=>rfl))) aa)) aa)) (au (i:=8) kz.nd rfl (ab_ rfl)) (ah (bh PassesOwn.never rfl (b9 rfl bw (ao ag aa)) (au (i:=6) kz.nd rfl (ab_ rfl)) (ah (bK (aA MI hr.mo pX (ao (pv 4) (ao (pv 5) (ao (pv 6) (ao (aA DC hr.mo pX (ao (aT aS (aT aS (pv 3) (pv 5) (fun _ _=>rfl)) (pv 8) (fun _ _=>rfl)) (ao (aT iy (aT aS (aK (aT aS (pv 0) (pv 5) (fun _ _=>rfl))) (pv 8) (fun _ _=>rfl)) (pv 6) (fun _ _=>rfl)) aa))) aa))))))))))))
  (ah (aw (pv 4)))))),?_⟩
 refine ⟨_,rfl,pA,rfl,⟨_,aR.of fr.hp⟩,fun fA n1=> ?_⟩
 refine uH (cap:=[]) (K:=K) (a:=pA) (xs:=us) (fun ys H' =>∃ls:List Addr,ys=ls.map V.ref∧ls.Nodup∧fA∉ls∧∀l∈ls,H l=none∧∃p q:Addr,H' l=some (.lst [.ref p,.ref q])∧H' p=some (.tup [.int 0,.int 1])∧H' q=some (.tup [.int 0,.int 1])) n1 (by rw [lu];exact afs (show pins.length≤100 by omega) (by decide)) (fun H2 s2=>aR.of (s2 _ _ fr.hp)) ⟨[],rfl,ap1,by simp,fun l h=>by cases h⟩ ?_ ?_
 ·intro i x ys H2 R hx ly hJ s2 hD k
  obtain ⟨ls,rfl,nd,nf,hl⟩:=hJ
  refine ⟨L2,?_⟩
  intro p3 n3;generalize eX:upd _ p3 _=H3;have ⟨s3,e3⟩:=nw n3 eX;clear eX
  refine ⟨L2,?_⟩
  intro p4 n4;generalize eX:upd _ p4 _=H4;have ⟨s4,e4⟩:=nw n4 eX;clear eX
  refine ⟨L2,?_⟩
  intro l5 n5;generalize eX:upd _ l5 _=H5;have ⟨s5,e5⟩:=nw n5 eX;clear eX
  have Ru:=s3.trans (s4.trans s5)
  have D5:=Ru _ _ hD
  have D4:=s4 _ _ (s3 _ _ hD)
  refine k _ _ Ru ⟨ls++[l5],by simp,?_,?_,fun l hm=> ?_⟩
  ·rw [agw]
   refine ⟨nd,by simp,fun a ha b hb z=> ?_⟩
   have gX :b=l5:=by simpa using hb
   obtain ⟨_,p,q,h1,_⟩:=hl a ha
   rw [z,gX] at h1
   rw [s4 _ _ (s3 _ _ h1)] at n5
   cases n5
  ·intro z
   rcases afM.mp z with z | z
   ·exact nf z
   ·rw [← afI.mp z,D4] at n5
    cases n5
  ·rcases afM.mp hm with z | z
   ·obtain ⟨h0,p,q,h1,h2,h3⟩:=hl l z
    refine ⟨h0,p,q,?_,?_,?_⟩
    ·rw [aj (fun e:l=fA=>nf (by rw [← e];exact z))]
     exact Ru _ _ h1
    ·rw [aj (fun e=>by rw [e,hD] at h2;cases h2)]
     exact Ru _ _ h2
    ·rw [aj (fun e=>by rw [e,hD] at h3;cases h3)]
     exact Ru _ _ h3
   ·have z:=afI.mp z
    subst z
    refine ⟨(s2.trans (s3.trans s4)).free n5,p3,p4,?_,?_,?_⟩
    ·rw [aj (fun e=>by rw [e,D4] at n5;cases n5)]
     exact e5
    ·rw [aj (fun e=>by rw [e,hD] at n3;cases n3)]
     exact s5 _ _ (s4 _ _ e3)
    ·rw [aj (fun e=>by rw [e,s3 _ _ hD] at n4;cases n4)]
     exact s5 _ _ e4
 intro ys H2 ly hJ s2 hD
 obtain ⟨ls,rfl,nd,nf,hl⟩:=hJ
 have hn:∀l∈ls,H l=none:=fun l m=>(hl l m).1
 have ll:ls.length=pins.length:=by rw [← lu, ← ly,Wp]
 have z0:∀(p:Addr) (H' :Hp),H' p=some (.tup [.int 0,.int 1])→gN K H' (.ref p) 1 0:=fun p H' e=>⟨(0,1),⟨p,rfl,bF.of e⟩,by decide,by decide+kernel,by decide,by decide⟩
 have F0:Found K H2 fA ls (fun _=>(0,0)) (1+0*(4*(N+51))):=⟨hD,nd,nf,fun i l e=>by
  obtain ⟨_,p,q,h1,h2,h3⟩:=hl l (abt e)
  rw [ag6]
  exact ⟨_,_,h1,z0 p _ h2,z0 q _ h3⟩⟩
 have en:((ws.length:Nat):Int).toNat=ws.length:=by omega
 refine ⟨_,rfl,bA,_,rfl,.inl (aR.of (s2 _ _ fr.hb)),((ws.length:Nat):Int),rfl,by omega,by omega,cn (lo:=0) (n:=((ws.length:Nat):Int).toNat) (fun t σ H' =>∃(F:Nat→Rat×Rat) (o5 o6 o7:Option V),σ=[some (.ref pA),some (.ref bA),some (.ref tA),some (.ref uA),some (.ref fA),o5,o6,o7,none]∧aq H H' ∧Found K H' fA ls F (1+t*(4*(N+51)))∧∀(i:Nat) (p:aE),pins[i]? =some p→∀a:Int,(a=0∨a=1)→ax a (F i)=js T (bars.take t) a p) ⟨_,none,none,none,rfl,s2,F0,fun i p _ a _=> ?_⟩ ?_ ?_⟩
 ·show ax a (0,0)=0
  unfold ax
  split <;> rfl
 ·rintro t σ H3 ht ⟨F,o5,o6,o7,rfl,s3,F3,hF⟩
  have ek:(0:Int)+(t:Int)=(t:Int):=af1 _
  rw [ek]
  have htw:t < ws.length:=by omega
  obtain ⟨b,eb,yK⟩:=aH fr.pb (gE htw)
  have mb:b∈bars:=abt eb
  obtain ⟨tv,etv,htv⟩:=aH (cu fo.pt) eb
  have WC:ft ws (t:Int)=some ws[t]:=bH (gE htw)
  have att:ft ts (t:Int)=some tv:=bH etv
  have bt:t*(4*(N+51))≤7*(4*(N+51)):=afR _ (by omega)
  generalize hB:1+t*(4*(N+51))=B at F3
  refine ⟨(2:Int),rfl,by decide,by decide,cn (lo:=0) (n:=2) (fun k σ H' =>∃(F:Nat→Rat×Rat) (o6 o7:Option V),σ=[some (.ref pA),some (.ref bA),some (.ref tA),some (.ref uA),some (.ref fA),some (.int (t:Int)),o6,o7,none]∧aq H H' ∧Found K H' fA ls F (B+k*(2*(N+51)))∧∀(i:Nat) (p:aE),pins[i]? =some p→∀a:Int,(a=0∨a=1)→ax a (F i)=js T (bars.take t) a p+if a < (k:Int) then T b.nm*ax a (mv (dN b) p.nm) else 0) ⟨F,o6,o7,rfl,s3,by rw [ag6];exact F3,fun i p e a ha=> ?_⟩ ?_ ?_⟩
  ·rw [hF i p e a ha,if_neg (by rcases ha with rfl | rfl <;> decide)]
   grind
  ·rintro k σ H4 hk ⟨F,o6,o7,rfl,s4,F4,hF⟩
   have ek:(0:Int)+(k:Int)=(k:Int):=af1 _
   rw [ek]
   have EC:(k:Int)=0∨(k:Int)=1:=by omega
   have Rv:=fr.same s4
   have bk:k*(2*(N+51))≤1*(2*(N+51)):=afR _ (by omega)
   obtain ⟨ta,i1,i2,eta,HY,e1,e2⟩:=yK.same s4
   have OQ:i1 < ls.length:=by rw [ll];exact (ir.mp e1).1
   have OR:i2 < ls.length:=by rw [ll];exact (ir.mp e2).1
   refine ⟨_,rfl,_,rfl,tA,_,_,_,rfl,rfl,aR.of (s4 _ _ fo.ht),att,_,rfl,_,rfl,_,rfl,bA,_,_,_,rfl,rfl,aR.of Rv.hb,WC,_,rfl,pA,us,pins,_,b,(k:Int),rfl,Rv.hp,Rv.pp,fr.gp,yK.same s4,EC,fun v5 H5 s5 n5=> ?_⟩
   dsimp only [gk]
   show b8 K j0 [_,_] _ _ E0
   refine lI ((htv.same s4).same s5) n5 (by omega) fun p6 H6 s6 n6=> ?_
   have s06:=s4.trans (s5.trans s6)
   rw [eta] at WC
   have F6:=F4.same (s5.trans s6)
   refine ⟨_,rfl,_,rfl,_,rfl,bA,_,_,_,rfl,rfl,aR.of (s06 _ _ fr.hb),WC,ta,_,_,_,rfl,rfl,Ty.aq.cN (s5.trans s6) HY,rfl,_,rfl,_,rfl,fA,ls,F,_,i1,(k:Int),_,_,_,rfl,F6,OQ,EC,n6,by omega,fun H7 k7 F7=> ?_⟩
   have s07:=KL.same hn s06 k7
   have n7:=n6.a_ (F6.a_ k7)
   refine ⟨_,rfl,_,rfl,_,rfl,bA,_,_,_,rfl,rfl,aR.of (s07 _ _ fr.hb),WC,ta,_,_,_,rfl,rfl,(F6.a_ k7).cN (Ty.aq.cN (s5.trans s6) HY),rfl,_,rfl,_,rfl,?_⟩
   dsimp only [gk]
   show dS K [_] _ _ E0
   refine m7 n7 fun p8 H8 s8 n8=> ?_
   have F8:=F7.same s8
   refine ⟨fA,ls,_,_,i2,(k:Int),_,_,_,rfl,F8,OR,EC,n8,by omega,fun H9 k9 F9=> ?_⟩
   have Kr:=KL.same hn (s07.trans s8) k9
   refine ⟨_,_,_,rfl,Kr,F9.up (by rw [ah_];omega),fun i p e a ha=> ?_⟩
   rw [qT EC ha,qT EC ha,hF i p e a ha]
   have bp:=DE fr.gp.np (fr.en b mb) e e1 e2 (T b.nm) (k:Int)
   by_cases ca:a=(k:Int)
   ·subst ca
    rw [if_neg (c:=(k:Int) < (k:Int)) (by omega),if_pos (c:=(k:Int) < ((k+1:Nat):Int)) (by omega), ← bp]
    simp only [and_true]
    grind
   ·have c1:¬ (i=i1∧a=(k:Int)):=fun z=>ca z.2
    have c2:¬ (i=i2∧a=(k:Int)):=fun z=>ca z.2
    rw [if_neg c1,if_neg c2]
    by_cases cl:a < (k:Int)
    ·rw [if_pos cl,if_pos (c:=a < ((k+1:Nat):Int)) (by omega)]
     grind
    ·rw [if_neg cl,if_neg (c:=a < ((k+1:Nat):Int)) (by omega)]
     grind
  ·rintro σ H4 ⟨F,o6,o7,rfl,s4,F4,hF⟩
   refine ⟨F,_,_,_,rfl,s4,F4.up (by rw [ah_, ← hB];omega),fun i p e a ha=> ?_⟩
   rw [take_snoc eb,u3,hF i p e a ha,if_pos (by rcases ha with rfl | rfl <;> decide)]
 ·rintro σ H3 ⟨F,o5,o6,o7,rfl,s3,F3,hF⟩
  rw [en,lw] at F3
  rw [en,lw,afS] at hF
  have bl:bars.length*(4*(N+51))≤8*(4*(N+51)):=afR _ (by omega)
  generalize hB:1+bars.length*(4*(N+51))=B at F3
  have en2:((us.length:Nat):Int).toNat=us.length:=by omega
  refine ⟨_,rfl,pA,_,rfl,.inl (aR.of (s3 _ _ fr.hp)),((us.length:Nat):Int),rfl,by omega,by omega,cn (lo:=0) (n:=((us.length:Nat):Int).toNat) (fun k σ H' =>∃(F:Nat→Rat×Rat) (o5 o6 o7 o8:Option V),σ=[some (.ref pA),some (.ref bA),some (.ref tA),some (.ref uA),some (.ref fA),o5,o6,o7,o8]∧aq H H' ∧Found K H' fA ls F (B+k*(4*(N+51)))∧∀(i:Nat) (p:aE),pins[i]? =some p→∀a:Int,(a=0∨a=1)→ax a (F i)=js T bars a p+if i < k then sP (U p.nm) (p.ws.map (ax a)) else 0) ⟨F,o5,o6,o7,none,rfl,s3,by rw [ag6];exact F3,fun i p e a ha=> ?_⟩ ?_ ?_⟩
  ·rw [hF i p e a ha,if_neg (by omega)]
   grind
  ·rintro k σ H4 hk ⟨F,o5,o6,o7,o8,rfl,s4,F4,hF⟩
   have ek:(0:Int)+(k:Int)=(k:Int):=af1 _
   rw [ek]
   have hku:k < us.length:=by omega
   obtain ⟨p,ep,yJ⟩:=aH fr.pp (gE hku)
   have mp:p∈pins:=abt ep
   obtain ⟨xv,exv,la,ys,exl,WD,py⟩:=aH (cu fo.pu) ep
   subst exl
   have lup:=fo.lU p mp
   have lwp:=(fr.gp.ws p mp).len
   have ly:ys.length=(U p.nm).length:=Paired.length py
   have akx:ft xs (k:Int)=some (.ref la):=bH exv
   have Y_:ft us (k:Int)=some us[k]:=bH (gE hku)
   obtain ⟨pa,l,sv,eJ,epa,h1,h2,h3,h4⟩:=yJ
   rw [epa] at Y_
   have lv:eJ.length=p.ws.length:=Paired.length h4
   have kp:k < pins.length:=by omega
   have bk:k*(4*(N+51))≤4*(4*(N+51)):=afR _ (by omega)
   generalize hB2:B+k*(4*(N+51))=B2 at F4
   have en3:((eJ.length:Nat):Int).toNat=eJ.length:=by omega
   refine ⟨_,rfl,_,rfl,pA,_,_,_,rfl,rfl,aR.of (s4 _ _ fr.hp),Y_,pa,_,_,_,rfl,rfl,Ty.aq.cN s4 h1,rfl,l,_,rfl,.inl (aR.of (s4 _ _ h3)),((eJ.length:Nat):Int),rfl,by omega,by omega,cn (lo:=0) (n:=((eJ.length:Nat):Int).toNat) (fun j σ H' =>∃(F:Nat→Rat×Rat) (o6 o7 o8:Option V),σ=[some (.ref pA),some (.ref bA),some (.ref tA),some (.ref uA),some (.ref fA),some (.int (k:Int)),o6,o7,o8]∧aq H H' ∧Found K H' fA ls F (B2+j*(2*(N+51)))∧∀(i:Nat) (p:aE),pins[i]? =some p→∀a:Int,(a=0∨a=1)→ax a (F i)=js T bars a p+if i < k then sP (U p.nm) (p.ws.map (ax a)) else if i=k then sP ((U p.nm).take j) ((p.ws.take j).map (ax a)) else 0) ⟨F,o6,o7,o8,rfl,s4,by rw [ag6];exact F4,fun i p e a ha=> ?_⟩ ?_ ?_⟩
   ·rw [hF i p e a ha,List.take_zero,iI]
    split <;> simp
   ·rintro j σ H5 hj ⟨F,o6,o7,o8,rfl,s5,F5,hF⟩
    have ek:(0:Int)+(j:Int)=(j:Int):=af1 _
    rw [ek]
    have hj1:j < eJ.length:=by omega
    have hj2:j < ys.length:=by omega
    obtain ⟨x,ex,hx⟩:=aH py (gE hj2)
    obtain ⟨wq,WA,Y9⟩:=aH h4 (gE hj1)
    have zw:=(fr.gp.ws p mp).sz wq (abt WA)
    have axj:ft ys (j:Int)=some ys[j]:=bH (gE hj2)
    have awj:ft eJ (j:Int)=some eJ[j]:=bH (gE hj1)
    have bj:j*(2*(N+51))≤1*(2*(N+51)):=afR _ (by omega)
    generalize hB3:B2+j*(2*(N+51))=B3 at F5
    refine ⟨(2:Int),rfl,by decide,by decide,cn (lo:=0) (n:=2) (fun c σ H' =>∃(F:Nat→Rat×Rat) (o6:Option V),σ=[some (.ref pA),some (.ref bA),some (.ref tA),some (.ref uA),some (.ref fA),some (.int (k:Int)),o6,o7,some (.int (j:Int))]∧aq H H' ∧Found K H' fA ls F (B3+c*(N+51))∧∀(i:Nat) (p:aE),pins[i]? =some p→∀a:Int,(a=0∨a=1)→ax a (F i)=(js T bars a p+if i < k then sP (U p.nm) (p.ws.map (ax a)) else if i=k then sP ((U p.nm).take j) ((p.ws.take j).map (ax a)) else 0)+if i=k∧a < (c:Int) then x*ax a wq else 0) ⟨F,o6,rfl,s5,by rw [ag6];exact F5,fun i p e a ha=> ?_⟩ ?_ ?_⟩
    ·rw [hF i p e a ha,if_neg (c:=i=k∧a < ((0:Nat):Int)) (fun z=>by rcases ha with rfl | rfl <;> exact absurd z.2 (by decide))]
     grind
    ·rintro c σ H6 hc ⟨F,o6,rfl,s6,F6,hF⟩
     have ek:(0:Int)+(c:Int)=(c:Int):=af1 _
     rw [ek]
     have Wb:(c:Int)=0∨(c:Int)=1:=by omega
     have bc:c*(N+51)≤1*(N+51):=afR _ (by omega)
     obtain ⟨wa,zs,u,ewa,JX,awc,nwc⟩:=tF Wb (Y9.same s6)
     rw [ewa] at awj
     refine ⟨_,rfl,_,rfl,_,rfl,_,rfl,_,rfl,uA,_,_,_,rfl,rfl,aR.of (s6 _ _ fo.hu),akx,_,rfl,la,_,_,_,rfl,rfl,aR.of (s6 _ _ WD),axj,_,rfl,_,rfl,pA,_,_,_,rfl,rfl,aR.of (s6 _ _ fr.hp),Y_,pa,_,_,_,rfl,rfl,Ty.aq.cN s6 h1,rfl,_,rfl,l,_,_,_,rfl,rfl,aR.of (s6 _ _ h3),awj,_,rfl,wa,_,_,_,rfl,rfl,JX,awc,?_⟩
     dsimp only [gk]
     show b8 K j0 [_,_] _ _ E0
     refine lI (hx.same s6) (dO nwc (oT (DA zw) (ad_ _))) (by omega) fun p7 H7 s7 n7=> ?_
     refine ⟨fA,ls,F,_,k,(c:Int),_,_,_,rfl,F6.same s7,by omega,Wb,n7,by omega,fun H8 k8 F8=> ?_⟩
     refine ⟨_,_,rfl,KL.same hn (s6.trans s7) k8,F8.up (by rw [ah_];omega),fun i p' e a ha=> ?_⟩
     rw [qT Wb ha,hF i p' e a ha]
     by_cases ci:i=k
     ·by_cases ca:a=(c:Int)
      ·subst ca
       rw [if_neg (c:=i=k∧(c:Int) < (c:Int)) (fun z=>by omega),if_pos (c:=i=k∧(c:Int)=(c:Int)) ⟨ci,rfl⟩,if_pos (c:=i=k∧(c:Int) < ((c+1:Nat):Int)) ⟨ci,by omega⟩]
       grind
      ·rw [if_neg (c:=i=k∧a=(c:Int)) (fun z=>ca z.2)]
       by_cases cl:a < (c:Int)
       ·rw [if_pos (c:=i=k∧a < (c:Int)) ⟨ci,cl⟩,if_pos (c:=i=k∧a < ((c+1:Nat):Int)) ⟨ci,by omega⟩]
        grind
       ·rw [if_neg (c:=i=k∧a < (c:Int)) (fun z=>cl z.2),if_neg (c:=i=k∧a < ((c+1:Nat):Int)) (fun z=>by have:=z.2;omega)]
        grind
     ·rw [if_neg (c:=i=k∧a < (c:Int)) (fun z=>ci z.1),if_neg (c:=i=k∧a=(c:Int)) (fun z=>ci z.1),if_neg (c:=i=k∧a < ((c+1:Nat):Int)) (fun z=>ci z.1)]
      grind
    ·rintro σ H6 ⟨F,o6,rfl,s6,F6,hF⟩
     refine ⟨F,_,_,_,rfl,s6,F6.up (by rw [ah_, ← hB3];omega),fun i p' e a ha=> ?_⟩
     rw [hF i p' e a ha]
     by_cases ci:i=k
     ·subst ci
      rw [ep] at e
      cases e
      rw [if_neg (afY _),if_pos rfl,if_neg (afY _),if_pos rfl,if_pos (c:=i=i∧a < ((2:Nat):Int)) ⟨rfl,by rcases ha with rfl | rfl <;> decide⟩]
      rw [take_snoc ex,take_snoc WA,afG,iJ _ _ (by rw [Wp,afN,afN];omega),afp,agi,cJ,iI]
      grind
     ·rw [if_neg (c:=i=k∧a < ((2:Nat):Int)) (fun z=>ci z.1),if_neg ci,if_neg ci]
      grind
   ·rintro σ H5 ⟨F,o6,o7,o8,rfl,s5,F5,hF⟩
    rw [en3] at F5 hF
    refine ⟨F,_,_,_,_,rfl,s5,F5.up (by
     have:eJ.length*(2*(N+51))≤2*(2*(N+51)):=afR _ (by omega)
     rw [ah_, ← hB2]
     omega),fun i p' e a ha=> ?_⟩
    rw [hF i p' e a ha]
    by_cases ci:i=k
    ·subst ci
     rw [ep] at e
     cases e
     rw [if_neg (afY _),if_pos rfl,if_pos (af4 _),agq (by omega),agq (by omega)]
    ·rw [if_neg ci]
     by_cases cl:i < k
     ·rw [if_pos cl,if_pos (by omega)]
     ·rw [if_neg cl,if_neg (by omega)]
  ·rintro σ H4 ⟨F,o5,o6,o7,o8,rfl,s4,F4,hF⟩
   rw [en2,lu] at F4 hF
   have bp:pins.length*(4*(N+51))≤5*(4*(N+51)):=afR _ (by omega)
   refine ⟨_,rfl,q fA ls F H4 s4 ll (F4.up (by omega)) fun i p e=> ?_⟩
   have hi:=(ir.mp e).1
   have a0:=hF i p e 0 (.inl rfl)
   have a1:=hF i p e 1 (.inr rfl)
   rw [if_pos hi] at a0 a1
   unfold eE
   unfold js at a0 a1
   have e0:ax 0=fun p:Rat×Rat=>p.1:=rfl
   have e1:ax 1=fun p:Rat×Rat=>p.2:=rfl
   rw [e0] at a0
   rw [e1] at a1
   exact ⟨a0.trans (Rat.add_comm _ _),a1.trans (Rat.add_comm _ _)⟩
theorem Y':PySem.W.kitOne K (.type "int") (.type "int")=some true:=by unfold PySem.W.kitOne;rw [if_pos (by decide)]
theorem Za:PySem.W.kitOne K (.type "int") (.type "bool")=some false:=zP ⟨by decide,fun _=>⟨by decide+kernel,by decide+kernel⟩⟩
theorem v3 (x:Int×Int):cK [.v (.int x.1),.v (.int x.2)] [.v (.int x.1),.v (.int x.2)]=true:=by
 simp [cK,g_,ia]
inductive jt (K:Frag)(vs:List V)(H:Hp)(Q:VK)(E_:XK):Prop where
 | mk (u:V) (r:Rat) (_:vs=[u]) (_:dE K H u r) (_:∀H',aq H H' →Q (.bl true) H'):jt K vs H Q E_
theorem Kv:ay ["_law_x","_law_part"] ["_law_x"] (af x8):=sq
theorem Rw (D:Def K mg "_law_number" x8 ["_law_x"])(aZ:mg "len"=none)(aL:mg "isinstance"=none)(DF:mg "int"=none)(u5:mg "bool"=none)(dW:mg "tuple"=none)
  (qL:Fn P w K mg base (aX P w) 33 "_law_lowest" ["_law_top","_law_bottom"] cU):Fn P w K mg base (aX P w) 34 "_law_number" ["_law_x"] (jt K):=by
 refine D.ok Kv (fun vs H Q E h=> ?_) (fun f bf A outer s H vs Q E hr h=> ?_)
 ·obtain ⟨u,r,rfl,_⟩:=h
  rfl
 obtain ⟨_,r,rfl,⟨p1,rfl,h1⟩,q⟩:=h
 have hp:=cO r
 have hg:=mL r
 generalize qr r=x at h1 hp hg
 refine ⟨_,(ae (ba (PW.pt (d3 (cC (bR (aD xh rfl aL bo (ao (pv 0) (ao (ib rfl dW pK) aa))))) (dm (aJ d5 (aD aF rfl aZ bQ (ao (pv 0) aa)) ag (aQ _))))) (ah (aw ck)) aI)
  (ae (bh PassesOwn.never rfl (ze (pv 0)) (au (i:=1) Kv.nd rfl (ab_ rfl)) (ah (ba (PW.pt (d3 (cC (bR (aD dC rfl aL bo (ao (pv 1) (ao (ib rfl DF Ov) aa))))) (dm (bR (aD dC rfl aL bo (ao (pv 1) (ao (ib rfl u5 Lk) aa))))))) (ah (aw ck)) aI)))
  (ah (aw (yZ (gS zi (aK (pv 0)) ag (aQ _)) (yY (gS (k_ hr.units) (aA qL hr.mo pX (ao (aK (pv 0)) (ao (aK (pv 0)) aa))) (pv 0) (aQ _)))))))),?_⟩
 refine ⟨_,rfl,p1,_,rfl,h1,_,rfl,?_⟩
 refine a8 (fun c=>nomatch c) (fun _=> ?_)
 refine ⟨_,rfl,p1,_,rfl,.inr h1,rfl,_,rfl,?_⟩
 refine zJ rfl ?_
 refine ⟨_,rfl,p1,rfl,⟨_,h1⟩,ve (K:=K) (a:=p1) (xs:=[.int x.1,.int x.2]) (fun i σ H' =>∃o,σ=[some (.ref p1),o]∧H' =H) ⟨none,rfl,rfl⟩ (fun i σ H' _ ⟨o,_,e⟩=>by rw [e];exact h1) ?_ ?_⟩
 ·rintro i z σ H' hi ⟨o,rfl,rfl⟩
  obtain ⟨n,rfl⟩:∃n,z=V.int n:=by
   match i,hi with
   | 0,hi=>exact ⟨_,(afB hi).symm⟩
   | 1,hi=>exact ⟨_,(afB hi).symm⟩
  refine ⟨_,rfl,_,_,_,true,rfl,rfl,.int n,Y',_,rfl,?_⟩
  refine a8 (fun c=>nomatch c) (fun _=> ?_)
  refine ⟨_,rfl,_,_,_,false,rfl,rfl,.int n,Za,_,rfl,?_⟩
  refine a8 (fun c=>nomatch c) (fun _=> ?_)
  exact ⟨_,rfl,rfl⟩
 ·rintro σ H' ⟨o,rfl,rfl⟩
  refine ⟨_,rfl,p1,_,_,_,rfl,rfl,h1,iQ,_,_,rfl,rfl,_,rfl,?_⟩
  refine a8 (fun _=> ?_) (fun c=>absurd (decide_eq_true hp) c)
  refine ⟨_,rfl,p1,_,_,_,rfl,rfl,h1,iP,_,rfl,p1,_,_,_,rfl,rfl,h1,iQ,_,_,rfl,hp,fun p2 H2 s2 e2=> ?_⟩
  rw [lZ hp hg] at e2
  refine ⟨_,rfl,_,_,.inl ⟨g6 (q:=x) ⟨p2,rfl,bF.of e2⟩,g6 (q:=x) ⟨p1,rfl,Ty.aq.cN s2 h1⟩⟩,rfl,vv,?_⟩
  rw [v3 x]
  exact q _ s2
theorem MJ:PySem.W.kitOne K (.type "tuple") (.type "tuple")=some true:=by unfold PySem.W.kitOne;rw [if_pos (by decide)]
theorem MK:PySem.W.kitOne K (.type "dict") (.type "dict")=some true:=by unfold PySem.W.kitOne;rw [if_pos (by decide)]
theorem Zc:PySem.W.kitOne K (.type "list") (.type "list")=some true:=by unfold PySem.W.kitOne;rw [if_pos (by decide)]
theorem eG {K:Frag}{H:Hp}:∀ws:List Str,gU K H (ws.map fun w=>Da.v (.str w)) (ws.map V.str)
 | []=>by unfold gU;trivial
 | w::ws=>by
  rw [afp,afp]
  unfold gU
  refine ⟨?_,eG ws⟩
  unfold Is
  exact ⟨rfl,rfl⟩
theorem lJ:∀ws:List Str,cK (ws.map fun w=>Da.v (.str w)) (ws.map fun w=>Da.v (.str w))=true
 | []=>by simp [cK]
 | w::ws=>by
  rw [afp]
  unfold cK
  rw [lJ ws]
  simp [g_,ia]
theorem lK:∀ws:List Str,cV (ws.map fun w=>Da.v (.str w)) (ws.map fun w=>Da.v (.str w))=true
 | []=>by simp [cV]
 | w::ws=>by
  rw [afp]
  unfold cV
  rw [lK ws]
  simp [alike]
theorem ju:∀ws:List Str,hG (ws.map fun w=>Da.v (.str w))≤60
 | []=>by simp [hG]
 | w::ws=>by
  rw [afp]
  unfold hG
  have:=ju ws
  simp only [dep]
  omega
theorem qU {K:Frag}{H:Hp}{p p2:Addr}{ws:List Str}{Q:VK}(e1:H p=some (.lst (ws.map V.str)))(e2:H p2=some (.lst (ws.map V.str)))(q:Q (.bl false) H):vt K (.ref p) (.ref p2) H Q:=by
 refine ⟨ws.map fun w=>Da.v (.str w),ws.map fun w=>Da.v (.str w),.inr ⟨?_,?_⟩,lK ws,ju ws,by rw [lJ];exact q⟩
 ·unfold Is
  exact ⟨p,_,rfl,aR.of e1,eG ws⟩
 ·unfold Is
  exact ⟨p2,_,rfl,aR.of e2,eG ws⟩
theorem HZ {K:Frag}{H:Hp}{p p2:Addr}{ws:List Str}{Q:VK}(e1:H p=some (.lst (ws.map V.str)))(e2:H p2=some (.lst (ws.map V.str)))(q:Q (.bl true) H):zN K (.ref p) (.ref p2) H Q:=by
 refine ⟨ws.map fun w=>Da.v (.str w),ws.map fun w=>Da.v (.str w),.inr ⟨?_,?_⟩,lK ws,ju ws,by rw [lJ];exact q⟩
 ·unfold Is
  exact ⟨p,_,rfl,aR.of e1,eG ws⟩
 ·unfold Is
  exact ⟨p2,_,rfl,aR.of e2,eG ws⟩
theorem dG {x:V}{ys:List V}:ft (x::ys) 0=some x:=bH (xs:=x::ys) (j:=0) rfl
theorem gQ {α:Type}{D1 a:Addr}{H:Hp}{us:List V}{zs:List α}{nm:α→Str}{cap:L2.St}{R:VK}(n1:H D1=none)(ha:H a=some (.lst us))(pr:Paired (fun u z=>∃c ys,u=.ref c∧bF K H c (.str (nm z)::ys)) us zs)(l:zs.length≤1000)(k:∀H',aq H H' →H' D1=some (.lst ((zs.map nm).map V.str))→R (.ref D1) H'):
  jL D1 (cY 0) i5 (K6 (zB K) (EH 0) (tC (V.int 0))) (DV K a) (none::cap) H R:=by
 have lu:us.length=zs.length:=Paired.length pr
 refine b_ (K:=K) (a:=a) (xs:=us) (fun i v _=>∃z,zs[i]? =some z∧v=.str (nm z)) n1 (by rw [lu];exact afs l (by decide)) (fun H2 s2=>aR.of (s2 _ _ ha)) (fun _ _ _ _ _ _ _ h=>h) ?_ ?_
 ·intro i u H2 R hu s2 k
  obtain ⟨z,ez,c,ys,rfl,h1⟩:=aH pr hu
  exact ⟨_,rfl,c,_,_,_,rfl,rfl,Ty.aq.cN s2 h1,dG,k _ _ (aq.refl _) ⟨z,ez,rfl⟩⟩
 ·intro ys H2 hy eA s2 hD
  refine k H2 s2 ?_
  rw [hD]
  congr 2
  refine af0 fun i=> ?_
  rw [afH,aa_]
  by_cases c:i < ys.length
  ·obtain ⟨p,e1,e2⟩:=eA i ys[i] (gE c)
   rw [gE c,e1,e2]
   rfl
  ·rw [ae_ (by omega),ae_ (by omega)]
   rfl
theorem kj {α:Type}{nm:α→Str}{kM:List (Key×V)}{zs:List α}(h:kM.map (·.1)=zs.map (fun p=>(afV (nm p):Key))):(kM.map fun kv=>kV kv.1)=(zs.map nm).map V.str:=by
 have:(kM.map fun kv=>kV kv.1)=(kM.map (·.1)).map kV:=by rw [afH];rfl
 rw [this,h,afH,afH]
 rfl
theorem iN {H:Hp}{us:List V}{pins:List aE}(h:Paired (gm K H) us pins):Paired (fun u (z:aE)=>∃c ys,u=.ref c∧bF K H c (.str z.nm::ys)) us pins:=Paired.cw h fun _ _ ⟨a,l,s,us,e,h1,_,_,_⟩=>⟨a,_,e,h1⟩
theorem ni {H:Hp}{us:List V}{pins:List aE}{bars:List bg}(h:Paired (j3 K H pins) us bars):Paired (fun u (z:bg)=>∃c ys,u=.ref c∧bF K H c (.str z.nm::ys)) us bars:=Paired.cw h fun _ _ ⟨a,i,j,e,h1,_,_⟩=>⟨a,_,e,h1⟩
theorem tH {ys:List V}(h:∀(i:Nat) (v:V),ys[i]? =some v→v=.bl true):∃bs:List Bool,ys=bs.map V.bl∧bs.all id=true:=by
 induction ys with
 | nil=>exact ⟨[],rfl,rfl⟩
 | cons y ys ih=>
  obtain ⟨bs,e,h2⟩:=ih fun i v e=>h (i+1) v (by simpa using e)
  exact ⟨true::bs,by rw [h 0 y rfl,e];rfl,by simp [h2]⟩
structure ED (K:Frag)(H:Hp)(pins:List aE)(bars:List bg)(dT dU:Addr)(kT kU:List (Key×V))(T:Str→Rat)(U:Str→List Rat)(N:Nat):Prop where
 hT:H dT=some (.dK kT)
 hU:H dU=some (.dK kU)
 CG:kT.map (·.1)=bars.map (fun b=>(afV b.nm:Key))
 CH:kU.map (·.1)=pins.map (fun p=>(afV p.nm:Key))
 tT:∀b∈bars,∃v,bV kT (.inr b.nm)=some v∧dE K H v (T b.nm)
 tU:∀p∈pins,∃la vs,bV kU (.inr p.nm)=some (.ref la)∧H la=some (.lst vs)∧Paired (dE K H) vs (U p.nm)
 lU:∀p∈pins,(U p.nm).length=p.ws.length
 zT:∀b∈bars,Zb N (T b.nm)
 zU:∀p∈pins,∀u∈U p.nm,Zb N u
 hN:N≤2000000
theorem ED.same {H H' :Hp}{pins:List aE}{bars:List bg}{dT dU:Addr}{kT kU:List (Key×V)}{T:Str→Rat}{U:Str→List Rat}{N:Nat}(h:ED K H pins bars dT dU kT kU T U N)(s:aq H H'):ED K H' pins bars dT dU kT kU T U N:=⟨s _ _ h.hT,s _ _ h.hU,h.CG,h.CH,fun b hb=>by
 obtain ⟨v,a,b⟩:=h.tT b hb
 exact ⟨v,a,b.same s⟩,fun p hp=>by
 obtain ⟨la,vs,a,b,c⟩:=h.tU p hp
 exact ⟨la,vs,a,s _ _ b,Paired.cw c fun _ _ z=>z.same s⟩,h.lU,h.zT,h.zU,h.hN⟩
theorem ED.Rx {H:Hp}{pins:List aE}{bars:List bg}{dT dU:Addr}{kT kU:List (Key×V)}{T:Str→Rat}{U:Str→List Rat}{N:Nat}(h:ED K H pins bars dT dU kT kU T U N){b:bg}(hb:b∈bars):∃v,cH H dT (.str b.nm) (some v)∧dE K H v (T b.nm):=by
 obtain ⟨v,a,c⟩:=h.tT b hb
 refine ⟨v,?_,c⟩
 have:=cH.k (k:=.inr b.nm) h.hT
 rw [a] at this
 exact this
theorem ED.MM {H:Hp}{pins:List aE}{bars:List bg}{dT dU:Addr}{kT kU:List (Key×V)}{T:Str→Rat}{U:Str→List Rat}{N:Nat}(h:ED K H pins bars dT dU kT kU T U N){p:aE}(hp:p∈pins):∃la vs,cH H dU (.str p.nm) (some (.ref la))∧H la=some (.lst vs)∧Paired (dE K H) vs (U p.nm):=by
 obtain ⟨la,vs,a,b,c⟩:=h.tU p hp
 refine ⟨la,vs,?_,b,c⟩
 have:=cH.k (k:=.inr p.nm) h.hU
 rw [a] at this
 exact this
inductive u6 (K:Frag)(vs:List V)(H:Hp)(Q:VK)(E_:XK):Prop where
 | mk (pA bA dT dU:Addr) (us ws:List V) (pins:List aE) (bars:List bg) (kT kU:List (Key×V)) (T:Str→Rat) (U:Str→List Rat) (N:Nat) (_:vs=[.ref pA,.ref bA,.ref dT,.ref dU]) (_:Ku K H pA bA us ws pins bars) (_:ED K H pins bars dT dU kT kU T U N) (_:∀H',aq H H' →Q (.bl true) H'):u6 K vs H Q E_
theorem v7:ay ["_law_pins_here","_law_bars_here","_law_pulls","_law_pushes","_law_name_here","_law_spot_here","_law_ways_here"] ["_law_pins_here","_law_bars_here","_law_pulls","_law_pushes"] (af x9):=sq
theorem Ry (D:Def K mg "_law_are_forces" x9 ["_law_pins_here","_law_bars_here","_law_pulls","_law_pushes"])(aL:mg "isinstance"=none)(fj:mg "dict"=none)(bX:mg "list"=none)(aZ:mg "len"=none)(v8:mg "all"=none)(DG:Fn P w K mg base (aX P w) 34 "_law_number" ["_law_x"] (jt K)):
  Fn P w K mg base (aX P w) 35 "_law_are_forces" ["_law_pins_here","_law_bars_here","_law_pulls","_law_pushes"] (u6 K):=by
 refine D.ok v7 (fun vs H Q E h=> ?_) (fun f bf A outer s H vs Q E hr h=> ?_)
 ·obtain ⟨pA,bA,dT,dU,us,ws,pins,bars,kT,kU,T,U,N,rfl,_⟩:=h
  rfl
 obtain ⟨pA,bA,dT,dU,us,ws,pins,bars,kT,kU,T,U,N,rfl,fr,pl,q⟩:=h
 have lp:=fr.lp
 have lb:=fr.lb
 have lw:ws.length=bars.length:=Paired.length fr.pb
 refine ⟨_,(ae (ba (PW.pt (d3 (cC (bR (aD dC rfl aL bo (ao (pv 2) (ao (ib rfl fj uh) aa))))) (dm (aJ (lh hr.units) (cG (dr rfl) rfl bX fQ (ao (pv 2) aa)) (cg (tn:=["_law_bar"]) (fr:=[]) (caps:=[]) rfl ⟨rfl,by decide+kernel,rfl,by decide+kernel,by decide+kernel,rfl,trivial,trivial⟩ (aY (pv 1)) (fun _ _ _ _=>(au (i:=0) (show (["_law_bar"]:List Str).Nodup from by decide+kernel) rfl (ab_ rfl))) (fun _ _ _ _=>bT) (fun _ _ _ _=>(aT (bO (K:=K) rfl) (pv 0) ag (fun _ _=>rfl)))) (aQ _))))) (ah (aw ck)) aI)
  (ae (ba (PW.pt (d3 (cC (bR (aD dC rfl aL bo (ao (pv 3) (ao (ib rfl fj uh) aa))))) (dm (aJ (lh hr.units) (cG (dr rfl) rfl bX fQ (ao (pv 3) aa)) (cg (tn:=["_law_pin"]) (fr:=[]) (caps:=[]) rfl ⟨rfl,by decide+kernel,rfl,by decide+kernel,by decide+kernel,rfl,trivial,trivial⟩ (aY (pv 0)) (fun _ _ _ _=>(au (i:=0) (show (["_law_pin"]:List Str).Nodup from by decide+kernel) rfl (ab_ rfl))) (fun _ _ _ _=>bT) (fun _ _ _ _=>(aT (bO (K:=K) rfl) (pv 0) ag (fun _ _=>rfl)))) (aQ _))))) (ah (aw ck)) aI)
  (ae (ba (cC (bR (aD (ow rfl) rfl v8 JL (ao (cg (tn:=["_law_bar"]) (fr:=["_law_pulls"]) (caps:=[2]) rfl ⟨rfl,by decide+kernel,rfl,by decide+kernel,by decide+kernel,rfl,⟨(by first | exact ab_ rfl | exact afT rfl),trivial⟩,⟨(by first | exact ab_ rfl | exact afT rfl),trivial⟩⟩ (aY (pv 1)) (fun _ _ _ _=>(au (i:=0) (show (["_law_bar","_law_pulls"]:List Str).Nodup from by decide+kernel) rfl (ab_ rfl))) (fun _ _ _ _=>bT) (fun _ _ _ _=>(aA DG hr.mo (mx (by first | assumption | exact aX.kG) rfl) (ao (bM (bN hr) (pv 1) (aT (bO (K:=K) rfl) (pv 0) ag (fun _ _=>rfl)) (fun _ _=>rfl)) aa)))) aa)))) (ah (aw ck)) aI)
  (ae (bh PassesOwn.never rfl (aY (pv 0)) (dI rfl (aU (au (i:=4) v7.nd rfl (ab_ rfl)) (aU (au (i:=5) v7.nd rfl (ab_ rfl)) (aU (au (i:=6) v7.nd rfl (ab_ rfl)) cz)))) (ae (ba (PW.pt (d3 (cC (bR (aD dC rfl aL bo (ao (bM (bN hr) (pv 3) (pv 4) (fun _ _=>rfl)) (ao (ib rfl bX fQ) aa))))) (dm (aJ d5 (aD aF rfl aZ bQ (ao (bM (bN hr) (pv 3) (pv 4) (fun _ _=>rfl)) aa)) (aD aF rfl aZ bQ (ao (pv 6) aa)) (aQ _))))) (ah (aw ck)) aI)
   (ah (ba (cC (bR (aD (ow rfl) rfl v8 JL (ao (cg (tn:=["_law_one"]) (fr:=[]) (caps:=[]) rfl ⟨rfl,by decide+kernel,rfl,by decide+kernel,by decide+kernel,rfl,trivial,trivial⟩ (aY (bM (bN hr) (pv 3) (pv 4) (fun _ _=>rfl))) (fun _ _ _ _=>(au (i:=0) (show (["_law_one"]:List Str).Nodup from by decide+kernel) rfl (ab_ rfl))) (fun _ _ _ _=>bT) (fun _ _ _ _=>(aA DG hr.mo (mx (by first | assumption | exact aX.kG) rfl) (ao (pv 0) aa)))) aa)))) (ah (aw ck)) aI))))
  (ah (aw ck)))))),?_⟩
 refine ⟨_,rfl,_,_,_,true,rfl,rfl,.dK pl.hT,MK,_,rfl,?_⟩
 refine a8 (fun c=>nomatch c) (fun _=> ?_)
 refine ⟨_,rfl,dT,_,rfl,.inl pl.hT,?_⟩
 intro l1 n1;generalize eX:upd _ l1 _=H1;have ⟨s1,e1⟩:=nw n1 eX;clear eX
 rw [kj (nm:=bg.nm) pl.CG] at e1
 have Zd:=fr.same s1
 refine ⟨_,rfl,bA,rfl,⟨_,aR.of Zd.hb⟩,fun D2 n2=> ?_⟩
 refine gQ (nm:=bg.nm) n2 Zd.hb (ni Zd.pb) (by omega) fun H2 s2 e2=> ?_
 refine qU (s2 _ _ e1) e2 ?_
 refine ⟨_,rfl,?_⟩
 refine a8 (fun c=>nomatch c) (fun _=> ?_)
 have kN:=s1.trans s2
 refine ⟨_,rfl,_,_,_,true,rfl,rfl,.dK (kN _ _ pl.hU),MK,_,rfl,?_⟩
 refine a8 (fun c=>nomatch c) (fun _=> ?_)
 refine ⟨_,rfl,dU,_,rfl,.inl (kN _ _ pl.hU),?_⟩
 intro l3 n3;generalize eX:upd _ l3 _=H3;have ⟨s3,e3⟩:=nw n3 eX;clear eX
 rw [kj (nm:=aE.nm) pl.CH] at e3
 have DH:=kN.trans s3
 have q0:=fr.same DH
 refine ⟨_,rfl,pA,rfl,⟨_,aR.of q0.hp⟩,fun D4 n4=> ?_⟩
 refine gQ (nm:=aE.nm) n4 q0.hp (iN q0.pp) (by omega) fun H4 s4 e4=> ?_
 refine qU (s4 _ _ e3) e4 ?_
 refine ⟨_,rfl,?_⟩
 refine a8 (fun c=>nomatch c) (fun _=> ?_)
 have qO:=DH.trans s4
 refine ⟨_,rfl,bA,rfl,⟨_,aR.of (qO _ _ fr.hb)⟩,fun D5 n5=> ?_⟩
 refine b_ (cap:=[some (.ref dT)]) (K:=K) (a:=bA) (xs:=ws) (fun _ v _=>v=.bl true) n5 (by rw [lw];exact afs (show bars.length≤100 by omega) (by decide)) (fun H5 s5=>aR.of (s5 _ _ (qO _ _ fr.hb))) (fun _ _ _ _ _ _ _ h=>h) ?_ ?_
 ·intro i u H5 R hu s5 k
  obtain ⟨b,eb,c,i1,i2,rfl,h1,_⟩:=aH fr.pb hu
  have tj:=qO.trans s5
  obtain ⟨v,dg,nv⟩:=(pl.same tj).Rx (abt eb)
  exact ⟨_,rfl,_,rfl,c,_,_,_,rfl,rfl,Ty.aq.cN tj h1,rfl,dT,_,rfl,dg,v,_,rfl,nv,fun H6 s6=>k _ _ s6 rfl⟩
 intro ys H5 hy eA s5 hD
 obtain ⟨bs,eb,ea⟩:=tH eA
 refine ⟨D5,bs,rfl,by rw [← eb];exact aR.of hD,?_⟩
 rw [ea]
 refine ⟨_,rfl,?_⟩
 refine a8 (fun c=>nomatch c) (fun _=> ?_)
 have tj:=qO.trans s5
 refine ⟨_,rfl,pA,rfl,⟨_,aR.of (tj _ _ fr.hp)⟩,bI (K:=K) (a:=pA) (xs:=us) (fun i σ H' =>∃(o4 o5 o6:Option V),σ=[some (.ref pA),some (.ref bA),some (.ref dT),some (.ref dU),o4,o5,o6]∧aq H H') ⟨none,none,none,rfl,tj⟩ (fun i σ H' _ h=>by
   obtain ⟨_,_,_,_,s⟩:=h
   exact aR.of (s _ _ fr.hp)) ?_ ?_⟩
 ·rintro i u σ H6 hu ⟨o4,o5,o6,rfl,s6⟩
  obtain ⟨p,ep,yJ⟩:=aH fr.pp hu
  have mp:p∈pins:=abt ep
  obtain ⟨ta,l,sv,eJ,rfl,h1,h2,h3,h4⟩:=yJ.same s6
  refine ⟨ta,_,rfl,h1,rfl,_,_,rfl,_,_,rfl,_,_,rfl,rfl,?_⟩
  obtain ⟨la,xs,dg,et,pu⟩:=(pl.same s6).MM mp
  have lw:eJ.length=p.ws.length:=Paired.length h4
  have lx:xs.length=(U p.nm).length:=Paired.length pu
  have lup:=pl.lU p mp
  have lwp:=(fr.gp.ws p mp).len
  refine ⟨_,rfl,_,rfl,dU,_,rfl,dg,_,_,_,true,rfl,rfl,.lst et,Zc,_,rfl,?_⟩
  refine a8 (fun c=>nomatch c) (fun _=> ?_)
  refine ⟨_,rfl,_,rfl,dU,_,rfl,dg,la,_,rfl,.inl (aR.of et),_,rfl,l,_,rfl,.inl (aR.of h3),rfl,_,rfl,?_⟩
  refine a8 (fun c=>absurd (show (xs.length:Int)=(eJ.length:Int) by omega) (fun e=>by rw [e] at c;simp at c)) (fun _=> ?_)
  refine ⟨_,rfl,_,rfl,dU,_,rfl,dg,la,rfl,⟨_,aR.of et⟩,fun D7 n7=> ?_⟩
  refine b_ (cap:=[]) (K:=K) (a:=la) (xs:=xs) (fun _ v _=>v=.bl true) n7 (afs (show xs.length≤100 by omega) (by decide)) (fun H7 s7=>aR.of (s7 _ _ et)) (fun _ _ _ _ _ _ _ h=>h) ?_ ?_
  ·intro j x H7 R hx s7 k
   obtain ⟨r,er,nr⟩:=aH pu hx
   exact ⟨_,rfl,x,r,rfl,nr.same s7,fun H8 s8=>k _ _ s8 rfl⟩
  intro ys H7 hy eA s7 hD
  obtain ⟨bs,eb,ea⟩:=tH eA
  refine ⟨D7,bs,rfl,by rw [← eb];exact aR.of hD,?_⟩
  rw [ea]
  refine ⟨_,rfl,?_⟩
  refine a8 (fun c=>nomatch c) (fun _=> ?_)
  exact ⟨_,_,_,rfl,s6.trans s7⟩
 ·rintro σ H6 ⟨o4,o5,o6,rfl,s6⟩
  exact q H6 s6
inductive DI (K:Frag)(vs:List V)(H:Hp)(Q:VK)(E_:XK):Prop where
 | mk (pA dM:Addr) (us:List V) (pins:List aE) (kM:List (Key×V)) (M:Str→Rat×Rat) (N:Nat) (_:vs=[.ref pA,.ref dM]) (_:H pA=some (.lst us)) (_:Paired (gm K H) us pins) (_:pins.length≤100) (_:HW K H pins dM kM M N) (_:∀H',aq H H' →Q (.bl true) H'):DI K vs H Q E_
theorem v9:ay ["_law_pins_here","_law_motion","_law_name_here","_law_spot_here","_law_ways_here"] ["_law_pins_here","_law_motion"] (af x_):=sq
theorem Rz (D:Def K mg "_law_is_motion" x_ ["_law_pins_here","_law_motion"])(aL:mg "isinstance"=none)(fj:mg "dict"=none)(bX:mg "list"=none)(dW:mg "tuple"=none)(aZ:mg "len"=none)(DG:Fn P w K mg base (aX P w) 34 "_law_number" ["_law_x"] (jt K)):
  Fn P w K mg base (aX P w) 35 "_law_is_motion" ["_law_pins_here","_law_motion"] (DI K):=by
 refine D.ok v9 (fun vs H Q E h=> ?_) (fun f bf A outer s H vs Q E hr h=> ?_)
 ·obtain ⟨pA,dM,us,pins,kM,M,N,rfl,_⟩:=h
  rfl
 obtain ⟨pA,dM,us,pins,kM,M,N,rfl,hp,pp,lp,mo,q⟩:=h
 refine ⟨_,(ae (ba (PW.pt (d3 (cC (bR (aD dC rfl aL bo (ao (pv 1) (ao (ib rfl fj uh) aa))))) (dm (aJ (lh hr.units) (cG (dr rfl) rfl bX fQ (ao (pv 1) aa)) (cg (tn:=["_law_pin"]) (fr:=[]) (caps:=[]) rfl ⟨rfl,by decide+kernel,rfl,by decide+kernel,by decide+kernel,rfl,trivial,trivial⟩ (aY (pv 0)) (fun _ _ _ _=>(au (i:=0) (show (["_law_pin"]:List Str).Nodup from by decide+kernel) rfl (ab_ rfl))) (fun _ _ _ _=>bT) (fun _ _ _ _=>(aT (bO (K:=K) rfl) (pv 0) ag (fun _ _=>rfl)))) (aQ _))))) (ah (aw ck)) aI)
  (ae (bh PassesOwn.never rfl (aY (pv 0)) (dI rfl (aU (au (i:=2) v9.nd rfl (ab_ rfl)) (aU (au (i:=3) v9.nd rfl (ab_ rfl)) (aU (au (i:=4) v9.nd rfl (ab_ rfl)) cz)))) (ae (ba (PW.pt (d3 (cC (bR (aD dC rfl aL bo (ao (bM (bN hr) (pv 1) (pv 2) (fun _ _=>rfl)) (ao (ib rfl dW pK) aa))))) (dm (aJ d5 (aD aF rfl aZ bQ (ao (bM (bN hr) (pv 1) (pv 2) (fun _ _=>rfl)) aa)) ag (aQ _))))) (ah (aw ck)) aI)
   (ah (ba (PW.pt (d3 (cC (bR (aA DG hr.mo pX (ao (aK (bM (bN hr) (pv 1) (pv 2) (fun _ _=>rfl))) aa)))) (dm (cC (bR (aA DG hr.mo pX (ao (aK (bM (bN hr) (pv 1) (pv 2) (fun _ _=>rfl))) aa))))))) (ah (aw ck)) aI))))
  (ah (aw ck)))),?_⟩
 refine ⟨_,rfl,_,_,_,true,rfl,rfl,.dK mo.hM,MK,_,rfl,?_⟩
 refine a8 (fun c=>nomatch c) (fun _=> ?_)
 refine ⟨_,rfl,dM,_,rfl,.inl mo.hM,?_⟩
 intro l1 n1;generalize eX:upd _ l1 _=H1;have ⟨s1,e1⟩:=nw n1 eX;clear eX
 rw [kj (nm:=aE.nm) mo.keys] at e1
 have pp1:Paired (gm K H1) us pins:=Paired.cw pp fun _ _ z=>z.same s1
 refine ⟨_,rfl,pA,rfl,⟨_,aR.of (s1 _ _ hp)⟩,fun D2 n2=> ?_⟩
 refine gQ (nm:=aE.nm) n2 (s1 _ _ hp) (iN pp1) (by omega) fun H2 s2 e2=> ?_
 refine qU (s2 _ _ e1) e2 ?_
 refine ⟨_,rfl,?_⟩
 refine a8 (fun c=>nomatch c) (fun _=> ?_)
 have kN:=s1.trans s2
 refine ⟨_,rfl,pA,rfl,⟨_,aR.of (kN _ _ hp)⟩,bI (K:=K) (a:=pA) (xs:=us) (fun i σ H' =>∃(o2 o3 o4:Option V),σ=[some (.ref pA),some (.ref dM),o2,o3,o4]∧aq H H') ⟨none,none,none,rfl,kN⟩ (fun i σ H' _ h=>by
   obtain ⟨_,_,_,_,s⟩:=h
   exact aR.of (s _ _ hp)) ?_ ?_⟩
 ·rintro i u σ H4 hu ⟨o2,o3,o4,rfl,s4⟩
  obtain ⟨p,ep,yJ⟩:=aH pp hu
  have mp:p∈pins:=abt ep
  obtain ⟨ta,l,sv,ws,rfl,h1,h2,h3,h4⟩:=yJ.same s4
  refine ⟨ta,_,rfl,h1,rfl,_,_,rfl,_,_,rfl,_,_,rfl,rfl,?_⟩
  obtain ⟨t,v1,v2,dg,et,m1,m2⟩:=(mo.same s4).get mp
  refine ⟨_,rfl,_,rfl,dM,_,rfl,dg,?_⟩
  refine ⟨_,_,_,true,rfl,rfl,.tup et,MJ,_,rfl,?_⟩
  refine a8 (fun c=>nomatch c) (fun _=> ?_)
  refine ⟨_,rfl,_,rfl,dM,_,rfl,dg,t,_,rfl,.inr (bF.of et),rfl,_,rfl,?_⟩
  refine zJ rfl ?_
  refine ⟨_,rfl,_,rfl,dM,_,rfl,dg,t,_,_,_,rfl,rfl,bF.of et,iP,_,_,rfl,m1,fun H5 s5=> ?_⟩
  refine ⟨_,rfl,?_⟩
  refine a8 (fun c=>nomatch c) (fun _=> ?_)
  obtain ⟨t,v1,v2,dg,et,m1,m2⟩:=(mo.same (s4.trans s5)).get mp
  refine ⟨_,rfl,_,rfl,dM,_,rfl,dg,t,_,_,_,rfl,rfl,bF.of et,iQ,_,_,rfl,m2,fun H6 s6=> ?_⟩
  refine ⟨_,rfl,?_⟩
  refine a8 (fun c=>nomatch c) (fun _=> ?_)
  exact ⟨_,_,_,rfl,s4.trans (s5.trans s6)⟩
 ·rintro σ H4 ⟨o2,o3,o4,rfl,s4⟩
  exact q H4 s4
inductive nj (K:Frag)(vs:List V)(H:Hp)(Q:VK)(E_:XK):Prop where
 | mk (pA bA dT dU dL:Addr) (us ws:List V) (pins:List aE) (bars:List bg) (kT kU kL:List (Key×V)) (T:Str→Rat) (U:Str→List Rat) (N:Nat) (L:Str→Option (Rat×Rat)) (_:vs=[.ref pA,.ref bA,.ref dT,.ref dU,.ref dL]) (_:Ku K H pA bA us ws pins bars) (_:ED K H pins bars dT dU kT kU T U N) (_:H dL=some (.dK kL)) (_:LP K H kL L) (_:YA L) (_:CI pins bars T U L) (_:∀H',aq H H' →Q (.bl true) H'):nj K vs H Q E_
theorem oW:ay ["_law_pins_here","_law_bars_here","_law_pulls","_law_pushes","_law_load","_law_some","_law_found","_law_k","_law_drawn","_law_axis"] ["_law_pins_here","_law_bars_here","_law_pulls","_law_pushes","_law_load"] (af ya):=sq
theorem RB (D:Def K mg "_law_at_rest" ya ["_law_pins_here","_law_bars_here","_law_pulls","_law_pushes","_law_load"])(aZ:mg "len"=none)(bw:mg "range"=none)(Ze:Fn P w K mg base (aX P w) 3 "_law_forces" ["_law_pins_here","_law_bars_here","_law_pulls","_law_pushes"] (nh K))(m9:Fn P w K mg base (aX P w) 1 "_law_sum" ["_law_one","_law_other"] (b8 K fm)):
  Fn P w K mg base (aX P w) 4 "_law_at_rest" ["_law_pins_here","_law_bars_here","_law_pulls","_law_pushes","_law_load"] (nj K):=by
 refine D.ok oW (fun vs H Q E h=> ?_) (fun f bf A outer s H vs Q E hr h=> ?_)
 ·obtain ⟨pA,bA,dT,dU,dL,us,ws,pins,bars,kT,kU,kL,T,U,N,L,rfl,_⟩:=h
  rfl
 obtain ⟨pA,bA,dT,dU,dL,us,ws,pins,bars,kT,kU,kL,T,U,N,L,rfl,fr,pl,hL,pL,zL,rest,q⟩:=h
 have L2:2≤sizeLine:=by decide
 have lp:=fr.lp
 have lb:=fr.lb
 have hN:=pl.hN
 have lu:us.length=pins.length:=Paired.length fr.pp
 have lw:ws.length=bars.length:=Paired.length fr.pb
 refine ⟨_,(ae (fU (i:=5) oW.nd rfl (ab_ rfl) (tn:=["_law_pin"]) (fr:=["_law_pushes"]) (caps:=[3]) rfl ⟨rfl,by decide+kernel,rfl,by decide+kernel,by decide+kernel,rfl,⟨(by first | exact ab_ rfl | exact afT rfl),trivial⟩,⟨(by first | exact ab_ rfl | exact afT rfl),trivial⟩⟩ (aY (pv 0)) (fun _ _ _ _=>(au (i:=0) (show (["_law_pin","_law_pushes"]:List Str).Nodup from by decide+kernel) rfl (ab_ rfl))) (fun _ _ _ _=>bT) (fun _ _ _ _=>(bM (bN hr) (pv 1) (aT (bO (K:=K) rfl) (pv 0) ag (fun _ _=>rfl)) (fun _ _=>rfl))))
  (ae (aG (i:=6) oW.nd rfl (ab_ rfl) (aA Ze hr.mo pX (ao (pv 0) (ao (pv 1) (ao (cg (tn:=["_law_bar"]) (fr:=["_law_pulls"]) (caps:=[2]) rfl ⟨rfl,by decide+kernel,rfl,by decide+kernel,by decide+kernel,rfl,⟨(by first | exact ab_ rfl | exact afT rfl),trivial⟩,⟨(by first | exact ab_ rfl | exact afT rfl),trivial⟩⟩ (aY (pv 1)) (fun _ _ _ _=>(au (i:=0) (show (["_law_bar","_law_pulls"]:List Str).Nodup from by decide+kernel) rfl (ab_ rfl))) (fun _ _ _ _=>bT) (fun _ _ _ _=>(bM (bN hr) (pv 1) (aT (bO (K:=K) rfl) (pv 0) ag (fun _ _=>rfl)) (fun _ _=>rfl)))) (ao (pv 5) aa))))))
  (ae (bh PassesOwn.never rfl (b9 rfl bw (ao (aD aF rfl aZ bQ (ao (pv 0) aa)) aa)) (au (i:=7) oW.nd rfl (ab_ rfl)) (ae (aG (i:=8) oW.nd rfl (ab_ rfl) (sk (bN hr) (pv 4) (aK (aT aS (pv 0) (pv 7) (fun _ _=>rfl))) (aV (ao (aV (ao ag (ao ag aa))) (ao (aV (ao ag (ao ag aa))) aa))) ⟨rfl,rfl,rfl,rfl⟩))
   (ah (bh PassesOwn.never rfl (b9 rfl bw (ao ag aa)) (au (i:=9) oW.nd rfl (ab_ rfl)) (ah (ba (aJ d5 (aK (aA m9 hr.mo pX (ao (aT aS (aT aS (pv 6) (pv 7) (fun _ _=>rfl)) (pv 9) (fun _ _=>rfl)) (ao (aT iy (pv 8) (pv 9) (fun _ _=>rfl)) aa)))) ag (aQ _)) (ah (aw ck)) aI))))))
  (ah (aw ck))))),?_⟩
 refine ⟨_,rfl,pA,rfl,⟨_,aR.of fr.hp⟩,fun D1 n1=> ?_⟩
 refine b_ (cap:=[some (.ref dU)]) (K:=K) (a:=pA) (xs:=us) (fun i v H' =>∃p la ys,pins[i]? =some p∧v=.ref la∧H la=some (.lst ys)∧Paired (dE K H) ys (U p.nm)) n1 (by rw [lu];exact afs (show pins.length≤100 by omega) (by decide)) (fun H5 s5=>aR.of (s5 _ _ fr.hp)) (fun _ _ _ _ _ _ _ h=>h) ?_ ?_
 ·intro i u H5 R hu s5 k
  obtain ⟨p,ep,c,l,sv,jI,rfl,h1,_⟩:=aH fr.pp hu
  obtain ⟨la,ys,dg,WD,pu⟩:=pl.MM (abt ep)
  obtain ⟨la',XH,dg',asQ,_⟩:=(pl.same s5).MM (abt ep)
  obtain ⟨Wy,ys2,g1,g2,g3⟩:=pl.tU p (abt ep)
  have Zf:cH H5 dU (.str p.nm) (some (.ref Wy)):=by
   have:=cH.k (k:=.inr p.nm) (s5 _ _ pl.hU)
   rw [g1] at this
   exact this
  exact ⟨_,rfl,_,rfl,c,_,_,_,rfl,rfl,Ty.aq.cN s5 h1,rfl,dU,_,rfl,Zf,k _ _ (aq.refl _) ⟨p,Wy,ys2,ep,rfl,g2,g3⟩⟩
 intro xs H2 hx eA s2 hD
 refine ⟨_,rfl,_,rfl,_,rfl,bA,rfl,⟨_,aR.of (s2 _ _ fr.hb)⟩,fun D3 n3=> ?_⟩
 refine b_ (cap:=[some (.ref dT)]) (K:=K) (a:=bA) (xs:=ws) (fun i v _=>∃b,bars[i]? =some b∧dE K H v (T b.nm)) n3 (by rw [lw];exact afs (show bars.length≤100 by omega) (by decide)) (fun H5 s5=>aR.of (s5 _ _ (s2 _ _ fr.hb))) (fun _ _ _ _ _ _ _ h=>h) ?_ ?_
 ·intro i u H5 R hu s5 k
  obtain ⟨b,eb,c,i1,i2,rfl,h1,_⟩:=aH fr.pb hu
  have tj:=s2.trans s5
  obtain ⟨v,g1,g2⟩:=pl.tT b (abt eb)
  have Zf:cH H5 dT (.str b.nm) (some v):=by
   have:=cH.k (k:=.inr b.nm) (tj _ _ pl.hT)
   rw [g1] at this
   exact this
  exact ⟨_,rfl,_,rfl,c,_,_,_,rfl,rfl,Ty.aq.cN tj h1,rfl,dT,_,rfl,Zf,k _ _ (aq.refl _) ⟨b,eb,g2⟩⟩
 intro ts H3 ht hrt s3 hT
 have DH:=s2.trans s3
 have fo:LFo K H3 D3 D1 ts xs pins bars T U N:=by
  refine ⟨hT,fJ (by omega) fun i v e=> ?_,s3 _ _ hD,fJ (by omega) fun i v e=> ?_,pl.lU,pl.hN⟩
  ·obtain ⟨b,eb,nv⟩:=hrt i v e
   exact ⟨b,eb,dO (nv.same DH) (pl.zT b (abt eb))⟩
  ·obtain ⟨p,la,ys,ep,rfl,WD,pu⟩:=eA i v e
   have mp:=abt ep
   refine ⟨p,ep,la,ys,rfl,DH _ _ WD,fJ (Paired.length pu) fun j y ey=> ?_⟩
   obtain ⟨r,er,nr⟩:=aH pu ey
   exact ⟨r,er,dO (nr.same DH) (pl.zU p mp r (abt er))⟩
 refine ⟨_,rfl,pA,bA,D3,D1,us,ws,ts,xs,pins,bars,T,U,N,rfl,fr.same DH,fo,fun fA ls F H4 s4 ll hF eF=> ?_⟩
 have qO:=DH.trans s4
 have en:((us.length:Nat):Int).toNat=us.length:=by omega
 refine ⟨_,rfl,pA,_,rfl,.inl (aR.of (qO _ _ fr.hp)),((us.length:Nat):Int),rfl,by omega,by omega,cn (lo:=0) (n:=((us.length:Nat):Int).toNat) (fun t σ H' =>∃(o7 o8 o9:Option V),σ=[some (.ref pA),some (.ref bA),some (.ref dT),some (.ref dU),some (.ref dL),some (.ref D1),some (.ref fA),o7,o8,o9]∧aq H4 H') ⟨none,none,none,rfl,aq.refl _⟩ ?_ ?_⟩
 ·rintro t σ H5 ht ⟨o7,o8,o9,rfl,s5⟩
  have ek:(0:Int)+(t:Int)=(t:Int):=af1 _
  rw [ek]
  have tj:=qO.trans s5
  have htu:t < us.length:=by omega
  obtain ⟨p,ep,yJ⟩:=aH fr.pp (gE htu)
  have mp:=abt ep
  have atu:ft us (t:Int)=some us[t]:=bH (gE htu)
  obtain ⟨c,l,sv,jI,ec,h1,_,_,_⟩:=yJ
  rw [ec] at atu
  refine ⟨_,rfl,dL,rfl,.inl ⟨_,.inl (tj _ _ hL)⟩,_,rfl,_,rfl,pA,_,_,_,rfl,rfl,aR.of (tj _ _ fr.hp),atu,c,_,_,_,rfl,rfl,Ty.aq.cN tj h1,dG,L2,?_⟩
  intro p7 n7;generalize eX:upd _ p7 _=H7;have ⟨s7,e7⟩:=nw n7 eX;clear eX
  refine ⟨L2,?_⟩
  intro p8 n8;generalize eX:upd _ p8 _=H8;have ⟨s8,e8⟩:=nw n8 eX;clear eX
  refine ⟨L2,?_⟩
  intro p9 n9;generalize eX:upd _ p9 _=H9;have ⟨s9,e9⟩:=nw n9 eX;clear eX
  have Zg:=s7.trans (s8.trans s9)
  have Kr:=tj.trans Zg
  refine ⟨_,cH.k (k:=.inr p.nm) (Kr _ _ hL),?_⟩
  have hd:eh K H9 ((bV kL (.inr p.nm)).getD (.ref p9)) (mv L p.nm):=(pL.same Kr).Pb (tf cy cy e9 (s9 _ _ (s8 _ _ e7)) (s9 _ _ e8))
  have zd:=zL p.nm
  generalize (bV kL (.inr p.nm)).getD (.ref p9)=dv at hd ⊢
  obtain ⟨da,u1,u2,rfl,hdq,Yw,hd2⟩:=hd
  refine ⟨(2:Int),rfl,by decide,by decide,cn (lo:=0) (n:=2) (fun k σ H' =>∃(o9:Option V),σ=[some (.ref pA),some (.ref bA),some (.ref dT),some (.ref dU),some (.ref dL),some (.ref D1),some (.ref fA),some (.int (t:Int)),some (.ref da),o9]∧aq H9 H') ⟨o9,rfl,aq.refl _⟩ ?_ ?_⟩
  ·rintro k σ rY hk ⟨o9,rfl,vx⟩
   have ek:(0:Int)+(k:Int)=(k:Int):=af1 _
   rw [ek]
   have EC:(k:Int)=0∨(k:Int)=1:=by omega
   have F10:=hF.same (s5.trans (Zg.trans vx))
   obtain ⟨lr,elr⟩:∃lr,ls[t]? =some lr:=⟨_,gE (by omega)⟩
   obtain ⟨w1,w2,hlr,nw1,nw2⟩:=F10.row t lr elr
   obtain ⟨f1,f2⟩:=eF t p ep
   obtain ⟨r1,r2⟩:=rest p mp
   obtain ⟨x,y,X,Y,a1,a2,nx,ny,zy,e0⟩:∃(x y:V) (X Y:Rat),ft [w1,w2] (k:Int)=some x∧ft [u1,u2] (k:Int)=some y∧gN K rY x (1+52*(N+51)) X∧dE K rY y Y∧Sz 45 Y∧X+Y=0:=by
    rcases EC with e | e
    ·exact ⟨w1,u1,_,_,by rw [e];rfl,by rw [e];rfl,nw1,Yw.same vx,zd.1,by rw [f1];exact r1⟩
    ·exact ⟨w2,u2,_,_,by rw [e];rfl,by rw [e];rfl,nw2,hd2.same vx,zd.2,by rw [f2];exact r2⟩
   have etl:ft (ls.map V.ref) (t:Int)=some (.ref lr):=bH (by rw [aa_,elr];rfl)
   refine ⟨_,rfl,_,rfl,fA,_,_,_,rfl,rfl,aR.of F10.hf,etl,_,rfl,lr,_,_,_,rfl,rfl,aR.of hlr,a1,_,rfl,_,rfl,da,_,_,_,rfl,rfl,Ty.aq.cN vx hdq,a2,?_⟩
   dsimp only [gk]
   show b8 K fm [_,_] _ _ E0
   refine jn nx (dO ny (oT zy (ad_ _))) (by omega) fun Ys P0 ig NC=> ?_
   rw [e0] at NC
   obtain ⟨z,⟨asY,e12,k1⟩,k2,k3,_⟩:=NC
   cases e12
   have z0:z.1=0:=(qI k2).mpr k3
   rw [z0] at k1
   refine ⟨Ys,_,_,_,rfl,rfl,k1,iP,rfl,_,rfl,?_⟩
   refine a8 (fun c=>by simp at c) (fun _=> ?_)
   exact ⟨_,rfl,vx.trans ig⟩
  ·rintro σ rY ⟨o9,rfl,vx⟩
   exact ⟨_,_,_,rfl,s5.trans (Zg.trans vx)⟩
 ·rintro σ H5 ⟨o7,o8,o9,rfl,s5⟩
  exact q H5 (qO.trans s5)
def Kw (K:Frag)(H:Hp)(pins:List aE)(bars:List bg)(x:Str)(p:Addr)(N:Nat):Prop:=∃(dM:Addr) (kM:List (Key×V)) (M:Str→Rat×Rat),H p=some (.tup [.str "looser",.ref dM])∧HW K H pins dM kM M N∧qH pins bars x M
def ToldF (K:Frag)(H:Hp)(pins:List aE)(bars:List bg)(x:Str)(p:Addr)(N:Nat):Prop:=∃(dT dU:Addr) (kT kU:List (Key×V)) (T:Str→Rat) (U:Str→List Rat),H p=some (.tup [.str "less",.ref dT,.ref dU])∧ED K H pins bars dT dU kT kU T U N∧m4 pins bars T U∧T x=1
theorem tI {pins:List aE}{bars:List bg}{T:Str→Rat}{U:Str→List Rat}(h:m4 pins bars T U):CI pins bars T U (fun _=>none):=fun p hp=>by
 obtain ⟨h1,h2⟩:=h p hp
 refine ⟨?_,?_⟩
 ·rw [h1]
  show (0:Rat)+0=0
  grind
 ·rw [h2]
  show (0:Rat)+0=0
  grind
inductive qV (K:Frag)(vs:List V)(H:Hp)(Q:VK)(E_:XK):Prop where
 | mk (pA bA p:Addr) (us ws:List V) (pins:List aE) (bars:List bg) (x:Str) (N:Nat) (_:vs=[.ref pA,.ref bA,.str x,.ref p]) (_:Ku K H pA bA us ws pins bars) (_:x∈bars.map (·.nm)) (_:(Kw K H pins bars x p N∨ToldF K H pins bars x p N)) (_:∀H',aq H H' →Q (.bl true) H'):qV K vs H Q E_
theorem DJ:ay ["_law_pins_here","_law_bars_here","_law_name_here","_law_told","_law_bar","_law_longer_here"] ["_law_pins_here","_law_bars_here","_law_name_here","_law_told"] (af yf):=sq
theorem RD (D:Def K mg "_law_right" yf ["_law_pins_here","_law_bars_here","_law_name_here","_law_told"])(aZ:mg "len"=none)(aL:mg "isinstance"=none)(dW:mg "tuple"=none)(Zh:Fn P w K mg base (aX P w) 35 "_law_are_forces" ["_law_pins_here","_law_bars_here","_law_pulls","_law_pushes"] (u6 K))(Zi:Fn P w K mg base (aX P w) 4 "_law_at_rest" ["_law_pins_here","_law_bars_here","_law_pulls","_law_pushes","_law_load"] (nj K))(Zj:Fn P w K mg base (aX P w) 35 "_law_is_motion" ["_law_pins_here","_law_motion"] (DI K))(Zk:Fn P w K mg base (aX P w) 3 "_law_longer" ["_law_pins_here","_law_bar","_law_motion"] (ng K))(Zl:Fn P w K mg base (aX P w) 3 "_law_keeps" ["_law_pins_here","_law_motion"] (qS K)):
  Fn P w K mg base (aX P w) 36 "_law_right" ["_law_pins_here","_law_bars_here","_law_name_here","_law_told"] (qV K):=by
 refine D.ok DJ (fun vs H Q E h=> ?_) (fun f bf A outer s H vs Q E hr h=> ?_)
 ·obtain ⟨pA,bA,p,us,ws,pins,bars,x,N,rfl,_⟩:=h
  rfl
 obtain ⟨pA,bA,p,us,ws,pins,bars,x,N,rfl,fr,hx,told,q⟩:=h
 have L2:2≤sizeLine:=by decide
 have lp:=fr.lp
 refine ⟨_,(ae (ba (PW.pt (d3 (cC (bR (aD dC rfl aL bo (ao (pv 3) (ao (ib rfl dW pK) aa))))) (dm (aJ fP (aD aF rfl aZ bQ (ao (pv 3) aa)) (bS (ao ag (ao ag aa))) rfl)))) (ah (aw ck)) aI)
  (ae (ba (PW.pt (jB (aJ cP (aK (pv 3)) cL (aQ _)) (jB (aJ cP (aD aF rfl aZ bQ (ao (pv 3) aa)) ag (aQ _)) (iR (bR (aA Zh hr.mo pX (ao (pv 0) (ao (pv 1) (ao (aK (pv 3)) (ao (aK (pv 3)) aa)))))))))) (ah (aw (yZ (gS (k_ hr.units) (bM (bN hr) (aK (pv 3)) (pv 2) (fun _ _=>rfl)) (aV (ao ag (ao ag aa))) (aQ _)) (yY (aA Zi hr.mo pX (ao (pv 0) (ao (pv 1) (ao (aK (pv 3)) (ao (aK (pv 3)) (ao ef aa)))))))))) aI)
  (ae (ba (PW.pt (d3 (aJ d5 (aK (pv 3)) cL (aQ _)) (d3 (aJ d5 (aD aF rfl aZ bQ (ao (pv 3) aa)) ag (aQ _)) (dm (cC (bR (aA Zj hr.mo pX (ao (pv 0) (ao (aK (pv 3)) aa))))))))) (ah (aw ck)) aI)
  (ae (bh PassesOwn.never rfl (aY (pv 1)) (au (i:=4) DJ.nd rfl (ab_ rfl)) (ae (aG (i:=5) DJ.nd rfl (ab_ rfl) (aA Zk hr.mo pX (ao (pv 0) (ao (pv 4) (ao (aK (pv 3)) aa)))))
   (ah (ba (PW.pt (d3 (PW.pt (jB (aJ cP (aK (pv 4)) (pv 2) (aQ _)) (iR (aJ d5 (aK (pv 5)) (aK (pv 5)) (aQ _))))) (dm (PW.pt (jB (aJ d5 (aK (pv 4)) (pv 2) (aQ _)) (iR (aJ d5 (aK (pv 5)) ag (aQ _)))))))) (ah (aw ck)) aI))))
  (ah (aw (aA Zl hr.mo pX (ao (pv 0) (ao (aK (pv 3)) aa))))))))),?_⟩
 rcases told with ⟨dM,kM,M,hp,mo,tk⟩ | ⟨dT,dU,kT,kU,T,U,hp,pl,no,tx⟩
 ·refine ⟨_,rfl,_,_,_,true,rfl,rfl,.tup hp,MJ,_,rfl,?_⟩
  refine a8 (fun c=>nomatch c) (fun _=> ?_)
  refine ⟨_,rfl,p,_,rfl,.inr (bF.of hp),L2,?_⟩
  intro l1 n1;generalize eX:upd _ l1 _=H1;have ⟨s1,e1⟩:=nw n1 eX;clear eX
  refine ⟨l1,_,rfl,.inl (aR.of e1),rfl,rfl,_,rfl,?_⟩
  refine a8 (fun c=>absurd c (by show ¬ ((!yO (V.int 2) [V.int 2,V.int 3])=true);decide)) (fun _=> ?_)
  have H_:=s1 _ _ hp
  refine ⟨_,rfl,p,_,_,_,rfl,rfl,bF.of H_,rfl,rfl,_,rfl,?_⟩
  refine a8 (fun c=>absurd c (by simp [ia];decide+kernel)) (fun _=> ?_)
  refine ⟨_,rfl,p,_,_,_,rfl,rfl,bF.of H_,rfl,rfl,_,rfl,?_⟩
  refine a8 (fun c=>absurd c (by simp [ia])) (fun _=> ?_)
  refine ⟨_,rfl,p,_,rfl,.inr (bF.of H_),rfl,_,rfl,?_⟩
  refine zJ rfl ?_
  refine ⟨_,rfl,_,rfl,p,_,_,_,rfl,rfl,bF.of H_,rfl,pA,dM,us,pins,kM,M,N,rfl,s1 _ _ fr.hp,(fr.same s1).pp,by omega,mo.same s1,fun H2 s2=> ?_⟩
  refine ⟨_,rfl,?_⟩
  refine a8 (fun c=>nomatch c) (fun _=> ?_)
  have kN:=s1.trans s2
  refine ⟨_,rfl,bA,rfl,⟨_,aR.of (kN _ _ fr.hb)⟩,bI (K:=K) (a:=bA) (xs:=ws) (fun i σ H' =>∃(o4 o5:Option V),σ=[some (.ref pA),some (.ref bA),some (.str x),some (.ref p),o4,o5]∧aq H H') ⟨none,none,rfl,kN⟩ (fun i σ H' _ h=>by
    obtain ⟨_,_,_,s⟩:=h
    exact aR.of (s _ _ fr.hb)) ?_ ?_⟩
  ·rintro i u σ H3 hu ⟨o4,o5,rfl,s3⟩
   obtain ⟨b,eb,yK⟩:=aH fr.pb hu
   have mb:b∈bars:=abt eb
   have lb:=tk.bars b mb
   have q0:=fr.same s3
   refine ⟨_,rfl,_,rfl,_,rfl,p,_,_,_,rfl,rfl,bF.of (s3 _ _ hp),rfl,pA,dM,us,pins,u,b,kM,M,N,rfl,q0.hp,q0.pp,fr.gp,yK.same s3,mo.same s3,fun v H4 s4 n4=> ?_⟩
   obtain ⟨z,⟨pz,rfl,k1⟩,k2,k3,_⟩:=n4
   obtain ⟨ta,i1,i2,rfl,HY,_,_⟩:=(yK.same s3).same s4
   rw [lb] at k3
   have s34:=s3.trans s4
   by_cases c:b.nm=x
   ·rw [if_pos c] at k3
    have e0:z.1=z.2:=(Mr k2).mpr k3
    rw [e0] at k1
    refine ⟨_,rfl,ta,_,_,_,rfl,rfl,HY,dG,_,rfl,rfl,_,rfl,?_⟩
    refine a8 (fun _=> ?_) (fun h=>absurd (by rw [c];simp [ia]) h)
    refine ⟨_,rfl,pz,_,_,_,rfl,rfl,k1,iP,_,rfl,pz,_,_,_,rfl,rfl,k1,iQ,rfl,_,rfl,?_⟩
    refine a8 (fun h=>by simp at h) (fun _=> ?_)
    refine ⟨_,rfl,ta,_,_,_,rfl,rfl,HY,dG,_,rfl,rfl,_,rfl,?_⟩
    refine a8 (fun h=>absurd h (by rw [c];simp [ia])) (fun _=> ?_)
    exact ⟨_,_,rfl,s34⟩
   ·rw [if_neg c] at k3
    have e0:z.1=0:=(qI k2).mpr k3
    rw [e0] at k1
    have c' :¬ (V.str b.nm=V.str x):=fun h=>c (by injection h)
    refine ⟨_,rfl,ta,_,_,_,rfl,rfl,HY,dG,_,rfl,rfl,_,rfl,?_⟩
    refine a8 (fun h=>absurd h (by simp [ia,c'])) (fun _=> ?_)
    refine ⟨_,rfl,ta,_,_,_,rfl,rfl,HY,dG,_,rfl,rfl,_,rfl,?_⟩
    refine a8 (fun _=> ?_) (fun h=>absurd (by simp [ia,c']) h)
    refine ⟨_,rfl,pz,_,_,_,rfl,rfl,k1,iP,rfl,_,rfl,?_⟩
    refine a8 (fun h=>by simp at h) (fun _=> ?_)
    exact ⟨_,_,rfl,s34⟩
  ·rintro σ H3 ⟨o4,o5,rfl,s3⟩
   have q0:=fr.same s3
   exact ⟨_,rfl,_,rfl,p,_,_,_,rfl,rfl,bF.of (s3 _ _ hp),rfl,pA,dM,us,pins,kM,M,N,rfl,q0.hp,q0.pp,fr.gp,mo.same s3,tk.YK,fun H4 s4=>q H4 (s3.trans s4)⟩
 ·refine ⟨_,rfl,_,_,_,true,rfl,rfl,.tup hp,MJ,_,rfl,?_⟩
  refine a8 (fun c=>nomatch c) (fun _=> ?_)
  refine ⟨_,rfl,p,_,rfl,.inr (bF.of hp),L2,?_⟩
  intro l1 n1;generalize eX:upd _ l1 _=H1;have ⟨s1,e1⟩:=nw n1 eX;clear eX
  refine ⟨l1,_,rfl,.inl (aR.of e1),rfl,rfl,_,rfl,?_⟩
  refine a8 (fun c=>absurd c (by show ¬ ((!yO (V.int 3) [V.int 2,V.int 3])=true);decide)) (fun _=> ?_)
  have H_:=s1 _ _ hp
  refine ⟨_,rfl,p,_,_,_,rfl,rfl,bF.of H_,rfl,rfl,_,rfl,?_⟩
  refine a8 (fun _=> ?_) (fun c=>absurd (by simp [ia]) c)
  refine ⟨_,rfl,p,_,rfl,.inr (bF.of H_),rfl,_,rfl,?_⟩
  refine a8 (fun _=> ?_) (fun c=>absurd rfl c)
  refine ⟨_,rfl,_,rfl,_,rfl,p,_,_,_,rfl,rfl,bF.of H_,rfl,_,rfl,p,_,_,_,rfl,rfl,bF.of H_,rfl,pA,bA,dT,dU,us,ws,pins,bars,kT,kU,T,U,N,rfl,fr.same s1,pl.same s1,fun H2 s2=> ?_⟩
  refine ⟨_,rfl,?_⟩
  refine a8 (fun _=> ?_) (fun c=>absurd rfl c)
  have kN:=s1.trans s2
  have w6:=kN _ _ hp
  obtain ⟨b,mb,eb⟩:=afr.mp hx
  obtain ⟨v,dg,nv⟩:=(pl.same kN).Rx mb
  rw [eb] at dg nv
  refine ⟨_,rfl,p,_,_,_,rfl,rfl,bF.of w6,rfl,_,rfl,dT,_,rfl,dg,L2,?_⟩
  intro t3 n3;generalize eX:upd _ t3 _=H3;have ⟨s3,e3⟩:=nw n3 eX;clear eX
  rw [tx] at nv
  have nv3:jy K H3 v (1,1):=by
   rw [← mT]
   exact nv.same s3
  refine ⟨_,_,.inl ⟨g6 nv3,g6 (q:=(1,1)) ⟨t3,rfl,bF.of e3⟩⟩,rfl,vv,?_⟩
  rw [v3 (1,1)]
  refine ⟨_,rfl,?_⟩
  refine a8 (fun _=> ?_) (fun c=>absurd rfl c)
  have DH:=kN.trans s3
  have Wk:=DH _ _ hp
  refine ⟨_,rfl,_,rfl,_,rfl,p,_,_,_,rfl,rfl,bF.of Wk,rfl,_,rfl,p,_,_,_,rfl,rfl,bF.of Wk,rfl,?_⟩
  intro d4 n4;generalize eX:upd _ d4 _=H4;have ⟨s4,e4⟩:=nw n4 eX;clear eX
  have qO:=DH.trans s4
  refine ⟨pA,bA,dT,dU,d4,us,ws,pins,bars,kT,kU,[],T,U,N,fun _=>none,rfl,fr.same qO,pl.same qO,e4,fun nm=>.inl ⟨rfl,rfl⟩,fun y=>⟨gc (by decide),gc (by decide)⟩,tI no,fun H5 s5=>q H5 (qO.trans s5)⟩
inductive fL (K:Frag)(C:Addr)(vs:List V)(H:Hp)(Q:VK)(E_:XK):Prop where
 | mk (a:Addr) (pins:List aE) (bars:List bg) (x:Str) (_:vs=[.ref a,.str x]) (_:vH K H C a pins bars) (_:eY pins bars) (_:x∉bars.map (·.nm)) (_:∀(H' :Hp),aq H H' →Q (.bl true) H'):fL K C vs H Q E_
theorem Kx:ay ["_law_frame_here","_law_name_here","e"] ["_law_frame_here","_law_name_here"] (af yg):=sq
theorem RE {C CN CP CT CB:Addr}(D:Def K mg "_law_refused" yg ["_law_frame_here","_law_name_here"])(yI:mg "NoBar"=some (.ref CN))(MO:mg "NoPin"=some (.ref CP))(MQ:mg "BarThere"=some (.ref CB))(MR:mg "TooMany"=some (.ref CT))(aL:mg "isinstance"=none)(xn:TyExc.rW K CN "bar")
  (em:PySem.W.exmOne K (.ref CN) (.ref CN)=some true) (kp:PySem.W.kitOne K (.ref CN) (.ref CP)=some false) (kb:PySem.W.kitOne K (.ref CN) (.ref CB)=some false) (kt:PySem.W.kitOne K (.ref CN) (.ref CT)=some false)
  (yL:Fn P w K mg base (aX P w) 39 "would_take" ["F","name"] (jZ K C CN)):Fn P w K mg base (aX P w) 40 "_law_refused" ["_law_frame_here","_law_name_here"] (fL K C):=by
 refine D.ok Kx (fun vs H Q E h=> ?_) (fun f bf A outer s H vs Q E hr h=> ?_)
 ·obtain ⟨a,pins,bars,x,rfl,_⟩:=h
  rfl
 obtain ⟨a,pins,bars,x,rfl,R,g,nx,q⟩:=h
 refine ⟨_,(ae (zZ ⟨rfl,rfl⟩ (rT (JO yL hr.mo (ao (pv 0) (ao (pv 1) aa)))) (JM (i:=2) (zY.own yI) Kx.nd rfl rfl (fun a=>(ae (ba (PW.pt (d3 (bR (aD (gW (K:=K) rfl) rfl aL bo (ao (pv 2) (ao (uk rfl MO) aa)))) (d3 (bR (aD (gW (K:=K) rfl) rfl aL bo (ao (pv 2) (ao (uk rfl MQ) aa)))) (dm (bR (aD (gW (K:=K) rfl) rfl aL bo (ao (pv 2) (ao (uk rfl MR) aa)))))))) (ah (aw ck)) aI)
   (ah (aw (gS cP (BE (K:=K) rfl (pv 2) rfl) (pv 1) (aQ _)))))) zX))
  (ah (aw ck))),?_⟩
 refine ⟨_,rfl,_,rfl,a,pins,bars,x,rfl,R,g,fun _ e H' sH nd hd=> ?_,fun _ _ _ _ _ hx=>absurd hx nx,fun _ _ _ _ _ _ _ _ _ hx=>absurd hx nx⟩
 refine ⟨true,em,Oo fun ea na=> ?_⟩
 have hda:e≠ea:=ak hd na
 have sE:aq H' (upd H' ea (kH (.ref CN) ea (some e))):=aC na _
 have ee:(upd H' ea (kH (.ref CN) ea (some e))) ea=some (kH (.ref CN) ea (some e)):=ai
 generalize upd H' ea (kH (.ref CN) ea (some e))=H2 at sE ee ⊢
 refine ⟨_,rfl,ea,CN,_,false,_,rfl,rfl,ee,xn.k,kp,_,rfl,?_⟩
 refine a8 (fun c=>nomatch c) (fun _=> ?_)
 refine ⟨_,rfl,ea,CN,_,false,_,rfl,rfl,ee,xn.k,kb,_,rfl,?_⟩
 refine a8 (fun c=>nomatch c) (fun _=> ?_)
 refine ⟨_,rfl,ea,CN,_,false,_,rfl,rfl,ee,xn.k,kt,_,rfl,?_⟩
 refine a8 (fun c=>nomatch c) (fun _=> ?_)
 refine ⟨_,rfl,ea,CN,e,_,.str x,rfl,ee,sE _ _ hd,xn,P5 _ _,_,rfl,rfl,?_⟩
 have:=q H2 (sH.trans sE)
 have eb:decide (V.str x=V.str x)=true:=decide_eq_true rfl
 rw [← eb] at this
 exact this
theorem Ky:ay ["_law_frame_here","_law_name_here","e"] ["_law_frame_here","_law_name_here"] (af yh):=sq
theorem RF {C CN CY:Addr}(D:Def K mg "_law_refused_by_any" yh ["_law_frame_here","_law_name_here"])(yB:mg "YardError"=some (.ref CY))(aL:mg "isinstance"=none)(gd:mg "ValueError"=none)(xn:TyExc.rW K CN "bar")
  (em:PySem.W.exmOne K (.ref CN) (.ref CY)=some true) (kv:PySem.W.kitOne K (.ref CN) (.type "ValueError")=some true)
  (yL:Fn P w K mg base (aX P w) 39 "would_take" ["F","name"] (jZ K C CN)):Fn P w K mg base (aX P w) 40 "_law_refused_by_any" ["_law_frame_here","_law_name_here"] (fL K C):=by
 refine D.ok Ky (fun vs H Q E h=> ?_) (fun f bf A outer s H vs Q E hr h=> ?_)
 ·obtain ⟨a,pins,bars,x,rfl,_⟩:=h
  rfl
 obtain ⟨a,pins,bars,x,rfl,R,g,nx,q⟩:=h
 refine ⟨_,(ae (zZ ⟨rfl,rfl⟩ (rT (JO yL hr.mo (ao (pv 0) (ao (pv 1) aa)))) (JM (i:=2) (zY.own yB) Ky.nd rfl rfl (fun a=>(ah (aw (aD (gW (K:=K) rfl) rfl aL bo (ao (pv 2) (ao (ib rfl gd pM) aa)))))) zX))
  (ah (aw ck))),?_⟩
 refine ⟨_,rfl,_,rfl,a,pins,bars,x,rfl,R,g,fun _ e H' sH nd hd=> ?_,fun _ _ _ _ _ hx=>absurd hx nx,fun _ _ _ _ _ _ _ _ _ hx=>absurd hx nx⟩
 refine ⟨true,em,Oo fun ea na=> ?_⟩
 have sE:aq H' (upd H' ea (kH (.ref CN) ea (some e))):=aC na _
 exact ⟨_,rfl,ea,CN,_,true,_,rfl,rfl,ai,xn.k,kv,q _ (sH.trans sE)⟩
theorem DK (xs:List Str):Paired (fun u (x:Str)=>u=V.str x) (xs.map V.str) xs:=by
 induction xs with
 | nil=>exact .nil
 | cons x xs ih=>exact .cons rfl ih
theorem oX:∀{us:List V} {xs:List Str},Paired (fun u (x:Str)=>u=V.str x) us xs→us=xs.map V.str
 | _,_,.nil=>rfl
 | _,_,.cons h t=>by rw [h,oX t];rfl
theorem MS {H:Hp}{p p2:Addr}{a b:Str}{Q:VK}(e1:bF K H p [.str a,.str b])(e2:bF K H p2 [.str a,.str b])(q:Q (.bl false) H):vt K (.ref p) (.ref p2) H Q:=by
 refine ⟨[a,b].map fun w=>Da.v (.str w),[a,b].map fun w=>Da.v (.str w),.inl ⟨?_,?_⟩,lK _,ju _,by rw [lJ];exact q⟩
 ·unfold Is
  exact ⟨p,_,rfl,e1,eG [a,b]⟩
 ·unfold Is
  exact ⟨p2,_,rfl,e2,eG [a,b]⟩
theorem Zm {x:V}{xs:List V}:d9 (x::xs) (some 1) none=xs:=by
 unfold d9
 have h:HT.dc (x::xs).length 0 (some 1)=1:=by
  simp only [HT.dc,afL]
  split <;> omega
 have h2:HT.dc (x::xs).length (x::xs).length none=(x::xs).length:=rfl
 rw [h,h2,List.drop_succ_cons,List.drop_zero,afL,Nat.add_sub_cancel,afS]
def v_ (K:Frag)(H H' :Hp)(pins:List aE)(bars:List bg)(x:Str)(p:Addr):Prop:=
 (∃(dM:Addr) (kM:List (Key×V)) (M:Str→Rat×Rat),H' p=some (.tup [.str "looser",.ref dM])∧MoR K H H' pins dM kM M∧qH pins bars x M∧∀p∈pins,Zb (zR pins.length) (M p.nm).1∧Zb (zR pins.length) (M p.nm).2)∨
 (∃(dT dU:Addr) (kT kU:List (Key×V)) (T:Str→Rat) (U:Str→List Rat) (Lx:Str→Addr),H' p=some (.tup [.str "less",.ref dT,.ref dU])∧YE K H H' pins bars dT dU kT kU T U Lx∧m4 pins bars T U∧T x=1∧(∀b∈bars,Zb (zR pins.length) (T b.nm))∧∀p∈pins,∀u∈U p.nm,Zb (zR pins.length) u)
theorem zR5 {n:Nat}(h:n≤5):zR n≤2000000:=by
 have:n=0∨n=1∨n=2∨n=3∨n=4∨n=5:=by omega
 rcases this with rfl | rfl | rfl | rfl | rfl | rfl <;> decide
theorem v_.told {H H' :Hp}{pins:List aE}{bars:List bg}{x:Str}{p:Addr}(h:v_ K H H' pins bars x p)(l:pins.length≤5):Kw K H' pins bars x p (zR pins.length)∨ToldF K H' pins bars x p (zR pins.length):=by
 have z:=zR5 l
 rcases h with ⟨dM,kM,M,hp,mo,tk,zb⟩ | ⟨dT,dU,kT,kU,T,U,Lx,hp,pr,no,tx,z1,z2⟩
 ·exact .inl ⟨dM,kM,M,hp,⟨mo.hM,mo.keys,mo.tM,zb,by omega⟩,tk⟩
 ·exact .inr ⟨dT,dU,kT,kU,T,U,hp,⟨pr.hT,pr.hU,pr.CG,pr.CH,pr.tT,fun q hq=>by
   obtain ⟨vs,a,_,c,d⟩:=pr.tU q hq
   exact ⟨_,vs,a,c,d⟩,pr.lU,z1,z2,z⟩,no,tx⟩
theorem tJ {C CB:Addr}{H:Hp}{a:Addr}{pins:List aE}{bars:List bg}{x:Str}{Q:VK}{E:XK}(R:vH K H C a pins bars)(g:eY pins bars)(hx:x∈bars.map (·.nm))(k:∀(p:Addr) (H' :Hp),aq H H' →v_ K H H' pins bars x p→Q (.ref p) H'):jZ K C CB [.ref a,.str x] H Q E:=
 ⟨a,pins,bars,x,rfl,R,g,fun n=>absurd hx n,fun M p dM kM H' _ s e mo tk zb=>k p H' s (.inl ⟨dM,kM,M,e,mo,tk,zb⟩),fun T U Lx p dT dU kT kU H' _ s e pr no tx z1 z2=>k p H' s (.inr ⟨dT,dU,kT,kU,T,U,Lx,e,pr,no,tx,z1,z2⟩)⟩
theorem cF:ay ["_law_script","_law_pins_here","_law_bars_here","_law_frame_here","_law_names","_law_strange","_law_name_here","_law_told","_law_one","_law_spot_here","_law_ways_here","_law_part","_law_other"] ["_law_script"] (af i8):=sq
theorem MT {f:Addr}{fd:FuncData}{C CB:Addr}(F:lV K "law" "law" i8 f fd)(aZ:mg "len"=none)
  (nX:Fn P w K mg base (aX P w) 1 "_law_cell_at" ["_law_script","_law_k"] (m5 K)) (c_:Fn P w K mg base (aX P w) 1 "_law_field" ["_law_cell","_law_prime","_law_many"] e_)
  (Zn:Fn P w K mg base (aX P w) 35 "_law_pins" ["_law_script"] (qN K)) (Zo:Fn P w K mg base (aX P w) 3 "_law_bars" ["_law_script","_law_pins_here"] (qP K)) (Zp:Fn P w K mg base (aX P w) 4 "_law_frame" ["_law_pins_here","_law_bars_here"] (m_ K C))
  (Zq:Fn P w K mg base (aX P w) 40 "_law_refused" ["_law_frame_here","_law_name_here"] (fL K C)) (Zr:Fn P w K mg base (aX P w) 40 "_law_refused_by_any" ["_law_frame_here","_law_name_here"] (fL K C))
  (NG:bG P w K mg base (aX P w) 1 C "bars" ["self"] (iG K C)) (ME:bG P w K mg base (aX P w) 1 C "ends" ["self","bar"] (mR K C)) (yL:Fn P w K mg base (aX P w) 39 "would_take" ["F","name"] (jZ K C CB)) (RG:Fn P w K mg base (aX P w) 36 "_law_right" ["_law_pins_here","_law_bars_here","_law_name_here","_law_told"] (qV K)):
  cp P w K mg base (aX P w) 42 f fd ["_law_script"] (zQ K):=by
 refine F.okG cF (fun vs H Q E h=> ?_) (fun bf A outer s H vs Q E hr h=> ?_)
 ·obtain ⟨a,ns,rfl,_⟩:=h
  rfl
 obtain ⟨sA,ns,rfl,hS,hn,hb,q⟩:=h
 have L2:2≤sizeLine:=by decide
 have L3:3≤sizeLine:=by decide
 refine ⟨_,(ae (aG (i:=1) cF.nd rfl (ab_ rfl) (aA Zn hr.mo (pY P w) (ao (pv 0) aa)))
  (ae (aG (i:=2) cF.nd rfl (ab_ rfl) (aA Zo hr.mo (pY P w) (ao (pv 0) (ao (pv 1) aa))))
  (ae (aG (i:=3) cF.nd rfl (ab_ rfl) (aA Zp hr.mo (pY P w) (ao (pv 1) (ao (pv 2) aa))))
  (ae (aG (i:=4) cF.nd rfl (afT rfl) (cg (tn:=["_law_bar"]) (fr:=[]) (caps:=[]) rfl ⟨rfl,by decide+kernel,rfl,by decide+kernel,by decide+kernel,rfl,trivial,trivial⟩ (aY (pv 2)) (fun _ _ _ _=>(au (i:=0) (show (["_law_bar"]:List Str).Nodup from by decide+kernel) rfl (ab_ rfl))) (fun _ _ _ _=>bT) (fun _ _ _ _=>(aT (bO (K:=K) rfl) (pv 0) ag (fun _ _=>rfl)))))
  (ae (fU (i:=5) cF.nd rfl (ab_ rfl) (tn:=["_law_name_here"]) (fr:=["_law_names"]) (caps:=[4]) rfl ⟨rfl,by decide+kernel,rfl,by decide+kernel,by decide+kernel,rfl,⟨(by first | exact ab_ rfl | exact afT rfl),trivial⟩,⟨(by first | exact ab_ rfl | exact afT rfl),trivial⟩⟩ (aY (aO jH (bS (ao cL (ao cL (ao cL aa)))) (cg (tn:=["_law_pin"]) (fr:=[]) (caps:=[]) rfl ⟨rfl,by decide+kernel,rfl,by decide+kernel,by decide+kernel,rfl,trivial,trivial⟩ (aY (pv 1)) (fun _ _ _ _=>(au (i:=0) (show (["_law_pin"]:List Str).Nodup from by decide+kernel) rfl (ab_ rfl))) (fun _ _ _ _=>bT) (fun _ _ _ _=>(aT (bO (K:=K) rfl) (pv 0) ag (fun _ _=>rfl)))))) (fun _ _ _ _=>(au (i:=0) (show (["_law_name_here","_law_names"]:List Str).Nodup from by decide+kernel) rfl (ab_ rfl))) (fun _ _ _ _=>(Lw (aJ (nO (K:=K) rfl) (pv 0) (pv 1) rfl))) (fun _ _ _ _=>(pv 0)))
  (ae (aG (i:=6) cF.nd rfl (ab_ rfl) (aT aS (pv 5) (aA c_ hr.mo (pY P w) (ao (aA nX hr.mo (pY P w) (ao (pv 0) (ao ag aa))) (ao ag (ao (aD aF rfl aZ bQ (ao (pv 5) aa)) aa)))) (fun _ _=>rfl)))
  (ae (ba (PW.pt (d3 (cC (bR (aA Zq hr.mo (pY P w) (ao (pv 3) (ao (pv 6) aa))))) (dm (cC (bR (aA Zr hr.mo (pY P w) (ao (pv 3) (ao (pv 6) aa)))))))) (ah (aw ck)) aI)
  (ae (ba (aJ zi (aD aF rfl aZ bQ (ao (pv 2) aa)) ag (aQ _)) (ae (aG (i:=6) cF.nd rfl (ab_ rfl) (aT aS (pv 4) (aA c_ hr.mo (pY P w) (ao (aA nX hr.mo (pY P w) (ao (pv 0) (ao ag aa))) (ao ag (ao (aD aF rfl aZ bQ (ao (pv 4) aa)) aa)))) (fun _ _=>rfl)))
   (ae (aG (i:=7) cF.nd rfl (ab_ rfl) (aA yL hr.mo (pY P w) (ao (pv 3) (ao (pv 6) aa))))
   (ae (ba (cC (bR (aA RG hr.mo (pY P w) (ao (pv 1) (ao (pv 2) (ao (pv 6) (ao (pv 7) aa))))))) (ah (aw ck)) aI)
   (ae (ba (aJ cP (aK (pv 7)) cL (aQ _)) (ah (bh PassesOwn.never rfl (aY (pv 1)) (dI rfl (aU (au (i:=8) cF.nd rfl (ab_ rfl)) (aU (au (i:=9) cF.nd rfl (ab_ rfl)) (aU (au (i:=10) cF.nd rfl (ab_ rfl)) cz)))) (ae (ba (aJ d5 (aD aF rfl aZ bQ (ao (bM (bN hr) (aK (pv 7)) (pv 8) (fun _ _=>rfl)) aa)) (aD aF rfl aZ bQ (ao (pv 10) aa)) (aQ _)) (ah (aw ck)) aI)
     (ah (bK (j9 PySem.F.plainAttrs_list PySem.F.slot_list_append PySem.F.type_list_append dq (bM (bN hr) (aK (pv 7)) (pv 8) (fun _ _=>rfl)) (ao (aV (ao ag (ao ag aa))) aa))))))) aI)
   (ae (bh PassesOwn.never rfl (ze (d7 Lb (pv 7) (eQ ag) gT)) (au (i:=11) cF.nd rfl (ab_ rfl)) (ah (bK (xu (pv 11)))))
   (ah (bh PassesOwn.never rfl (aY (bS (ao (pv 6) (ao (aT aS (pv 4) (vf pd ag) (fun _ _=>rfl)) (ao (BJ (pv 4)) aa))))) (au (i:=8) cF.nd rfl (ab_ rfl)) (ah (ba (cC (bR (aA RG hr.mo (pY P w) (ao (pv 1) (ao (pv 2) (ao (pv 8) (ao (aA yL hr.mo (pY P w) (ao (pv 3) (ao (pv 8) aa))) aa))))))) (ah (aw ck)) aI))))))))) aI)
  (ae (bh PassesOwn.never rfl (aY (pv 2)) (dI rfl (aU (au (i:=6) cF.nd rfl (ab_ rfl)) (aU (au (i:=8) cF.nd rfl (ab_ rfl)) (aU (au (i:=12) cF.nd rfl (ab_ rfl)) cz)))) (ah (ba (aJ (lh hr.units) (c6 (k:=1) (pv 3) hr.mo (pY P w) (ao (pv 6) aa)) (aV (ao (aK (aT aS (pv 1) (pv 8) (fun _ _=>rfl))) (ao (aK (aT aS (pv 1) (pv 12) (fun _ _=>rfl))) aa))) (aQ _)) (ah (aw ck)) aI)))
  (ah (aw (gS (k_ hr.units) (dz (k:=1) (pv 3) hr.mo (pY P w)) (pv 4) (aQ _))))))))))))),?_⟩
 refine ⟨_,rfl,sA,ns,rfl,hS,fun lP us pins H1 s1 nP eP pp gp lp pn=> ?_⟩
 have lu:us.length=pins.length:=Paired.length pp
 refine ⟨_,rfl,_,rfl,sA,lP,ns,us,pins,rfl,s1.seq hS,eP,lu,gp.np,by omega,fun lB vs bars H2 s2 nB eB pb gb lb bn=> ?_⟩
 have pp2:Paired (gm K H2) us pins:=Paired.cw pp fun _ _ z=>z.same s2
 have eP2:=s2 _ _ eP
 refine ⟨_,rfl,_,rfl,lP,lB,us,vs,pins,bars,rfl,eP2,pp2,eB,pb,gp,gb,by omega,by omega,fun fA H3 s3 R=> ?_⟩
 have g:=Ra gp gb (by omega) (by omega)
 have lv:vs.length=bars.length:=Paired.length pb
 have q0:Ku K H3 lP lB us vs pins bars:=⟨s3 _ _ eP2,Paired.cw pp2 fun _ _ z=>z.same s3,gp,s3 _ _ eB,Paired.cw pb fun _ _ z=>z.same s3,fun b hb=>(gb.ends b hb).2.2,lp,by omega⟩
 refine ⟨_,rfl,lB,rfl,⟨_,aR.of q0.hb⟩,fun lN nN=> ?_⟩
 refine gQ (nm:=bg.nm) nN q0.hb (ni q0.pb) (by omega) fun H4 s4 eN=> ?_
 have Rv:=q0.same s4
 refine ⟨L3,?_⟩
 intro l5 n5;generalize eX:upd _ l5 _=H5;have ⟨s5,e5⟩:=nw n5 eX;clear eX
 have Jz:=Rv.same s5
 refine ⟨_,rfl,lP,rfl,⟨_,aR.of Jz.hp⟩,fun D6 n6=> ?_⟩
 refine gQ (nm:=aE.nm) n6 Jz.hp (iN Jz.pp) (by omega) fun H6 s6 e6=> ?_
 have e56:=s6 _ _ e5
 refine ⟨l5,D6,_,_,rfl,rfl,e56,e6,(by rw [Wp,Wp];exact ac_ (show 3+pins.length≤100 by omega) (by decide)),?_⟩
 intro l7 n7;generalize eX:upd _ l7 _=H7;have ⟨s7,e7⟩:=nw n7 eX;clear eX
 have Zs :H7 l7=some (.lst (((["zz","","123450"]:List Str)++pins.map (fun p:aE=>p.nm)).map V.str)):=e7
 have no:("":Str)∉bars.map (·.nm):=fun z=>by
  obtain ⟨b,mb,e⟩:=afr.mp z
  obtain ⟨st,a,j,h1,h2,h3,h4⟩:=bn b mb
  have h5:=(oV ⟨st,h1⟩ ⟨a,h2⟩ ⟨j,h3⟩).1
  have h6:1≤(nameOf (st:Int) (a:Int) (j:Int)).length:=h5
  rw [← h4,e] at h6
  exact absurd h6 (by decide+kernel)
 have me:("":Str)∈(["zz","","123450"]:List Str)++pins.map (fun p:aE=>p.nm):=by simp
 have L8:((["zz","","123450"]:List Str)++pins.map (fun p:aE=>p.nm)).length≤100:=by
  rw [afq,Wp]
  show 3+pins.length≤100
  omega
 have Zt:=s5.trans (s6.trans s7)
 have s37:=s4.trans Zt
 generalize ((["zz","","123450"]:List Str)++pins.map (fun p:aE=>p.nm))=ss at Zs me L8
 refine ⟨l7,rfl,⟨_,aR.of Zs⟩,fun D8 n8=> ?_⟩
 refine uG (K:=K) (a:=l7) (xs:=ss.map V.str) (zs:=ss) (Rl:=fun u (x:Str)=>u=V.str x) (cap:=[some (.ref lN)]) (fun x=> !yO (.str x) ((bars.map (·.nm)).map V.str)) (DK ss) n8 (by rw [Wp];exact afs L8 (by decide)) (fun H2 s2=>aR.of (s2 _ _ Zs)) ?_ ?_ ?_
 ·intro x z HC RC hz mz sC kC
  rw [hz]
  exact ⟨_,rfl,_,rfl,lN,_,rfl,.inl (aR.of (sC _ _ (Zt _ _ eN))),rfl,oK _,_,rfl,kC _ (aq.refl _)⟩
 ·intro x z HC RC hz sC k
  exact ⟨_,rfl,k⟩
 intro us8 H8 p8 s8 e8
 rw [oX p8] at e8
 have RH:∀x∈ss.filter (fun x=> !yO (.str x) ((bars.map (·.nm)).map V.str)),x∉bars.map (·.nm):=fun x h=>by
  have:=(ag0.mp h).2
  rw [gJ] at this
  simpa using this
 have pos:0 < (ss.filter (fun x=> !yO (.str x) ((bars.map (·.nm)).map V.str))).length:=List.length_pos_of_mem (ag0.mpr ⟨me,by rw [gJ];simpa using no⟩)
 generalize ss.filter (fun x=> !yO (.str x) ((bars.map (·.nm)).map V.str))=fs at e8 RH pos
 have Zu:=s37.trans s8
 have Wr:=s1.trans (s2.trans (s3.trans Zu))
 have eN8:=s8 _ _ (Zt _ _ eN)
 have fr8:=q0.same Zu
 have R8:=R.same Zu
 have f1:=a9 (c:=cell ns 2) (p:=1009) (m:=((fs.map V.str).length:Int)) (by rw [Wp];omega)
 obtain ⟨k1,ek1⟩:∃n:Nat,field (cell ns 2) 1009 ((fs.map V.str).length:Int)=(n:Int):=⟨(field (cell ns 2) 1009 ((fs.map V.str).length:Int)).toNat,by omega⟩
 rw [ek1,Wp] at f1
 obtain ⟨x1,ex1⟩:∃x,fs[k1]? =some x:=⟨_,gE (by omega)⟩
 have pos' :(0:Int) < ((fs.map V.str).length:Int):=by rw [Wp];omega
 have nx1:=RH x1 (abt ex1)
 refine ⟨_,rfl,_,rfl,sA,ns,2,rfl,Wr.seq hS,by decide,by decide,_,rfl,D8,_,rfl,.inl (aR.of e8),_,1009,_,rfl,by decide,by decide,pos',D8,_,_,_,rfl,rfl,aR.of e8,(by rw [ek1];exact bH (by rw [aa_,ex1];rfl)),?_⟩
 refine ⟨_,rfl,_,rfl,fA,pins,bars,x1,rfl,R8,g,nx1,fun H9 s9=> ?_⟩
 refine ⟨_,rfl,?_⟩
 refine a8 (fun c=>nomatch c) (fun _=> ?_)
 refine ⟨_,rfl,_,rfl,fA,pins,bars,x1,rfl,R8.same s9,g,nx1,fun rY vx=> ?_⟩
 refine ⟨_,rfl,?_⟩
 refine a8 (fun c=>nomatch c) (fun _=> ?_)
 have IA:=s9.trans vx
 have EE:=fr8.same IA
 have RA:=R8.same IA
 have WE:=IA _ _ eN8
 try dsimp only [vd]
 refine fK (fun σ' H' =>∃(o6 o7 o8 o9 yT Kz:Option V),σ' =[some (.ref sA),some (.ref lP),some (.ref lB),some (.ref fA),some (.ref lN),some (.ref D8),o6,o7,o8,o9,yT,Kz,none]∧aq rY H') (fun Nx EB=> ?_) ?_
 ·refine ⟨_,rfl,lB,_,rfl,.inl (aR.of EE.hb),_,_,rfl,rfl,_,rfl,?_⟩
  refine a8 (fun c=> ?_) (fun _=>EB _ _ ⟨_,_,_,_,_,_,rfl,aq.refl _⟩)
  have hb0:0 < bars.length:=by
   have:=of_decide_eq_true c
   omega
  have f2:=a9 (c:=cell ns 2) (p:=2003) (m:=(((bars.map (·.nm)).map V.str).length:Int)) (by rw [Wp,Wp];omega)
  obtain ⟨k2,ek2⟩:∃n:Nat,field (cell ns 2) 2003 (((bars.map (·.nm)).map V.str).length:Int)=(n:Int):=⟨(field (cell ns 2) 2003 (((bars.map (·.nm)).map V.str).length:Int)).toNat,by omega⟩
  rw [ek2,Wp,Wp] at f2
  obtain ⟨x,ex⟩:∃x,(bars.map (·.nm))[k2]? =some x:=⟨_,gE (by rw [Wp];omega)⟩
  have hx:x∈bars.map (·.nm):=abt ex
  have Zv:(0:Int) < (((bars.map (·.nm)).map V.str).length:Int):=by rw [Wp,Wp];omega
  refine ⟨_,rfl,_,rfl,sA,ns,2,rfl,(Wr.trans IA).seq hS,by decide,by decide,_,rfl,lN,_,rfl,.inl (aR.of WE),_,2003,_,rfl,by decide,by decide,Zv,lN,_,_,_,rfl,rfl,aR.of WE,(by rw [ek2];exact bH (by rw [aa_,ex];rfl)),?_⟩
  try dsimp only [vd]
  refine fK (fun σ' H' =>∃(p:Addr),σ' =[some (.ref sA),some (.ref lP),some (.ref lB),some (.ref fA),some (.ref lN),some (.ref D8),some (.str x),some (.ref p),none,none,none,none,none]∧aq rY H' ∧v_ K rY H' pins bars x p) (fun Ny WG=> ?_) ?_
  ·refine ⟨_,rfl,_,rfl,?_⟩
   dsimp only [gk]
   exact tJ RA g hx fun p FJ p_ WH=>WG _ _ ⟨p,rfl,p_,WH⟩
  rintro σ' FJ ⟨p,rfl,p_,WH⟩
  refine ⟨_,rfl,_,rfl,_,rfl,_,rfl,lP,lB,p,us,vs,pins,bars,x,_,rfl,EE.same p_,hx,WH.told lp,fun P0 ig=> ?_⟩
  refine ⟨_,rfl,?_⟩
  refine a8 (fun c=>nomatch c) (fun _=> ?_)
  have MU:=p_.trans ig
  try dsimp only [vd]
  refine fK (fun σ' H' =>∃(o8 o9 yT:Option V) (y:Str) (ds:List Addr),σ' =[some (.ref sA),some (.ref lP),some (.ref lB),some (.ref fA),some (.ref lN),some (.ref D8),some (.str x),some (.ref p),o8,o9,yT,none,none]∧aq rY H' ∧H' p=some (.tup (.str y::ds.map V.ref))∧ds.length≤2∧1≤ds.length∧∀d∈ds,rY d=none∧∃kvs,H' d=some (.dK kvs)) (fun Ny WG=> ?_) ?_
  ·rcases WH with ⟨dM,kM,M,hp,mo,tk,zb⟩ | ⟨dT,dU,kT,kU,T,U,Lx,hp,pr,no,tx,z1,z2⟩
   ·have w6:=ig _ _ hp
    refine ⟨_,rfl,p,_,_,_,rfl,rfl,bF.of w6,rfl,rfl,_,rfl,?_⟩
    refine a8 (fun c=>absurd c (by simp [ia];decide+kernel)) (fun _=>WG _ _ ⟨_,_,_,_,[dM],rfl,MU,w6,by simp,by simp,fun d hd=> ?_⟩)
    rw [afI.mp hd]
    exact ⟨mo.nM,kM,ig _ _ mo.hM⟩
   ·have w6:=ig _ _ hp
    refine ⟨_,rfl,p,_,_,_,rfl,rfl,bF.of w6,rfl,rfl,_,rfl,?_⟩
    refine a8 (fun _=> ?_) (fun c=>absurd (by simp [ia]) c)
    have Zw:=(EE.same MU).hp
    refine ⟨_,rfl,lP,rfl,⟨_,aR.of Zw⟩,bI (K:=K) (a:=lP) (xs:=us) (fun i σ H' =>∃(o8 o9 yT:Option V),σ=[some (.ref sA),some (.ref lP),some (.ref lB),some (.ref fA),some (.ref lN),some (.ref D8),some (.str x),some (.ref p),o8,o9,yT,none,none]∧aq rY H' ∧H' p=some (.tup [.str "less",.ref dT,.ref dU])∧H' dT=some (.dK kT)∧H' dU=some (.dK kU)∧∀(j:Nat) (r:aE),i≤j→pins[j]? =some r→∃ys,H' (Lx r.nm)=some (.lst ys)∧ys.length=r.ws.length) ⟨none,none,none,rfl,MU,w6,ig _ _ pr.hT,ig _ _ pr.hU,fun j r _ e=> ?_⟩ (fun i σ H' _ h=>by
      obtain ⟨_,_,_,_,s,_⟩:=h
      exact aR.of (s _ _ EE.hp)) ?_ ?_⟩
    ·have mr:=abt e
     obtain ⟨ys,_,_,h1,h2⟩:=pr.tU r mr
     exact ⟨ys,ig _ _ h1,by rw [Paired.length h2,pr.lU r mr]⟩
    ·rintro i u σ WI hu ⟨o8,o9,yT,rfl,qj,u9,MV,DL,ls⟩
     obtain ⟨r,er,yJ⟩:=aH EE.pp hu
     have mr:r∈pins:=abt er
     obtain ⟨ta,l,sv,ws,rfl,h1,h2,h3,h4⟩:=yJ.same qj
     refine ⟨ta,_,rfl,h1,rfl,_,_,rfl,_,_,rfl,_,_,rfl,rfl,?_⟩
     obtain ⟨ys,WJ,lys⟩:=ls i r (ad_ _) er
     obtain ⟨_,ev,nL,_,_⟩:=pr.tU r mr
     have lw:ws.length=r.ws.length:=Paired.length h4
     have lwp:=(gp.ws r mr).len
     have dg:∀H' :Hp,H' dU=some (.dK kU)→cH H' dU (.str r.nm) (some (.ref (Lx r.nm))):=fun H' h=>by
      have:=cH.k (k:=.inr r.nm) h
      rw [ev] at this
      exact this
     refine ⟨_,rfl,p,_,_,_,rfl,rfl,bF.of u9,rfl,_,rfl,dU,_,rfl,dg _ DL,Lx r.nm,_,rfl,.inl (aR.of WJ),_,rfl,l,_,rfl,.inl (aR.of h3),rfl,_,rfl,?_⟩
     refine a8 (fun c=>absurd (show (ys.length:Int)=(ws.length:Int) by omega) (fun e=>by rw [e] at c;simp at c)) (fun _=> ?_)
     refine ⟨_,rfl,p,_,_,_,rfl,rfl,bF.of u9,rfl,_,rfl,dU,_,rfl,dg _ DL,.inl ⟨rfl,_,aR.of WJ⟩,L2,?_⟩
     intro NH Zx;generalize eX:upd _ NH _=H14;have ⟨yR,Zy⟩:=nw Zx eX;clear eX
     refine ⟨Lx r.nm,_,_,rfl,rfl,yR _ _ WJ,afs (show ys.length≤100 by omega) (by decide),?_⟩
     have Zz:=qj.trans yR
     have ZA:=yR _ _ u9
     have ZC:=yR _ _ MV
     have ZD:=yR _ _ DL
     have ZE:=yR _ _ WJ
     refine ⟨_,_,_,rfl,fun b o z=> ?_,?_,?_,?_,fun j r' hj ej=> ?_⟩
     ·rw [aj (ak z nL)]
      exact Zz _ _ z
     ·rw [aj (fun e=>by rw [e,ZE] at ZA;cases ZA)]
      exact ZA
     ·rw [aj (fun e=>by rw [e,ZE] at ZC;cases ZC)]
      exact ZC
     ·rw [aj (fun e=>by rw [e,ZE] at ZD;cases ZD)]
      exact ZD
     ·obtain ⟨XH,hy',Wi⟩:=ls j r' (by omega) ej
      have ne:Lx r'.nm≠Lx r.nm:=fun e=>by
       have:=u4 gp.np ej er (pr.inj r' (abt ej) r mr e)
       omega
      exact ⟨XH,by rw [aj ne];exact yR _ _ hy',Wi⟩
    ·rintro σ WI ⟨o8,o9,yT,rfl,qj,u9,MV,DL,_⟩
     refine WG _ _ ⟨_,_,_,_,[dT,dU],rfl,qj,u9,by simp,by simp,fun d hd=> ?_⟩
     have:d=dT∨d=dU:=by simpa using hd
     rcases this with rfl | rfl
     ·exact ⟨pr.nT,kT,MV⟩
     ·exact ⟨pr.nU,kU,DL⟩
  rintro σ' WI ⟨o8,o9,yT,y,ds,rfl,qj,u9,ld2,ld1,JH⟩
  refine ⟨_,rfl,1,rfl,p,_,rfl,bF.of u9,(fun z=>by
   have h:HT.dc (V.str y::ds.map V.ref).length 0 (some 1)=1:=by
    simp only [HT.dc,afL]
    split <;> omega
   rw [h] at z
   exact absurd z.1 (by decide)),?_⟩
  rw [Zm]
  intro NH Zx;generalize eX:upd _ NH _=H14;have ⟨yR,Zy⟩:=nw Zx eX;clear eX
  refine ⟨NH,rfl,⟨_,bF.of Zy⟩,ve (K:=K) (a:=NH) (xs:=ds.map V.ref) (fun i σ H' =>∃(Kz:Option V),σ=[some (.ref sA),some (.ref lP),some (.ref lB),some (.ref fA),some (.ref lN),some (.ref D8),some (.str x),some (.ref p),o8,o9,yT,Kz,none]∧aq rY H' ∧H' NH=some (.tup (ds.map V.ref))∧∀d∈ds,∃kvs,H' d=some (.dK kvs)) ⟨none,rfl,qj.trans yR,Zy,fun d hd=> ?_⟩ (fun i σ H' _ h=>by
    obtain ⟨_,_,_,h,_⟩:=h
    exact bF.of h) ?_ ?_⟩
  ·obtain ⟨_,kvs,h⟩:=JH d hd
   exact ⟨kvs,yR _ _ h⟩
  ·rintro i z σ H15 hz ⟨Kz,rfl,WK,ZF,V9⟩
   obtain ⟨d,md,rfl⟩:∃d,d∈ds∧z=.ref d:=by
    rw [aa_] at hz
    cases hd:ds[i]? with
    | none=>rw [hd] at hz;cases hz
    | some d=>exact ⟨d,abt hd,by rw [hd] at hz;exact (afB hz).symm⟩
   obtain ⟨kvs,hd⟩:=V9 d md
   refine ⟨_,rfl,d,kvs,rfl,hd,?_⟩
   refine ⟨_,rfl,fun b o e=> ?_,?_,fun d' NQ => ?_⟩
   ·rw [aj (ak e (JH d md).1)]
    exact WK _ _ e
   ·rw [aj (fun e=>by rw [e,hd] at ZF;cases ZF)]
    exact ZF
   ·by_cases c:d' =d
    ·rw [c]
     exact ⟨[],ai⟩
    ·rw [aj c]
     exact V9 d' NQ
  ·rintro σ H15 ⟨Kz,rfl,WK,_,_⟩
   have RI:=WK _ _ WE
   obtain ⟨x2,ex2,wK⟩:∃x2,ft ((bars.map (·.nm)).map V.str) (-1)=some (.str x2)∧x2∈bars.map (·.nm):=by
    obtain ⟨bs,b,PV⟩:∃(bs:List Str) (b:Str),bars.map (·.nm)=bs++[b]:=by
     rcases List.eq_nil_or_concat (bars.map (·.nm)) with z | ⟨bs,b,z⟩
     ·have:=congrArg ago z
      rw [Wp,ag1] at this
      omega
     ·exact ⟨bs,b,by rw [z,List.concat_eq_append]⟩
    refine ⟨b,?_,by rw [PV];simp⟩
    have e:(bars.map (·.nm)).map V.str=bs.map V.str++[V.str b]:=by
     rw [PV,afG]
     rfl
    rw [e]
    exact zA _ _
   obtain ⟨x3,ex3⟩:∃x3,(bars.map (·.nm))[0]? =some x3:=⟨_,gE (by rw [Wp];omega)⟩
   have Xy:x3∈bars.map (·.nm):=abt ex3
   refine ⟨_,rfl,_,rfl,1,rfl,lN,_,_,_,rfl,rfl,aR.of RI,ex2,_,rfl,lN,_,_,_,rfl,rfl,aR.of RI,bH (j:=0) (by rw [aa_,ex3];rfl),L3,?_⟩
   intro RJ n16;generalize eX:upd _ RJ _=H16;have ⟨Wn,e16⟩:=nw n16 eX;clear eX
   have MX :H16 RJ=some (.lst ([x,x2,x3].map V.str)):=e16
   have RK:∀z∈[x,x2,x3],z∈bars.map (·.nm):=fun z hz=>by
    have:z=x∨z=x2∨z=x3:=by simpa using hz
    rcases this with rfl | rfl | rfl
    ·exact hx
    ·exact wK
    ·exact Xy
   generalize ([x,x2,x3]:List Str)=zs at MX RK
   refine ⟨RJ,rfl,⟨_,aR.of MX⟩,bI (K:=K) (a:=RJ) (xs:=zs.map V.str) (fun i σ H' =>∃(o8:Option V),σ=[some (.ref sA),some (.ref lP),some (.ref lB),some (.ref fA),some (.ref lN),some (.ref D8),some (.str x),some (.ref p),o8,o9,yT,Kz,none]∧aq rY H' ∧H' RJ=some (.lst (zs.map V.str))) ⟨o8,rfl,WK.trans Wn,MX⟩ (fun i σ H' _ h=>by
     obtain ⟨_,_,_,h⟩:=h
     exact aR.of h) ?_ ?_⟩
   ·rintro i v σ H17 hv ⟨o8,rfl,WL,e17⟩
    obtain ⟨z,mz,rfl⟩:∃z,z∈zs∧v=.str z:=by
     rw [aa_] at hv
     cases hd:zs[i]? with
     | none=>rw [hd] at hv;cases hv
     | some d=>exact ⟨d,abt hd,by rw [hd] at hv;exact (afB hv).symm⟩
    have hz:=RK z mz
    refine ⟨_,rfl,_,rfl,_,rfl,_,rfl,_,rfl,?_⟩
    dsimp only [gk]
    refine tJ (RA.same WL) g hz fun p18 H18 s18 t18=> ?_
    have RL:=WL.trans s18
    refine ⟨lP,lB,p18,us,vs,pins,bars,z,_,rfl,EE.same RL,hz,t18.told lp,fun H19 s19=> ?_⟩
    refine ⟨_,rfl,?_⟩
    refine a8 (fun c=>nomatch c) (fun _=> ?_)
    exact ⟨_,rfl,RL.trans s19,s19 _ _ (s18 _ _ e17)⟩
   ·rintro σ H17 ⟨o8,rfl,WL,_⟩
    exact EB _ _ ⟨_,_,_,_,_,_,rfl,WL⟩
 rintro σ' FJ ⟨o6,o7,o8,o9,yT,Kz,rfl,p_⟩
 have ZG:=(EE.same p_).hb
 refine ⟨_,rfl,lB,rfl,⟨_,aR.of ZG⟩,bI (K:=K) (a:=lB) (xs:=vs) (fun i σ H' =>∃(o6 o8 ZH:Option V),σ=[some (.ref sA),some (.ref lP),some (.ref lB),some (.ref fA),some (.ref lN),some (.ref D8),o6,o7,o8,o9,yT,Kz,ZH]∧aq rY H') ⟨o6,o8,none,rfl,p_⟩ (fun i σ H' _ h=>by
   obtain ⟨_,_,_,_,s⟩:=h
   exact aR.of (s _ _ EE.hb)) ?_ ?_⟩
 ·rintro i u σ P0 hu ⟨o6,o8,ZH,rfl,ig⟩
  obtain ⟨b,eb,yK⟩:=aH EE.pb hu
  have mb:b∈bars:=abt eb
  have IC:=EE.same ig
  obtain ⟨ta,i1,i2,rfl,HY,e1,e2⟩:=yK.same ig
  refine ⟨ta,_,rfl,HY,rfl,_,_,rfl,_,_,rfl,_,_,rfl,rfl,?_⟩
  obtain ⟨dx,pP,pW,pB,kP,kW,kB,RM,W12⟩:=(RA.same ig).ex
  refine ⟨_,rfl,fA,C,dx,_,_,_,rfl,RM.obj,rfl,ME,_,rfl,fA,dx,pP,pW,pB,_,_,kP,kW,kB,b.nm,b.one.nm,b.other.nm,rfl,RM,Kl g.nb,afr.mpr ⟨b,mb,rfl⟩,fun p rd=> ?_⟩
  have tp:bF K P0 p [.str b.one.nm,.str b.other.nm]:=.inl rd
  obtain ⟨c1,la1,Y7,HU,q1,_⟩:=j4 IC.pp e1
  obtain ⟨c2,Wy,Y8,HV,q2,_⟩:=j4 IC.pp e2
  refine ⟨_,rfl,_,rfl,lP,_,_,_,rfl,rfl,aR.of IC.hp,HU,c1,_,_,_,rfl,rfl,q1,dG,_,rfl,_,rfl,lP,_,_,_,rfl,rfl,aR.of IC.hp,HV,c2,_,_,_,rfl,rfl,q2,dG,L2,?_⟩
  intro t13 n13;generalize eX:upd _ t13 _=WI;have ⟨qj,e13⟩:=nw n13 eX;clear eX
  refine MS (Ty.aq.cN qj tp) (bF.of e13) ⟨_,rfl,?_⟩
  refine a8 (fun c=>nomatch c) (fun _=> ?_)
  exact ⟨_,_,_,rfl,ig.trans qj⟩
 ·rintro σ P0 ⟨o6,o8,ZH,rfl,ig⟩
  obtain ⟨dx,pP,pW,pB,kP,kW,kB,RM,W12⟩:=(RA.same ig).ex
  refine ⟨_,rfl,fA,C,dx,_,_,_,rfl,RM.obj,rfl,NG,fA,dx,pP,pW,pB,_,_,kP,kW,kB,rfl,RM,fun lb WI qj QK vS=> ?_⟩
  rw [lF] at vS
  exact ⟨_,rfl,HZ vS (qj _ _ (ig _ _ WE)) (q _)⟩
end
theorem all_mk {l:PySem.W.OpenLaw}{w:World}{K:Frag}{h:Heap}{mg:Str→Option Value}{fa:Addr}(X:K.In h)(G:h.Ns mainGlobals mg)(hfa:mg "law"=some (.ref fa))
  {RO RP:Str} {RQ KA:List Value} {RS:Bool} {RT:List Str} {MY:List Value} {RU:Bool} {MZ:Option Bool} {RV RW RX RY RZ:Option Value}
  (ZI:nsIn K mainGlobals "difference_of"=some (some (.ref R5))) (ZJ:K.lookup R5=some ⟨ahd,ahe,.func (fnOf "difference_of" "difference_of" (av uI) (ar uI) (af uI) .none ahf ahg ahh ahi R7 ahj),ahk⟩) (ZK:codeIn K R7 "difference_of"=true) (ZL:keepIn K (.ref R5)=true) (ZM:nsIn K mainGlobals "lowest_terms"=some (some (.ref R9))) (ZN:K.lookup R9=some ⟨ahl,ahm,.func (fnOf "lowest_terms" "lowest_terms" (av sW) (ar sW) (af sW) .none ahn aho ahp ahq R_ ahr),ahs⟩) (ZO:codeIn K R_ "lowest_terms"=true) (ZP:keepIn K (.ref R9)=true) (ZQ:nsIn K mainGlobals "greatest_shared"=some (some (.ref Sa))) (ZR:K.lookup Sa=some ⟨aht,ahu,.func (fnOf "greatest_shared" "greatest_shared" (av xw) (ar xw) (af xw) .none ahv ahw ahx ahy Sb ahz),ahA⟩) (ZS:codeIn K Sb "greatest_shared"=true) (ZT:keepIn K (.ref Sa)=true) (ZU:nsIn K mainGlobals "arm_between"=some (some (.ref Sd))) (ZV:K.lookup Sd=some ⟨ahB,ahC,.func (fnOf "arm_between" "arm_between" (av xx) (ar xx) (af xx) .none ahD ahE ahF ahG Se ahH),ahI⟩) (ZW:codeIn K Se "arm_between"=true) (ZX:keepIn K (.ref Sd)=true) (ZY:nsIn K mainGlobals "pair_difference"=some (some (.ref Sf))) (ZZ:K.lookup Sf=some ⟨ahJ,ahK,.func (fnOf "pair_difference" "pair_difference" (av uJ) (ar uJ) (af uJ) .none ahL ahM ahN ahO Sg ahP),ahQ⟩) (Z0:codeIn K Sg "pair_difference"=true) (Z1:keepIn K (.ref Sf)=true) (Z2:nsIn K mainGlobals "pair_row"=some (some (.ref Sh))) (Z3:K.lookup Sh=some ⟨ahR,ahS,.func (fnOf "pair_row" "pair_row" (av xy) (ar xy) (af xy) .none ahT ahU ahV ahW Si ahX),ahY⟩) (Z4:codeIn K Si "pair_row"=true) (Z5:keepIn K (.ref Sh)=true) (Z6:nsIn K mainGlobals "bar_row"=some (some (.ref Sj))) (Z7:K.lookup Sj=some ⟨ahZ,ah0,.func (fnOf "bar_row" "bar_row" (av xA) (ar xA) (af xA) .none ah1 ah2 ah3 ah4 Sk ah5),ah6⟩) (Z8:codeIn K Sk "bar_row"=true) (Z9:keepIn K (.ref Sj)=true) (Z_:nsIn K mainGlobals "draw_rows"=some (some (.ref Sl))) (Z':K.lookup Sl=some ⟨ah7,ah8,.func (fnOf "draw_rows" "draw_rows" (av xB) (ar xB) (af xB) .none ah9 ah' aia aib Sn aic),aid⟩) (aaa:codeIn K Sn "draw_rows"=true) (aab:keepIn K (.ref Sl)=true) (aac:nsIn K mainGlobals "pulls_and_pushes"=some (some (.ref So))) (aad:K.lookup So=some ⟨aie,aif,.func (fnOf "pulls_and_pushes" "pulls_and_pushes" (av xC) (ar xC) (af xC) .none aih aii aij aik Sq ail),aim⟩) (aae:codeIn K Sq "pulls_and_pushes"=true) (aaf:keepIn K (.ref So)=true) (aag:nsIn K mainGlobals "motion_from"=some (some (.ref Sr))) (aah:K.lookup Sr=some ⟨ain,aio,.func (fnOf "motion_from" "motion_from" (av xD) (ar xD) (af xD) .none aip aiq air ais Ss ait),aiu⟩) (aai:codeIn K Ss "motion_from"=true) (aaj:keepIn K (.ref Sr)=true) (aak:nsIn K mainGlobals "signs_turned"=some (some (.ref Su))) (aal:K.lookup Su=some ⟨aiv,aiw,.func (fnOf "signs_turned" "signs_turned" (av xE) (ar xE) (af xE) .none aix aiy aiz aiA Sv aiB),aiC⟩) (aam:codeIn K Sv "signs_turned"=true) (aan:keepIn K (.ref Su)=true) (aao:nsIn K mainGlobals "solve_rows"=some (some (.ref Sw))) (aap:K.lookup Sw=some ⟨aiD,aiE,.func (fnOf "solve_rows" "solve_rows" (av xF) (ar xF) (af xF) .none aiF aiG aiH aiI Sx aiJ),aiK⟩) (aaq:codeIn K Sx "solve_rows"=true) (aar:keepIn K (.ref Sw)=true) (aas:nsIn K mainGlobals "turned"=some (some (.ref Sy))) (aat:K.lookup Sy=some ⟨aiL,aiM,.func (fnOf "turned" "turned" (av xG) (ar xG) (af xG) .none aiN aiO aiP aiQ SA aiR),aiS⟩) (aau:codeIn K SA "turned"=true) (aav:keepIn K (.ref Sy)=true) (aaw:nsIn K mainGlobals "whole_row"=some (some (.ref SD))) (aax:K.lookup SD=some ⟨aiT,aiU,.func (fnOf "whole_row" "whole_row" (av xH) (ar xH) (af xH) .none aiV aiW aiX aiY SE aiZ),ai0⟩) (aay:codeIn K SE "whole_row"=true) (aaz:keepIn K (.ref SD)=true) (aaA:nsIn K mainGlobals "solution_of"=some (some (.ref SG))) (aaB:K.lookup SG=some ⟨ai1,ai2,.func (fnOf "solution_of" "solution_of" (av xI) (ar xI) (af xI) .none ai3 ai4 ai5 ai6 SH ai7),ai8⟩) (aaC:codeIn K SH "solution_of"=true) (aaD:keepIn K (.ref SG)=true) (aaE:nsIn K mainGlobals "reduced"=some (some (.ref SI))) (aaF:K.lookup SI=some ⟨ai9,ai',.func (fnOf "reduced" "reduced" (av xJ) (ar xJ) (af xJ) .none aja ajb ajc ajd SJ aje),ajf⟩) (aaG:codeIn K SJ "reduced"=true) (aaH:keepIn K (.ref SI)=true) (aaI:nsIn K mainGlobals "first_not_nought"=some (some (.ref SK))) (aaJ:K.lookup SK=some ⟨ajg,ajh,.func (fnOf "first_not_nought" "first_not_nought" (av xK) (ar xK) (af xK) .none aji ajj ajk ajl SM ajm),ajn⟩) (aaK:codeIn K SM "first_not_nought"=true) (aaL:keepIn K (.ref SK)=true) (aaM:nsIn K mainGlobals "cleared"=some (some (.ref SN))) (aaN:K.lookup SN=some ⟨ajo,ajp,.func (fnOf "cleared" "cleared" (av xM) (ar xM) (af xM) .none ajq ajr ajs ajt SO aju),ajv⟩) (aaO:codeIn K SO "cleared"=true) (aaP:keepIn K (.ref SN)=true) (aaQ:nsIn K mainGlobals "divided"=some (some (.ref SQ))) (aaR:K.lookup SQ=some ⟨ajw,ajx,.func (fnOf "divided" "divided" (av xN) (ar xN) (af xN) .none ajy ajz ajA ajB SR ajC),ajD⟩) (aaS:codeIn K SR "divided"=true) (aaT:keepIn K (.ref SQ)=true) (aaU:nsIn K mainGlobals "would_take"=some (some (.ref SS))) (aaV:K.lookup SS=some ⟨ajE,ajF,.func (fnOf "would_take" "would_take" (av uK) (ar uK) (af uK) .none ajG ajH ajI ajJ SU ajK),ajL⟩) (aaW:codeIn K SU "would_take"=true) (aaX:keepIn K (.ref SS)=true) (aaY:nsIn K mainGlobals "stretch_of"=some (some (.ref SV))) (aaZ:K.lookup SV=some ⟨ajM,ajN,.func (fnOf "stretch_of" "stretch_of" (av xO) (ar xO) (af xO) .none ajO ajP ajQ ajR SW ajS),ajT⟩) (aa0:codeIn K SW "stretch_of"=true) (aa1:keepIn K (.ref SV)=true) (aa2:nsIn K mainGlobals "_law_cell_at"=some (some (.ref SX))) (aa3:K.lookup SX=some ⟨ajU,ajV,.func (fnOf "_law_cell_at" "_law_cell_at" (av xP) (ar xP) (af xP) .none ajW ajX ajY ajZ SY aj0),aj1⟩) (aa4:codeIn K SY "_law_cell_at"=true) (aa5:keepIn K (.ref SX)=true) (aa6:nsIn K mainGlobals "_law_field"=some (some (.ref S0))) (aa7:K.lookup S0=some ⟨aj2,aj3,.func (fnOf "_law_field" "_law_field" (av xQ) (ar xQ) (af xQ) .none aj4 aj5 aj6 aj7 S1 aj8),aj9⟩) (aa8:codeIn K S1 "_law_field"=true) (aa9:keepIn K (.ref S0)=true) (aa':nsIn K mainGlobals "_law_lowest"=some (some (.ref S2))) (aba:K.lookup S2=some ⟨aj',aka,.func (fnOf "_law_lowest" "_law_lowest" (av xR) (ar xR) (af xR) .none akb akc akd ake S3 akf),akg⟩) (abb:codeIn K S3 "_law_lowest"=true) (abc:keepIn K (.ref S2)=true) (abd:nsIn K mainGlobals "_law_sum"=some (some (.ref S4))) (abe:K.lookup S4=some ⟨akh,aki,.func (fnOf "_law_sum" "_law_sum" (av xS) (ar xS) (af xS) .none akj akk akl akm S5 akn),ako⟩) (abf:codeIn K S5 "_law_sum"=true) (abg:keepIn K (.ref S4)=true) (abh:nsIn K mainGlobals "_law_times"=some (some (.ref S6))) (abi:K.lookup S6=some ⟨akp,akq,.func (fnOf "_law_times" "_law_times" (av xT) (ar xT) (af xT) .none akr aks akt akv S7 akw),aky⟩) (abj:codeIn K S7 "_law_times"=true) (abk:keepIn K (.ref S6)=true) (abl:nsIn K mainGlobals "_law_turned"=some (some (.ref S8))) (abm:K.lookup S8=some ⟨akz,akA,.func (fnOf "_law_turned" "_law_turned" (av xU) (ar xU) (af xU) .none akB akC akD akE S9 akF),akG⟩) (abn:codeIn K S9 "_law_turned"=true) (abo:keepIn K (.ref S8)=true) (abp:nsIn K mainGlobals "_law_name"=some (some (.ref S_))) (abq:K.lookup S_=some ⟨akH,akI,.func (fnOf "_law_name" "_law_name" (av uL) (ar uL) (af uL) .none akJ akK akL akM S' akN),akO⟩) (abr:codeIn K S' "_law_name"=true) (abu:keepIn K (.ref S_)=true) (abv:nsIn K mainGlobals "_law_spot"=some (some (.ref Ta))) (abw:K.lookup Ta=some ⟨akP,akQ,.func (fnOf "_law_spot" "_law_spot" (av xV) (ar xV) (af xV) .none akR akS akT akU Tb akV),akW⟩) (abx:codeIn K Tb "_law_spot"=true) (aby:keepIn K (.ref Ta)=true) (abz:nsIn K mainGlobals "_law_ways"=some (some (.ref Tc))) (abA:K.lookup Tc=some ⟨akX,akY,.func (fnOf "_law_ways" "_law_ways" (av xW) (ar xW) (af xW) .none akZ ak0 ak1 ak2 Td ak3),ak4⟩) (abB:codeIn K Td "_law_ways"=true) (abC:keepIn K (.ref Tc)=true) (abD:nsIn K mainGlobals "_law_pins"=some (some (.ref Te))) (abE:K.lookup Te=some ⟨ak5,ak6,.func (fnOf "_law_pins" "_law_pins" (av xX) (ar xX) (af xX) .none ak7 ak8 ak9 ak' Tf ala),alb⟩) (abF:codeIn K Tf "_law_pins"=true) (abG:keepIn K (.ref Te)=true) (abH:nsIn K mainGlobals "_law_bars"=some (some (.ref Tg))) (abI:K.lookup Tg=some ⟨alc,ald,.func (fnOf "_law_bars" "_law_bars" (av xY) (ar xY) (af xY) .none ale alf alg alh Th ali),alj⟩) (abJ:codeIn K Th "_law_bars"=true) (abK:keepIn K (.ref Tg)=true) (abL:nsIn K mainGlobals "_law_frame"=some (some (.ref Ti))) (abM:K.lookup Ti=some ⟨alk,alm,.func (fnOf "_law_frame" "_law_frame" (av xZ) (ar xZ) (af xZ) .none aln alo alp alq Tj alr),als⟩) (abN:codeIn K Tj "_law_frame"=true) (abO:keepIn K (.ref Ti)=true) (abP:nsIn K mainGlobals "_law_arm"=some (some (.ref Tn))) (abQ:K.lookup Tn=some ⟨alu,alv,.func (fnOf "_law_arm" "_law_arm" (av x4) (ar x4) (af x4) .none alw alx aly alz To alA),alB⟩) (abR:codeIn K To "_law_arm"=true) (abS:keepIn K (.ref Tn)=true) (abT:nsIn K mainGlobals "_law_add"=some (some (.ref Tp))) (abU:K.lookup Tp=some ⟨alC,alD,.func (fnOf "_law_add" "_law_add" (av x5) (ar x5) (af x5) .none alE alF alG alH Tq alI),alJ⟩) (abV:codeIn K Tq "_law_add"=true) (abW:keepIn K (.ref Tp)=true) (abX:nsIn K mainGlobals "_law_forces"=some (some (.ref Tr))) (abY:K.lookup Tr=some ⟨alK,alL,.func (fnOf "_law_forces" "_law_forces" (av x6) (ar x6) (af x6) .none alM alN alO alP Ts alQ),alR⟩) (abZ:codeIn K Ts "_law_forces"=true) (ab0:keepIn K (.ref Tr)=true) (ab1:nsIn K mainGlobals "_law_number"=some (some (.ref Tt))) (ab2:K.lookup Tt=some ⟨alS,alT,.func (fnOf "_law_number" "_law_number" (av x8) (ar x8) (af x8) .none alU alV alW alX Tu alY),alZ⟩) (ab3:codeIn K Tu "_law_number"=true) (ab4:keepIn K (.ref Tt)=true) (ab5:nsIn K mainGlobals "_law_are_forces"=some (some (.ref Tv))) (ab6:K.lookup Tv=some ⟨al0,al1,.func (fnOf "_law_are_forces" "_law_are_forces" (av x9) (ar x9) (af x9) .none al2 al3 al4 al5 Tw al6),al7⟩) (ab7:codeIn K Tw "_law_are_forces"=true) (ab8:keepIn K (.ref Tv)=true) (ab9:nsIn K mainGlobals "_law_is_motion"=some (some (.ref Tx))) (ab':K.lookup Tx=some ⟨al8,al9,.func (fnOf "_law_is_motion" "_law_is_motion" (av x_) (ar x_) (af x_) .none al' ama amb amc Tz amd),ame⟩) (aca:codeIn K Tz "_law_is_motion"=true) (acb:keepIn K (.ref Tx)=true) (acd:nsIn K mainGlobals "_law_at_rest"=some (some (.ref TB))) (ace:K.lookup TB=some ⟨amf,amg,.func (fnOf "_law_at_rest" "_law_at_rest" (av ya) (ar ya) (af ya) .none amh ami amj amk TC aml),amm⟩) (acf:codeIn K TC "_law_at_rest"=true) (acg:keepIn K (.ref TB)=true) (ach:nsIn K mainGlobals "_law_dot"=some (some (.ref TF))) (aci:K.lookup TF=some ⟨amn,amo,.func (fnOf "_law_dot" "_law_dot" (av yb) (ar yb) (af yb) .none amq amr ams amt TJ amu),amv⟩) (acj:codeIn K TJ "_law_dot"=true) (ack:keepIn K (.ref TF)=true) (acm:nsIn K mainGlobals "_law_longer"=some (some (.ref TK))) (acn:K.lookup TK=some ⟨amw,amx,.func (fnOf "_law_longer" "_law_longer" (av yd) (ar yd) (af yd) .none amy amz amA amB TL amC),amD⟩) (aco:codeIn K TL "_law_longer"=true) (acp:keepIn K (.ref TK)=true) (acq:nsIn K mainGlobals "_law_keeps"=some (some (.ref TM))) (acr:K.lookup TM=some ⟨amE,amF,.func (fnOf "_law_keeps" "_law_keeps" (av ye) (ar ye) (af ye) .none amG amH amI amJ TN amK),amL⟩) (acs:codeIn K TN "_law_keeps"=true) (acu:keepIn K (.ref TM)=true) (acv:nsIn K mainGlobals "_law_right"=some (some (.ref TQ))) (acw:K.lookup TQ=some ⟨amM,amN,.func (fnOf "_law_right" "_law_right" (av yf) (ar yf) (af yf) .none amO amP amQ amR TR amS),amT⟩) (acx:codeIn K TR "_law_right"=true) (acy:keepIn K (.ref TQ)=true) (acz:nsIn K mainGlobals "_law_refused"=some (some (.ref TU))) (acA:K.lookup TU=some ⟨amU,amV,.func (fnOf "_law_refused" "_law_refused" (av yg) (ar yg) (af yg) .none amW amX amY amZ TV am0),am1⟩) (acB:codeIn K TV "_law_refused"=true) (acC:keepIn K (.ref TU)=true) (acD:nsIn K mainGlobals "_law_refused_by_any"=some (some (.ref TX))) (acE:K.lookup TX=some ⟨am2,am3,.func (fnOf "_law_refused_by_any" "_law_refused_by_any" (av yh) (ar yh) (af yh) .none am4 am5 am6 am7 TY am8),am9⟩) (acF:codeIn K TY "_law_refused_by_any"=true) (acG:keepIn K (.ref TX)=true) (TZ:nsIn K mainGlobals "law"=some (some (.ref KC))) (T1:K.lookup KC=some ⟨acH,acI,.func (fnOf "law" "law" (av i8) (ar i8) (af i8) .none M0 M1 M3 M6 DM M7),acJ⟩) (T2:codeIn K DM "law"=true) (T3:keepIn K (.ref KC)=true) (acK:nsIn K mainGlobals "MOST_PINS"=some (some (.int 24 am'))) (acL:nsIn K mainGlobals "MOST_BARS"=some (some (.int 60 ana))) (acM:nsIn K mainGlobals "NOUGHT"=some (some (.ref M8))) (acN:K.lookup M8=some ⟨.type "tuple",anb,.seq #[.int 0 acO,.int 1 acP] anc,ane⟩) (acQ:nsIn K mainGlobals "NO_MOVE"=some (some (.ref M9))) (acR:K.lookup M9=some ⟨.type "tuple",anf,.seq #[.ref T4,.ref T5] ang,anh⟩) (acS:K.lookup T4=some ⟨.type "tuple",ani,.seq #[.int 0 acT,.int 1 acU] anj,ank⟩) (acV:K.lookup T5=some ⟨.type "tuple",anl,.seq #[.int 0 acW,.int 1 acX] anm,ano⟩) (qW:nsIn K mainGlobals "ValueError"=some none) (T6:nsIn K mainGlobals "abs"=some none) (T7:nsIn K mainGlobals "all"=some none) (T8:nsIn K mainGlobals "any"=some none) (M_:nsIn K mainGlobals "bool"=some none) (Nb:nsIn K mainGlobals "dict"=some none) (tK:nsIn K mainGlobals "enumerate"=some none) (T9:nsIn K mainGlobals "int"=some none) (qX:nsIn K mainGlobals "isinstance"=some none) (T_:nsIn K mainGlobals "len"=some none) (Nc:nsIn K mainGlobals "list"=some none) (Ua:nsIn K mainGlobals "min"=some none) (ID:nsIn K mainGlobals "range"=some none) (Ub:nsIn K mainGlobals "str"=some none) (IE:nsIn K mainGlobals "tuple"=some none) (Uc:nsIn K mainGlobals "zip"=some none) (acY:nsIn K mainGlobals "YardError"=some (some (.ref yM))) (acZ:nsIn K mainGlobals "NoWay"=some (some (.ref ac0))) (ac1:nsIn K mainGlobals "PinThere"=some (some (.ref ac2))) (ac3:nsIn K mainGlobals "SpotTaken"=some (some (.ref ac4))) (ac5:nsIn K mainGlobals "NoPin"=some (some (.ref Ud))) (ac6:nsIn K mainGlobals "BarThere"=some (some (.ref Ue))) (ac7:nsIn K mainGlobals "NoBar"=some (some (.ref dH))) (ac8:nsIn K mainGlobals "NoLength"=some (some (.ref ac9))) (ac':nsIn K mainGlobals "TooMany"=some (some (.ref Ug))) (ada:nsIn K mainGlobals "Frame"=some (some (.ref bL))) (adb:nsIn K mainGlobals "Hold"=some (some (.ref kO))) (ade:nsIn K mainGlobals "Roller"=some (some (.ref h7))) (adf:nsIn K mainGlobals "Fixed"=some (some (.ref j5))) (Uh:PySem.W.plainGet K bL Str.empty=true) (Ui:PySem.W.hasDictIn K bL=true) (Uj:PySem.W.plainOver K bL=true) (Uk:PySem.W.findIn K (.ref bL) "__setattr__"=some (some (.builtin "object.__setattr__"))) (Ul:PySem.W.makesIn K bL=true) (Um:keepIn K (.ref bL)=true) (Uo:PySem.W.findIn K (.ref bL) "__init__"=some (some (.ref DN))) (Up:PySem.W.isFn K (.ref DN)=true) (adg:K.lookup DN=some ⟨anp,anq,.func (fnOf "__init__" "Frame.__init__" (av yj) (ar yj) (af yj) .none anr ans ant anu Uq anv),anw⟩) (adh:codeIn K Uq "Frame.__init__"=true) (Ur:keepIn K (.ref DN)=true) (adi:PySem.W.findIn K (.ref bL) "put_pin"=some (some (.ref IF))) (adj:PySem.W.isFn K (.ref IF)=true) (adk:K.lookup IF=some ⟨anx,anz,.func (fnOf "put_pin" "Frame.put_pin" (av kK) (ar kK) (af kK) (.ref DO) KG KH KI KJ DP KN),anA⟩) (Us:K.lookup DO=some ⟨anB,adl,.seq #[.none] anC,adm⟩) (adn:codeIn K DP "Frame.put_pin"=true) (Ut:keepIn K (.ref IF)=true) (ado:PySem.W.findIn K (.ref bL) "put_bar"=some (some (.ref IG))) (adp:PySem.W.isFn K (.ref IG)=true) (adq:K.lookup IG=some ⟨anD,anE,.func (fnOf "put_bar" "Frame.put_bar" (av yk) (ar yk) (af yk) .none anF anG anH anI Uu anJ),anK⟩) (ads:codeIn K Uu "Frame.put_bar"=true) (Uv:keepIn K (.ref IG)=true) (adt:PySem.W.findIn K (.ref bL) "check_bar"=some (some (.ref IH))) (adu:PySem.W.isFn K (.ref IH)=true) (adv:K.lookup IH=some ⟨anL,anM,.func (fnOf "check_bar" "Frame.check_bar" (av yl) (ar yl) (af yl) .none anN anO anP anQ Uw anR),anS⟩) (adw:codeIn K Uw "Frame.check_bar"=true) (Ux:keepIn K (.ref IH)=true) (adx:PySem.W.findIn K (.ref bL) "check_pin"=some (some (.ref II))) (ady:PySem.W.isFn K (.ref II)=true) (adz:K.lookup II=some ⟨anT,anU,.func (fnOf "check_pin" "Frame.check_pin" (av ym) (ar ym) (af ym) .none anV anW anY anZ Uy an0),an1⟩) (adA:codeIn K Uy "Frame.check_pin"=true) (Uz:keepIn K (.ref II)=true) (adB:PySem.W.findIn K (.ref bL) "pins"=some (some (.ref IJ))) (adC:PySem.W.isFn K (.ref IJ)=true) (adD:K.lookup IJ=some ⟨an2,an3,.func (fnOf "pins" "Frame.pins" (av yn) (ar yn) (af yn) .none an4 an5 an6 an7 UA an8),an9⟩) (adE:codeIn K UA "Frame.pins"=true) (UB:keepIn K (.ref IJ)=true) (adF:PySem.W.findIn K (.ref bL) "bars"=some (some (.ref IK))) (adG:PySem.W.isFn K (.ref IK)=true) (adH:K.lookup IK=some ⟨an',aoa,.func (fnOf "bars" "Frame.bars" (av yo) (ar yo) (af yo) .none aob aoc aod aoe UC aof),aog⟩) (adI:codeIn K UC "Frame.bars"=true) (UD:keepIn K (.ref IK)=true) (adJ:PySem.W.findIn K (.ref bL) "place"=some (some (.ref IL))) (adK:PySem.W.isFn K (.ref IL)=true) (adL:K.lookup IL=some ⟨aoh,aoi,.func (fnOf "place" "Frame.place" (av yp) (ar yp) (af yp) .none aoj aok aol aom UE aon),aoo⟩) (adM:codeIn K UE "Frame.place"=true) (UG:keepIn K (.ref IL)=true) (adN:PySem.W.findIn K (.ref bL) "ways"=some (some (.ref IM))) (adO:PySem.W.isFn K (.ref IM)=true) (adP:K.lookup IM=some ⟨aop,aoq,.func (fnOf "ways" "Frame.ways" (av yq) (ar yq) (af yq) .none aor aos aot aou UH aov),aow⟩) (adQ:codeIn K UH "Frame.ways"=true) (UI:keepIn K (.ref IM)=true) (adR:PySem.W.findIn K (.ref bL) "ends"=some (some (.ref IP))) (adS:PySem.W.isFn K (.ref IP)=true) (adT:K.lookup IP=some ⟨aox,aoy,.func (fnOf "ends" "Frame.ends" (av yr) (ar yr) (af yr) .none aoz aoA aoB aoC UJ aoD),aoE⟩) (adU:codeIn K UJ "Frame.ends"=true) (UK:keepIn K (.ref IP)=true) (UL:PySem.W.plainGet K kO Str.empty=true) (UM:PySem.W.hasDictIn K kO=true) (UN:PySem.W.plainOver K kO=true) (UO:PySem.W.findIn K (.ref kO) "__setattr__"=some (some (.builtin "object.__setattr__"))) (UP:PySem.W.makesIn K kO=true) (UQ:keepIn K (.ref kO)=true) (UR:PySem.W.findIn K (.ref kO) "__init__"=some (some (.builtin "object.__init__"))) (adV:PySem.W.findIn K (.ref kO) "ways"=some (some (.ref IQ))) (adW:PySem.W.isFn K (.ref IQ)=true) (adX:K.lookup IQ=some ⟨aoF,aoG,.func (fnOf "ways" "Hold.ways" (av F') (ar F') (af F') .none aoH aoI aoJ aoK US aoL),aoM⟩) (adY:codeIn K US "Hold.ways"=true) (UT:keepIn K (.ref IQ)=true) (UU:PySem.W.plainGet K h7 Str.empty=true) (UW:PySem.W.hasDictIn K h7=true) (UX:PySem.W.plainOver K h7=true) (UY:PySem.W.findIn K (.ref h7) "__setattr__"=some (some (.builtin "object.__setattr__"))) (UZ:PySem.W.makesIn K h7=true) (U0:keepIn K (.ref h7)=true) (U1:PySem.W.findIn K (.ref h7) "__init__"=some (some (.ref DQ))) (U2:PySem.W.isFn K (.ref DQ)=true) (adZ:K.lookup DQ=some ⟨aoN,aoO,.func (fnOf "__init__" "Roller.__init__" (av yt) (ar yt) (af yt) .none aoP aoQ aoR aoS U3 aoT),aoU⟩) (ad0:codeIn K U3 "Roller.__init__"=true) (U4:keepIn K (.ref DQ)=true) (ad1:PySem.W.findIn K (.ref h7) "ways"=some (some (.ref IS))) (ad2:PySem.W.isFn K (.ref IS)=true) (ad3:K.lookup IS=some ⟨aoV,aoW,.func (fnOf "ways" "Roller.ways" (av yu) (ar yu) (af yu) .none aoX aoY aoZ ao0 U5 ao1),ao2⟩) (ad4:codeIn K U5 "Roller.ways"=true) (U6:keepIn K (.ref IS)=true) (U7:PySem.W.plainGet K j5 Str.empty=true) (U8:PySem.W.hasDictIn K j5=true) (U9:PySem.W.plainOver K j5=true) (U_:PySem.W.findIn K (.ref j5) "__setattr__"=some (some (.builtin "object.__setattr__"))) (Va:PySem.W.makesIn K j5=true) (Vb:keepIn K (.ref j5)=true) (Vc:PySem.W.findIn K (.ref j5) "__init__"=some (some (.builtin "object.__init__"))) (ad5:PySem.W.findIn K (.ref j5) "ways"=some (some (.ref IT))) (ad6:PySem.W.isFn K (.ref IT)=true) (ad7:K.lookup IT=some ⟨ao3,ao4,.func (fnOf "ways" "Fixed.ways" (av yv) (ar yv) (af yv) .none ao5 ao6 ao7 ao8 Vd ao9),ao'⟩) (ad8:codeIn K Vd "Fixed.ways"=true) (Ve:keepIn K (.ref IT)=true) (ad9:K.lookup dH=some (excClassObj RO RP dH atl RQ KA RS RT MY RU MZ apa RV RW RX RY RZ "ValueError.__new__")) (Vf:PySem.W.tailIn K XA KA=true) (Vg:keepIn K (.ref dH)=true) (Vh:PySem.W.findIn K (.ref dH) "__getattribute__"=some (some (.builtin "BaseException.__getattribute__"))) (Vi:PySem.W.findIn K (.ref dH) "__getattr__"=some none) (Vj:PySem.W.findIn K (.ref dH) "__class__"=some (some (.builtin "object.__class__"))) (Vk:PySem.W.mroIn K dH (.type "object")=some true) (Vl:PySem.W.mroIn K dH (.type "BaseException")=some true) (Vm:PySem.W.mroIn K dH (.type "ValueError")=some true) (Vn:(PySem.W.clsIn K dH).isSome=true) (Vo:PySem.W.findIn K (.ref dH) "__setattr__"=some (some (.builtin "object.__setattr__"))) (Vp:PySem.W.hasDictIn K dH=true) (Vq:(PySem.W.clsIn K dH).any (fun cd=>TyExc.iz cd.mro)=true) (qY:PySem.W.findIn K (.ref dH) "bar"=some none) (ad':PySem.W.findIn K (.ref dH) "__init__"=some (some (.ref IU))) (aea:PySem.W.isFn K (.ref IU)=true) (aeb:K.lookup IU=some ⟨apb,apc,.func (fnOf "__init__" "NoBar.__init__" (av yi) (ar yi) (af yi) .none apd ape apf apg Vr aph),api⟩) (aec:codeIn K Vr "NoBar.__init__"=true) (aed:keepIn K (.ref IU)=true) (DR:PySem.W.findIn K (.ref bL) "pin_places"=some none) (Nd:PySem.W.findIn K (.ref bL) "pin_ways"=some none) (Nf:PySem.W.findIn K (.ref bL) "bar_ends"=some none) (KO:PySem.W.findIn K (.ref h7) "way"=some none) (ht:l.prog.given.tree=none) (aee:PySem.W.specialIn K (.ref yM) "__getattribute__"=some (some (.builtin "type.__getattribute__"))) (aef:PySem.W.readsIn K yM (.type "type")=true) (aeg:PySem.W.findCls K (.ref yM) (.type "type") "__init__"=some (.val (.builtin "ValueError.__init__"))) (Vs:PySem.W.exmOne K (.ref dH) (.ref dH)=some true) (Vt:PySem.W.exmOne K (.ref dH) (.ref yM)=some true) (Vu:PySem.W.kitOne K (.ref dH) (.ref Ud)=some false) (Vv:PySem.W.kitOne K (.ref dH) (.ref Ue)=some false) (Vw:PySem.W.kitOne K (.ref dH) (.ref Ug)=some false) (Vx:PySem.W.kitOne K (.ref dH) (.type "ValueError")=some true):
  ∃fd:FuncData,(∀(s:Shared) (v:Value),BindsTo s fd ⟨[v],[]⟩ [("_law_script",v)])∧∀base:Heap,K.In base→base.Ns mainGlobals mg→cp l.prog w K mg base (aX l.prog w) 42 fa fd ["_law_script"] (zQ K):=by
 have e:=hfa.symm.trans (mg_of X G TZ)
 cases e
 have aeh:Def K mg "difference_of" uI ["one","other"]:=eK X G ZJ ZK ZL ZI
 have aei:Def K mg "lowest_terms" sW ["top","bottom"]:=eK X G ZN ZO ZP ZM
 have aej:Def K mg "greatest_shared" xw ["one","other"]:=eK X G ZR ZS ZT ZQ
 have aek:Def K mg "arm_between" xx ["F","one","other"]:=eK X G ZV ZW ZX ZU
 have ael:Def K mg "pair_difference" uJ ["one","other"]:=eK X G ZZ Z0 Z1 ZY
 have aem:Def K mg "pair_row" xy ["F","draws"]:=eK X G Z3 Z4 Z5 Z2
 have aen:Def K mg "bar_row" xA ["F","one","other"]:=eK X G Z7 Z8 Z9 Z6
 have aeo:Def K mg "draw_rows" xB ["F"]:=eK X G Z' aaa aab Z_
 have aep:Def K mg "pulls_and_pushes" xC ["F","numbers"]:=eK X G aad aae aaf aac
 have aeq:Def K mg "motion_from" xD ["F","numbers"]:=eK X G aah aai aaj aag
 have aer:Def K mg "signs_turned" xE ["numbers"]:=eK X G aal aam aan aak
 have aes:Def K mg "solve_rows" xF ["rows","due","many"]:=eK X G aap aaq aar aao
 have aet:Def K mg "turned" xG ["rows","many"]:=eK X G aat aau aav aas
 have aeu:Def K mg "whole_row" xH ["row"]:=eK X G aax aay aaz aaw
 have aev:Def K mg "solution_of" xI ["lines","many"]:=eK X G aaB aaC aaD aaA
 have aew:Def K mg "reduced" xJ ["lines","many"]:=eK X G aaF aaG aaH aaE
 have aex:Def K mg "first_not_nought" xK ["lines","column"]:=eK X G aaJ aaK aaL aaI
 have aey:Def K mg "cleared" xM ["line","lead","column"]:=eK X G aaN aaO aaP aaM
 have aez:Def K mg "divided" xN ["line"]:=eK X G aaR aaS aaT aaQ
 have aeA:Def K mg "would_take" uK ["F","name"]:=eK X G aaV aaW aaX aaU
 have aeB:Def K mg "stretch_of" xO ["F","rows","at"]:=eK X G aaZ aa0 aa1 aaY
 have aeC:Def K mg "_law_cell_at" xP ["_law_script","_law_k"]:=eK X G aa3 aa4 aa5 aa2
 have aeD:Def K mg "_law_field" xQ ["_law_cell","_law_prime","_law_many"]:=eK X G aa7 aa8 aa9 aa6
 have aeE:Def K mg "_law_lowest" xR ["_law_top","_law_bottom"]:=eK X G aba abb abc aa'
 have aeF:Def K mg "_law_sum" xS ["_law_one","_law_other"]:=eK X G abe abf abg abd
 have aeG:Def K mg "_law_times" xT ["_law_one","_law_other"]:=eK X G abi abj abk abh
 have aeH:Def K mg "_law_turned" xU ["_law_one"]:=eK X G abm abn abo abl
 have aeI:Def K mg "_law_name" uL ["_law_cell","_law_k"]:=eK X G abq abr abu abp
 have aeJ:Def K mg "_law_spot" xV ["_law_cell","_law_kind"]:=eK X G abw abx aby abv
 have aeK:Def K mg "_law_ways" xW ["_law_cell"]:=eK X G abA abB abC abz
 have aeL:Def K mg "_law_pins" xX ["_law_script"]:=eK X G abE abF abG abD
 have aeM:Def K mg "_law_bars" xY ["_law_script","_law_pins_here"]:=eK X G abI abJ abK abH
 have aeN:Def K mg "_law_frame" xZ ["_law_pins_here","_law_bars_here"]:=eK X G abM abN abO abL
 have aeO:Def K mg "_law_arm" x4 ["_law_pins_here","_law_bar","_law_axis"]:=eK X G abQ abR abS abP
 have aeP:Def K mg "_law_add" x5 ["_law_found","_law_k","_law_axis","_law_draw"]:=eK X G abU abV abW abT
 have aeQ:Def K mg "_law_forces" x6 ["_law_pins_here","_law_bars_here","_law_pulls","_law_pushes"]:=eK X G abY abZ ab0 abX
 have aeR:Def K mg "_law_number" x8 ["_law_x"]:=eK X G ab2 ab3 ab4 ab1
 have aeS:Def K mg "_law_are_forces" x9 ["_law_pins_here","_law_bars_here","_law_pulls","_law_pushes"]:=eK X G ab6 ab7 ab8 ab5
 have aeT:Def K mg "_law_is_motion" x_ ["_law_pins_here","_law_motion"]:=eK X G ab' aca acb ab9
 have aeU:Def K mg "_law_at_rest" ya ["_law_pins_here","_law_bars_here","_law_pulls","_law_pushes","_law_load"]:=eK X G ace acf acg acd
 have aeV:Def K mg "_law_dot" yb ["_law_one","_law_other"]:=eK X G aci acj ack ach
 have aeW:Def K mg "_law_longer" yd ["_law_pins_here","_law_bar","_law_motion"]:=eK X G acn aco acp acm
 have aeX:Def K mg "_law_keeps" ye ["_law_pins_here","_law_motion"]:=eK X G acr acs acu acq
 have aeY:Def K mg "_law_right" yf ["_law_pins_here","_law_bars_here","_law_name_here","_law_told"]:=eK X G acw acx acy acv
 have aeZ:Def K mg "_law_refused" yg ["_law_frame_here","_law_name_here"]:=eK X G acA acB acC acz
 have ae0:Def K mg "_law_refused_by_any" yh ["_law_frame_here","_law_name_here"]:=eK X G acE acF acG acD
 have eI:rA K bL:=⟨Uh,Ui,Uj,Uk⟩
 have Mv:Mk K bL DN:=⟨Ul,Uo,Up,Um⟩
 have Vy:=cD (st:=yj) adg adh Ur
 have Mx:=Vy.vK (ps:=["self"])
 have atm:Meth K bL "__init__" DN:=⟨Uo,Up,Ur⟩
 have ae1:=FV (st:=kK) adk adn Ut
 have ae2:Binds K (fnOf "put_pin" "Frame.put_pin" (av kK) (ar kK) (af kK) (.ref DO) KG KH KI KJ DP KN) ["self","name","x","y","hold"] []:=fun s us X hl=>match us,hl with | [_,_,_,_,_],_=>BindsTo.of_defaults rfl (X _ _ Us) rfl rfl rfl
 have Vz:Binds K (fnOf "put_pin" "Frame.put_pin" (av kK) (ar kK) (af kK) (.ref DO) KG KH KI KJ DP KN) ["self","name","x","y","hold"] [.none]:=fun s us X hl=>match us,(show us.length=4 by simpa using hl) with | [_,_,_,_],_=>BindsTo.of_defaults rfl (X _ _ Us) rfl rfl rfl
 have VA:Meth K bL "put_pin" IF:=⟨adi,adj,Ut⟩
 have VB:=cD (st:=yk) adq ads Uv
 have ae3:=VB.vK (ps:=["self","name","one","other"])
 have ae4:Meth K bL "put_bar" IG:=⟨ado,adp,Uv⟩
 have VC:=cD (st:=yl) adv adw Ux
 have ae5:=VC.vK (ps:=["self","name","one","other"])
 have ae6:Meth K bL "check_bar" IH:=⟨adt,adu,Ux⟩
 have VD:=cD (st:=ym) adz adA Uz
 have ae7:=VD.vK (ps:=["self","pin"])
 have ae8:Meth K bL "check_pin" II:=⟨adx,ady,Uz⟩
 have VE:=cD (st:=yn) adD adE UB
 have ae9:=VE.vK (ps:=["self"])
 have ae':Meth K bL "pins" IJ:=⟨adB,adC,UB⟩
 have VF:=cD (st:=yo) adH adI UD
 have afa:=VF.vK (ps:=["self"])
 have afb:Meth K bL "bars" IK:=⟨adF,adG,UD⟩
 have VG:=cD (st:=yp) adL adM UG
 have afc:=VG.vK (ps:=["self","pin"])
 have afd:Meth K bL "place" IL:=⟨adJ,adK,UG⟩
 have VH:=cD (st:=yq) adP adQ UI
 have afe:=VH.vK (ps:=["self","pin"])
 have aff:Meth K bL "ways" IM:=⟨adN,adO,UI⟩
 have VI:=cD (st:=yr) adT adU UK
 have afg:=VI.vK (ps:=["self","bar"])
 have afh:Meth K bL "ends" IP:=⟨adR,adS,UK⟩
 have afi:rA K kO:=⟨UL,UM,UN,UO⟩
 have atn:OJ K kO:=⟨UP,UR,UQ⟩
 have afj:=cD (st:=F') adX adY UT
 have ato:=afj.vK (ps:=["self"])
 have atp:Meth K kO "ways" IQ:=⟨adV,adW,UT⟩
 have u_:rA K h7:=⟨UU,UW,UX,UY⟩
 have MD:Mk K h7 DQ:=⟨UZ,U1,U2,U0⟩
 have VJ:=cD (st:=yt) adZ ad0 U4
 have MF:=VJ.vK (ps:=["self","x","y"])
 have atq:Meth K h7 "__init__" DQ:=⟨U1,U2,U4⟩
 have VL:=cD (st:=yu) ad3 ad4 U6
 have afk:=VL.vK (ps:=["self"])
 have afl:Meth K h7 "ways" IS:=⟨ad1,ad2,U6⟩
 have Ng:rA K j5:=⟨U7,U8,U9,U_⟩
 have MA:OJ K j5:=⟨Va,Vc,Vb⟩
 have VM:=cD (st:=yv) ad7 ad8 Ve
 have afm:=VM.vK (ps:=["self"])
 have afn:Meth K j5 "ways" IT:=⟨ad5,ad6,Ve⟩
 have VN:=cD (st:=yi) aeb aec aed
 have Mp:=VN.vK (ps:=["self","bar"])
 have VO:TyExc.gG K dH:=⟨Vh,Vi,Vj,Vk,Vl,Vn⟩
 have gf:TyExc.rW K dH "bar":=⟨VO,Vo,Vp,Vq,qY⟩
 have Mo:Lu K dH IU:=⟨⟨_,_,_,_,_,_,_,_,_,_,_,_,_,_,_,_,ad9,Vf⟩,ad',aea,Vg⟩
 have Mc:=mg_of X G acK
 have Md:=mg_of X G acL
 have yy:mg "NOUGHT"=some (.ref M8):=mg_of X G acM
 have Me:mg "NO_MOVE"=some (.ref M9):=mg_of X G acQ
 have yB:mg "YardError"=some (.ref yM):=mg_of X G acY
 have atr:mg "NoWay"=some (.ref ac0):=mg_of X G acZ
 have ats:mg "PinThere"=some (.ref ac2):=mg_of X G ac1
 have atv:mg "SpotTaken"=some (.ref ac4):=mg_of X G ac3
 have MO:mg "NoPin"=some (.ref Ud):=mg_of X G ac5
 have MQ:mg "BarThere"=some (.ref Ue):=mg_of X G ac6
 have yI:mg "NoBar"=some (.ref dH):=mg_of X G ac7
 have atw:mg "NoLength"=some (.ref ac9):=mg_of X G ac8
 have MR:mg "TooMany"=some (.ref Ug):=mg_of X G ac'
 have Mw:mg "Frame"=some (.ref bL):=mg_of X G ada
 have atx:mg "Hold"=some (.ref kO):=mg_of X G adb
 have My:mg "Roller"=some (.ref h7):=mg_of X G ade
 have Mz:mg "Fixed"=some (.ref j5):=mg_of X G adf
 have gd:mg "ValueError"=none:=mg_none_of X G qW
 have oO:mg "abs"=none:=mg_none_of X G T6
 have v8:mg "all"=none:=mg_none_of X G T7
 have BO:mg "any"=none:=mg_none_of X G T8
 have u5:mg "bool"=none:=mg_none_of X G M_
 have fj:mg "dict"=none:=mg_none_of X G Nb
 have cW:mg "enumerate"=none:=mg_none_of X G tK
 have DF:mg "int"=none:=mg_none_of X G T9
 have aL:mg "isinstance"=none:=mg_none_of X G qX
 have aZ:mg "len"=none:=mg_none_of X G T_
 have bX:mg "list"=none:=mg_none_of X G Nc
 have C':mg "min"=none:=mg_none_of X G Ua
 have bw:mg "range"=none:=mg_none_of X G ID
 have CU:mg "str"=none:=mg_none_of X G Ub
 have dW:mg "tuple"=none:=mg_none_of X G IE
 have ik:mg "zip"=none:=mg_none_of X G Uc
 have F:=cD (st:=i8) T1 T2 T3
 refine ⟨fnOf "law" "law" (av i8) (ar i8) (af i8) .none M0 M1 M3 M6 DM M7,fun s v=>.of_eq rfl,fun base _ _=> ?_⟩
 have hM:rQ (aX l.prog w):=aX.kG
 have hN:∀H:Hp,bF K H M8 [.int 0,.int 1]:=fun H=>.inr ⟨_,_,_,acN,rfl,rfl,(by show 2≤sizeLine;decide),.cons ⟨_,rfl⟩ (.cons ⟨_,rfl⟩ .nil)⟩
 have nm:∀{c:Addr} {o:Option Addr} {k0 k1:Tok} {n:Nat} {sl:Array (Option Value)},K.lookup c=some ⟨.type "tuple",o,.seq #[.int 0 k0,.int 1 k1] n,sl⟩→∀H:Hp,dE K H (.ref c) 0:=fun t H=>⟨_,rfl,by rw [cy];exact .inr ⟨_,_,_,t,rfl,rfl,(by show 2≤sizeLine;decide),.cons ⟨_,rfl⟩ (.cons ⟨_,rfl⟩ .nil)⟩⟩
 have hMo:∀H:Hp,eh K H (.ref M9) (0,0):=fun H=>⟨_,.ref T4,.ref T5,rfl,.inr ⟨_,_,_,acR,rfl,rfl,(by show 2≤sizeLine;decide),.cons rfl (.cons rfl .nil)⟩,nm acS H,nm acV H⟩
 have hY:AA K yM:=⟨aee,aef,aeg⟩
 have XN:=P7 (P:=l.prog) (w:=w) (mg:=mg) (base:=base) VN hY yB gf Vm
 have fc:AZ K bL:=⟨eI,DR,Nd,Nf⟩
 have G1:=Pl (P:=l.prog) (w:=w) (base:=base) (CX:=aX l.prog w) aej oO
 have G2:=Pm ht aei G1
 have GW:=Po aeu G1
 have GDv:=Pp ht aez G1
 have GCl:=Pq ht aey ik G1 GDv
 have GF:=Pr (P:=l.prog) (w:=w) (base:=base) aex cW
 have GR:=Pw aew bw bX GF GCl
 have GS:=PJ hN yy aev BO GR G2
 have afo:=PQ aes ik aZ GW GS (PM aet bw) G2
 have GD:=Ma (P9 hM aeh G2)
 have GPD:=P' hM ael GD
 have GI:=Qc (P:=l.prog) (w:=w) (mg:=mg) (base:=base) Vy fc
 have NG:bG l.prog w K mg base (aX l.prog w) 1 bL "bars" ["self"] (iG K bL):=⟨_,_,eI,afb,Qe VF fc bX,afa⟩
 have VP:bG l.prog w K mg base (aX l.prog w) 1 bL "pins" ["self"] (gK K bL):=⟨_,_,eI,ae',Qg VE fc bX,ae9⟩
 have MCp:bG l.prog w K mg base (aX l.prog w) 1 bL "check_pin" ["self","pin"] (du K bL):=⟨_,_,eI,ae8,Qi VD fc,ae7⟩
 have MCb:bG l.prog w K mg base (aX l.prog w) 2 bL "check_bar" ["self","name","one","other"] (f9 K bL):=⟨_,_,eI,ae6,Qy VC fc Md aZ MCp,ae5⟩
 have Y1:bG l.prog w K mg base (aX l.prog w) 3 bL "put_bar" ["self","name","one","other"] (jg K bL):=⟨_,_,eI,ae4,QC VB fc MCb,ae3⟩
 have okP:=Qw (P:=l.prog) (w:=w) (mg:=mg) (base:=base) ae1 fc Mc aZ bX
 have Wv:bG l.prog w K mg base (aX l.prog w) 3 bL "put_pin" ["self","name","x","y","hold"] (dw l.prog w K mg base bL):=⟨_,_,eI,VA,okP,ae2⟩
 have Y2:uz l.prog w K mg base (aX l.prog w) 3 bL "put_pin" ["self","name","x","y","hold"] [.none] (dw l.prog w K mg base bL):=⟨_,_,eI,VA,okP,Vz⟩
 have MPl:bG l.prog w K mg base (aX l.prog w) 2 bL "place" ["self","pin"] (lE K bL):=⟨_,_,eI,afd,Qk VG fc MCp,afc⟩
 have ME:bG l.prog w K mg base (aX l.prog w) 1 bL "ends" ["self","bar"] (mR K bL):=⟨_,_,eI,afh,Qm VI fc,afg⟩
 have MW:bG l.prog w K mg base (aX l.prog w) 2 bL "ways" ["self","pin"] (mS K bL):=⟨_,_,eI,aff,Qo VH fc bX MCp,afe⟩
 have wR:bG l.prog w K mg base (aX l.prog w) 1 h7 "ways" ["self"] (je K h7):=⟨_,_,u_,afl,Qs VL u_ KO,afk⟩
 have wF:bG l.prog w K mg base (aX l.prog w) 1 j5 "ways" ["self"] (jf K):=⟨_,_,Ng,afn,Qu VM,afm⟩
 have GRI:=Qq (P:=l.prog) (w:=w) (mg:=mg) (base:=base) VJ u_ KO
 have GA:=QE aek MPl GPD
 have GPR:=QF hMo Me aem VP
 have GBR:=QH aen GA GPR
 have GDR:=QJ aeo VP MW NG ME GPR GBR
 have GPP:=QL aep aZ fj ik VP MW NG
 have GMF:=QN aeq cW VP
 have GSg:=QP (P:=l.prog) (w:=w) (base:=base) aer
 have GSf:=QQ hN yy aeB aZ VP afo
 have GWT:=QS aeA aZ NG yI Mo XN Mp GDR GSf GSg GMF GPP
 have GC:=QV (P:=l.prog) (w:=w) (base:=base) (CX:=aX l.prog w) aeC aZ
 have NI:=QX (P:=l.prog) (w:=w) (base:=base) (CX:=aX l.prog w) aeD
 have GLo:=QY (w:=w) (base:=base) ht aeE oO
 have NJ:=Q0 (P:=l.prog) (w:=w) (base:=base) aeF
 have GTi:=Q4 (P:=l.prog) (w:=w) (base:=base) aeG
 have GTu:=Q7 (P:=l.prog) (w:=w) (base:=base) aeH
 have GNa:=Q8 hM aeI CU NI
 have GSp:=Q9 aeJ NI GLo
 have GWy:=Q_ aeK NI GLo
 have GPi:=Rf aeL bw C' GC NI GSp GWy GNa NJ
 have GBa:=Rg aeM bw aZ GC NI GNa
 have GFr:=Rh aeN aZ Mv Mw GI Mx My Mz MA MD GRI MF (wR.mono (by decide)) (wF.mono (by decide)) Y1 Wv Y2
 have GAr:=Rk aeO NJ GTu
 have GDo:=Rn aeV NJ GTi
 have GLg:=Ro aeW bw NJ GTu GAr GDo
 have GKe:=Rp aeX GDo
 have GAd:=Rr aeP NJ
 have GFo:=Rt aeQ aZ bw GTi GTu GAr GAd
 have GNu:=Rw aeR aZ aL DF u5 dW GLo
 have GAF:=Ry aeS aL fj bX aZ v8 GNu
 have GIM:=Rz aeT aL fj bX dW aZ GNu
 have GAt:=RB aeU aZ bw GFo NJ
 have GRt:=RD aeY aZ aL dW GAF GAt GIM GLg GKe
 have GRe:=RE aeZ yI MO MQ MR aL gf Vs Vu Vv Vw GWT
 have GAn:=RF ae0 yB aL gd gf Vt Vx GWT
 exact MT F aZ GC NI GPi GBa GFr GRe GAn NG ME GWT GRt
end T_k52
open PySem PySem.W PyProof.Rows
set_option maxRecDepth 100000 in
set_option maxHeartbeats 0 in
theorem PySem.Challenge.cw_trussyard_k52_a_bar_taken_holds : PySem.Challenge.rw_trussyard_k52_a_bar_taken.Holds := by
 w_on;o_law;k_head;(case hw=>w_witness2)
 k_fill
 refine Ty.walk (l:=PySem.Challenge.rw_trussyard_k52_a_bar_taken) (x:="_law_script") (k:=42) (CX:=fun w=>Ty.aX (PySem.Challenge.rw_trussyard_k52_a_bar_taken).prog w) rfl rfl (by first | rfl | decide+kernel) ⟨rfl,by decide,by decide⟩ (fun w h Y=>PySem.W.kIn_of Y) (fun w=>Ty.aX.kG) ?F
 case F=>
  intro w mg fa h KX G Ox
  refine' T_k52.all_mk KX G Ox ?A0 ?A1 ?A2 ?A3 ?A4 ?A5 ?A6 ?A7 ?A8 ?A9 ?Aa ?Ab ?Ac ?Ad ?Ae ?Af ?Ag ?Ah ?Ai ?Aj ?Ak ?Al ?Am ?An ?Ao ?Ap ?Aq ?Ar ?As ?At ?Au ?Av ?Aw ?Ax ?Ay ?Az ?B0 ?B1 ?B2 ?B3 ?B4 ?B5 ?B6 ?B7 ?B8 ?B9 ?Ba ?Bb ?Bc ?Bd ?Be ?Bf ?Bg ?Bh ?Bi ?Bj ?Bk ?Bl ?Bm ?Bn ?Bo ?Bp ?Bq ?Br ?Bs ?Bt ?Bu ?Bv ?Bw ?Bx ?By ?Bz ?C0 ?C1 ?C2 ?C3 ?C4 ?C5 ?C6 ?C7 ?C8 ?C9 ?Ca ?Cb ?Cc ?Cd ?Ce ?Cf ?Cg ?Ch ?Ci ?Cj ?Ck ?Cl ?Cm ?Cn ?Co ?Cp ?Cq ?Cr ?Cs ?Ct ?Cu ?Cv ?Cw ?Cx ?Cy ?Cz ?D0 ?D1 ?D2 ?D3 ?D4 ?D5 ?D6 ?D7 ?D8 ?D9 ?Da ?Db ?Dc ?Dd ?De ?Df ?Dg ?Dh ?Di ?Dj ?Dk ?Dl ?Dm ?Dn ?Do ?Dp ?Dq ?Dr ?Ds ?Dt ?Du ?Dv ?Dw ?Dx ?Dy ?Dz ?E0 ?E1 ?E2 ?E3 ?E4 ?E5 ?E6 ?E7 ?E8 ?E9 ?Ea ?Eb ?Ec ?Ed ?Ee ?Ef ?Eg ?Eh ?Ei ?Ej ?Ek ?El ?Em ?En ?Eo ?Ep ?Eq ?Er ?Es ?Et ?Eu ?Ev ?Ew ?Ex ?Ey ?Ez ?F0 ?F1 ?F2 ?F3 ?F4 ?F5 ?F6 ?F7 ?F8 ?F9 ?Fa ?Fb ?Fc ?Fd ?Fe ?Ff ?Fg ?Fh ?Fi ?Fj ?Fk ?Fl ?Fm ?Fn ?Fo ?Fp ?Fq ?Fr ?Fs ?Ft ?Fu ?Fv ?Fw ?Fx ?Fy ?Fz ?G0 ?G1 ?G2 ?G3 ?G4 ?G5 ?G6 ?G7 ?G8 ?G9 ?Ga ?Gb ?Gc ?Gd ?Ge ?Gf ?Gg ?Gh ?Gi ?Gj ?Gk ?Gl ?Gm ?Gn ?Go ?Gp ?Gq ?Gr ?Gs ?Gt ?Gu ?Gv ?Gw ?Gx ?Gy ?Gz ?H0 ?H1 ?H2 ?H3 ?H4 ?H5 ?H6 ?H7 ?H8 ?H9 ?Ha ?Hb ?Hc ?Hd ?He ?Hf ?Hg ?Hh ?Hi ?Hj ?Hk ?Hl ?Hm ?Hn ?Ho ?Hp ?Hq ?Hr ?Hs ?Ht ?Hu ?Hv ?Hw ?Hx ?Hy ?Hz ?I0 ?I1 ?I2 ?I3 ?I4 ?I5 ?I6 ?I7 ?I8 ?I9 ?Ia ?Ib ?Ic ?Id ?Ie ?If ?Ig ?Ih ?Ii ?Ij ?Ik ?Il ?Im ?In ?Io ?Ip ?Iq ?Ir ?Is ?It ?Iu ?Iv ?Iw ?Ix ?Iy ?Iz ?J0 ?J1 ?J2 ?J3 ?J4 ?J5 ?J6 ?J7 ?J8 ?J9 ?Ja ?Jb ?Jc ?Jd ?Je ?Jf ?Jg ?Jh ?Ji ?Jj ?Jk ?Jl ?Jm ?Jn ?Jo ?Jp ?Jq ?Jr ?Js ?Jt ?Ju
  (case A0=>k_is);(case A1=>k_is);(case A2=>k_is);(case A3=>k_is);(case A4=>k_is);(case A5=>k_is);(case A6=>k_is);(case A7=>k_is);(case A8=>k_is);(case A9=>k_is);(case Aa=>k_is);(case Ab=>k_is);(case Ac=>k_is);(case Ad=>k_is);(case Ae=>k_is);(case Af=>k_is);(case Ag=>k_is);(case Ah=>k_is);(case Ai=>k_is);(case Aj=>k_is);(case Ak=>k_is);(case Al=>k_is);(case Am=>k_is);(case An=>k_is);(case Ao=>k_is);(case Ap=>k_is);(case Aq=>k_is);(case Ar=>k_is);(case As=>k_is);(case At=>k_is);(case Au=>k_is);(case Av=>k_is);(case Aw=>k_is);(case Ax=>k_is);(case Ay=>k_is);(case Az=>k_is);(case B0=>k_is);(case B1=>k_is);(case B2=>k_is);(case B3=>k_is);(case B4=>k_is);(case B5=>k_is);(case B6=>k_is);(case B7=>k_is);(case B8=>k_is);(case B9=>k_is);(case Ba=>k_is);(case Bb=>k_is);(case Bc=>k_is);(case Bd=>k_is);(case Be=>k_is);(case Bf=>k_is);(case Bg=>k_is);(case Bh=>k_is);(case Bi=>k_is);(case Bj=>k_is);(case Bk=>k_is);(case Bl=>k_is);(case Bm=>k_is);(case Bn=>k_is);(case Bo=>k_is);(case Bp=>k_is);(case Bq=>k_is);(case Br=>k_is);(case Bs=>k_is);(case Bt=>k_is);(case Bu=>k_is);(case Bv=>k_is);(case Bw=>k_is);(case Bx=>k_is);(case By=>k_is);(case Bz=>k_is);(case C0=>k_is);(case C1=>k_is);(case C2=>k_is);(case C3=>k_is);(case C4=>k_is);(case C5=>k_is);(case C6=>k_is);(case C7=>k_is);(case C8=>k_is);(case C9=>k_is);(case Ca=>k_is);(case Cb=>k_is);(case Cc=>k_is);(case Cd=>k_is);(case Ce=>k_is);(case Cf=>k_is);(case Cg=>k_is);(case Ch=>k_is);(case Ci=>k_is);(case Cj=>k_is);(case Ck=>k_is);(case Cl=>k_is);(case Cm=>k_is);(case Cn=>k_is);(case Co=>k_is);(case Cp=>k_is);(case Cq=>k_is);(case Cr=>k_is);(case Cs=>k_is);(case Ct=>k_is);(case Cu=>k_is);(case Cv=>k_is);(case Cw=>k_is);(case Cx=>k_is);(case Cy=>k_is);(case Cz=>k_is);(case D0=>k_is);(case D1=>k_is);(case D2=>k_is);(case D3=>k_is);(case D4=>k_is);(case D5=>k_is);(case D6=>k_is);(case D7=>k_is);(case D8=>k_is);(case D9=>k_is);(case Da=>k_is);(case Db=>k_is);(case Dc=>k_is);(case Dd=>k_is);(case De=>k_is);(case Df=>k_is);(case Dg=>k_is);(case Dh=>k_is);(case Di=>k_is);(case Dj=>k_is);(case Dk=>k_is);(case Dl=>k_is);(case Dm=>k_is);(case Dn=>k_is);(case Do=>k_is);(case Dp=>k_is);(case Dq=>k_is);(case Dr=>k_is);(case Ds=>k_is);(case Dt=>k_is);(case Du=>k_is);(case Dv=>k_is);(case Dw=>k_is);(case Dx=>k_is);(case Dy=>k_is);(case Dz=>k_is);(case E0=>k_is);(case E1=>k_is);(case E2=>k_is);(case E3=>k_is);(case E4=>k_is);(case E5=>k_is);(case E6=>k_is);(case E7=>k_is);(case E8=>k_is);(case E9=>k_is);(case Ea=>k_is);(case Eb=>k_is);(case Ec=>k_is);(case Ed=>k_is);(case Ee=>k_is);(case Ef=>k_is);(case Eg=>k_is);(case Eh=>k_is);(case Ei=>k_is);(case Ej=>k_is);(case Ek=>k_is);(case El=>k_is);(case Em=>k_is);(case En=>k_is);(case Eo=>k_is);(case Ep=>k_is);(case Eq=>k_is);(case Er=>k_is);(case Es=>k_is);(case Et=>k_is);(case Eu=>k_is);(case Ev=>k_is);(case Ew=>k_is);(case Ex=>k_is);(case Ey=>k_is);(case Ez=>k_is);(case F0=>k_is);(case F1=>k_is);(case F2=>k_is);(case F3=>k_is);(case F4=>k_is);(case F5=>k_is);(case F6=>k_is);(case F7=>k_is);(case F8=>k_is);(case F9=>k_is);(case Fa=>k_is);(case Fb=>k_is);(case Fc=>k_is);(case Fd=>k_is);(case Fe=>k_is);(case Ff=>k_is);(case Fg=>k_is);(case Fh=>k_is);(case Fi=>k_is);(case Fj=>k_is);(case Fk=>k_is);(case Fl=>k_is);(case Fm=>k_is);(case Fn=>k_is);(case Fo=>k_is);(case Fp=>k_is);(case Fq=>k_is);(case Fr=>k_is);(case Fs=>k_is);(case Ft=>k_is);(case Fu=>k_is);(case Fv=>k_is);(case Fw=>k_is);(case Fx=>k_is);(case Fy=>k_is);(case Fz=>k_is);(case G0=>k_is);(case G1=>k_is);(case G2=>k_is);(case G3=>k_is);(case G4=>k_is);(case G5=>k_is);(case G6=>k_is);(case G7=>k_is);(case G8=>k_is);(case G9=>k_is);(case Ga=>k_is);(case Gb=>k_is);(case Gc=>k_is);(case Gd=>k_is);(case Ge=>k_is);(case Gf=>k_is);(case Gg=>k_is);(case Gh=>k_is);(case Gi=>k_is);(case Gj=>k_is);(case Gk=>k_is);(case Gl=>k_is);(case Gm=>k_is);(case Gn=>k_is);(case Go=>k_is);(case Gp=>k_is);(case Gq=>k_is);(case Gr=>k_is);(case Gs=>k_is);(case Gt=>k_is);(case Gu=>k_is);(case Gv=>k_is);(case Gw=>k_is);(case Gx=>k_is);(case Gy=>k_is);(case Gz=>k_is);(case H0=>k_is);(case H1=>k_is);(case H2=>k_is);(case H3=>k_is);(case H4=>k_is);(case H5=>k_is);(case H6=>k_is);(case H7=>k_is);(case H8=>k_is);(case H9=>k_is);(case Ha=>k_is);(case Hb=>k_is);(case Hc=>k_is);(case Hd=>k_is);(case He=>k_is);(case Hf=>k_is);(case Hg=>k_is);(case Hh=>k_is);(case Hi=>k_is);(case Hj=>k_is);(case Hk=>k_is);(case Hl=>k_is);(case Hm=>k_is);(case Hn=>k_is);(case Ho=>k_is);(case Hp=>k_is);(case Hq=>k_is);(case Hr=>k_is);(case Hs=>k_is);(case Ht=>k_is);(case Hu=>k_is);(case Hv=>k_is);(case Hw=>k_is);(case Hx=>k_is);(case Hy=>k_is);(case Hz=>k_is);(case I0=>k_is);(case I1=>k_is);(case I2=>k_is);(case I3=>k_is);(case I4=>k_is);(case I5=>k_is);(case I6=>k_is);(case I7=>k_is);(case I8=>k_is);(case I9=>k_is);(case Ia=>k_is);(case Ib=>k_is);(case Ic=>k_is);(case Id=>k_is);(case Ie=>k_is);(case If=>k_is);(case Ig=>k_is);(case Ih=>k_is);(case Ii=>k_is);(case Ij=>k_is);(case Ik=>k_is);(case Il=>k_is);(case Im=>k_is);(case In=>k_is);(case Io=>k_is);(case Ip=>k_is);(case Iq=>k_is);(case Ir=>k_is);(case Is=>k_is);(case It=>k_is);(case Iu=>k_is);(case Iv=>k_is);(case Iw=>k_is);(case Ix=>k_is);(case Iy=>k_is);(case Iz=>kernel_rfl);(case J0=>k_is);(case J1=>k_is);(case J2=>k_is);(case J3=>k_is);(case J4=>kernel_rfl);(case J5=>kernel_rfl);(case J6=>kernel_rfl);(case J7=>kernel_rfl);(case J8=>k_is);(case J9=>k_is);(case Ja=>kernel_rfl);(case Jb=>k_is);(case Jc=>k_is);(case Jd=>k_is);(case Je=>k_is);(case Jf=>k_is);(case Jg=>k_is);(case Jh=>k_is);(case Ji=>k_is);(case Jj=>k_is);(case Jk=>k_is);(case Jl=>rfl);(case Jm=>k_is);(case Jn=>k_is);(case Jo=>kernel_rfl);(case Jp=>kernel_rfl);(case Jq=>kernel_rfl);(case Jr=>kernel_rfl);(case Js=>kernel_rfl);(case Jt=>kernel_rfl);(case Ju=>kernel_rfl)
#print axioms PySem.Challenge.cw_trussyard_k52_a_bar_taken_holds
