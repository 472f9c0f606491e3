import PyProof.Rows.All
import Wide.All
import OpenK.AllK
import Wide.FinOn
import Lean
import PyProof.EqAt
import PyProof.EqKinds
import PyProof.TupleCall
import PyProof.ZipIter
import PyProof.SumWalkG
import PyProof.ListCopy
import PyProof.ListStr
import PyProof.DictItems
import PyProof.DictWalks
import PyProof.DictTruth
import PyProof.EnumMake
import PyProof.InstStoreFacts
import PyProof.Rows.SortWalk
import PyProof.ListRange
import PyProof.DictValues
import KE.KRevSl
import KE.KDictOf
import PyProof.DictIter
import PyProof.FactsAll.dict_1
import PyProof.AttrMissHeap
import KE.KEqDict
import KE.KDictList
import KE.KItemsList
import PySem.Challenge.RW_trussyard_k44_pairs_that_stay
set_option Elab.async false
set_option linter.all false
set_option maxRecDepth 100000
theorem gE.{u}{α:Type u}{l:List α}(h:i < l.length):l[i]? =some l[i]:=List.getElem?_eq_getElem h
namespace PySem.W.Fast
def tw3861568081824071056:=()
def tw2326404823600490478:=()
def tw16233592372384397079:=()
def tw10521367317389691449:=()
def tw12310728392218001980:=()
def tw16651975510046473065:=()
def tw6618446122549562937:=()
def tw12203272312418935231:=()
def tw13201463451007095571:=()
def tw17716823472231272657:=()
def tw4593651837115727105:=()
def tw6165439296125017939:=()
def tw5159688428820184236:=()
def tw2554321276090151602:=()
def tw16534232741593136067:=()
def tw8105216606487173972:=()
def tw5861387597029776298:=()
def tw1733415068268350987:=()
def tw3876288103828005774:=()
def tw17558410274530027989:=()
def tw9838896581620172488:=()
def tw3687668187582278518:=()
def tw682901142403591844:=()
def tw10928024701342799232:=()
def tw3993769957390983749:=()
def tw13629617488767655556:=()
def tw13468003134621185703:=()
def tw9463115484789084073:=()
def tw13163394367293883334:=()
def tw15043565741352201236:=()
def tw1416029711676273680:=()
def tw14521876826409043744:=()
def tw9927913591645870708:=()
def tw17382344315003961835:=()
def tw17271560460726756086:=()
def tw4426826567724362697:=()
def tw7796860257621507689:=()
def tw7715316797420645127:=()
def tw10678931958255320868:=()
def tw5627400696291630746:=()
def tw6009540064123040808:=()
def tw5976036314750011910:=()
def tw16453987645640725010:=()
def tw12887420914841668313:=()
def tw6876092597610446191:=()
def tw11313828462007179666:=()
def tw1822442456273304516:=()
def tw9168403646606564747:=()
def tw11403133194745403367:=()
def tw2981012384269296399:=()
def tw5982354272977284853:=()
def tw12778194945649146003:=()
def tw2721416572034526822:=()
def tw12070329823031323041:=()
def tw7417455604437186795:=()
def tw11863256665435085740:=()
def tw18418482354917449347:=()
def tw406368813441649012:=()
def tw17098564575572322673:=()
def tw14830842632208419050:=()
def tw16386347734658369068:=()
def tw18291897651052127561:=()
def tw16674629668124524416:=()
def tw13502891765240320276:=()
def tw5612042925442943870:=()
def tw16377601269099892461:=()
def tw3142998441243392068:=()
def tw17486153752020316239:=()
def tw6040099608503833567:=()
def tw11667661402532127785:=()
def tw12619268166370267280:=()
def tw2214981516939949404:=()
def tw8060292705455771030:=()
def tw15559733440088491838:=()
def tw1957368255134120857:=()
def tw14800589035291275092:=()
def tw15052723611097437636:=()
def tw17816283018499825892:=()
def tw10223049058433973141:=()
def tw9783823804177298646:=()
def tw3335248261080704539:=()
def tw13302295660338361148:=()
def tw12411531905654854055:=()
def tw14954912648027940841:=()
def tw2584439985611549344:=()
def tw7147410349723183577:=()
def tw13976500392058203269:=()
def tw5433587891757723647:=()
def tw12597075729092329360:=()
def tw3135893918942699294:=()
def tw16743177925896828412:=()
def tw5797593773459872759:=()
def tw221512972208260877:=()
def tw11460710498693457148:=()
def tw6195718413766119326:=()
def tw5283981257685711938:=()
def tw12284194350403779083:=()
def tw10209508099228729612:=()
def tw9511565728347068633:=()
def tw14650881868043303954:=()
def tw1896517444901174725:=()
def tw4407109897214322002:=()
def tw17098414467480618934:=()
def tw10934112321797012259:=()
def tw17740311521077685694:=()
def tw18396246818215883819:=()
def tw2764604518808008990:=()
def tw18040028965002764704:=()
def tw3025186614470756201:=()
def tw10223748369600054721:=()
def tw11886621173137343626:=()
def tw5475758786689776098:=()
def tw9213361222303584140:=()
def tw7062653896124614704:=()
def tw11932266021908669033:=()
def tw1289089480814733630:=()
def tw13451467353199636204:=()
def tw7488899663580257301:=()
def tw662113831796525932:=()
def tw9334050785577799144:=()
def tw7980716444699894478:=()
def tw15373600820715787676:=()
def tw4193074099107213899:=()
def tw7192780407217218825:=()
def tw10534708681716822136:=()
def tw13204028041149190409:=()
def tw15103521050907073885:=()
def tw10158318882485491457:=()
def tw11609980835585796970:=()
def tw18115733012143395240:=()
def tw4363447283421000659:=()
def tw10869134173911897250:=()
def tw17037565407269821654:=()
def tw5964474897100658350:=()
def tw17131057711794643097:=()
def tw11560430831259118557:=()
def tw12195332934086575096:=()
def tw4059718444641093995:=()
def tw12522862808044091194:=()
def tw17192428619457512197:=()
def tw9429372124384738644:=()
def tw6459391355818020663:=()
def tw14350655651467269535:=()
def tw8597867520347184252:=()
def tw14879509094991043434:=()
def tw14634750426983343179:=()
def tw6560972116809338544:=()
def tw14344966557678470017:=()
def tw10718612163882335627:=()
def tw8257416242663331685:=()
def tw18117462632011188466:=()
def tw2726655319244011172:=()
def tw4422366652372679693:=()
def tw10634513574146530091:=()
def tw6244441113094176988:=()
def tw17085867377675980231:=()
def tw1467989399742036489:=()
def tw12626791103202917008:=()
def tw15464661785212156543:=()
def tw2772752408581185882:=()
def tw11149009392129659041:=()
def tw18161116276060642036:=()
def tw17034473039870095181:=()
def tw8644199206751030377:=()
def tw14005877450340832501:=()
def tw2718538407415877775:=()
def tw5277584559806163223:=()
def tw2996302349065787723:=()
def tw3520784224818126257:=()
def tw3410774328431659876:=()
def tw4591794836591498197:=()
def tw5654508645006858714:=()
def tw1708746447894290328:=()
def tw3021651479538346223:=()
def tw6719691326290082844:=()
def tw10041006423236218392:=()
def tw14442212598151788477:=()
def tw1683428894274954470:=()
def tw1758859755019599083:=()
def tw3567383407551273613:=()
def tw14039604338219641353:=()
def tw4587131133149701162:=()
def tw2587035923477810109:=()
def tw1866129103955319274:=()
def tw3304701024922480976:=()
def tw14424966493788817734:=()
def tw16565544462567052812:=()
def tw18246016830486850149:=()
def tw9228056208810463501:=()
def tw18339061208490601926:=()
def tw3016719829793483438:=()
def tw2606398018680637610:=()
def tw18229439772825898533:=()
def tw11745550921042721273:=()
def tw16871495325784469009:=()
def tw11025003880940021223:=()
def tw5475435177392616041:=()
def tw5021937280191585531:=()
def tw2041941316357871077:=()
def tw5202711273321960119:=()
def tw17384766656287383343:=()
def tw874013366697432162:=()
def tw8847463244063891358:=()
def tw13489271277917606111:=()
def tw2891606337824717692:=()
def tw13809872266628774227:=()
def tw7607301859094693442:=()
def tw15240479922914057397:=()
def tw4495172910610562182:=()
def tw1836291008904121522:=()
def tw4476583736995681886:=()
def tw1326330262148561442:=()
def tw18353634884450885615:=()
def tw4176027170646519386:=()
def tw2199933900476913257:=()
def tw17628536966334956279:=()
def tw5865743056710325994:=()
def tw5406003795848158595:=()
def tw6858023754595044061:=()
def tw16772711588670028486:=()
def tw4519818585311253897:=()
def tw1479741380737525380:=()
def tw3053267227450104655:=()
def tw14689562179962093064:=()
def tw915780190543748281:=()
def tw15846677749843965988:=()
def tw17248797172693178293:=()
def tw7324704512290358951:=()
def tw9889921812502730787:=()
def tw9338424748456348379:=()
def tw10472999329688695296:=()
def tw7041877980753986053:=()
def tw11526326865735733192:=()
def tw4905658972230308086:=()
def tw18296170900992129025:=()
def tw5836747111216700526:=()
def tw11869691548433185977:=()
def tw8075129297646149148:=()
def tw11495123863144018443:=()
def tw4480783925849066753:=()
def tw17820443233270044933:=()
def tw14197628174273443668:=()
def tw5242072201019189158:=()
def tw9686678959943445701:=()
def tw15532689082083039994:=()
def tw10865591314731649309:=()
def tw4840325561853874562:=()
def tw976399500100684011:=()
def tw14661304343964211713:=()
def tw13719167484529987918:=()
def tw4338226209522346362:=()
def tw14624236286984645970:=()
def tw4084944408809350410:=()
def tw17422044926226939946:=()
def tw3422697312539606038:=()
def tw482685203081514393:=()
def tw15778956748435698618:=()
def tw14269212491497995066:=()
def tw17123711569754710574:=()
def tw15814538636494108371:=()
def tw11775730469391702601:=()
def tw7391232795691569715:=()
def tw9128813913267708825:=()
def tw15435023201051764593:=()
def tw9467576439589856972:=()
def tw640713408607293988:=()
def tw7341546986706060869:=()
def tw1539222177695624713:=()
def tw13886024196586102132:=()
def tw16032894881448171017:=()
def tw110518609392136670:=()
def tw6521715244177621802:=()
def tw3146446168127975402:=()
def tw2022294381794002104:=()
def tw13724648909440641360:=()
def tw3916146924401450276:=()
def tw8099580140891225108:=()
def tw14144682323167648125:=()
def tw6089726694422849107:=()
def tw3512481451777841296:=()
def tw4434782848349461202:=()
def tw18327795716683362276:=()
def tw5677229158017385083:=()
def tw15925698811940896489:=()
def tw1859146147532833026:=()
def tw13069683592760231269:=()
def tw12255777652323436898:=()
def tw4760258008037388357:=()
def tw9305254107871392812:=()
def tw779415061031696921:=()
def tw5936478769121952774:=()
def tw2405687590800352689:=()
def tw2734308065170300633:=()
def tw5626638901545376400:=()
def tw10084816823872946822:=()
def tw6157559355892452167:=()
def tw6579810809986689000:=()
def tw15202875861969583521:=()
def tw11262953168920703339:=()
def tw2927337050708861278:=()
def tw10623678727970615805:=()
def tw4714267140083411442:=()
def tw3327534816479786161:=()
def tw2447153562100329549:=()
def tw769611077666103716:=()
def tw2562456215660564334:=()
def tw14442830376603148585:=()
def tw15979160451521347745:=()
def tw13259200270100676581:=()
def tw6771603661042328655:=()
def tw3706028121602786663:=()
def tw12558814144331375380:=()
def tw14918183304471900375:=()
def tw17752315959267937275:=()
def tw8717021817659626663:=()
def tw14868005848695939178:=()
def tw2280930767844222202:=()
def tw9528917440520541734:=()
def tw10455394328620918902:=()
def tw5914472185790103737:=()
def tw16568448218646649208:=()
def tw17151887401187459542:=()
def tw12117106439417664172:=()
def tw14692721772872167003:=()
def tw10450349547131445382:=()
def tw471589539539412971:=()
def tw11537065693323954214:=()
def tw10233633041590496225:=()
def tw4334970185871973700:=()
def tw11497074541669628147:=()
def tw11057843649147635098:=()
def tw7272688863354800188:=()
def tw6839988480203743323:=()
def tw18020829511637274384:=()
end PySem.W.Fast
open Array renaming length_toList->acg, getElem?_toList->acD, toList->ajF
open Bool renaming false_ne_true->aam, eq_iff_iff->abr, false_eq_true->abC, and_eq_true->abE, and_false->adg, eq_false_iff->ae_, and_true->aiq, or_false->aiK
open Classical renaming byContradiction->abw, propDecidable->abS, not_imp->ain, not_forall->aiH
open Int renaming zero_add->abn, gcd->aby, natAbs_mul->abW, ne_of_gt->abX, gcd_dvd_right->aco, mul_comm->acp, gcd_dvd_left->acs, fmod_nonneg_of_pos->acx, natAbs_dvd_natAbs->acE, toNat_natCast->acG, fdiv_eq_of_eq_mul_right->acH, natAbs_add_le->acJ, mul_pos->acN, mul_zero->adi, mul_assoc->ah8, fmod_lt_of_pos->aif, mul_neg_of_pos_of_neg->aij, lt_trichotomy->ail, mul_eq_zero->aiC, gcd_zero_right->aiP, fmod_def->aiS, emod_eq_of_lt->ai0, gcd_mul_left->ai6, gcd_pos_iff->ai', mul_ne_zero->aja, dvd_coe_gcd->ajf, natAbs_neg->ajk
open List renaming getElem?_eq_some_iff->be, mem_of_getElem?->ir, getElem?_map->Wp, length_map->aaa, mem_map->aab, mem_cons_of_mem->aae, getElem?_of_mem->aag, map_cons->aah, getElem?_eq_none->aai, mem_cons_self->aak, length_append->aan, getElem?_append_left->aap, size_toArray->aaq, mem_singleton->aas, getD_eq_getElem?_getD->aau, mem_append->aaG, replicate->aaJ, mem_cons->aaQ, map_map->aaT, getElem?_append_right->aaY, map_append->aa3, flatMap_cons->aa4, nodup_cons->aa5, length_take->abb, length_cons->abf, mem_append_left->abh, mem_append_right->abk, take_length->abl, flatMap_append->abp, nodup_append->abA, mem_flatMap->abI, range->abJ, append_assoc->abK, ext_getElem?->abL, getElem?_zipWith->abM, length->abR, mem_iff_getElem->abT, mem_range->abV, getElem?_eraseIdx->abY, map_congr_left->abZ, length_filter_le->ab0, filter_cons->ab1, getElem_mem->ab2, zipWith->ab9, lookup->ab', length_eraseIdx->aca, filter_cons_of_pos->acb, filter_cons_of_neg->acd, mem_filter->ace, replicate_succ->ach, take_of_length_le->acj, length_drop->ack, length_replicate->acm, mem_of_mem_eraseIdx->acr, nodup_nil->acv, length_eraseIdx_le->acw, filter_append->acz, nil_append->acB, find?_cons->acC, getElem?_set->acL, getElem?_set_ne->acM, nodup_iff_pairwise_ne->acR, lookup_cons->acS, cons_append->acT, Sublist->acU, filterMap_cons->acV, length_zipWith->acW, any_cons->ac1, append_nil->ac2, pairwise_cons->ac7, getElem?_replicate->ac_, getElem?_set_self->adb, flatten_cons->adf, map_nil->adh, getElem?_inj->adm, pairwise_map->adn, length_range->ad_, pairwise_iff_forall_sublist->af_, take_append_drop->ag_, eraseIdx_sublist->ah5, any_eq_true->ah6, all_cons->ah7, range_succ->ah9, mem_filterMap->aie, lookup_append->aih, filter_congr->aio, getElem?_take_of_lt->aip, length_eq_zero_iff->ais, range_succ_eq_map->aiv, zipWith_cons_cons->aix, getElem_cons_drop->aiy, of_mem_zip->aiz, length_set->aiA, length_nil->aiB, eq_nil_or_concat->aiD, concat_eq_append->aiE, forIn_nil->aiF, mem_of_mem_drop->aiI, filter_eq_self->aiJ, sum_cons->aiL, forIn_toArray->aiO, zip_cons_cons->aiQ, mem_replicate->aiR, getElem_take->aiW, take_add_one->aiX, getElem_inj->ai4, cons_ne_nil->ai7, all_eq_true->ai8, forIn_cons->ajb, foldl->aji, Nodup->ajn
open Nat renaming le_refl->aac, le_trans->aaf, lt_of_le_of_lt->aaj, lt_of_lt_of_le->aaO, pow_le_pow_right->aa7, ne_of_lt->aa_, zero_le->abc, mul_le_mul_right->abd, lt_succ_self->abu, mul_le_mul->abB, lt_irrefl->abU, le_of_lt->ab7, lt_succ_iff_lt_or_eq->ab_, not_lt_zero->acf, add_mul->acq, lt_succ_of_lt->acK, pow_add->ada, pow_succ->adj, min_eq_left->ah_, pow_le_pow_left->ah', ne_of_gt->aib, mul_comm->aic, zero_mul->aid, one_le_two_pow->aii, le_succ->aik, le_of_not_lt->air, le_of_eq->ait, add_comm->aiu, lt_trans->aiw, one_mul->aiG, min_self->aiT, le_succ_of_le->aiV, two_pow_pos->ajd
open Ne renaming symm->aba
open Option renaming map_eq_some_iff->aal, map_some->acn, isSome_iff_exists->acX, isSome_map->aim, isSome_some->aiM, getD_none->ai5, none->aqd
open Option.some renaming inj->aao
open Or renaming inl->aad, inr->abj
open Prod renaming ext->ade, fst->ajl, snd->ajm
open Prod.mk renaming injEq->ajx, inj->aqn
open Rat renaming intCast_mul->abP, intCast_le_intCast->acA, intCast_inj->ac3, num_divInt_den->aiN, divInt_eq_div->aiU, intCast_add->ajc, intCast_sub->aje
open Sum renaming inr->abD, inl->aia
open Sum.inl renaming inj->ac9
open Sum.inr renaming inj->abQ
open PySem.W (Frag nsIn codeIn keepIn fnOf mg_of mg_none_of)
namespace L2
open PySem PySem.Spec PyProof.Rows
abbrev _root_.γ:=Value->Shared->Prop
abbrev _root_.ε:=List (Addr×Obj)
abbrev _root_.ζ:=List (List Int)
abbrev _root_.θ:=List (Nat×List Int)
abbrev _root_.ι:=Str->Option Value
abbrev _root_.ξ:=List Int
abbrev _root_.π:=List Value
abbrev _root_.ρ:=List Str
abbrev _root_.τ:=List (Int×Int)
abbrev _root_.υ:=List (Str×Str×Str)
abbrev _root_.ψ:=List (List (Int×Int))
abbrev _root_.ω:=List Addr
abbrev _root_.Α:=List Expr
abbrev _root_.Β:=Str->Option (Rat×Rat)
abbrev _root_.Δ:=Array DictEntry
abbrev _root_.Ε:=Option Value->Shared->Prop
abbrev _root_.Ζ:=Str->List Rat
abbrev _root_.Θ:=List (Str×List (Rat×Rat))
abbrev _root_.Ι:=Option Addr
abbrev _root_.Κ:=Array (Option Value)
abbrev _root_.Λ:=List (Rat×Rat)
abbrev _root_.Μ:=Array Value
abbrev _root_.Ξ:=List (Nat×List (Int×Int))
abbrev _root_.Ο:=Option Int
abbrev _root_.Ρ:=List Nat
abbrev _root_.Τ:=Result->Shared->Prop
abbrev _root_.Χ:=Nat×List Int
abbrev _root_.Ψ:=Str->Rat
abbrev _root_.Ω:=List (Str×Value)
abbrev Key:=Sum Int Str
abbrev _root_.Υ:=List (List Key×Addr×Value)
def rq:Key->Value->Bool
 | .inl k,v=>Value.isInt k v
 | .inr x,v=>Value.isStrOf x v
def aar (w:World):Key->Int
 | .inl k=>hashInt k
 | .inr x=>hashStr w x
theorem bY:∀{k:Key} {v:Value},rq k v=true->(∃i t,k=aia i/\v=Value.int i t)\/(∃x t,k=abD x/\v=Value.str x t)
 | .inl i,v,h=>by
  obtain ⟨t,e⟩:=Value.isInt_shape (k:=i) (v:=v) h
  exact .inl ⟨i,t,rfl,e⟩
 | .inr x,v,h=>by
  obtain ⟨t,e⟩:=Value.isStrOf_shape (x:=x) (v:=v) h
  exact .inr ⟨x,t,rfl,e⟩
theorem BG (i:Int)(t:Tok):rq (.inl i) (.int i t)=true:=by simp [rq,Value.isInt]
theorem BH (x:Str)(t:Tok):rq (.inr x) (.str x t)=true:=by simp [rq,Value.isStrOf]
theorem Pm (a b:Int):decide ((aia a:Key)=aia b)=(a==b):=by
 by_cases e:a=b
 ·subst e;simp
 ·have h:¬ (aia a:Key)=aia b:=fun q=>e (ac9 q)
  rw [decide_eq_false h]
  exact (beq_eq_false_iff_ne.mpr e).symm
theorem Pn (a b:Str):decide ((abD a:Key)=abD b)=decide (a=b):=by
 by_cases e:a=b
 ·subst e;simp
 ·have h:¬ (abD a:Key)=abD b:=fun q=>e (abQ q)
  rw [decide_eq_false h,decide_eq_false e]
theorem Po (a:Int)(b:Str):decide ((aia a:Key)=abD b)=false:=decide_eq_false (fun q=>nomatch q)
theorem Pp (a:Str)(b:Int):decide ((abD a:Key)=aia b)=false:=decide_eq_false (fun q=>nomatch q)
def bw (prog:Program)(w:World):PySem.KeyKind prog w Key where
 is:=rq
 hash:=aar w
 inj:=fun v a b ha hb=>by
  rcases bY ha with ⟨i,t,rfl,rfl⟩ | ⟨x,t,rfl,rfl⟩
  ·rcases bY hb with ⟨j,u,rfl,e⟩ | ⟨y,u,rfl,e⟩
   ·injection e with e1 _;rw [e1]
   ·exact nomatch e
  ·rcases bY hb with ⟨j,u,rfl,e⟩ | ⟨y,u,rfl,e⟩
   ·exact nomatch e
   ·injection e with e1 _;rw [e1]
 byValue:=fun k v h=>by
  rcases bY h with ⟨i,t,rfl,rfl⟩ | ⟨x,t,rfl,rfl⟩ <;> rfl
 pyHash:=fun hv h=>by
  rcases bY hv with ⟨i,t,rfl,rfl⟩ | ⟨x,t,rfl,rfl⟩
  ·exact wpAny_pyHash_int h
  ·exact wpAny_pyHash_str h
 eqBool:=fun hu hv h=>by
  rcases bY hu with ⟨i,t,rfl,rfl⟩ | ⟨x,t,rfl,rfl⟩
  ·rcases bY hv with ⟨j,u,rfl,rfl⟩ | ⟨y,u,rfl,rfl⟩
   ·rw [Pm] at h;exact wpAny_eqBool_int h
   ·rw [Po] at h;exact SeqAt.EqAt.int_str i t y u _ _ _ _ h
  ·rcases bY hv with ⟨j,u,rfl,rfl⟩ | ⟨y,u,rfl,rfl⟩
   ·rw [Pp] at h;exact SeqAt.EqAt.str_int x t j u _ _ _ _ h
   ·rw [Pn] at h;exact wpAny_eqBool_str h
 «strs»:=fun k x t v h=>by
  rcases bY h with ⟨i,u,rfl,e⟩ | ⟨y,u,rfl,e⟩
  ·exact nomatch e
  ·injection e with e1 _
   subst e1
   cases v <;> rfl
theorem u3 (prog:Program)(w:World)(i:Int)(t:Tok):(bw prog w).is (.inl i) (.int i t)=true:=BG i t
theorem u5 (prog:Program)(w:World)(x:Str)(t:Tok):(bw prog w).is (.inr x) (.str x t)=true:=BH x t
end L2
namespace L2
open PySem PySem.Spec PyProof.Rows
inductive V where
 | cw | bl (b:Bool) | int (i:Int) | str (x:Str) | byt (b:Array UInt8) | Pq (b:UInt64) | ref (a:Addr) | ty (n:String)
 deriving DecidableEq
abbrev _root_.δ:=List (Key×V)
abbrev _root_.η:=List V
abbrev _root_.ν:=List (List Key×V)
abbrev _root_.χ:=Option V
abbrev _root_.Ν:=List (List V)
abbrev _root_.Φ:=List Key×V
def RelV:V->Value->Prop
 | .cw,u=>u=Value.none
 | .bl b,u=>u=Value.bool b
 | .int i,u=>∃t,u=Value.int i t
 | .str x,u=>∃t,u=Value.str x t
 | .byt b,u=>∃t,u=Value.bytes b t
 | .Pq b,u=>∃t,u=Value.float b t
 | .ref a,u=>u=Value.ref a
 | .ty n,u=>u=Value.type n
abbrev Vals:List V->List Value->Prop:=Paired RelV
theorem Vals.length {xs:η}{us:π}(r:Vals xs us):xs.length=us.length:=Paired.length r
theorem Vals.get:∀{xs:η} {us:π} {i:Nat} {x:V},Vals xs us->xs[i]? =some x->∃u,us[i]? =some u/\RelV x u
 | _,_,_,_,.nil,e=>by simp at e
 | _,_,0,_,.cons r _,e=>by simp at e;subst e;exact ⟨_,rfl,r⟩
 | _,_,i+1,x,.cons _ t,e=>by
  obtain ⟨u,h1,h2⟩:=Vals.get (i:=i) (x:=x) t (by simpa using e)
  exact ⟨u,by simpa using h1,h2⟩
theorem Vals.set (r:RelV x u):∀{xs:η} {us:π} (i:Nat),Vals xs us->Vals (xs.set i x) (us.set i u)
 | _,_,_,.nil=>.nil
 | _,_,0,.cons _ t=>.cons r t
 | _,_,i+1,.cons q t=>.cons q (Vals.set r i t)
theorem Vals.append:∀{xs ys:η} {us ws:π},Vals xs us->Vals ys ws->Vals (xs++ys) (us++ws)
 | _,_,_,_,.nil,s=>s
 | _,_,_,_,.cons r t,s=>.cons r (Vals.append t s)
theorem Vals.take:∀{xs:η} {us:π} (n:Nat),Vals xs us->Vals (xs.take n) (us.take n)
 | _,_,0,_=>.nil
 | _,_,_+1,.nil=>.nil
 | _,_,n+1,.cons r t=>.cons r (Vals.take n t)
theorem Vals.drop:∀{xs:η} {us:π} (n:Nat),Vals xs us->Vals (xs.drop n) (us.drop n)
 | _,_,0,r=>r
 | _,_,_+1,.nil=>.nil
 | _,_,n+1,.cons _ t=>Vals.drop n t
def gL:Option V->Option Value->Prop
 | some v,some u=>RelV v u
 | none,none=>True
 | _,_=>False
def KV {κ:Type}:List (κ×V)->List (κ×Value)->Prop:=Paired fun (p:κ×V) (q:κ×Value)=>p.1=q.1/\RelV p.2 q.2
def kV:Key->V
 | .inl i=>.int i
 | .inr x=>.str x
inductive HO where
 | lst (xs:η)
 | tup (xs:η)
 | dK (kvs:δ) | dT (kvs:ν)
 | set (S:Int->Bool) (n:Nat)
 | ins (C dx:Addr) (fs:List (Str×V))
 | own (x:Addr)
 | xd (fs:List (Str×V))
 | met (f x:Addr)
 | rng (lo hi:Int)
 | cV (o:Obj) (u:HO)
 | Pu (ps:Μ)
 | ext (φ:Heap->Prop)
abbrev Hp:=Addr->Option HO
def upd (H:Hp)(a:Addr)(o:HO):Hp:=fun b=>if b=a then some o else H b
theorem ah :upd H a o a=some o:=by unfold upd;rw [if_pos rfl]
theorem ao (h:b≠a):upd H a o b=H b:=by unfold upd;rw [if_neg h]
theorem Tj {H:Hp}(h:H a=some o)(h' :H b=some u)(d:o≠u):a≠b:=by
 intro e;subst e;rw [h] at h';exact d (aao h')
theorem aq {H:Hp}(h:H a=some o)(h' :H b=none):a≠b:=by
 intro e;subst e;rw [h] at h';cases h'
section
variable (P:Program)(w:World)
def cg (H:Hp)(h:Heap)(a:Addr):HO->Prop
 | .lst xs=>xs.length<=sizeLine/\∃(its:π) (n:Nat),Vals xs its/\h.get? a=some {cls:=.type "list",data:=.seq its.toArray n}
 | .tup xs=>xs.length<=sizeLine/\∃its:List Value,Vals xs its/\IsTup h a its.toArray
 | .dK kvs=>kvs.length<=sizeLine/\(a==sysModules)=false/\∃vs,KV kvs vs/\h.DictOf (bw P w) a vs
 | .dT kvs=>kvs.length<=sizeLine/\(a==sysModules)=false/\∃xs:List (List Key×Addr×Value),
   Paired (fun (p:Φ) (q:List Key×Addr×Value)=>p.1=q.1/\H q.2.1=some (.tup (p.1.map kV))/\RelV p.2 q.2.2) kvs xs/\
   ∃o es ep,h.get? a=some o/\o.ExactDict/\o.data=.dict es ep/\es.toList=xs.map (entryOfKey (tupleKind (bw P w)))/\(xs.map (·.1)).Nodup
 | .set S n=>h.SetOf (intKind P w) a S n
 | .ins C dx fs=>H dx=some (.own a)/\fs.length<=1000/\dx≠a/\h.get? a=some (PySem.W.instObj C dx)/\
   ∃mA,h.Ns1 dx mA/\(∀f,gL (fs.lookup f) (mA f))/\PySem.Within mA (fs.map (·.1))
 | .own _=>∃o,h.get? a=some o
 | .xd fs=>∃mA,h.Ns1 a mA/\∀f,gL (fs.lookup f) (mA f)
 | .rng lo hi=>∃t u v,h.get? a=some {cls:=.type "range",data:=.fields #[.int lo t,.int hi u,.int 1 v]}
 | .cV o u=>h.get? a=some o/\cg H h a u
 | .Pu ps=>h.get? a=some {cls:=.none,data:=.fields ps}
 | .met f x=>h.get? a=some (PySem.W.methodObj (.ref f) (.ref x))
 | .ext φ=>φ h/\(∃o,h.get? a=some o)/\∀h1 h2:Heap,φ h1->(∀o,h1.get? a=some o->h2.get? a=some o)->φ h2
def iZ (H:Hp)(h:Heap):Prop:=∀a o,H a=some o->cg P w H h a o
end
section
variable {P:Program}{w:World}{H H' :Hp}{h h' :Heap}{a:Addr}{o:HO}
theorem cg.lt (x:cg P w H h a o):a < h.objs.size:=by
 cases o with
 | lst xs=>obtain ⟨_,_,_,_,e⟩:=x;exact Heap.lt_size e
 | tup xs=>obtain ⟨_,_,_,p⟩:=x;exact p.lt
 | dK kvs=>obtain ⟨_,_,_,_,o,_,_,e,_⟩:=x;exact Heap.lt_size e
 | dT kvs=>obtain ⟨_,_,_,_,o,_,_,e,_⟩:=x;exact Heap.lt_size e
 | set S n=>obtain ⟨o,_,_,_,e,_⟩:=x;exact Heap.lt_size e
 | ins C dx fs=>obtain ⟨_,_,_,e,_⟩:=x;exact Heap.lt_size e
 | own y=>obtain ⟨_,e⟩:=x;exact Heap.lt_size e
 | xd fs=>obtain ⟨_,⟨_,_,_,e,_⟩,_⟩:=x;exact Heap.lt_size e
 | rng lo hi=>obtain ⟨_,_,_,e⟩:=x;exact Heap.lt_size e
 | cV ob u=>obtain ⟨e,_⟩:=x;exact Heap.lt_size e
 | Pu ps=>exact Heap.lt_size (show h.get? a=some _ from x)
 | met f y=>exact Heap.lt_size (show h.get? a=some _ from x)
 | ext φ=>obtain ⟨_,⟨_,e⟩,_⟩:=x;exact Heap.lt_size e
theorem Paired.bF :∀{l₁:List α} {l₂:List β},Paired F l₁ l₂->(∀a b,F a b->G a b)->Paired G l₁ l₂
 | _,_,.nil,_=>.nil
 | _,_,.cons r t,f=>.cons (f _ _ r) (Paired.bF t f)
theorem cg.qB (x:cg P w H h a o)(k:∀b u,(b=a\/H b=some (.own a))->h.get? b=some u->h'.get? b=some u)
  (ho:∀b,H b=some (.own a)->H' b=some (.own a)) (ht:∀b xs,H b=some (.tup xs)->H' b=some (.tup xs)):cg P w H' h' a o:=by
 induction o with
 | lst xs=>obtain ⟨z,its,n,r,e⟩:=x;exact ⟨z,its,n,r,k _ _ (.inl rfl) e⟩
 | tup xs=>obtain ⟨z,its,r,ob,e,c⟩:=x;exact ⟨z,its,r,ob,k _ _ (.inl rfl) e,c⟩
 | dK kvs=>obtain ⟨z,y,vs,r,ob,es,ep,e,c⟩:=x;exact ⟨z,y,vs,r,ob,es,ep,k _ _ (.inl rfl) e,c⟩
 | dT kvs=>
  obtain ⟨z,y,xs,r,ob,es,ep,e,c⟩:=x
  exact ⟨z,y,xs,Paired.bF r fun p q z=>⟨z.1,ht _ _ z.2.1,z.2.2⟩,ob,es,ep,k _ _ (.inl rfl) e,c⟩
 | set S n=>obtain ⟨ob,es,ep,t,e,c⟩:=x;exact ⟨ob,es,ep,t,k _ _ (.inl rfl) e,c⟩
 | ins C dx fs=>
  obtain ⟨d,z,ne,e,mA,⟨od,es,ep,e2,c⟩,r⟩:=x
  exact ⟨ho _ d,z,ne,k _ _ (.inl rfl) e,mA,⟨od,es,ep,k _ _ (.inr d) e2,c⟩,r⟩
 | own y=>obtain ⟨ob,e⟩:=x;exact ⟨ob,k _ _ (.inl rfl) e⟩
 | xd fs=>obtain ⟨mA,⟨od,es,ep,e,c⟩,r⟩:=x;exact ⟨mA,⟨od,es,ep,k _ _ (.inl rfl) e,c⟩,r⟩
 | rng lo hi=>obtain ⟨t,u,v,e⟩:=x;exact ⟨t,u,v,k _ _ (.inl rfl) e⟩
 | cV ob u ih=>obtain ⟨e,q⟩:=x;exact ⟨k _ _ (.inl rfl) e,ih q⟩
 | Pu ps=>
  have e:h.get? a=some {cls:=.none,data:=.fields ps}:=x
  show h'.get? a=some {cls:=.none,data:=.fields ps}
  exact k a _ (.inl rfl) e
 | met f y=>
  have e:h.get? a=some (PySem.W.methodObj (.ref f) (.ref y)):=x
  show h'.get? a=some (PySem.W.methodObj (.ref f) (.ref y))
  exact k a _ (.inl rfl) e
 | ext φ=>obtain ⟨p,⟨o,e⟩,st⟩:=x;exact ⟨st _ _ p fun o q=>k _ _ (.inl rfl) q,⟨o,k _ _ (.inl rfl) e⟩,st⟩
theorem iZ.lt (x:iZ P w H h)(e:H a=some o):a < h.objs.size:=(x a o e).lt
theorem iZ.fresh (x:iZ P w H h)(e:h.objs.size<=a):H a=none:=by
 cases q:H a with
 | none=>rfl
 | some u=>exact absurd (aaO (x.lt q) e) (abU _)
theorem iZ.kept (x:iZ P w H h)(k:∀b u,h.get? b=some u->h'.get? b=some u):iZ P w H h' :=fun a o e=>
 (x a o e).qB (fun b u _ q=>k b u q) (fun _ q=>q) fun _ _ q=>q
theorem iZ.laid (x:iZ P w H h)(k:∀b u,h.get? b=some u->h'.get? b=some u)(hp:h.objs.size<=a)(new:cg P w (upd H a o) h' a o):iZ P w (upd H a o) h' :=fun b u e=>by
 have hn:=x.fresh hp
 by_cases hb:b=a
 ·subst hb;rw [ah] at e;cases e;exact new
 ·rw [ao hb] at e
  exact (x b u e).qB (fun c v _ q=>k c v q) (fun c q=>by rw [ao (aq q hn)];exact q) fun c xs q=>by rw [ao (aq q hn)];exact q
end
def Rd (H:Hp)(a:Addr)(u:HO):Prop:=H a=some u\/∃o,H a=some (.cV o u)
theorem Rd.of (h:H a=some u):Rd H a u:=.inl h
theorem Rd.ok (r:Rd H a u)(x:iZ P w H h):cg P w H h a u:=by
 rcases r with r | ⟨o,r⟩
 ·exact x a u r
 ·obtain ⟨_,q⟩:=x a _ r
  exact q
def Tn:Option HO->Prop
 | some (.lst _)=>True
 | some (.dK _)=>True
 | some (.dT _)=>True
 | some (.set _ _)=>True
 | some (.ins _ _ _)=>True
 | some (.ext _)=>True
 | _=>False
section
variable {P:Program}{w:World}{H:Hp}{h h' :Heap}{x e:Addr}{o' :HO}
theorem iZ.write (ok:iZ P w H h)(mu:Tn (H x))(he:e=x\/H e=some (.own x))(k:∀b u,b≠e->h.get? b=some u->h'.get? b=some u)(Sy:∃u,h'.get? e=some u)
  (new:cg P w (upd H x o') h' x o'):iZ P w (upd H x o') h' :=fun b u q=>by
 have To:∀c y,H c=some (.own y)->c≠x:=fun c y r z=>by subst z;rw [r] at mu;exact mu
 have aat:∀c xs,H c=some (.tup xs)->c≠x:=fun c xs r z=>by subst z;rw [r] at mu;exact mu
 by_cases hb:b=x
 ·subst hb;rw [ah] at q;cases q;exact new
 ·rw [ao hb] at q
  by_cases Pw:b=e
  ·have q' :H b=some (.own x):=by
    rcases he with z | z
    ·exact absurd (Pw.trans z) hb
    ·rw [Pw];exact z
   rw [q] at q';cases q'
   obtain ⟨v,hv⟩:=Sy
   exact ⟨v,by rw [Pw];exact hv⟩
  ·refine (ok b u q).qB (fun c v hc r=>k c v ?_ r) (fun c r=>by rw [ao (To c b r)];exact r) fun c xs r=>by rw [ao (aat c xs r)];exact r
   rcases hc with rfl | hc
   ·exact Pw
   ·rintro rfl
    rcases he with z | z
    ·exact To c b hc z
    ·rw [hc] at z;cases z;exact hb rfl
end
structure Un (fs ex:ω)(H H' :Hp)(h h' :Heap):Prop where
 keep:∀b o,h.get? b=some o->H b=none->b∉fs->b∉ex->h'.get? b=some o
 slot:∀b o,h.get? b=some o->H b=none->b∈fs->b∉ex->∃sl,h'.get? b=some {o with slots:=sl}
 free:∀b o,h.get? b=some o->H b=none->b∉ex->H' b=none
 there:∀b o,h.get? b=some o->b∉ex->∃o',h'.get? b=some o'
 sE:∀b xs,H b=some (.tup xs)->H' b=some (.tup xs)
 qC:∀b o u,H b=some (.cV o u)->H' b=some (.cV o u)
 sG:∀b ps,H b=some (.Pu ps)->∃more,H' b=some (.Pu (ps++more))
section
variable {fs fs' ex Px :ω}{H H1 H2:Hp}{h h1 h2 h' :Heap}{a x e:Addr}{o:HO}
theorem Un.any (u:Un fs ex H H1 h h1)(q:h.get? b=some ob)(n:H b=none)(hx:b∉ex):∃sl,h1.get? b=some {ob with slots:=sl}:=by
 by_cases hb:b∈fs
 ·exact u.slot b ob q n hb hx
 ·exact ⟨ob.slots,u.keep b ob q n hb hx⟩
theorem Un.kept (k:∀b u,h.get? b=some u->h'.get? b=some u):Un fs ex H H h h' :=
 ⟨fun b ob q _ _ _=>k b ob q,fun b ob q _ _ _=>⟨ob.slots,k b ob q⟩,fun _ _ _ n _=>n,fun b ob q _=>⟨ob,k b ob q⟩,fun _ _ q=>q,fun _ _ _ q=>q,fun _ ps q=>⟨#[],by rw [q];simp⟩⟩
theorem Un.refl:Un fs ex H H h h:=Un.kept fun _ _ q=>q
theorem Un.laid (k:∀b u,h.get? b=some u->h'.get? b=some u)(hp:h.objs.size<=a)(hn:H a=none):Un fs ex H (upd H a o) h h' where
 keep:=fun b u q _ _ _=>k b u q
 slot:=fun b u q _ _ _=>⟨u.slots,k b u q⟩
 free:=fun b u q n _=>by rw [ao (aa_ (aaO (Heap.lt_size q) hp))];exact n
 there:=fun b u q _=>⟨u,k b u q⟩
 sE:=fun b xs q=>by rw [ao (aq q hn)];exact q
 qC:=fun b u xs q=>by rw [ao (aq q hn)];exact q
 sG:=fun b ps q=>⟨#[],by rw [ao (aq q hn),q];simp⟩
theorem Un.write (mu:Tn (H x))(he:e=x\/H e=some (.own x))(k:∀b u,b≠e->h.get? b=some u->h'.get? b=some u)(Sy:∃u,h'.get? e=some u):Un fs ex H (upd H x o) h h' :=by
 have hx:∀b,H b=none->b≠x:=fun b n z=>by subst z;rw [n] at mu;exact mu
 have hb:∀b,H b=none->b≠e:=fun b n z=>by
  subst z
  rcases he with r | r
  ·exact hx b n r
  ·rw [n] at r;cases r
 have hm:∀b u,H b=some u->¬ Tn (some u)->b≠x:=fun b u q nm z=>by subst z;rw [q] at mu;exact nm mu
 refine ⟨fun b u q n _ _=>k b u (hb b n) q,fun b u q n _ _=>⟨u.slots,k b u (hb b n) q⟩,fun b u q n _=>by rw [ao (hx b n)];exact n,fun b u q _=>?_,
  fun b xs q=>by rw [ao (hm b _ q fun z=>z)];exact q,fun b u xs q=>by rw [ao (hm b _ q fun z=>z)];exact q,fun b ps q=>⟨#[],by rw [ao (hm b _ q fun z=>z),q];simp⟩⟩
 by_cases Pw:b=e
 ·subst Pw;exact Sy
 ·exact ⟨u,k b u Pw q⟩
end
def ZG (h:Heap)(H:Hp):List Addr:=(abJ h.objs.size).filter fun a=>(H a).isSome
def sH (h:Heap)(H:Hp):Heap:=PySem.W.hideAll h (ZG h H)
theorem BI (h:Heap)(H:Hp):(sH h H).objs.size=h.objs.size:=PySem.W.hideAll_size _ _
theorem GY (e:h.get? b=some o)(n:H b=none):(sH h H).get? b=some o:=
 PySem.W.hideAll_get _ e fun hm=>by
  have q:(H b).isSome=true:=(ace.mp hm).2
  rw [n] at q;simp at q
theorem LL (e:(sH h H).get? b=some o):h.get? b=some o/\H b=none:=by
 have e' :h.get? b=some o:=PySem.W.of_hideAll (ZG h H) e
 refine ⟨e',?_⟩
 cases q:H b with
 | none=>rfl
 | some x=>
  have hm:b∈ZG h H:=ace.mpr ⟨abV.mpr (Heap.lt_size e'),by simp [q]⟩
  have z:(sH h H).get? b=none:=PySem.W.hideAll_none (ZG h H) hm
  rw [z] at e;cases e
def LM (g h:Heap)(L:Addr):List (Addr×Obj):=(abJ h.objs.size).filterMap fun a=>if a=L\/(g.get? a).isSome=true then none else (h.get? a).map fun o=>(a,o)
def rest (g h:Heap)(L d:Addr):List (Addr×Obj):=(LM g h L).filter fun p=>decide (p.1≠d)
end L2
namespace L2
open PySem PySem.Spec PyProof.Rows
structure Mod (K:Frag)(mg:ι)(base:Heap):Prop where
 SA:K.In base
 glob:base.Ns mainGlobals mg
 blt:∃mb,base.Ns builtinsNs mb/\∀x:Str,x≠ "__name__"->mb x=bootBuiltins x
 nolimit:base.NoLimit
 seer:base.NoSeer
structure Cx where
 prog:Program
 w:World
 K:Frag
 mg:Str->Option Value
 base:Heap
 A:Around
 N:List Str
 s₀:Shared
 H₀:Hp
 env:Env
 outer:List Env
 stack:List Env
 ex:List Addr
 fn:Str->Bool
 calm:Bool
 pn:List (Addr×Obj)
 xe:Value->Shared->Prop
def yU (l:List Env):List Addr:=l.filterMap (·.frame)
abbrev Cx.fs (X:Cx):List Addr:=yU X.outer
def Vis (sc:Scope)(x:Str):Prop:=sc.names.lookup x=some .local\/sc.names.lookup x=some .cell\/sc.names.lookup x=some .free
def Loc (sc:Scope)(x:Str):Prop:=sc.names.lookup x=some .local\/sc.names.lookup x=some .cell
def Look (env:Env)(h:Heap)(m:ι)(x:Str)(u:Value):Prop:=
 (env.kindOf x=some .local/\m x=some u)\/((env.kindOf x=some .cell\/env.kindOf x=some .free)/\∃c,env.cells.lookup x=some c/\h.IsCell c (some u))
structure Cx.Ok (X:Cx):Prop where
 mod:Mod X.K X.mg X.base
 kind:X.env.scope.kind=.function
 glob:X.env.globals=mainGlobals
 blt:X.env.builtins=builtinsNs
 above:X.s₀.heap.objs.size<=X.env.locals
 inj:∀x y c,X.env.cells.lookup x=some c->X.env.cells.lookup y=some c->x=y
 has:∀x,(X.env.kindOf x=some .cell\/X.env.kindOf x=some .free)->∃c,X.env.cells.lookup x=some c
 Tp:∀x c,X.fn x=true->X.env.cells.lookup x=some c->X.s₀.heap.objs.size<=c
 hd:X.calm=true->X.A.handled=none
 frames:X.A.frames=some X.stack
 ZH:X.stack=X.outer\/(X.stack=X.env::X.outer/\X.env.frame=some X.env.locals)
 exf:∀b∈X.ex,b≠X.env.locals/\∀x c,X.env.cells.lookup x=some c->c≠b
 bs:∀b o,X.base.get? b=some o->X.s₀.heap.get? b=some o/\X.H₀ b=none
 LN:X.base.objs.size<=X.s₀.heap.objs.size
 GZ:∀b o,X.base.get? b=some o->b∉X.ex
 LO:∀b∈X.ex,b∉X.fs
 mH:X.s₀.heap.FunFrames X.base X.outer
 Py:∀b∈X.fs,X.H₀ b=none
structure Inv (X:Cx)(pins:ε)(σ:List (Option V))(H:Hp)(s:Shared):Prop where
 ok:X.Ok
 os:s.os=X.s₀.os
 bare:AllBare s.gens
 base:Un X.fs X.ex X.H₀ H X.s₀.heap s.heap
 loc:∃m,s.heap.Ns X.env.locals m/\∀(i:Nat) (x:Str) (v:V),X.N[i]? =some x->σ[i]? =some (some v)->Vis X.env.scope x->∃u,RelV v u/\Look X.env s.heap m x u
 cell:∀x c,X.env.cells.lookup x=some c->∃v,s.heap.IsCell c v
 free:H X.env.locals=none
 ip:∀x c,X.env.cells.lookup x=some c->H c=none
 pin:∀p∈X.pn++pins,s.heap.get? p.1=some p.2/\H p.1=none/\p.1≠X.env.locals/\p.1∉X.fs/\∀v,p.2.data≠.cell v
 bH:iZ X.prog X.w H s.heap
 len:σ.length=X.N.length
section
variable {X:Cx}{pins:ε}{σ:List (Option V)}{H H' :Hp}{s:Shared}{h' :Heap}
theorem Cx.Ok.aav (ok:X.Ok)(e:X.base.get? b=some o):b∉X.fs:=fun hb=>by
 have:=(ok.mH.mem hb).1
 rw [e] at this;cases this
theorem Inv.bs (I:Inv X pins σ H s):∀b o,X.base.get? b=some o->s.heap.get? b=some o/\H b=none:=fun b o e=>
 ⟨I.base.keep b o (I.ok.bs b o e).1 (I.ok.bs b o e).2 (I.ok.aav e) (I.ok.GZ b o e),I.base.free b o (I.ok.bs b o e).1 (I.ok.bs b o e).2 (I.ok.GZ b o e)⟩
theorem Inv.bk (I:Inv X pins σ H s):∀b o,X.base.get? b=some o->s.heap.get? b=some o:=fun b o e=>(I.bs b o e).1
theorem Inv.mod (I:Inv X pins σ H s):Mod X.K X.mg X.base:=I.ok.mod
theorem Inv.ji (I:Inv X pins σ H s):X.K.In s.heap:=I.ok.mod.SA.keeps I.bk
theorem Inv.nolimit (I:Inv X pins σ H s):s.heap.NoLimit:=I.ok.mod.nolimit.keeps I.bk
theorem Inv.lt (I:Inv X pins σ H s):X.env.locals < s.heap.objs.size:=let ⟨_,hn,_⟩:=I.loc;hn.lt
theorem Inv.sz (I:Inv X pins σ H s):X.s₀.heap.objs.size<=s.heap.objs.size:=aaf I.ok.above (ab7 I.lt)
theorem Inv.aaw (I:Inv X pins σ H s){a:Addr}(h:s.heap.objs.size<=a):a∉X.fs:=fun hb=>by
 obtain ⟨_,o,ho,_⟩:=I.ok.mH.mem hb
 exact absurd (aaO (Heap.lt_size ho) (aaf I.sz h)) (abU _)
theorem Inv.Pz (I:Inv X pins σ H s):∀x c,X.env.cells.lookup x=some c->c≠X.env.locals:=fun x c e z=>by
 obtain ⟨v,o,ho,hd⟩:=I.cell x c e
 obtain ⟨m,⟨o',es,ep,G_,G',_⟩,_⟩:=I.loc
 rw [z,G_] at ho;cases ho;rw [G'] at hd;cases hd
theorem Inv.mH (I:Inv X pins σ H s):s.heap.FunFrames X.base X.outer:=by
 have all:∀(l:List Env),(∀b∈yU l,b∈X.fs)->X.s₀.heap.FunFrames X.base l->s.heap.FunFrames X.base l:=by
  intro l
  induction l with
  | nil=>intro _ _;trivial
  | cons env r ih=>
   intro hs hl
   obtain ⟨hk,⟨L,o,hf,hn,ho,hd⟩,hr⟩:=hl
   have hL:L∈X.fs:=hs L (by unfold yU;rw [acV,hf];exact aak)
   obtain ⟨sl,e⟩:=I.base.slot L o ho (I.ok.Py L hL) hL fun z=>I.ok.LO L z hL
   exact ⟨hk,⟨L,_,hf,hn,e,hd⟩,ih (fun b hb=>hs b (by unfold yU;rw [acV,hf];exact aae _ hb)) hr⟩
 exact all X.outer (fun _ hb=>hb) I.ok.mH
theorem Inv.stack (I:Inv X pins σ H s):s.heap.FunFrames X.base X.stack:=by
 rcases I.ok.ZH with e | ⟨e,hf⟩
 ·rw [e];exact I.mH
 ·rw [e]
  obtain ⟨m,hn,_⟩:=I.loc
  refine .cons (by rw [I.ok.kind];decide) hf hn ?_ I.mH
  exact Heap.get?_none_of_le (aaf I.ok.LN I.ok.above)
theorem Inv.xo (I:Inv X pins σ H s):∀b∈yU X.stack,b∈X.env.locals::X.fs:=fun b hb=>by
 rcases I.ok.ZH with e | ⟨e,hf⟩
 ·rw [e] at hb;exact aae _ hb
 ·rw [e] at hb
  unfold yU at hb
  rw [acV,hf] at hb
  exact hb
theorem Inv.yV (I:Inv X pins σ H s):∀b∈yU X.stack,H b=none:=fun b hb=>by
 rcases aaQ.mp (I.xo b hb) with e | hb
 ·rw [e];exact I.free
 ·obtain ⟨_,o,ho,_⟩:=I.ok.mH.mem hb
  exact I.base.free b o ho (I.ok.Py b hb) fun z=>I.ok.LO b z hb
theorem Inv.step {ch:ω}(I:Inv X pins σ H s)
  (K2:∀b∈ch,(b∈X.ex\/X.s₀.heap.objs.size<=b)/\b≠X.env.locals/\(∀x c,X.env.cells.lookup x=some c->c≠b)/\∀p∈X.pn++pins,p.1≠b)
  (keep:∀b o,b≠X.env.locals->b∉X.fs->b∉ch->s.heap.get? b=some o->H b=none->h'.get? b=some o)
  (slot:∀b o,b≠X.env.locals->b∈X.fs->b∉ch->s.heap.get? b=some o->H b=none->∃sl,h'.get? b=some {o with slots:=sl}) (free:∀b o,b∉ch->s.heap.get? b=some o->H b=none->H' b=none)
  (there:∀b o,b∉ch->s.heap.get? b=some o->∃o',h'.get? b=some o')
  (sE:∀b xs,H b=some (.tup xs)->H' b=some (.tup xs)) (qC:∀b o u,H b=some (.cV o u)->H' b=some (.cV o u)) (sG:∀b ps,H b=some (.Pu ps)->∃more,H' b=some (.Pu (ps++more)))
  (ns:∀m,s.heap.Ns X.env.locals m->h'.Ns X.env.locals m) (bH:iZ X.prog X.w H' h') (hg:AllBare g'):
  Inv X pins σ H' {s with heap:=h',gens:=g',drawn:=d',toks:=t' }:=by
 have SD:∀b o,X.s₀.heap.get? b=some o->b≠X.env.locals:=fun b o e=>aa_ (aaO (Heap.lt_size e) I.ok.above)
 have ZI:∀b o,X.s₀.heap.get? b=some o->b∉X.ex->b∉ch:=fun b o e hx hb=>by
  rcases (K2 b hb).1 with z | z
  ·exact hx z
  ·exact absurd (aaO (Heap.lt_size e) z) (abU _)
 have cellK:∀x c,X.env.cells.lookup x=some c->∀v,s.heap.IsCell c v->h'.IsCell c v:=fun x c e v ⟨o,ho,hd⟩=>by
  have Tq:c∉ch:=fun z=>(K2 c z).2.2.1 x c e rfl
  by_cases hc:c∈X.fs
  ·obtain ⟨sl,q⟩:=slot c o (I.Pz x c e) hc Tq ho (I.ip x c e)
   exact ⟨_,q,hd⟩
  ·exact ⟨o,keep c o (I.Pz x c e) hc Tq ho (I.ip x c e),hd⟩
 refine ⟨I.ok,I.os,hg,⟨fun b o e n hb hx=>?_,fun b o e n hb hx=>?_,fun b o e n hx=>?_,fun b o e hx=>?_,fun b xs e=>sE b xs (I.base.sE b xs e),fun b o xs e=>qC b o xs (I.base.qC b o xs e),fun b ps e=>?_⟩,?_,fun x c e=>?_,?_,fun x c e=>?_,fun p hp=>?_,bH,I.len⟩
 ·exact keep b o (SD b o e) hb (ZI b o e hx) (I.base.keep b o e n hb hx) (I.base.free b o e n hx)
 ·obtain ⟨sl,e1⟩:=I.base.slot b o e n hb hx
  obtain ⟨sl',e2⟩:=slot b _ (SD b o e) hb (ZI b o e hx) e1 (I.base.free b o e n hx)
  exact ⟨sl',e2⟩
 ·obtain ⟨o',e1⟩:=I.base.there b o e hx
  exact free b o' (ZI b o e hx) e1 (I.base.free b o e n hx)
 ·obtain ⟨o',e1⟩:=I.base.there b o e hx
  exact there b o' (ZI b o e hx) e1
 ·obtain ⟨m1,e1⟩:=I.base.sG b ps e
  obtain ⟨m2,e2⟩:=sG b _ e1
  exact ⟨m1++m2,by rw [e2,Array.append_assoc]⟩
 ·obtain ⟨m,hn,hl⟩:=I.loc
  refine ⟨m,ns m hn,fun i x v e1 e2 e3=>?_⟩
  obtain ⟨u,r,l⟩:=hl i x v e1 e2 e3
  refine ⟨u,r,?_⟩
  rcases l with l | ⟨k,c,e,z⟩
  ·exact .inl l
  ·exact .inr ⟨k,c,e,cellK x c e _ z⟩
 ·obtain ⟨v,z⟩:=I.cell x c e
  exact ⟨v,cellK x c e v z⟩
 ·obtain ⟨m,⟨o,_,_,ho,_⟩,_⟩:=I.loc
  exact free _ o (fun z=>(K2 _ z).2.1 rfl) ho I.free
 ·obtain ⟨v,o,ho,hd⟩:=I.cell x c e
  exact free c o (fun z=>(K2 c z).2.2.1 x c e rfl) ho (I.ip x c e)
 ·obtain ⟨e,n,ne,nf,d⟩:=I.pin p hp
  have Tq:p.1∉ch:=fun z=>(K2 p.1 z).2.2.2 p hp rfl
  exact ⟨keep p.1 p.2 ne nf Tq e n,free p.1 p.2 Tq e n,ne,nf,d⟩
theorem Inv.un (I:Inv X pins σ H s)(u:Un X.fs [] H H' s.heap h')(bH:iZ X.prog X.w H' h'):Inv X pins σ H' {s with heap:=h',toks:=t' }:=by
 obtain ⟨m,⟨o,es,ep,ho,r⟩,_⟩:=id I.loc
 obtain ⟨sl,hL⟩:=u.any ho I.free (by simp)
 exact I.step (g' :=s.gens) (d' :=s.drawn) (ch:=[]) (fun _ z=>nomatch z) (fun b o _ hb _ e n=>u.keep b o e n hb (by simp)) (fun b o _ hb _ e n=>u.slot b o e n hb (by simp)) (fun b o _ e n=>u.free b o e n (by simp)) (fun b o _ e=>u.there b o e (by simp)) u.sE u.qC u.sG (fun m' hm=>by
  obtain ⟨o',rA,u6,G_,r'⟩:=hm
  rw [ho] at G_;cases G_
  exact ⟨_,rA,u6,hL,r'⟩) bH I.bare
theorem Inv.call (I:Inv X pins σ H s)(u:Un (yU X.stack) ch H H' s.heap h')(bH:iZ X.prog X.w H' h')(hg:AllBare g')
  (K2:∀b∈ch,(b∈X.ex\/X.s₀.heap.objs.size<=b)/\b≠X.env.locals/\(∀x c,X.env.cells.lookup x=some c->c≠b)/\∀p∈X.pn++pins,p.1≠b):
  Inv X pins σ H' {s with heap:=h',gens:=g',drawn:=d',toks:=t' }:=by
 obtain ⟨m,⟨o,es,ep,ho,r⟩,_⟩:=id I.loc
 obtain ⟨sl,hL⟩:=u.any ho I.free fun z=>(K2 _ z).2.1 rfl
 exact I.step (ch:=ch) K2 (fun b o hL hb hc e n=>u.keep b o e n (fun z=>(aaQ.mp (I.xo b z)).elim hL hb) hc) (fun b o _ _ hc e n=>u.any e n hc) (fun b o hc e n=>u.free b o e n hc) (fun b o hc e=>u.there b o e hc) u.sE u.qC u.sG (fun m' hm=>by
  obtain ⟨o',rA,u6,G_,r'⟩:=hm
  rw [ho] at G_;cases G_
  exact ⟨_,rA,u6,hL,r'⟩) bH hg
theorem Inv.turned (I:Inv X pins σ H s)(k:∀b o,b≠it->s.heap.get? b=some o->h'.get? b=some o)(hn:H it=none)(hL:it≠X.env.locals)
  (h1:it∈X.ex\/X.s₀.heap.objs.size<=it) (h2:∀x c,X.env.cells.lookup x=some c->c≠it) (h3:∀p∈X.pn++pins,p.1≠it):Inv X pins σ H {s with heap:=h',toks:=t' }:=by
 have N0:∀b u,H b=some u->b≠it:=fun b u e z=>by rw [z,hn] at e;cases e
 refine I.step (g' :=s.gens) (d' :=s.drawn) (ch:=[it]) (fun b hb=>?_) (fun b o _ _ hc e _=>k b o (fun z=>hc (by simp [z])) e) (fun b o _ _ hc e _=>⟨o.slots,k b o (fun z=>hc (by simp [z])) e⟩) (fun _ _ _ _ n=>n)
  (fun b o hc e=>⟨o,k b o (fun z=>hc (by simp [z])) e⟩) (fun _ _ e=>e) (fun _ _ _ e=>e) (fun b ps e=>⟨#[],by rw [e];simp⟩) (fun m hm=>?_) (fun b u e=>?_) I.bare
 ·have e:b=it:=by simpa using hb
  subst e
  exact ⟨h1,hL,h2,h3⟩
 ·obtain ⟨o,es,ep,ho,r⟩:=hm
  exact ⟨o,es,ep,k _ o (aba hL) ho,r⟩
 ·refine (I.bH b u e).qB (fun c v hc q=>k c v ?_ q) (fun _ q=>q) fun _ _ q=>q
  rcases hc with z | z
  ·rw [z];exact N0 b u e
  ·exact N0 c _ z
theorem Inv.tok (I:Inv X pins σ H s)(t:Nat):Inv X pins σ H {s with toks:=t}:=I.un (h' :=s.heap) (t' :=t) Un.refl I.bH
theorem Inv.kept (I:Inv X pins σ H s)(k:∀b u,s.heap.get? b=some u->h'.get? b=some u):Inv X pins σ H {s with heap:=h',toks:=t' }:=I.un (Un.kept k) (I.bH.kept k)
theorem Inv.laid {a:Addr}(I:Inv X pins σ H s)(k:∀b u,s.heap.get? b=some u->h'.get? b=some u)(hp:s.heap.objs.size<=a)(new:cg X.prog X.w (upd H a o) h' a o):
  Inv X pins σ (upd H a o) {s with heap:=h',toks:=t' }:=I.un (Un.laid k hp (I.bH.fresh hp)) (I.bH.laid k hp new)
theorem Inv.write (I:Inv X pins σ H s)(mu:Tn (H x))(he:e=x\/H e=some (.own x))(k:∀b u,b≠e->s.heap.get? b=some u->h'.get? b=some u)(Sy:∃u,h'.get? e=some u)
  (new:cg X.prog X.w (upd H x o) h' x o):Inv X pins σ (upd H x o) {s with heap:=h',toks:=t' }:=I.un (Un.write mu he k Sy) (I.bH.write mu he k Sy new)
theorem Inv.yW (I:Inv X pins σ H s)(h:∀p∈N1,s.heap.get? p.1=some p.2/\H p.1=none/\p.1≠X.env.locals/\p.1∉X.fs/\∀v,p.2.data≠.cell v):Inv X N1 σ H s:=
 ⟨I.ok,I.os,I.bare,I.base,I.loc,I.cell,I.free,I.ip,fun p hp=>(aaG.mp hp).elim (fun z=>I.pin p (abh _ z)) (h p),I.bH,I.len⟩
theorem ck {N:ρ}(hN:N.Nodup){i j:Nat}(a:N[i]? =some x)(b:N[j]? =some x):i=j:=by
 obtain ⟨h1,e1⟩:=be.mp a
 obtain ⟨h2,e2⟩:=be.mp b
 exact (ai4 hN).mp (e1.trans e2.symm)
theorem rB {E:γ}(I:Inv X pins σ H s)(hN:X.N.Nodup)(hi:X.N[i]? =some x)(hx:Loc X.env.scope x)(r:RelV v u)
  (h:∀s',Inv X pins (σ.set i (some v)) H s' ->(∃a,Heap.SameBut a s.heap s'.heap/\(a=X.env.locals\/X.env.cells.lookup x=some a))->Q () s') (hf:X.fn x=true\/X.env.scope.names.lookup x=some .local:=by first | exact .inl rfl | exact .inr rfl | assumption):wpAny M A (storeName X.env x u) Q E s:=by
 obtain ⟨m,hn,hl⟩:=id I.loc
 have aax:(X.env.scope.kind==.class || (X.env.scope.kind==.module && X.env.locals !=X.env.globals))=false:=by rw [I.ok.kind];rfl
 have hiσ:i < σ.length:=by rw [I.len];exact (be.mp hi).1
 have Pz:=I.Pz
 have tracked:∀{a:Addr} {h' :Heap},(∃o,s.heap.get? a=some o/\H a=none)->Heap.SameBut a s.heap h' ->iZ X.prog X.w H h' :=fun {a h'} ha hs b ob e=>by
  obtain ⟨_,_,N2⟩:=ha
  refine (I.bH b ob e).qB (fun c w' hc q=>(hs.2 c ?_).trans q) (fun _ q=>q) fun _ _ q=>q
  rintro rfl
  rcases hc with rfl | hc
  ·rw [N2] at e;cases e
  ·rw [N2] at hc;cases hc
 rcases hx with hk | hk
 ·refine wpAny_storeName_local hk hn (fun h' PD hs=>?_) aax
  obtain ⟨oL,_,_,hoL,_⟩:=id hn
  refine h _ ⟨I.ok,I.os,I.bare,⟨fun b o e n hb hx=>?_,fun b o e n hb hx=>?_,I.base.free,fun b o e hx=>?_,I.base.sE,I.base.qC,I.base.sG⟩,⟨_,PD,fun j y v' e1 e2 e3=>?_⟩,fun y c e=>?_,I.free,I.ip,fun p hp=>?_,tracked ⟨oL,hoL,I.free⟩ hs,by simpa using I.len⟩ ⟨_,hs,.inl rfl⟩
  ·exact (hs.2 b (aa_ (aaO (Heap.lt_size e) I.ok.above))).trans (I.base.keep b o e n hb hx)
  ·obtain ⟨sl,e1⟩:=I.base.slot b o e n hb hx
   exact ⟨sl,(hs.2 b (aa_ (aaO (Heap.lt_size e) I.ok.above))).trans e1⟩
  ·obtain ⟨o',e1⟩:=I.base.there b o e hx
   exact ⟨o',(hs.2 b (aa_ (aaO (Heap.lt_size e) I.ok.above))).trans e1⟩
  ·by_cases hj:j=i
   ·subst hj
    rw [hi] at e1;cases e1
    rw [adb hiσ] at e2
    cases e2
    exact ⟨u,r,.inl ⟨hk,by simp⟩⟩
   ·rw [acM (aba hj)] at e2
    obtain ⟨u',r',q⟩:=hl j y v' e1 e2 e3
    refine ⟨u',r',?_⟩
    rcases q with ⟨k,e⟩ | ⟨k,c,e,z⟩
    ·refine .inl ⟨k,?_⟩
     have:y≠x:=fun e=>hj (ck hN e1 (e▸hi))
     simp [this,e]
    ·exact .inr ⟨k,c,e,z.sameBut hs (Pz y c e)⟩
  ·obtain ⟨w',z⟩:=I.cell y c e
   exact ⟨w',z.sameBut hs (Pz y c e)⟩
  ·obtain ⟨e,n,ne,nf,d⟩:=I.pin p hp
   exact ⟨(hs.2 p.1 ne).trans e,n,ne,nf,d⟩
 ·have Tr:X.fn x=true:=by
   rcases hf with z | z
   ·exact z
   ·rw [z] at hk;cases hk
  obtain ⟨c,hc⟩:=I.ok.has x (.inl hk)
  obtain ⟨w',z⟩:=I.cell x c hc
  refine wpAny_storeName_cell I.ok.kind hk hc z (fun h' uX hs=>?_)
  obtain ⟨oc,hoc,aay⟩:=id z
  refine h {s with heap:=h' } ⟨I.ok,I.os,I.bare,⟨fun b o e n hb hx=>?_,fun b o e n hb hx=>?_,I.base.free,fun b o e hx=>?_,I.base.sE,I.base.qC,I.base.sG⟩,⟨m,hn.sameBut hs (aba (Pz x c hc)),fun j y v' e1 e2 e3=>?_⟩,fun y c' e=>?_,I.free,I.ip,fun p hp=>?_,tracked ⟨oc,hoc,I.ip x c hc⟩ hs,by simpa using I.len⟩ ⟨c,hs,.inr hc⟩
  ·exact (hs.2 b (aa_ (aaO (Heap.lt_size e) (I.ok.Tp x c Tr hc)))).trans (I.base.keep b o e n hb hx)
  ·obtain ⟨sl,e1⟩:=I.base.slot b o e n hb hx
   exact ⟨sl,(hs.2 b (aa_ (aaO (Heap.lt_size e) (I.ok.Tp x c Tr hc)))).trans e1⟩
  ·obtain ⟨o',e1⟩:=I.base.there b o e hx
   exact ⟨o',(hs.2 b (aa_ (aaO (Heap.lt_size e) (I.ok.Tp x c Tr hc)))).trans e1⟩
  ·by_cases hj:j=i
   ·subst hj
    rw [hi] at e1;cases e1
    rw [adb hiσ] at e2
    cases e2
    exact ⟨u,r,.inr ⟨.inl hk,c,hc,uX⟩⟩
   ·rw [acM (aba hj)] at e2
    obtain ⟨u',r',q⟩:=hl j y v' e1 e2 e3
    refine ⟨u',r',?_⟩
    rcases q with q | ⟨k,c',e,z'⟩
    ·exact .inl q
    ·refine .inr ⟨k,c',e,z'.sameBut hs ?_⟩
     rintro rfl
     exact hj (ck hN e1 (I.ok.inj _ _ _ e hc▸hi))
  ·by_cases hcc:c' =c
   ·subst hcc;exact ⟨_,uX⟩
   ·obtain ⟨w2,z2⟩:=I.cell y c' e
    exact ⟨w2,z2.sameBut hs hcc⟩
  ·obtain ⟨e,n,ne,nf,d⟩:=I.pin p hp
   refine ⟨(hs.2 p.1 ?_).trans e,n,ne,nf,d⟩
   intro q
   rw [q,hoc] at e
   have q' :oc=p.2:=aao e
   exact d w' (by rw [<- q'];exact aay)
theorem jy {E:γ}(I:Inv X pins σ H s)(hN:X.N.Nodup)(hi:X.N[i]? =some x)(hx:Loc X.env.scope x)(r:RelV v u)
  (h:∀s',Inv X pins (σ.set i (some v)) H s' ->Q () s') (hf:X.fn x=true\/X.env.scope.names.lookup x=some .local:=by first | exact .inl rfl | exact .inr rfl | assumption):wpAny M A (storeName X.env x u) Q E s:=
 rB I hN hi hx r (fun s' I' _=>h s' I') hf
theorem Inv.Ts (I:Inv X pins σ H s)(ho:s'.os=s.os)(u:Un (yU X.stack) ch H H' s.heap s'.heap)(bH:iZ X.prog X.w H' s'.heap)(hg:AllBare s'.gens)
  (K2:∀b∈ch,(b∈X.ex\/X.s₀.heap.objs.size<=b)/\b≠X.env.locals/\(∀x c,X.env.cells.lookup x=some c->c≠b)/\∀p∈X.pn++pins,p.1≠b):Inv X pins σ H' s' :=by
 obtain ⟨h',g',d',t',o'⟩:=s'
 have e:o' =s.os:=ho
 subst e
 exact I.call (g' :=g') (t' :=t') (d' :=d') u bH hg K2
end
abbrev XK:=Value->Option Addr->Hp->Prop
abbrev St:=List (Option V)
abbrev VK:=V->Hp->Prop
abbrev TE:=St->Hp->VK->Prop
abbrev TT:=St->Hp->(Bool->Hp->Prop)->Prop
abbrev TA:=St->Hp->(List V->Hp->Prop)->Prop
structure Ends where
 nx:St->Hp->Prop
 rt:VK
 bk:St->Hp->Prop:=fun _ _=>False
 ct:St->Hp->Prop:=fun _ _=>False
abbrev TS:=Ends->St->Hp->Prop
def EP (X:Cx)(pins:ε)(σ:St)(Q:VK)(u:Value)(s' :Shared):Prop:=∃v H',Inv X pins σ H' s' /\RelV v u/\Q v H'
def TP (X:Cx)(pins:ε)(σ:St)(Q:Bool->Hp->Prop)(b:Bool)(s' :Shared):Prop:=∃H',Inv X pins σ H' s' /\Q b H'
def AP (X:Cx)(pins:ε)(σ:St)(Q:List V->Hp->Prop)(us:π)(s' :Shared):Prop:=∃vs H',Inv X pins σ H' s' /\Vals vs us/\Q vs H'
def SP (X:Cx)(pins:ε)(D:Ends)(f:Flow)(s' :Shared):Prop:=
 match f with
 | .next=>∃σ' H',Inv X pins σ' H' s' /\D.nx σ' H'
 | .brk=>∃σ' H',Inv X pins σ' H' s' /\D.bk σ' H'
 | .cont=>∃σ' H',Inv X pins σ' H' s' /\D.ct σ' H'
 | .ret u=>∃v σ' H',Inv X pins σ' H' s' /\RelV v u/\D.rt v H'
def PE (X:Cx)(e:Expr)(t:TE):Prop:=
 ∀(pins:ε) (s:Shared) (σ:St) (H:Hp) (Q:VK),Inv X pins σ H s->t σ H Q->wpAny (model X.prog X.w) X.A (eval e X.env) (EP X pins σ Q) X.xe s
def PT (X:Cx)(e:Expr)(t:TT):Prop:=
 ∀(pins:ε) (s:Shared) (σ:St) (H:Hp) (Q:Bool->Hp->Prop),Inv X pins σ H s->t σ H Q->wpAny (model X.prog X.w) X.A (isTrue e X.env (eval e X.env)) (TP X pins σ Q) X.xe s
def PW (X:Cx)(e:Expr)(t:TT):Prop:=
 ∀(whole:Sem Value) (pins:ε) (s:Shared) (σ:St) (H:Hp) (Q:Bool->Hp->Prop),Inv X pins σ H s->t σ H Q->wpAny (model X.prog X.w) X.A (isTrue e X.env whole) (TP X pins σ Q) X.xe s
theorem PW.pt (h:PW X e t):PT X e t:=h _
def PA (X:Cx)(es:Α)(t:TA):Prop:=
 ∀(pos:Pos) (pins:ε) (s:Shared) (σ:St) (H:Hp) (Q:List V->Hp->Prop),Inv X pins σ H s->t σ H Q->wpAny (model X.prog X.w) X.A (spliced (backTo pos (starEach es X.env))) (AP X pins σ Q) X.xe s
def PS (X:Cx)(st:Stmt)(t:TS):Prop:=
 ∀(pins:ε) (s:Shared) (σ:St) (H:Hp) (D:Ends),Inv X pins σ H s->t D σ H->wpAny (model X.prog X.w) X.A (exec st X.env) (SP X pins D) X.xe s
def PSs (X:Cx)(st:List Stmt)(t:TS):Prop:=
 ∀(pins:ε) (s:Shared) (σ:St) (H:Hp) (D:Ends),Inv X pins σ H s->t D σ H->wpAny (model X.prog X.w) X.A (execs st X.env) (SP X pins D) X.xe s
theorem cq {Q Q' :α->Shared->Prop}{E:γ}(h:wpAny M A t Q E s)(hQ:∀a s,Q a s->Q' a s):wpAny M A t Q' E s:=wpAny_mono h hQ fun _ _ x=>x
end L2
namespace L2
open PySem PySem.Spec PyProof.Rows
section
variable {X:Cx}
inductive LP (i:Nat)(σ:St)(H:Hp)(Q:VK):Prop where
 | mk (v:_) (_:σ[i]? =some (some v)) (_:Q v H):LP i σ H Q
def tC (v:V):TE:=fun _ H Q=>Q v H
theorem PH {pos:Pos}(hN:X.N[i]? =some x)(hv:Vis X.env.scope x)(hd:(x==("__debug__":Str))=false:=by decide)(qD:(x==("__classdict__":Str))=false:=by decide):PE X (.Name x pos) (LP i):=by
 intro pins s σ H Q I h
 obtain ⟨v,e,h⟩:=h
 obtain ⟨m,hn,hl⟩:=I.loc
 obtain ⟨u,r,l⟩:=hl i x v hN e hv
 have fin:EP X pins σ Q u s:=⟨v,H,I,r,h⟩
 rcases l with ⟨hk,hm⟩ | ⟨hk,c,hc,hcell⟩
 ·exact wpAny_Name (wpAny_loadName_local I.ok.kind hk hn hm fin) hd
 ·rcases hk with hk | hk
  ·exact wpAny_Name (wpAny_loadName_cell I.ok.kind hk hc hcell fin) hd
  ·exact wpAny_Name (wpAny_loadName_free I.ok.kind hk hc hcell fin qD) hd
theorem ak :PE X (.Constant (.int i) j pos) (tC (.int i)):=fun _ _ _ H _ I h=>wpAny_Constant_int ⟨.int i,H,I.tok _,⟨_,rfl⟩,h⟩
theorem dc :PE X (.Constant (.bool b) j pos) (tC (.bl b)):=fun _ _ _ H _ I h=>Constant_bool ⟨.bl b,H,I,rfl,h⟩
theorem n_ :PE X (.Constant .none j pos) (tC .cw):=fun _ _ _ H _ I h=>Constant_none ⟨.cw,H,I,rfl,h⟩
theorem ky :PE X (.Constant (.str x) j pos) (tC (.str x)):=fun _ _ _ H _ I h=>Calls.Constant_str ⟨.str x,H,I.tok _,⟨_,rfl⟩,h⟩
def Gl (X:Cx)(x:Str):Prop:=X.env.kindOf x=some .globalImplicit
theorem jz {E:γ}{σ:St}{Q:γ}(I:Inv X pins σ H s)(hg:Gl X x)(hm:X.mg x=some u)(h:Q u s)
  (hd:(x==("__debug__":Str))=false:=by decide):wpAny (model X.prog X.w) X.A (eval (.Name x pos) X.env) Q E s:=
 Calls.Name_function_global I.ok.kind hg (Calls.loadGlobal_global (by rw [I.ok.glob];exact I.mod.glob.keeps I.bk) hm h) hd
theorem gM {E:γ}{σ:St}{pos:Pos}{Q:γ}(I:Inv X pins σ H s)(hg:Gl X x)(hm:X.mg x=none)(hv:bootBuiltins x=some u)(h:Q u s)
  (hn:x≠ "__name__":=by decide) (hd:(x==("__debug__":Str))=false:=by decide):wpAny (model X.prog X.w) X.A (eval (.Name x pos) X.env) Q E s:=by
 obtain ⟨mb,h1,h2⟩:=I.mod.blt
 exact Calls.Name_function_global I.ok.kind hg (Calls.loadGlobal_builtin (by rw [I.ok.glob];exact I.mod.glob.keeps I.bk) hm (by rw [I.ok.blt];exact h1.keeps I.bk) ((h2 x hn).trans hv) h) hd
theorem jA (hg:Gl X x)(hm:X.mg x=some u)(r:RelV v u)(hd:(x==("__debug__":Str))=false:=by decide):PE X (.Name x pos) (tC v):=
 fun _ _ _ H _ I h=>jz I hg hm ⟨v,H,I,r,h⟩ hd
theorem LQ {pos:Pos}(hg:Gl X x)(hm:X.mg x=none)(hv:bootBuiltins x=some u)(r:RelV v u)(hn:x≠ "__name__":=by decide)(hd:(x==("__debug__":Str))=false:=by decide):PE X (.Name x pos) (tC v):=
 fun _ _ _ H _ I h=>gM I hg hm hv ⟨v,H,I,r,h⟩ hn hd
variable {a b:Expr}{ta tb:TE}{pos:Pos}
def PC (X:Cx)(op:CmpOp)(a b:Expr)(t:TE):Prop:=
 ∀(pins:ε) (s:Shared) (σ:St) (H:Hp) (Q:VK),Inv X pins σ H s->t σ H Q->
  wpAny (model X.prog X.w) X.A (eval a X.env) (fun v s₁=>wpAny (model X.prog X.w) X.A (eval b X.env) (fun u s₂=>wpAny (model X.prog X.w) X.A (compareOp op v u) (EP X pins σ Q) X.xe s₂) X.xe s₁) X.xe s
inductive tB_ (Q:(Bool->Hp->Prop))(x:V)(H1:Hp):Prop where
 | mk (c:_) (_:x=.bl c) (_:Q c H1):tB_ Q x H1
def tB (t:TE):TT:=fun σ H Q=>t σ H fun x H1=>tB_ Q x H1
theorem HA (h:PC X op a b t)(h1:behindInMarks op b=false:=by first | exact nobehind _ (by decide) (by decide) | rfl):PE X (.Compare a [op] [b] pos) t:=fun pins s σ H Q I hw=>wpAny_Compare1 (h pins s σ H Q I hw) h1
theorem iq (h:PC X op a b t)(h1:behindInMarks op b=false:=by first | exact nobehind _ (by decide) (by decide) | rfl):PT X (.Compare a [op] [b] pos) (tB t):=by
 intro pins s σ H Q I hw
 refine wpAny_isTrue_Compare1 (cq (h pins s σ H _ I hw) fun v s1 h1=>cq h1 fun u s2 h2=>cq h2 fun c s3 ⟨x,H1,I1,r1,q1⟩=>?_) h1
 obtain ⟨d,rfl,q⟩:=q1
 cases r1
 exact wpAny_truthy_bool ⟨H1,I1,q⟩
theorem cE (h:PE X e t)(he:∀whole,isTrue e X.env whole=(do let v <- whole;standAt e.pos;holding [v] (truthy v)):=by intro _;rfl):PT X e (tB t):=by
 intro pins s σ H Q I hw
 refine isTrue_plain (cq (h pins s σ H _ I hw) fun v s1 ⟨x,H1,I1,r1,q1⟩=>?_) (he _)
 obtain ⟨d,rfl,q⟩:=q1
 cases r1
 exact wpAny_truthy_bool ⟨H1,I1,q⟩
variable {tA ZJ :TT}{rest:Α}
def aaz (t u:TT):TT:=fun σ H Q=>t σ H fun c H1=>if c=true then u σ H1 Q else Q false H1
def tOr (t u:TT):TT:=fun σ H Q=>t σ H fun c H1=>if c=true then Q true H1 else u σ H1 Q
def aaA (t:TT):TT:=fun σ H Q=>t σ H fun c H1=>Q (!c) H1
theorem sI (ha:PT X a tA):PW X (.BoolOp .And [a] pos) tA:=by
 intro wh pins s σ H Q I h
 refine isTrue_and (cq (ha pins s σ H Q I h) fun c s1 e=>?_)
 cases c with
 | true=>exact isTrue_and_nil e
 | false=>exact e
theorem fJ (ha:PT X a tA):PW X (.BoolOp .Or [a] pos) tA:=by
 intro wh pins s σ H Q I h
 refine isTrue_or (cq (ha pins s σ H Q I h) fun c s1 e=>?_)
 cases c with
 | false=>exact isTrue_or_nil e
 | true=>exact e
theorem xp (ha:PT X a tA)(hb:PW X (.BoolOp .And (b::rest) pos) ZJ):PW X (.BoolOp .And (a::b::rest) pos) (aaz tA ZJ):=by
 intro wh pins s σ H Q I h
 refine isTrue_and (cq (ha pins s σ H _ I h) fun c s1 ⟨H1,I1,q1⟩=>?_)
 cases c with
 | true=>exact hb wh pins s1 σ H1 Q I1 q1
 | false=>exact ⟨H1,I1,q1⟩
theorem iu (ha:PT X a tA)(hb:PW X (.BoolOp .Or (b::rest) pos) ZJ):PW X (.BoolOp .Or (a::b::rest) pos) (tOr tA ZJ):=by
 intro wh pins s σ H Q I h
 refine isTrue_or (cq (ha pins s σ H _ I h) fun c s1 ⟨H1,I1,q1⟩=>?_)
 cases c with
 | true=>exact ⟨H1,I1,q1⟩
 | false=>exact hb wh pins s1 σ H1 Q I1 q1
theorem cW (ha:PT X a tA):PT X (.UnaryOp .Not a pos) (aaA tA):=by
 intro pins s σ H Q I h
 exact isTrue_not (ha pins s σ H (fun c H1=>Q (!c) H1) I h)
def Tt (ta tb:TE):TE:=fun σ H Q=>ta σ H fun x H1=>∃c,x=.bl c/\if c=true then tb σ H1 Q else Q (.bl false) H1
theorem HB (h:PE X a t):PE X (.BoolOp op [a] pos) t:=fun pins s σ H Q I hw=>BoolOp_one (h pins s σ H Q I hw)
theorem HC (ha:PE X a ta)(hb:PE X (.BoolOp .And (b::rest) pos) tb):PE X (.BoolOp .And (a::b::rest) pos) (Tt ta tb):=by
 intro pins s σ H Q I h
 refine BoolOp_and (cq (ha pins s σ H _ I h) fun v s1 ⟨x,H1,I1,r1,q1⟩=>?_)
 obtain ⟨c,rfl,q1⟩:=q1
 cases r1
 refine wpAny_truthy_bool ?_
 cases c with
 | true=>exact hb pins s1 σ H1 Q I1 q1
 | false=>exact ⟨.bl false,H1,I1,rfl,q1⟩
def tIf (t:TT)(ta tb:TE):TE:=fun σ H Q=>t σ H fun c H1=>if c=true then ta σ H1 Q else tb σ H1 Q
theorem u9 (hc:PT X c tA)(ha:PE X a ta)(hb:PE X b tb):PE X (.IfExp c a b pos) (tIf tA ta tb):=by
 intro pins s σ H Q I h
 refine wpAny_IfExp (cq (hc pins s σ H _ I h) fun d s1 ⟨H1,I1,q1⟩=>?_)
 cases d with
 | true=>exact ha pins s1 σ H1 Q I1 q1
 | false=>exact hb pins s1 σ H1 Q I1 q1
end
end L2
namespace L2
open PySem PySem.Spec PyProof.Rows
def aX (K:Frag)(H:Hp)(a:Addr)(xs:η):Prop:=
 Rd H a (.lst xs)\/
  ∃(o:Obj) (its:Μ) (n:Nat),K.lookup a=some o/\o.cls=.type "list"/\o.dict=none/\o.data=.seq its n/\its.size<=sizeLine/\Vals xs its.toList
def bT (K:Frag)(H:Hp)(a:Addr)(xs:η):Prop:=
 Rd H a (.tup xs)\/
  ∃(o:Obj) (its:Μ) (n:Nat),K.lookup a=some o/\o.cls=.type "tuple"/\o.data=.seq its n/\its.size<=sizeLine/\Vals xs its.toList
def aaB:Value->Option V
 | .none=>some .cw
 | .bool b=>some (.bl b)
 | .int i _=>some (.int i)
 | .str x _=>some (.str x)
 | .bytes b _=>some (.byt b)
 | .float b _=>some (.Pq b)
 | .ref a=>some (.ref a)
 | .type n=>some (.ty n)
 | _=>none
theorem RelV.abs (r:RelV x u):aaB u=some x:=by
 cases x with
 | cw=>cases r;rfl
 | bl _=>cases r;rfl
 | int _=>obtain ⟨t,rfl⟩:=r;rfl
 | str _=>obtain ⟨t,rfl⟩:=r;rfl
 | byt _=>obtain ⟨t,rfl⟩:=r;rfl
 | Pq _=>obtain ⟨t,rfl⟩:=r;rfl
 | ref _=>cases r;rfl
 | ty _=>cases r;rfl
theorem RelV.inj (r:RelV x u)(q:RelV y u):x=y:=aao (r.abs.symm.trans q.abs)
theorem Vals.inj:∀{xs ys:η} {us:π},Vals xs us->Vals ys us->xs=ys
 | _,_,_,.nil,.nil=>rfl
 | _,_,_,.cons r t,.cons r' t' =>by rw [r.inj r',Vals.inj t t']
section
variable {X:Cx}{pins:ε}{σ:St}{H:Hp}{s:Shared}{a:Addr}{xs ys:η}
theorem aX.of {K:Frag}(h:H a=some (.lst xs)):aX K H a xs:=.inl (.inl h)
theorem bT.of {K:Frag}(h:H a=some (.tup xs)):bT K H a xs:=.inl (.inl h)
theorem Inv.list (I:Inv X pins σ H s)(h:aX X.K H a xs):∃its:List Value,Vals xs its/\PlainL s.heap a its.toArray/\xs.length<=sizeLine:=by
 rcases h with h | ⟨o,its,n,hk,hc,hd,hs,hz,r⟩
 ·obtain ⟨z,its,n,r,e⟩:=h.ok I.bH
  exact ⟨its,r,⟨_,n,e,rfl,rfl,rfl⟩,z⟩
 ·refine ⟨its.toList,r,⟨o,n,I.ji a o hk,hc,hd,by simpa using hs⟩,?_⟩
  have e:=r.length
  simp only [acg] at e
  omega
theorem Inv.tuple (I:Inv X pins σ H s)(h:bT X.K H a xs):∃its:List Value,Vals xs its/\IsTup s.heap a its.toArray/\xs.length<=sizeLine:=by
 rcases h with h | ⟨o,its,n,hk,hc,hs,hz,r⟩
 ·obtain ⟨z,its,r,p⟩:=h.ok I.bH
  exact ⟨its,r,p,z⟩
 ·refine ⟨its.toList,r,⟨o,I.ji a o hk,hc,n,by simpa using hs⟩,?_⟩
  have e:=r.length
  simp only [acg] at e
  omega
theorem Inv.iw (I:Inv X pins σ H s)(h:aX X.K H a xs)(h' :aX X.K H a ys):xs=ys:=by
 obtain ⟨its,r,⟨o,n,e,_,_,d⟩,_⟩:=I.list h
 obtain ⟨its',r',⟨o',n',e',_,_,d'⟩,_⟩:=I.list h'
 rw [e] at e';cases e'
 rw [d] at d'
 injection d' with d1 _
 have:its=its' :=by simpa using congrArg ajF d1
 subst this
 exact r.inj r'
theorem Inv.gu (I:Inv X pins σ H s)(h:bT X.K H a xs)(h' :bT X.K H a ys):xs=ys:=by
 obtain ⟨its,r,⟨o,e,_,n,d⟩,_⟩:=I.tuple h
 obtain ⟨its',r',⟨o',e',_,n',d'⟩,_⟩:=I.tuple h'
 rw [e] at e';cases e'
 rw [d] at d'
 injection d' with d1 _
 have:its=its' :=by simpa using congrArg ajF d1
 subst this
 exact r.inj r'
end
abbrev Cx.qE (X:Cx)(E:γ):Cx:={X with xe:=E}
abbrev Cx.yX (X:Cx):Cx:=X.qE fun _ _=>False
theorem Cx.Ok.qE {X:Cx}(ok:X.Ok)(E:γ):(X.qE E).Ok:=
 ⟨ok.mod,ok.kind,ok.glob,ok.blt,ok.above,ok.inj,ok.has,ok.Tp,ok.hd,ok.frames,ok.ZH,ok.exf,ok.bs,ok.LN,ok.GZ,ok.LO,ok.mH,ok.Py⟩
theorem Cx.Ok.ix {X:Cx}(ok:(X.qE E).Ok):X.Ok:=
 ⟨ok.mod,ok.kind,ok.glob,ok.blt,ok.above,ok.inj,ok.has,ok.Tp,ok.hd,ok.frames,ok.ZH,ok.exf,ok.bs,ok.LN,ok.GZ,ok.LO,ok.mH,ok.Py⟩
section
variable {X:Cx}{pins:ε}{σ:St}{H:Hp}{s:Shared}{E:γ}
theorem Inv.qE (I:Inv X pins σ H s)(E:γ):Inv (X.qE E) pins σ H s:=⟨I.ok.qE E,I.os,I.bare,I.base,I.loc,I.cell,I.free,I.ip,I.pin,I.bH,I.len⟩
theorem Inv.ix (I:Inv (X.qE E) pins σ H s):Inv X pins σ H s:=⟨I.ok.ix,I.os,I.bare,I.base,I.loc,I.cell,I.free,I.ip,I.pin,I.bH,I.len⟩
theorem SP.ix (h:SP (X.qE E) pins D f s'):SP X pins D f s' :=by
 cases f with
 | next=>obtain ⟨σ',H',I,q⟩:=h;exact ⟨σ',H',I.ix,q⟩
 | brk=>obtain ⟨σ',H',I,q⟩:=h;exact ⟨σ',H',I.ix,q⟩
 | cont=>obtain ⟨σ',H',I,q⟩:=h;exact ⟨σ',H',I.ix,q⟩
 | ret u=>obtain ⟨v,σ',H',I,r,q⟩:=h;exact ⟨v,σ',H',I.ix,r,q⟩
theorem PSs.yX {st:List Stmt}(h:PSs X.yX st t):PSs X st t:=fun pins s σ H D I hw=>
 wpAny_mono (h pins s σ H D (I.qE _) hw) (fun _ _ q=>q.ix) fun _ _ z=>False.elim z
end
section
variable {X:Cx}{st:Stmt}{rest:List Stmt}{t u:TS}{e:Expr}{te:TE}{pos:Pos}
def Tu:TS:=fun D σ H=>D.nx σ H
def Tv (t u:TS):TS:=fun D σ H=>t {D with nx:=u D} σ H
theorem aK:PSs X [] Tu:=fun _ _ σ H _ I h=>wpAny_execs_nil ⟨σ,H,I,h⟩
theorem ae (h1:PS X st t)(h2:PSs X rest u):PSs X (st::rest) (Tv t u):=by
 intro pins s σ H D I h
 refine wpAny_execs_cons (cq (h1 pins s σ H {D with nx:=u D} I h) fun f s1 q=>?_)
 cases f with
 | next=>
  obtain ⟨σ',H',I',q⟩:=q
  exact h2 pins s1 σ' H' D I' q
 | ret v=>exact q
 | brk=>exact q
 | cont=>exact q
theorem aj (h1:PS X st t):PSs X [st] t:=by
 intro pins s σ H D I h
 refine wpAny_execs_cons (cq (h1 pins s σ H D I h) fun f s1 q=>?_)
 cases f with
 | next=>exact wpAny_execs_nil q
 | ret v=>exact q
 | brk=>exact q
 | cont=>exact q
def Tw:TS:=fun D σ H=>D.ct σ H
theorem u_:PS X (.Continue pos) Tw:=fun _ _ σ H _ I h=>wpAny_Continue ⟨σ,H,I,h⟩
theorem Inv.quiet {σ:St}(I:Inv X pins σ H s):interactive X.env=false:=by simp [interactive,I.ok.kind]
def Tx (te:TE):TS:=fun D σ H=>te σ H fun _ H1=>D.nx σ H1
theorem bg (he:PE X e te)(hs:swapsWith e none pos.line X.env=pure false:=by rfl):PS X (.Expr e pos) (Tx te):=by
 intro pins s σ H D I h
 exact wpAny_Expr_any (cq (he pins s σ H _ I h) fun v s1 ⟨x,H1,I1,r1,q1⟩=>⟨σ,H1,I1,q1⟩) I.quiet hs
def aaC (te:TE):TS:=fun D σ H=>te σ H D.rt
theorem aH (he:PE X e te):PS X (.Return (some e) pos) (aaC te):=by
 intro pins s σ H D I h
 exact wpAny_Return_some (cq (he pins s σ H _ I h) fun v s1 ⟨x,H1,I1,r1,q1⟩=>⟨x,σ,H1,I1,r1,q1⟩)
def aaD (c:TT)(t u:TS):TS:=fun D σ H=>c σ H fun b H1=>if b=true then t D σ H1 else u D σ H1
theorem bu (hc:PT X c tc)(ha:PSs X a t)(hb:PSs X b u):PS X (.If c a b pos) (aaD tc t u):=by
 intro pins s σ H D I h
 refine wpAny_If (cq (hc pins s σ H _ I h) fun d s1 ⟨H1,I1,q1⟩=>?_)
 cases d with
 | true=>exact ha pins s1 σ H1 D I1 q1
 | false=>exact hb pins s1 σ H1 D I1 q1
def PJ:TS:=fun _ _ _=>False
theorem de:PS X st PJ:=fun _ _ _ _ _ _ h=>h.elim
end
abbrev TG:=V->St->Hp->(St->Hp->Prop)->Prop
abbrev N3:=List V->St->Hp->(St->Hp->Prop)->Prop
def PG (X:Cx)(target:Expr)(t:TG):Prop:=
 ∀(pins:ε) (s:Shared) (σ:St) (H:Hp) (v:V) (u:Value) (Q:St->Hp->Prop),Inv X pins σ H s->RelV v u->t v σ H Q->
  wpAny (model X.prog X.w) X.A (assign target X.env u) (fun _ s' =>∃σ' H',Inv X pins σ' H' s' /\Q σ' H') X.xe s
def Tz (X:Cx)(ts:Α)(t:N3):Prop:=
 ∀(pins:ε) (s:Shared) (σ:St) (H:Hp) (vs:η) (us:π) (Q:St->Hp->Prop),Inv X pins σ H s->Vals vs us->t vs σ H Q->
  wpAny (model X.prog X.w) X.A (assignInOrder ((assignEach ts X.env).map (·.2)) us) (fun _ s' =>∃σ' H',Inv X pins σ' H' s' /\Q σ' H') X.xe s
abbrev PK:=V->V->V->Hp->(Hp->Prop)->Prop
def TB (X:Cx)(t:PK):Prop:=
 ∀(pins:ε) (s:Shared) (σ:St) (H:Hp) (o i v:V) (ov iv u:Value) (Q:Hp->Prop),Inv X pins σ H s->RelV o ov->RelV i iv->RelV v u->t o i v H Q->
  wpAny (model X.prog X.w) X.A (setItem ov iv u) (fun _ s' =>∃H',Inv X pins σ H' s' /\Q H') X.xe s
section
variable {X:Cx}{pos:Pos}
def cF (i:Nat):TG:=fun v σ H Q=>Q (σ.set i (some v)) H
theorem av (hN:X.N.Nodup)(hi:X.N[i]? =some x)(hx:Loc X.env.scope x)(hf:X.fn x=true\/X.env.scope.names.lookup x=some .local:=by first | exact .inl rfl | exact .inr rfl | assumption):PG X (.Name x pos) (cF i):=by
 intro pins s σ H v u Q I r h
 exact wpAny_assign_Name (jy I hN hi hx r (fun s' I' =>⟨_,H,I',h⟩) hf)
def PM:N3:=fun vs σ H Q=>vs=[]/\Q σ H
def va (t:TG)(u:N3):N3:=fun vs σ H Q=>∃v r,vs=v::r/\t v σ H fun σ' H' =>u r σ' H' Q
theorem cu:Tz X [] PM:=by
 intro pins s σ H vs us Q I r h
 obtain ⟨e,h⟩:=h
 subst e
 cases r
 exact assignInOrder_nil ⟨σ,H,I,h⟩
theorem aQ (h1:PG X e t)(h2:Tz X es u)
  (hs:(assignEach (e::es) X.env).map (·.2)=assign e X.env::(assignEach es X.env).map (·.2):=by rfl):Tz X (e::es) (va t u):=by
 intro pins s σ H vs us Q I r h
 obtain ⟨v,vr,e1,h⟩:=h
 subst e1
 cases r with
 | cons r rr=>
  rw [hs]
  refine assignInOrder_cons (cq (h1 pins s σ H _ _ _ I r h) fun _ s1 ⟨σ1,H1,I1,q1⟩=>?_)
  exact h2 pins s1 σ1 H1 _ _ Q I1 rr q1
inductive HD (K:Frag)(n:Nat)(t:N3)(v:V)(σ:St)(H:Hp)(Q:(St->Hp->Prop)):Prop where
 | mk (a xs:_) (_:v=.ref a) (_:bT K H a xs) (_:xs.length=n) (_:t xs σ H Q):HD K n t v σ H Q
theorem dG {k:Nat}(hc:X.calm=true)(h:Tz X es t)
  (hn:(assignEach es X.env).length=n:=by rfl) (LR:(assignEach es X.env).findIdx? (·.1)=none:=by rfl):PG X (.Tuple es k pos) (HD X.K n t):=by
 intro pins s σ H v u Q I r hw
 obtain ⟨a,xs,e1,hq,hl,hw⟩:=hw
 subst e1
 cases r
 obtain ⟨its,rv,ht,hz⟩:=I.tuple hq
 refine assign_Tuple_tuple (I.ok.hd hc) ht (by simp [hn, <- hl,rv.length]) LR fun h' hx=>?_
 have I1:Inv X pins σ H {s with heap:=h' }:=I.kept (t' :=s.toks) fun b o e=>hx b o (aa_ (Heap.lt_size e)) e
 exact h pins _ σ H xs _ Q I1 (by simpa using rv) hw
def aaE (to ti:TE)(t:PK):TG:=fun v σ H Q=>to σ H fun o H1=>ti σ H1 fun i H2=>t o i v H2 fun H3=>Q σ H3
theorem oa (ho:PE X o to)(hi:PE X i ti)(hs:TB X t)
  (ha:∀v,assign (.Subscript o i pos) X.env v=(do
   let ov <- holding [v] (eval o X.env)
   let iv <- holding [v,ov] (eval i X.env)
   standAt pos
   holding [v,ov,iv] (setItem ov iv v)
   release [v,ov,iv] []):=by intro _;rfl):PG X (.Subscript o i pos) (aaE to ti t):=by
 intro pins s σ H v u Q I r h
 rw [ha]
 refine wpAny_bind (wpAny_holding (cq (ho pins s σ H _ I h) fun ov s1 ⟨x,H1,I1,r1,q1⟩=>?_))
 refine wpAny_bind (wpAny_holding (cq (hi pins s1 σ H1 _ I1 q1) fun iv s2 ⟨y,H2,I2,r2,q2⟩=>?_))
 refine wpAny_bind (wpAny_standAt (wpAny_bind (wpAny_holding (cq (hs pins s2 σ H2 x y v ov iv u _ I2 r1 r2 r q2) fun _ s3 ⟨H3,I3,q3⟩=>?_))))
 exact wpAny_release ⟨σ,H3,I3,q3⟩
def HE (te:TE)(g:TG):TS:=fun D σ H=>te σ H fun x H1=>g x σ H1 D.nx
theorem kz (he:PE X e te)(hg:PG X tg g)(hs:swapsWithSole [tg] e pos.line X.env=pure false:=by rfl)(hw:swappedStores [tg] e X.env=pure none:=by rfl)
  (h1:(assignEach [tg] X.env).map (·.2)=[assign tg X.env]:=by rfl):PS X (.Assign [tg] e pos) (HE te g):=by
 intro pins s σ H D I h
 refine wpAny_Assign_stores (cq (he pins s σ H _ I h) fun v s1 ⟨x,H1,I1,r1,q1⟩=>?_) hs hw
 rw [h1]
 exact cq (hg pins s1 σ H1 x v _ I1 r1 q1) fun _ s2 q=>q
theorem aG (hN:X.N.Nodup)(hi:X.N[i]? =some x)(hx:Loc X.env.scope x)(he:PE X e te)(hs:swapsWith e (some (.Name x pos')) pos.line X.env=pure false:=by rfl)(hf:X.fn x=true\/X.env.scope.names.lookup x=some .local:=by first | exact .inl rfl | exact .inr rfl | assumption):
  PS X (.Assign [.Name x pos'] e pos) (HE te (cF i)):=by
 intro pins s σ H D I h
 refine wpAny_Assign_Name (cq (he pins s σ H _ I h) fun v s1 ⟨y,H1,I1,r1,q1⟩=>?_) hs
 exact jy I1 hN hi hx r1 (fun s2 I2=>⟨_,H1,I2,q1⟩) hf
inductive N4 (i:Nat)(j:Nat)(D:Ends)(σ:St)(vs:η)(H1:Hp):Prop where
 | mk (v w:_) (_:vs=[v,w]) (_:D.nx ((σ.set i (some v)).set j (some w)) H1):N4 i j D σ vs H1
def aaF (i j:Nat)(ta:TA):TS:=fun D σ H=>ta σ H fun vs H1=>N4 i j D σ vs H1
theorem PQ (hc:X.calm=true)(hN:X.N.Nodup)(hi:X.N[i]? =some x)(hj:X.N[j]? =some y)(hij:i≠j)
  (hx:X.env.scope.names.lookup x=some .local) (hy:X.env.scope.names.lookup y=some .local) (ha:PA X [a,b] ta)
  (hw:swappedStores [.Tuple [.Name x px,.Name y py] kt pt] (.Tuple [a,b] k2 pt2) X.env=pure (some [x,y]))
  (hs:swapsWithSole [.Tuple [.Name x px,.Name y py] kt pt] (.Tuple [a,b] k2 pt2) pos.line X.env=pure false:=by rfl):
  PS X (.Assign [.Tuple [.Name x px,.Name y py] kt pt] (.Tuple [a,b] k2 pt2) pos) (aaF i j ta):=by
 intro pins s σ H D I h
 rw [exec_Assign_arm]
 refine wpAny_bind (wpAny_standAt ?_)
 rw [hs]
 refine wpAny_bind (wpAny_pure ?_)
 rw [if_neg (by decide)]
 refine wpAny_bind (Tuple_ (cq (ha _ pins s σ H _ I h) fun us s1 ⟨vs,H1,I1,r1,q1⟩=>?_))
 obtain ⟨v,w,e1,q1⟩:=q1
 subst e1
 obtain ⟨u1,u2,rfl,rv,mZ⟩:∃u1 u2,us=[u1,u2]/\RelV v u1/\RelV w u2:=by
  cases r1 with
  | cons p q=>
   cases q with
   | cons p' q' =>
    cases q'
    exact ⟨_,_,rfl,p,p'⟩
 refine wpAny_newObj_type ?_ (by show 2<=sizeLine;decide)
 have I2:Inv X pins σ H1 {s1 with heap:=s1.heap.push {cls:=.type "tuple",data:=.seq [u1,u2].toArray}}:=I1.kept (t' :=s1.toks) fun b o e=>Heap.get?_push_of_some _ e
 rw [hw]
 refine wpAny_bind (wpAny_pure ?_)
 show wpAny (model X.prog X.w) X.A (do rule "assign.swapped-stores";let items <- unpackItems (.ref s1.heap.objs.size) 2 none;assignInOrder [fun v=>bindName X.env y v,fun v=>bindName X.env x v] items.reverse;pure Flow.next) _ _ _
 refine wpAny_bind (wpAny_rule (wpAny_bind (unpackItems_tuple (items:= #[u1,u2]) (I.ok.hd hc) (IsTup.new s1.heap _) fun h' xg =>?_)))
 have I3:=I2.kept (h' :=h') (t' :=s1.toks) fun b o e=>xg b o (aa_ (Heap.lt_size e)) e
 show wpAny _ _ (assignInOrder [fun v=>bindName X.env y v,fun v=>bindName X.env x v] [u2,u1] >>=fun _=>pure Flow.next) _ _ _
 refine wpAny_bind (assignInOrder_cons (wpAny_bindName (jy I3 hN hj (.inl hy) mZ (fun s2 I4=>?_) (.inr hy))))
 refine assignInOrder_cons (wpAny_bindName (jy I4 hN hi (.inl hx) rv (fun s3 I5=>assignInOrder_nil (wpAny_pure ?_)) (.inr hx)))
 rw [List.set_comm _ _ (aba hij)] at I5
 exact ⟨_,H1,I5,q1⟩
def HF (c:TT)(tb:TS):TS:=fun D σ H=>∃W:Nat->St->Hp->Prop,(∃m,W m σ H)/\∀m σ H,W m σ H->
 c σ H fun b H1=>if b=true then ∃N:St->Hp->Prop,(∀σ' H',N σ' H' ->∃m',m' < m/\W m' σ' H')/\tb {D with nx:=N,ct:=N,bk:=D.nx} σ H1 else D.nx σ H1
theorem og (hp:PassesOwn (model X.prog X.w) X.A X.env X.xe)(hc:PT X c tc)(hb:PSs X body tb):PS X (.While c body [] pos) (HF tc tb):=by
 intro pins s σ H D I h
 obtain ⟨W,⟨m0,w0⟩,turn⟩:=h
 refine wpAny_While (codeAny_whileLoop (fun n s' =>∃σ' H',Inv X pins σ' H' s' /\W n σ' H') ?_ m0 ⟨σ,H,I,w0⟩)
 rintro n s1 ⟨σ1,H1,I1,w1⟩
 refine wpAny_passesOwn hp (cq (hc pins s1 σ1 H1 _ I1 (turn n σ1 H1 w1)) fun b s2 ⟨H2,I2,q2⟩=>?_)
 cases b with
 | true=>
  obtain ⟨N,hN,q2⟩:=q2
  rw [if_pos rfl]
  refine wpAny_passesOwn hp (cq (hb pins s2 σ1 H2 _ I2 q2) fun f s3 q3=>?_)
  cases f with
  | next=>
   obtain ⟨σ3,H3,I3,n3⟩:=q3
   obtain ⟨m',hm,w3⟩:=hN σ3 H3 n3
   exact ⟨m',hm,σ3,H3,I3,w3⟩
  | cont=>
   obtain ⟨σ3,H3,I3,n3⟩:=q3
   obtain ⟨m',hm,w3⟩:=hN σ3 H3 n3
   exact ⟨m',hm,σ3,H3,I3,w3⟩
  | brk=>exact q3
  | ret v=>exact q3
 | false=>
  rw [if_neg aam]
  exact wpAny_execs_nil ⟨σ1,H2,I2,q2⟩
end
structure It where
 go:Nat->Hp->Prop
 GN:Nat->Hp->V->Hp->Prop
 stop:Nat->Hp->Prop
def kA (X:Cx)(pins:ε)(H:Hp)(b:Addr):Prop:=
 H b=none/\b≠X.env.locals/\b∉X.fs/\(b∈X.ex\/X.s₀.heap.objs.size<=b)/\(∀x c,X.env.cells.lookup x=some c->c≠b)/\∀p∈X.pn++pins,p.1≠b
theorem Inv.mI {σ:St}{b:Addr}(I:Inv X pins σ H s)(hb:s.heap.objs.size<=b)(hn:H' b=none):kA X pins H' b:=by
 refine ⟨hn,aib (aaO I.lt hb),I.aaw hb,.inr (aaf I.sz hb),fun x c e z=>?_,fun p hp z=>?_⟩
 ·obtain ⟨v,q⟩:=I.cell x c e
  exact absurd (aaO q.lt (by rw [z];exact hb)) (abU _)
 ·exact absurd (aaO (Heap.lt_size (I.pin p hp).1) (by rw [z];exact hb)) (abU _)
structure Turn (P:Program)(w:World)(K:Frag)(tg:Expr)(J:It)(fp:ω)(it:Addr)(tn:Nat->Heap->Prop):Prop where
 mem:it∈fp
 obj:∀i h,tn i h->∀b∈fp,∃o,h.get? b=some o/\∀v,o.data≠.cell v
 keep:∀i h h',tn i h->(∀b∈fp,∀o,h.get? b=some o->h'.get? b=some o)->tn i h'
 item:∀(X:Cx),X.prog=P->X.w=w->X.K=K->X.calm=true->∀(i:Nat) (pins:ε) (s:Shared) (σ:St) (H:Hp) (E:γ),Inv X pins σ H s->(∀b∈fp,kA X pins H b)->tn i s.heap->J.go i H->
  wpAny (model P w) X.A (pyNext (.ref it)) (fun r s1=>∃u,r=some u/\
   wpAny (model P w) X.A (letOwnedTupleGo tg (.ref it) u) (fun _ s2=>∃x H',Inv X pins σ H' s2/\RelV x u/\J.GN i H x H' /\tn (i+1) s2.heap/\∀b∈fp,H' b=none) E s1) E s
 done:∀(X:Cx),X.prog=P->X.w=w->X.K=K->X.calm=true->∀(i:Nat) (pins:ε) (s:Shared) (σ:St) (H:Hp) (E:γ),Inv X pins σ H s->(∀b∈fp,kA X pins H b)->tn i s.heap->J.stop i H->
  wpAny (model P w) X.A (pyNext (.ref it)) (fun r s1=>r=none/\Inv X pins σ H s1) E s
 self:∀(A:Around) (i:Nat) (s:Shared) (Q:γ) (E:γ),tn i s.heap->Q (.ref it) s->wpAny (model P w) A (pyIter (.ref it)) Q E s
abbrev TI:=St->Hp->(It->Hp->Prop)->Prop
def PIE (X:Cx)(pins:ε)(σ:St)(tg:Expr)(R:It->Hp->Prop)(ZK:Value)(s2:Shared):Prop:=
 ∃(it:Addr) (fp:ω) (tn:Nat->Heap->Prop) (J:It) (H' :Hp),ZK=.ref it/\Inv X pins σ H' s2/\Turn X.prog X.w X.K tg J fp it tn/\tn 0 s2.heap/\(∀b∈fp,kA X pins H' b)/\R J H'
def PI (X:Cx)(tg iter:Expr)(wi:TI):Prop:=
 ∀(pins:ε) (s:Shared) (σ:St) (H:Hp) (R:It->Hp->Prop),Inv X pins σ H s->wi σ H R->
  wpAny (model X.prog X.w) X.A (eval iter X.env) (fun v s1=>wpAny (model X.prog X.w) X.A (pyIter v) (PIE X pins σ tg R) X.xe s1) X.xe s
theorem yY            (ho : s.heap.get? it = some o) (hc : o.cls = .type n) (hd : o.data = .fields vs)
    (hn : ["enumerate", "zip", "dict_itemiterator", "dict_reverseitemiterator", "odict_iterator", "itertools.zip_longest", "itertools.pairwise"].contains n = false) (hQ : Q () s) : wpAny M A (letOwnedTupleGo tg (.ref it) u) Q E s := by
  unfold letOwnedTupleGo
  cases tg <;> first
    | exact wpAny_pure hQ
    | (cases u <;> first
        | exact wpAny_pure hQ
        | (refine wpAny_bind (wpAny_load ho ?_)
           rw [hc, hd]
           show wpAny M A (if (["enumerate", "zip", "dict_itemiterator", "dict_reverseitemiterator", "odict_iterator", "itertools.zip_longest", "itertools.pairwise"].contains n && vs[0]? == some (rawInt _)) = true then _ else _) Q E s
           rw [if_neg (by intro h; rw [hn, Bool.false_and] at h; cases h)]
           exact wpAny_pure hQ))
def K3 (K:Frag)(a:Addr):It:=
 ⟨fun i H=>∃xs x,aX K H a xs/\xs[i]? =some x,fun i H x H' =>H' =H/\∀xs,aX K H a xs->xs[i]? =some x,fun i H=>∃xs,aX K H a xs/\xs.length<=i⟩
def TC (K:Frag)(a:Addr):It:=
 ⟨fun i H=>∃xs x,bT K H a xs/\xs[i]? =some x,fun i H x H' =>H' =H/\∀xs,bT K H a xs->xs[i]? =some x,fun i H=>∃xs,bT K H a xs/\xs.length<=i⟩
def PR (lo:Int)(n:Nat):It:=⟨fun i _=>i < n,fun i H x H' =>H' =H/\x=.int (lo+i),fun i _=>n<=i⟩
theorem BJ {K:Frag}(a it:Addr):Turn P w K tg (K3 K a) [it] it (fun i h=>h.IsListIter it a i) where
 mem:=by simp
 obj:=fun i h st b hb=>by
  have e:b=it:=by simpa using hb
  subst e
  obtain ⟨o,e,c,d⟩:=st
  exact ⟨o,e,fun v z=>by rw [d] at z;cases z⟩
 keep:=fun i h h' st k=>st.at fun o e=>k it (by simp) o e
 item:=by
  intro X hP hw hK hc i pins s σ H E I hf st hg
  subst hP hw hK
  obtain ⟨xs,x,hq,hx⟩:=hg
  obtain ⟨its,rv,p,hz⟩:=I.list hq
  obtain ⟨u,hu,ru⟩:=rv.get hx
  obtain ⟨f0,f1,f2,f3,f4,f5⟩:=hf it (by simp)
  refine wpAny_pyNext_list_item st p.isList (x:=u) (by simpa using hu) fun h' yZ sb=>?_
  have I1:Inv X pins σ H {s with heap:=h' }:=I.turned (t' :=s.toks) (fun b o hb e=>(sb.2 b hb).trans e) f0 f1 f3 f4 f5
  obtain ⟨o,e,c,d⟩:=id yZ
  exact ⟨u,rfl,yY (s:={s with heap:=h' }) e c d (by decide) ⟨x,H,I1,ru,⟨rfl,fun ys hy=>by rw [I.iw hy hq];exact hx⟩,yZ,fun b hb=>(hf b hb).1⟩⟩
 done:=by
  intro X hP hw hK hc i pins s σ H E I hf st hg
  subst hP hw hK
  obtain ⟨xs,hq,hx⟩:=hg
  obtain ⟨its,rv,p,hz⟩:=I.list hq
  obtain ⟨f0,f1,f2,f3,f4,f5⟩:=hf it (by simp)
  have hl:=rv.length
  exact wpAny_pyNext_list_end (I.ok.hd hc) st p.isList (by simp;omega) fun h' eb=>⟨rfl,I.turned (t' :=s.toks) (fun b o hb e=>eb b o hb e) f0 f1 f3 f4 f5⟩
 self:=fun _ _ _ _ _ st h=>wpAny_pyIter_listiter st h
theorem xq {K:Frag}(a it:Addr):Turn P w K tg (TC K a) [it] it (fun i h=>h.IsTupleIter it a i) where
 mem:=by simp
 obj:=fun i h st b hb=>by
  have e:b=it:=by simpa using hb
  subst e
  obtain ⟨o,e,c,d⟩:=st
  exact ⟨o,e,fun v z=>by rw [d] at z;cases z⟩
 keep:=fun i h h' st k=>st.at fun o e=>k it (by simp) o e
 item:=by
  intro X hP hw hK hc i pins s σ H E I hf st hg
  subst hP hw hK
  obtain ⟨xs,x,hq,hx⟩:=hg
  obtain ⟨its,rv,p,hz⟩:=I.tuple hq
  obtain ⟨u,hu,ru⟩:=rv.get hx
  obtain ⟨f0,f1,f2,f3,f4,f5⟩:=hf it (by simp)
  refine wpAny_pyNext_tuple_item st (show s.heap.IsTuple a its.toArray from p) (x:=u) (by simpa using hu) fun h' yZ sb=>?_
  have I1:Inv X pins σ H {s with heap:=h' }:=I.turned (t' :=s.toks) (fun b o hb e=>(sb.2 b hb).trans e) f0 f1 f3 f4 f5
  obtain ⟨o,e,c,d⟩:=id yZ
  exact ⟨u,rfl,yY (s:={s with heap:=h' }) e c d (by decide) ⟨x,H,I1,ru,⟨rfl,fun ys hy=>by rw [I.gu hy hq];exact hx⟩,yZ,fun b hb=>(hf b hb).1⟩⟩
 done:=by
  intro X hP hw hK hc i pins s σ H E I hf st hg
  subst hP hw hK
  obtain ⟨xs,hq,hx⟩:=hg
  obtain ⟨its,rv,p,hz⟩:=I.tuple hq
  obtain ⟨f0,f1,f2,f3,f4,f5⟩:=hf it (by simp)
  have hl:=rv.length
  exact wpAny_pyNext_tuple_end (I.ok.hd hc) st (show s.heap.IsTuple a its.toArray from p) (by simp;omega) fun h' eb=>⟨rfl,I.turned (t' :=s.toks) (fun b o hb e=>eb b o hb e) f0 f1 f3 f4 f5⟩
 self:=fun _ _ _ _ _ st h=>wpAny_pyIter_tupleiter st h
theorem xr {K:Frag}(it:Addr)(lo:Int)(n:Nat):Turn P w K tg (PR lo n) [it] it (fun i h=>IsRangeIter h it (lo+(i:Nat)*1) ((n:Int) - (i:Nat)) 1) where
 mem:=by simp
 obj:=fun i h st b hb=>by
  have e:b=it:=by simpa using hb
  subst e
  exact ⟨_,st,fun v z=>by
   have z' :Data.fields _=Data.cell v:=z
   cases z'⟩
 keep:=fun i h h' st k=>k it (by simp) _ st
 item:=by
  intro X hP hw hK hc i pins s σ H E I hf st hg
  subst hP hw hK
  obtain ⟨f0,f1,f2,f3,f4,f5⟩:=hf it (by simp)
  have W:=Walks.range (prog:=X.prog) (w:=X.w) (I.ok.hd hc) it lo 1 n
  refine W.item i s _ _ hg st fun v h' tk hv yZ kk=>?_
  obtain ⟨t,rfl⟩:=hv
  have I1:Inv X pins σ H {s with heap:=h',toks:=tk}:=I.turned (fun b o hb e=>kk b o (by simpa using hb) e) f0 f1 f3 f4 f5
  refine ⟨_,rfl,yY (s:={s with heap:=h',toks:=tk}) (n:="range_iterator") yZ rfl rfl (by decide) ⟨.int (lo+i),H,I1,⟨t,?_⟩,⟨rfl,rfl⟩,yZ,fun b hb=>(hf b hb).1⟩⟩
  rw [Int.mul_one]
 done:=by
  intro X hP hw hK hc i pins s σ H E I hf st hg
  subst hP hw hK
  obtain ⟨f0,f1,f2,f3,f4,f5⟩:=hf it (by simp)
  exact wpAny_pyNext_range_end (I.ok.hd hc) st (by have:n<=i:=hg;omega) fun h' eb=>⟨rfl,I.turned (t' :=s.toks) (fun b o hb e=>eb b o hb e) f0 f1 f3 f4 f5⟩
 self:=fun _ _ _ _ _ st h=>wpAny_pyIter_rangeiter st h
end L2
namespace L2
open PySem PySem.Spec PyProof.Rows
section
variable {X:Cx}{tg:Expr}
inductive HG (K:Frag)(R:(It->Hp->Prop))(x:V)(H1:Hp):Prop where
 | mk (a:_) (_:x=.ref a) (_:(∃xs,aX K H1 a xs)) (_:R (K3 K a) H1):HG K R x H1
def N5 (K:Frag)(tl:TE):TI:=fun σ H R=>tl σ H fun x H1=>HG K R x H1
inductive N6 (K:Frag)(R:(It->Hp->Prop))(x:V)(H1:Hp):Prop where
 | mk (a:_) (_:x=.ref a) (_:(∃xs,bT K H1 a xs)) (_:R (TC K a) H1):N6 K R x H1
def aaH (K:Frag)(tl:TE):TI:=fun σ H R=>tl σ H fun x H1=>N6 K R x H1
theorem bx (hl:PE X l tl):PI X tg l (N5 X.K tl):=by
 intro pins s σ H R I h
 refine cq (hl pins s σ H _ I h) fun v s1 ⟨x,H1,I1,r1,q1⟩=>?_
 obtain ⟨a,e,⟨xs,hq⟩,q⟩:=q1
 subst e
 cases r1
 obtain ⟨its,rv,p,hz⟩:=I1.list hq
 refine wpAny_pyIter_list p.isList ?_
 refine ⟨s1.heap.objs.size,[s1.heap.objs.size],_,_,H1,rfl,I1.kept (t' :=s1.toks) fun b o e=>Heap.get?_push_of_some _ e,BJ a _,⟨_,Heap.get?_push_size _ rfl,rfl,rfl⟩,fun b hb=>?_,q⟩
 have e:b=s1.heap.objs.size:=by simpa using hb
 subst e
 exact I1.mI (aac _) (I1.bH.fresh (aac _))
theorem PU (hl:PE X l tl):PI X tg l (aaH X.K tl):=by
 intro pins s σ H R I h
 refine cq (hl pins s σ H _ I h) fun v s1 ⟨x,H1,I1,r1,q1⟩=>?_
 obtain ⟨a,e,⟨xs,hq⟩,q⟩:=q1
 subst e
 cases r1
 obtain ⟨its,rv,p,hz⟩:=I1.tuple hq
 refine wpAny_pyIter_tuple (show s1.heap.IsTuple a its.toArray from p) ?_
 refine ⟨s1.heap.objs.size,[s1.heap.objs.size],_,_,H1,rfl,I1.kept (t' :=s1.toks) fun b o e=>Heap.get?_push_of_some _ e,xq a _,⟨_,Heap.get?_push_size _ rfl,rfl,rfl⟩,fun b hb=>?_,q⟩
 have e:b=s1.heap.objs.size:=by simpa using hb
 subst e
 exact I1.mI (aac _) (I1.bH.fresh (aac _))
theorem HH {σ:St}{E:γ}{lo hi:Int}(I:Inv X pins σ H s)(h1: -(2^62)<=lo)(h2:lo < 2^62)(h3: -(2^62)<=hi)(h4:hi < 2^62)
  (q:R (PR lo (hi - lo).toNat) H):wpAny (model X.prog X.w) X.A (pyIter (.ref s.heap.objs.size)) (PIE X pins σ tg R) E {s with heap:=s.heap.push {cls:=.type "range",data:=.fields #[.int lo t,.int hi u,.int 1 v]},toks:=tk}:=by
 refine wpAny_pyIter_range (IsRange.new ..) (small_one h1 h2 h3 h4) ?_
 have I1:Inv X pins σ H {s with heap:=s.heap.push {cls:=.type "range",data:=.fields #[.int lo t,.int hi u,.int 1 v]},toks:=tk}:=I.kept fun b o e=>Heap.get?_push_of_some _ e
 refine ⟨(s.heap.push {cls:=.type "range",data:=.fields #[.int lo t,.int hi u,.int 1 v]}).objs.size,[(s.heap.push {cls:=.type "range",data:=.fields #[.int lo t,.int hi u,.int 1 v]}).objs.size],_,_,H,rfl,
  I1.kept (t' :=tk) fun b o e=>Heap.get?_push_of_some _ e,xr _ lo (hi - lo).toNat,?_,fun b hb=>?_,q⟩
 ·have e1:lo+((0:Nat):Int)*1=lo:=by simp
  have e2:(((hi - lo).toNat:Nat):Int) - ((0:Nat):Int)=Builtin.Range.rangeSize lo hi 1:=by rw [rangeSize_one];split <;> omega
  show IsRangeIter _ _ (lo+((0:Nat):Int)*1) ((((hi - lo).toNat:Nat):Int) - ((0:Nat):Int)) 1
  rw [e1,e2]
  exact Heap.get?_push_size _ rfl
 ·have e:b=(s.heap.push {cls:=.type "range",data:=.fields #[.int lo t,.int hi u,.int 1 v]}).objs.size:=by simpa using hb
  subst e
  exact I1.mI (aac _) (I1.bH.fresh (aac _))
inductive HI (R:(It->Hp->Prop))(vs:η)(H1:Hp):Prop where
 | mk (j:Int) (_:vs=[.int j]) (_: -(2^62)<=j) (_:j < 2^62) (_:R (PR 0 j.toNat) H1):HI R vs H1
def TF (ta:TA):TI:=fun σ H R=>ta σ H fun vs H1=>HI R vs H1
theorem bV (hg:Gl X "range")(hm:X.mg "range"=none)(ha:PA X [a] ta)(hs:starEach [a] X.env=[(false,eval a X.env)]:=by rfl):PI X tg (.Call (.Name "range" p) [a] [] pos) (TF ta):=by
 intro pins s σ H R I h
 refine Call_ (gM I hg hm boot_range (PyProof.Rows.callWith_type1 (cq (ha pos pins s σ H _ I h) fun us s1 ⟨vs,H1,I1,r1,q1⟩=>?_) hs rfl))
 obtain ⟨j,e,q1,q2,q⟩:=q1
 subst e
 cases r1 with
 | cons r rr=>
  cases rr
  obtain ⟨t,rfl⟩:=r
  exact call_range_1 (HH I1 (by omega) (by omega) q1 q2 (by simpa using q))
def aaI (wi:TI)(g:TG)(tb:TS):TS:=fun D σ H=>wi σ H fun J H1=>∃W:Nat->Nat->St->Hp->Prop,(∃m,W 0 m σ H1)/\∀i m σ H,W i m σ H->
 (J.stop i H/\D.nx σ H)\/(J.go i H/\∃N:St->Hp->Prop,(∀σ' H',N σ' H' ->∃m',m' < m/\W (i+1) m' σ' H')/\∀x H',J.GN i H x H' ->g x σ H' fun σ2 H2=>tb {D with nx:=N,ct:=N,bk:=D.nx} σ2 H2)
def oh (fp:ω)(h:Heap):List (Addr×Obj):=fp.filterMap fun b=>(h.get? b).map fun o=>(b,o)
theorem gN (hb:b∈fp)(e:h.get? b=some o):(b,o)∈oh fp h:=aie.mpr ⟨b,hb,by rw [e];rfl⟩
theorem BK (hp:p∈oh fp h):p.1∈fp/\h.get? p.1=some p.2:=by
 obtain ⟨b,hb,e⟩:=aie.mp hp
 cases q:h.get? b with
 | none=>rw [q] at e;cases e
 | some o=>
  rw [q] at e
  have e' :(b,o)=p:=aao e
  subst e'
  exact ⟨hb,q⟩
theorem Inv.pinned {σ:St}(I:Inv X pins σ H s)(hf:∀b∈fp,kA X pins H b)(ho:∀b∈fp,∃o,s.heap.get? b=some o/\∀v,o.data≠.cell v):Inv X (pins++oh fp s.heap) σ H s:=
 I.yW fun p hp=>(aaG.mp hp).elim (fun z=>I.pin p (abk _ z)) fun z=>by
  obtain ⟨hb,e⟩:=BK z
  obtain ⟨f0,f1,f2,_⟩:=hf p.1 hb
  obtain ⟨o,e',d⟩:=ho p.1 hb
  rw [e] at e';cases e'
  exact ⟨e,f0,f1,f2,d⟩
theorem Inv.iy {σ:St}(I:Inv X (pins++pl) σ H s):Inv X pins σ H s:=I.yW fun p hp=>I.pin p (abk _ (abh _ hp))
theorem bB (hp:PassesOwn (model X.prog X.w) X.A X.env X.xe)(hc:X.calm=true)(hi:PI X tg iter wi)(hg:PG X tg g)(hb:PSs X body tb)
  (hs:∀x,foldedSetIterable iter X.env x=pure x:=by intro _;rfl):PS X (.For tg iter body [] pos) (aaI wi g tb):=by
 intro pins s σ H D I h
 refine wpAny_For (cq (hi pins s σ H _ I h) fun v s1 h1=>cq h1 fun ZK s2 h2=>?_) hs
 obtain ⟨it,fp,tn,J,H2,e,I2,T,kr,f2,W,⟨m0,w0⟩,turn⟩:=h2
 subst e
 have stat:∀{H' :Hp},(∀b∈fp,H' b=none)->∀b∈fp,kA X pins H' b:=fun hn b hb=>⟨hn b hb,(f2 b hb).2⟩
 refine codeAny_forLoop_any (fun n s' =>∃i σ' H',Inv X pins σ' H' s' /\tn i s'.heap/\(∀b∈fp,H' b=none)/\W i n σ' H') ?_ m0 ⟨0,σ,H2,I2,kr,fun b hb=>(f2 b hb).1,w0⟩
 rintro n s3 ⟨i,σ3,H3,I3,xh,SE,w3⟩
 rcases turn i n σ3 H3 w3 with ⟨stop,qn⟩ | ⟨go,N,hN,step⟩
 ·refine wpAny_passesOwn hp (cq (T.done X rfl rfl rfl hc i pins s3 σ3 H3 X.xe I3 (stat SE) xh stop) fun r s4 ⟨hr,I4⟩=>?_)
  subst hr
  exact wpAny_execs_nil ⟨σ3,H3,I4,qn⟩
 ·refine wpAny_passesOwn hp (cq (T.item X rfl rfl rfl hc i pins s3 σ3 H3 X.xe I3 (stat SE) xh go) fun r s4 ⟨u,hr,h4⟩=>?_)
  subst hr
  refine wpAny_passesOwn hp (cq h4 fun _ s5 ⟨x,H5,I5,r5,y5,LS,ZL⟩=>?_)
  have I5' :=I5.pinned (stat ZL) (T.obj _ _ LS)
  refine wpAny_passesOwn hp (cq (hg _ s5 σ3 H5 x u _ I5' r5 (step x H5 y5)) fun _ s6 ⟨σ6,H6,I6,q6⟩=>?_)
  refine wpAny_passesOwn hp (cq (hb _ s6 σ6 H6 _ I6 q6) fun f s7 q7=>?_)
  have again:∀{σ7:St} {H7:Hp},Inv X (pins++oh fp s5.heap) σ7 H7 s7->N σ7 H7->∃m,m < n/\∃i σ' H',Inv X pins σ' H' s7/\tn i s7.heap/\(∀b∈fp,H' b=none)/\W i m σ' H' :=fun {σ7 H7} I7 n7=>by
   obtain ⟨m',hm,w7⟩:=hN σ7 H7 n7
   refine ⟨m',hm,i+1,σ7,H7,I7.iy,T.keep _ _ _ LS fun b hb o e=>(I7.pin (b,o) (abk _ (abk _ (gN hb e)))).1,fun b hb=>?_,w7⟩
   obtain ⟨o,e,d⟩:=T.obj _ _ LS b hb
   exact (I7.pin (b,o) (abk _ (abk _ (gN hb e)))).2.1
  cases f with
  | next=>obtain ⟨σ7,H7,I7,n7⟩:=q7;exact again I7 n7
  | cont=>obtain ⟨σ7,H7,I7,n7⟩:=q7;exact again I7 n7
  | brk=>obtain ⟨σ7,H7,I7,q7⟩:=q7;exact ⟨σ7,H7,I7.iy,q7⟩
  | ret v=>obtain ⟨x7,σ7,H7,I7,r7,q7⟩:=q7;exact ⟨x7,σ7,H7,I7.iy,r7,q7⟩
end
theorem bW {K:Frag}{g:TG}{tb:TS}{D:Ends}(Pv:Nat->St->Hp->Prop)(h0:Pv 0 σ H)(hl:∀i σ H,i<=xs.length->Pv i σ H->aX K H a xs)
  (hs:∀i x σ H,xs[i]? =some x->Pv i σ H->g x σ H fun σ2 H2=>tb {D with nx:=Pv (i+1),ct:=Pv (i+1),bk:=D.nx} σ2 H2) (hd:∀σ H,Pv xs.length σ H->D.nx σ H):
  ∃W:Nat->Nat->St->Hp->Prop,(∃m,W 0 m σ H)/\∀i m σ H,W i m σ H->
   ((K3 K a).stop i H/\D.nx σ H)\/((K3 K a).go i H/\∃N:St->Hp->Prop,(∀σ' H',N σ' H' ->∃m',m' < m/\W (i+1) m' σ' H')/\∀x H',(K3 K a).GN i H x H' ->g x σ H' fun σ2 H2=>tb {D with nx:=N,ct:=N,bk:=D.nx} σ2 H2):=by
 refine ⟨fun i m σ H=>m=xs.length - i/\i<=xs.length/\Pv i σ H,⟨xs.length,by simp,abc _,h0⟩,?_⟩
 rintro i m σ H ⟨rfl,hi,p⟩
 have q:=hl i σ H hi p
 by_cases i8:i < xs.length
 ·refine .inr ⟨⟨xs,xs[i],q,by simp [i8]⟩,Pv (i+1),fun σ' H' p' =>⟨xs.length - (i+1),by omega,rfl,i8,p'⟩,fun x H' y=>?_⟩
  obtain ⟨e,y⟩:=y
  subst e
  exact hs i x σ _ (y xs q) p
 ·have e:i=xs.length:=by omega
  subst e
  exact .inl ⟨⟨xs,q,aac _⟩,hd σ H p⟩
theorem LU {K:Frag}{g:TG}{tb:TS}{D:Ends}(Pv:Nat->St->Hp->Prop)(h0:Pv 0 σ H)(hl:∀i σ H,i<=xs.length->Pv i σ H->bT K H a xs)
  (hs:∀i x σ H,xs[i]? =some x->Pv i σ H->g x σ H fun σ2 H2=>tb {D with nx:=Pv (i+1),ct:=Pv (i+1),bk:=D.nx} σ2 H2) (hd:∀σ H,Pv xs.length σ H->D.nx σ H):
  ∃W:Nat->Nat->St->Hp->Prop,(∃m,W 0 m σ H)/\∀i m σ H,W i m σ H->
   ((TC K a).stop i H/\D.nx σ H)\/((TC K a).go i H/\∃N:St->Hp->Prop,(∀σ' H',N σ' H' ->∃m',m' < m/\W (i+1) m' σ' H')/\∀x H',(TC K a).GN i H x H' ->g x σ H' fun σ2 H2=>tb {D with nx:=N,ct:=N,bk:=D.nx} σ2 H2):=by
 refine ⟨fun i m σ H=>m=xs.length - i/\i<=xs.length/\Pv i σ H,⟨xs.length,by simp,abc _,h0⟩,?_⟩
 rintro i m σ H ⟨rfl,hi,p⟩
 have q:=hl i σ H hi p
 by_cases i8:i < xs.length
 ·refine .inr ⟨⟨xs,xs[i],q,by simp [i8]⟩,Pv (i+1),fun σ' H' p' =>⟨xs.length - (i+1),by omega,rfl,i8,p'⟩,fun x H' y=>?_⟩
  obtain ⟨e,y⟩:=y
  subst e
  exact hs i x σ _ (y xs q) p
 ·have e:i=xs.length:=by omega
  subst e
  exact .inl ⟨⟨xs,q,aac _⟩,hd σ H p⟩
theorem b8 {lo:Int}{g:TG}{tb:TS}{D:Ends}(Pv:Nat->St->Hp->Prop)(h0:Pv 0 σ H)
  (hs:∀i σ H,i < n->Pv i σ H->g (.int (lo+i)) σ H fun σ2 H2=>tb {D with nx:=Pv (i+1),ct:=Pv (i+1),bk:=D.nx} σ2 H2) (hd:∀σ H,Pv n σ H->D.nx σ H):
  ∃W:Nat->Nat->St->Hp->Prop,(∃m,W 0 m σ H)/\∀i m σ H,W i m σ H->
   ((PR lo n).stop i H/\D.nx σ H)\/((PR lo n).go i H/\∃N:St->Hp->Prop,(∀σ' H',N σ' H' ->∃m',m' < m/\W (i+1) m' σ' H')/\∀x H',(PR lo n).GN i H x H' ->g x σ H' fun σ2 H2=>tb {D with nx:=N,ct:=N,bk:=D.nx} σ2 H2):=by
 refine ⟨fun i m σ H=>m=n - i/\i<=n/\Pv i σ H,⟨n,by simp,abc _,h0⟩,?_⟩
 rintro i m σ H ⟨rfl,hi,p⟩
 by_cases i8:i < n
 ·refine .inr ⟨i8,Pv (i+1),fun σ' H' p' =>⟨n - (i+1),by omega,rfl,i8,p'⟩,fun x H' y=>?_⟩
  obtain ⟨e,y⟩:=y
  subst e y
  exact hs i σ _ i8 p
 ·have e:i=n:=by omega
  subst e
  exact .inl ⟨aac _,hd σ H p⟩
theorem vb (Pv:St->Hp->Prop)(μ:St->Hp->Nat)(h0:Pv σ H)
  (hs:∀σ H,Pv σ H->c σ H fun b H1=>if b=true then tb {D with nx:=fun σ' H' =>Pv σ' H' /\μ σ' H' < μ σ H,ct:=fun σ' H' =>Pv σ' H' /\μ σ' H' < μ σ H,bk:=D.nx} σ H1 else D.nx σ H1)
  (mono:∀σ H Q Q',(∀b H1,Q b H1->Q' b H1)->c σ H Q->c σ H Q'):HF c tb D σ H:=by
 refine ⟨fun m σ H=>m=μ σ H/\Pv σ H,⟨_,rfl,h0⟩,?_⟩
 rintro m σ H ⟨rfl,p⟩
 refine mono σ H _ _ (fun b H1 q=>?_) (hs σ H p)
 cases b with
 | true=>exact ⟨_,fun σ' H' ⟨p',l⟩=>⟨_,l,rfl,p'⟩,q⟩
 | false=>exact q
end L2
namespace L2
open PySem PySem.Spec PyProof.Rows
abbrev R2:=V->V->Hp->VK->Prop
def jx (X:Cx)(f:Value->Value->Sem Value)(r:R2):Prop:=
 ∀(pins:ε) (s:Shared) (σ:St) (H:Hp) (x y:V) (v u:Value) (Q:VK),Inv X pins σ H s->RelV x v->RelV y u->r x y H Q->
  wpAny (model X.prog X.w) X.A (f v u) (EP X pins σ Q) X.xe s
def UnR (X:Cx)(f:Value->Sem Value)(r:V->Hp->VK->Prop):Prop:=
 ∀(pins:ε) (s:Shared) (σ:St) (H:Hp) (x:V) (v:Value) (Q:VK),Inv X pins σ H s->RelV x v->r x H Q->
  wpAny (model X.prog X.w) X.A (f v) (EP X pins σ Q) X.xe s
def fe (X:Cx)(f:Value)(r:List V->Hp->VK->Prop):Prop:=
 ∀(pins:ε) (s:Shared) (σ:St) (H:Hp) (xs:η) (us:π) (Q:VK),Inv X pins σ H s->Vals xs us->r xs H Q->
  wpAny (model X.prog X.w) X.A (call f us) (EP X pins σ Q) X.xe s
def PV (r:R2)(ta tb:TE):TE:=fun σ H Q=>ta σ H fun x H1=>tb σ H1 fun y H2=>r x y H2 Q
def tUn (r:V->Hp->VK->Prop)(ta:TE):TE:=fun σ H Q=>ta σ H fun x H1=>r x H1 Q
inductive rI (C:Int->Int->Prop)(g:Int->Int->V)(x:V)(y:V)(H:Hp)(Q:VK):Prop where
 | mk (i j:_) (_:x=.int i) (_:y=.int j) (_:C i j) (_:Q (g i j) H):rI C g x y H Q
inductive N7 (g:Int->Int->V)(x:V)(y:V)(H:Hp)(Q:VK):Prop where
 | mk (i j:_) (_:x=.int i) (_:y=.int j) (_:Q (g i j) H):N7 g x y H Q
inductive rU (g:Int->V)(x:V)(H:Hp)(Q:VK):Prop where
 | mk (i:_) (_:x=.int i) (_:Q (g i) H):rU g x H Q
section
variable {X:Cx}{a b c:Expr}{ta tb tc:TE}{pos:Pos}
theorem PX (ha:PE X a ta)(hb:PE X b tb){σ:St}{R:V->V->Hp->Prop}(I:Inv X pins σ H s)
  (h:ta σ H fun x H1=>tb σ H1 fun y H2=>R x y H2) {Q:γ} {f:Value->Value->Sem Value}
  (hf:∀v u s2 x y H2,Inv X pins σ H2 s2->RelV x v->RelV y u->R x y H2->wpAny (model X.prog X.w) X.A (f v u) Q X.xe s2):
  wpAny (model X.prog X.w) X.A (eval a X.env) (fun v s₁=>wpAny (model X.prog X.w) X.A (eval b X.env) (fun u s₂=>wpAny (model X.prog X.w) X.A (f v u) Q X.xe s₂) X.xe s₁) X.xe s:=by
 refine cq (ha pins s σ H _ I h) fun v s1 ⟨x,H1,I1,r1,q1⟩=>?_
 refine cq (hb pins s1 σ H1 _ I1 q1) fun u s2 ⟨y,H2,I2,r2,q2⟩=>?_
 exact hf v u s2 x y H2 I2 r1 r2 q2
theorem aT (ho:jx X (binaryOp op) r)(ha:PE X a ta)(hb:PE X b tb):PE X (.BinOp a op b pos) (PV r ta tb):=by
 intro pins s σ H Q I h
 exact wpAny_BinOp (PX ha hb I h fun v u s2 x y H2 I2 rx ry q=>ho pins s2 σ H2 x y v u Q I2 rx ry q)
theorem N8 (ho:UnR X (unaryOp op) r)(ha:PE X a ta):PE X (.UnaryOp op a pos) (tUn r ta):=by
 intro pins s σ H Q I h
 exact UnaryOp_ (cq (ha pins s σ H _ I h) fun v s1 ⟨x,H1,I1,r1,q1⟩=>ho pins s1 σ H1 x v Q I1 r1 q1)
theorem ZM {g:Int->Int->Int}
  (rule:∀(i j:Int) (t u:Tok) (s:Shared) (Q:γ) (E:γ),C i j->Q (.int (g i j) s.toks) {s with toks:=s.toks+1}->wpAny (model X.prog X.w) X.A (f (.int i t) (.int j u)) Q E s):
  jx X f (rI C fun i j=>.int (g i j)):=by
 intro pins s σ H x y v u Q I rx ry h
 obtain ⟨i,j,rfl,rfl,hc,q⟩:=h
 obtain ⟨t,rfl⟩:=rx
 obtain ⟨t',rfl⟩:=ry
 exact rule i j t t' s _ _ hc ⟨.int (g i j),H,I.tok _,⟨_,rfl⟩,q⟩
theorem TH {g:Int->Int->Int}
  (rule:∀(i j:Int) (t u:Tok) (s:Shared) (Q:γ) (E:γ),Q (.int (g i j) s.toks) {s with toks:=s.toks+1}->wpAny (model X.prog X.w) X.A (f (.int i t) (.int j u)) Q E s):
  jx X f (N7 fun i j=>.int (g i j)):=by
 intro pins s σ H x y v u Q I rx ry h
 obtain ⟨i,j,rfl,rfl,q⟩:=h
 obtain ⟨t,rfl⟩:=rx
 obtain ⟨t',rfl⟩:=ry
 exact rule i j t t' s _ _ ⟨.int (g i j),H,I.tok _,⟨_,rfl⟩,q⟩
theorem PY {g:Int->Int->Bool}
  (rule:∀(i j:Int) (t u:Tok) (s:Shared) (Q:γ) (E:γ),Q (.bool (g i j)) s->wpAny (model X.prog X.w) X.A (f (.int i t) (.int j u)) Q E s):
  jx X f (N7 fun i j=>.bl (g i j)):=by
 intro pins s σ H x y v u Q I rx ry h
 obtain ⟨i,j,rfl,rfl,q⟩:=h
 obtain ⟨t,rfl⟩:=rx
 obtain ⟨t',rfl⟩:=ry
 exact rule i j t t' s _ _ ⟨.bl (g i j),H,I,rfl,q⟩
theorem cG:jx X (binaryOp .Add) (N7 fun i j=>.int (i+j)):=TH fun _ _ _ _ _ _ _ q=>add_int q
theorem eM:jx X (binaryOp .Sub) (N7 fun i j=>.int (i - j)):=TH fun _ _ _ _ _ _ _ q=>sub_int q
theorem LV:jx X (binaryOp .Mod) (rI (fun _ j=>j≠0) fun i j=>.int (i.fmod j)):=ZM fun _ _ _ _ _ _ _ hc q=>mod_int' hc q
theorem unI {g:Int->Int}
  (rule:∀(i:Int) (t:Tok) (s:Shared) (Q:γ) (E:γ),Q (.int (g i) s.toks) {s with toks:=s.toks+1}->wpAny (model X.prog X.w) X.A (f (.int i t)) Q E s):
  UnR X f (rU fun i=>.int (g i)):=by
 intro pins s σ H x v Q I rx h
 obtain ⟨i,rfl,q⟩:=h
 obtain ⟨t,rfl⟩:=rx
 exact rule i t s _ _ ⟨.int (g i),H,I.tok _,⟨_,rfl⟩,q⟩
theorem HJ:UnR X (unaryOp .USub) (rU fun i=>.int (-i)):=unI fun _ _ _ _ _ q=>neg_int q
end
def TJ:V->V->Bool
 | .cw,.cw=>true | .cw,.int _=>true | .int _,.cw=>true | .cw,.bl _=>true | .bl _,.cw=>true | .cw,.str _=>true | .str _,.cw=>true
 | .int _,.int _=>true | .bl _,.bl _=>true | .str _,.str _=>true | .byt _,.byt _=>true
 | .int _,.str _=>true | .str _,.int _=>true | .bl _,.str _=>true | .str _,.bl _=>true
 | _,_=>false
def rEq:R2:=fun x y H Q=>TJ x y=true/\Q (.bl (decide (x=y))) H
def rNe:R2:=fun x y H Q=>TJ x y=true/\Q (.bl (!decide (x=y))) H
theorem y4 :decide (V.int i=V.int j)=(i==j):=by
 rw [abr]
 simp
theorem HK :decide (V.bl i=V.bl j)=(i==j):=by
 rw [abr]
 simp
theorem y6 :decide (V.str i=V.str j)=(i==j):=by
 rw [abr]
 simp
theorem y8 :decide (V.byt i=V.byt j)=(i.toList==j.toList):=by
 rw [abr]
 cases i
 cases j
 simp
section
variable {X:Cx}{a b c:Expr}{ta tb tc:TE}{pos:Pos}
theorem bK {σ:St}(I:Inv X pins σ H s)(q:Q (.bl k) H)(e:k=k'):EP X pins σ Q (.bool k') s:=by
 subst e
 exact ⟨.bl k,H,I,rfl,q⟩
theorem eK:jx X (compareOp .Eq) rEq:=by
 intro pins s σ H x y v u Q I rx ry h
 obtain ⟨hs,q⟩:=h
 cases x with
 | cw=>
  cases rx
  cases y with
  | cw=>cases ry;exact PySem.EqNone.eq_none_none (bK I q (by simp))
  | bl j=>cases ry;exact PySem.EqNone.eq_none_bool (bK I q (by simp))
  | int j=>obtain ⟨t',rfl⟩:=ry;exact PySem.EqNone.eq_none_int (bK I q (by simp))
  | str j=>obtain ⟨t',rfl⟩:=ry;exact PySem.EqNone.eq_none_str (bK I q (by simp))
  | _=>exact absurd (show false=true from hs) aam
 | bl i=>
  cases rx
  cases y with
  | cw=>cases ry;exact PySem.EqNone.eq_bool_none (bK I q (by simp))
  | bl j=>cases ry;exact eq_bool (bK I q HK)
  | str j=>obtain ⟨t',rfl⟩:=ry;exact PySem.EqMixed.eq_bool_str (bK I q (by simp))
  | _=>exact absurd (show false=true from hs) aam
 | int i=>
  obtain ⟨t,rfl⟩:=rx
  cases y with
  | cw=>cases ry;exact PySem.EqNone.eq_int_none (bK I q (by simp))
  | int j=>obtain ⟨t',rfl⟩:=ry;exact eq_int (bK I q y4)
  | str j=>obtain ⟨t',rfl⟩:=ry;exact PySem.EqMixed.eq_int_str (bK I q (by simp))
  | _=>exact absurd (show false=true from hs) aam
 | str i=>
  obtain ⟨t,rfl⟩:=rx
  cases y with
  | cw=>cases ry;exact PySem.EqNone.eq_str_none (bK I q (by simp))
  | bl j=>cases ry;exact PySem.EqMixed.eq_str_bool (bK I q (by simp))
  | int j=>obtain ⟨t',rfl⟩:=ry;exact PySem.EqMixed.eq_str_int (bK I q (by simp))
  | str j=>obtain ⟨t',rfl⟩:=ry;exact eq_str (bK I q y6)
  | _=>exact absurd (show false=true from hs) aam
 | byt i=>
  obtain ⟨t,rfl⟩:=rx
  cases y with
  | byt j=>obtain ⟨t',rfl⟩:=ry;exact PySem.W.eq_bytes (bK I q y8)
  | _=>exact absurd (show false=true from hs) aam
 | _=>cases y <;> exact absurd (show false=true from hs) aam
theorem i9:jx X (compareOp .NotEq) rNe:=by
 intro pins s σ H x y v u Q I rx ry h
 obtain ⟨hs,q⟩:=h
 cases x with
 | cw=>
  cases rx
  cases y with
  | cw=>cases ry;exact PySem.EqNone.ne_none_none (bK I q (by simp))
  | bl j=>cases ry;exact PySem.EqNone.ne_none_bool (bK I q (by simp))
  | int j=>obtain ⟨t',rfl⟩:=ry;exact PySem.EqNone.ne_none_int (bK I q (by simp))
  | str j=>obtain ⟨t',rfl⟩:=ry;exact PySem.EqNone.ne_none_str (bK I q (by simp))
  | _=>exact absurd (show false=true from hs) aam
 | bl i=>
  cases rx
  cases y with
  | cw=>cases ry;exact PySem.EqNone.ne_bool_none (bK I q (by simp))
  | bl j=>cases ry;exact ne_bool (bK I q (congrArg not HK))
  | str j=>obtain ⟨t',rfl⟩:=ry;exact PySem.EqMixed.ne_bool_str (bK I q (by simp))
  | _=>exact absurd (show false=true from hs) aam
 | int i=>
  obtain ⟨t,rfl⟩:=rx
  cases y with
  | cw=>cases ry;exact PySem.EqNone.ne_int_none (bK I q (by simp))
  | int j=>obtain ⟨t',rfl⟩:=ry;exact ne_int (bK I q (congrArg not y4))
  | str j=>obtain ⟨t',rfl⟩:=ry;exact PySem.EqMixed.ne_int_str (bK I q (by simp))
  | _=>exact absurd (show false=true from hs) aam
 | str i=>
  obtain ⟨t,rfl⟩:=rx
  cases y with
  | cw=>cases ry;exact PySem.EqNone.ne_str_none (bK I q (by simp))
  | bl j=>cases ry;exact PySem.EqMixed.ne_str_bool (bK I q (by simp))
  | int j=>obtain ⟨t',rfl⟩:=ry;exact PySem.EqMixed.ne_str_int (bK I q (by simp))
  | str j=>obtain ⟨t',rfl⟩:=ry;exact ne_str (bK I q (congrArg not y6))
  | _=>exact absurd (show false=true from hs) aam
 | byt i=>
  obtain ⟨t,rfl⟩:=rx
  cases y with
  | byt j=>obtain ⟨t',rfl⟩:=ry;exact PySem.W.ne_bytes (bK I q (congrArg not y8))
  | _=>exact absurd (show false=true from hs) aam
 | _=>cases y <;> exact absurd (show false=true from hs) aam
theorem vc:jx X (compareOp .Lt) (N7 fun i j=>.bl (decide (i < j))):=PY fun _ _ _ _ _ _ _ q=>lt_int q
theorem vd:jx X (compareOp .Gt) (N7 fun i j=>.bl (decide (j < i))):=PY fun _ _ _ _ _ _ _ q=>gt_int q
theorem N9:jx X (compareOp .GtE) (N7 fun i j=>.bl (decide (j<=i))):=PY fun _ _ _ _ _ _ _ q=>ge_int q
theorem xt:jx X (compareOp .Is) (fun x y H Q=>y=.cw/\Q (.bl (decide (x=.cw))) H):=by
 intro pins s σ H x y v u Q I rx ry h
 obtain ⟨rfl,q⟩:=h
 cases ry
 refine is_none_gen (bK I q ?_)
 cases x <;> first
  | (cases rx;rfl)
  | (obtain ⟨t,rfl⟩:=rx;rfl)
theorem aZ (b:Expr)(h:op≠.In:=by decide)(h2:op≠.NotIn:=by decide):behindInMarks op b=false:=by
 have e1:(op==CmpOp.In)=false:=by cases op <;> first | rfl | exact absurd rfl h
 have e2:(op==CmpOp.NotIn)=false:=by cases op <;> first | rfl | exact absurd rfl h2
 cases b <;> simp [behindInMarks,e1,e2]
theorem jB (ho:jx X (compareOp op) r)(ha:PE X a ta)(hb:PE X b tb)(hm:behindInMarks op b=false):PE X (.Compare a [op] [b] pos) (PV r ta tb):=by
 intro pins s σ H Q I h
 exact wpAny_Compare1 (PX ha hb I h fun v u s2 x y H2 I2 rx ry q=>ho pins s2 σ H2 x y v u Q I2 rx ry q) hm
inductive HL (Q:(Bool->Hp->Prop))(x:V)(H' :Hp):Prop where
 | mk (k:_) (_:x=.bl k) (_:Q k H'):HL Q x H'
def TK (t:TE):TT:=fun σ H Q=>t σ H fun x H' =>HL Q x H'
theorem aS (ho:jx X (compareOp op) r)(ha:PE X a ta)(hb:PE X b tb)(hm:behindInMarks op b=false):PT X (.Compare a [op] [b] pos) (TK (PV r ta tb)):=by
 intro pins s σ H Q I h
 refine wpAny_isTrue_Compare1 (cq (ha pins s σ H _ I h) fun v s1 ⟨x,H1,I1,r1,q1⟩=>cq (hb pins s1 σ H1 _ I1 q1) fun u s2 ⟨y,H2,I2,r2,q2⟩=>
  cq (ho pins s2 σ H2 x y v u _ I2 r1 r2 q2) fun c s3 ⟨z,H3,I3,r3,k,e,q3⟩=>?_) hm
 subst e
 cases r3
 exact wpAny_truthy_bool ⟨H3,I3,q3⟩
theorem oi:(sizeLine:Nat) < 2^63:=by rw [sizeLine_eq];decide
theorem jk:jx X (binaryOp .Add) (fun x y H Q=>∃i j,x=.str i/\y=.str j/\i.length+j.length<=sizeLine/\Q (.str (i++j)) H):=by
 intro pins s σ H x y v u Q I rx ry h
 obtain ⟨i,j,rfl,rfl,hz,q⟩:=h
 obtain ⟨t,rfl⟩:=rx
 obtain ⟨t',rfl⟩:=ry
 exact add_str (fun t' tk=>⟨.str (i++j),H,I.tok _,⟨_,rfl⟩,q⟩) hz
theorem vals1 {us:π}(r:Vals [x] us):∃u,us=[u]/\RelV x u:=by
 cases r with
 | cons r1 r2=>cases r2;exact ⟨_,rfl,r1⟩
theorem vals2 {us:π}(r:Vals [x,y] us):∃u w',us=[u,w']/\RelV x u/\RelV y w' :=by
 cases r with
 | cons r1 r2=>
  cases r2 with
  | cons r3 r4=>cases r4;exact ⟨_,_,rfl,r1,r3⟩
theorem ve:fe X (.builtin "abs") (fun xs H Q=>∃i,xs=[.int i]/\Q (.int (if i < 0 then -i else i)) H):=by
 intro pins s σ H xs us Q I r h
 obtain ⟨i,rfl,q⟩:=h
 obtain ⟨u,rfl,t,rfl⟩:=vals1 r
 exact call_abs_int fun u tk=>⟨.int (if i < 0 then -i else i),H,I.tok _,⟨_,rfl⟩,q⟩
theorem BL (hc:X.calm=true):fe X (.builtin "min") (fun xs H Q=>∃i j,xs=[.int i,.int j]/\Q (.int (if j < i then j else i)) H):=by
 intro pins s σ H xs us Q I r h
 obtain ⟨i,j,rfl,q⟩:=h
 obtain ⟨u,w',rfl,⟨t,rfl⟩,⟨t',rfl⟩⟩:=vals2 r
 refine min_two_ints (I.ok.hd hc) fun h' tk k=>⟨_,H,I.kept k,?_,q⟩
 by_cases hj:j < i
 ·rw [if_pos hj,if_pos hj];exact ⟨_,rfl⟩
 ·rw [if_neg hj,if_neg hj];exact ⟨_,rfl⟩
theorem rC:fe X (.type "int") (fun xs H Q=>(∃i,xs=[.int i]/\Q (.int i) H)\/∃k,xs=[.bl k]/\Q (.int (if k then 1 else 0)) H):=by
 intro pins s σ H xs us Q I r h
 rcases h with ⟨i,rfl,q⟩ | ⟨k,rfl,q⟩
 ·obtain ⟨u,rfl,t,rfl⟩:=vals1 r
  exact call_int_int ⟨.int i,H,I,⟨_,rfl⟩,q⟩
 ·obtain ⟨u,rfl,r1⟩:=vals1 r
  cases r1
  exact call_int_bool ⟨.int (if k then 1 else 0),H,I.tok _,⟨_,rfl⟩,q⟩
theorem sJ:fe X (.type "str") (fun xs H Q=>∃i,xs=[.int i]/\i.natAbs.log2 < 1920/\Q (.str (toString i)) H):=by
 intro pins s σ H xs us Q I r h
 obtain ⟨i,rfl,hz,q⟩:=h
 obtain ⟨u,rfl,t,rfl⟩:=vals1 r
 exact PySem.P.str_of_int hz ⟨.str _,H,I.tok _,⟨_,rfl⟩,q⟩
end
end L2
namespace L2
open PySem PySem.Spec PyProof.Rows
structure xu (h:Heap)(x dx C:Addr)(mA:ι):Prop where
 obj:h.get? x=some (PySem.W.instObj C dx)
 ns:h.Ns1 dx mA
 ne:dx≠x
theorem BM {h:Heap}{mA:ι}(n:h.Ns1 dx mA):∃od,h.get? dx=some od/\∀name,PySem.W.lookIn name od=some (mA name):=by
 obtain ⟨o,es,ep,ho,hd,hk,_,hm⟩:=n
 refine ⟨o,ho,fun name=>?_⟩
 have e:=hm name
 unfold nsFind findBy at e
 rw [<- Array.find?_toList] at e
 unfold PySem.W.lookIn
 rw [hd]
 dsimp only
 split
 ·rename_i y q
  rw [q] at e
  exact congrArg some e
 ·rename_i q
  rw [q] at e
  have a:es.toList.any (·.refKey)=false:=by
   rw [List.any_eq_false]
   intro y hy
   obtain ⟨z,t,PZ⟩:=hk y (Array.mem_toList_iff.mp hy)
   simp [DictEntry.refKey,PZ]
  have a' :¬ es.toList.any (·.refKey)=true:=by rw [a];exact aam
  rw [if_neg a']
  exact congrArg some e
theorem xu.look (I:xu h x dx C mA):∃od,PySem.W.InstAt h x (PySem.W.instObj C dx) C (some od)/\∀name,PySem.W.lookIn name od=some (mA name):=
 let ⟨od,ho,hl⟩:=BM I.ns
 ⟨od,⟨I.obj,rfl,rfl,ho⟩,hl⟩
section
variable {prog:Program}{w:World}{A:Around}{E:γ}{s:Shared}{K:Frag}{x dx C f:Addr}{mA:ι}{name:Str}{v:Value}
theorem get_map {Q:γ}(X:K.In s.heap)(I:xu s.heap x dx C mA)(hg:PySem.W.plainGet K C name=true)(hh:PySem.W.hasDictIn K C=true)
  (ha:PySem.W.findIn K (.ref C) name=some none) (hv:mA name=some v) (P0 :PySem.W.handedIn v=true) (h:Q v {s with toks:=s.toks+1}):
  wpAny (model prog w) A (getAttr (.ref x) name expr) Q E s:=by
 obtain ⟨od,J,hl⟩:=I.look
 exact PySem.W.get_value X J (PySem.W.plainGet_of hg).1 (PySem.W.findObj_own hh ha rfl (by rw [hl,hv])) P0 h
theorem HM (X:K.In s.heap)(I:xu s.heap x dx C mA)(hg:PySem.W.plainGet K C name=true)
  (hf:PySem.W.findIn K (.ref C) name=some (some (.ref f))) (ht:PySem.W.isFn K (.ref f)=true) (hv:mA name=none) (h:Q (.ref f,[.ref x]) s):
  wpAny (model prog w) A (getMethod (.ref x) name pl) Q E s:=by
 obtain ⟨od,J,hl⟩:=I.look
 exact PySem.W.method_fn X J (PySem.W.plainGet_of hg).1 (PySem.W.plainGet_of hg).2 hf (beq_iff_eq.mp ht) (by show (PySem.W.lookIn name od).map (·.isSome)=some false;rw [hl,hv];rfl) h
theorem LW {ns:ρ}(X:K.In s.heap)(I:xu s.heap x dx C mA)
  (hs:PySem.W.findIn K (.ref C) "__setattr__"=some (some (.builtin "object.__setattr__"))) (hp:PySem.W.plainOver K C=true) (ht:PySem.W.takerIn K C name=some none) (hh:PySem.W.hasDictIn K C=true)
  (hw:PySem.Within mA ns) (hsz:ns.length<=sizeLine)
  (h:∀h',xu h' x dx C (fun y=>if y=name then some v else mA y)->Heap.SameBut dx s.heap h' ->Q () {s with heap:=h',toks:=s.toks+2}):
  wpAny (model prog w) A (setAttr (.ref x) name v) Q E s:=by
 obtain ⟨od,J,hl⟩:=I.look
 refine PySem.W.set_plain X J hs (PySem.W.osa_open (s:={s with toks:=s.toks+1}) (r:=none) X J hp ht fun b=>?_)
 obtain ⟨cd,hc,G'⟩:=PySem.W.any_some hh
 have hx:s.heap.get? x=some ⟨.ref C,some dx,.plain, #[]⟩:=I.obj
 refine wpAny_bind (wpAny_pure (wpAny_bind (wpAny_bind (wpAny_loadPart hx (wpAny_bind (PySem.W.Looks.here (s:={s with toks:=s.toks+1}) (PySem.W.looks_clsIn X hc) ?_))))))
 rw [G']
 refine wpAny_pure (a:=some dx) (wpAny_bind (wpAny_pure (wpAny_bind ?_)))
 refine wpAny_nsSet1 (s:={s with toks:=s.toks+1}) I.ns fun h' K4 K5=>?_
 obtain ⟨oD,esD,epD,hoD,hdD,hcD⟩:=K4.count (PySem.Within.cons name v hw)
 refine wpAny_bind (wpAny_lookBehind hoD (by rw [hdD];exact pastItsLine_dict (aaf hcD (by rw [abf];omega))) ?_)
 exact wpAny_pure (h _ ⟨(K5.2 _ (aba I.ne)).trans I.obj,K4,I.ne⟩ K5)
theorem HN {R:Τ}{vs:π}{kw:Ω}(X:K.In s.heap)(hm:PySem.W.makesIn K C=true)
  (hi:PySem.W.findIn K (.ref C) "__init__"=some (some (.ref f))) (hf:PySem.W.typeIn K (.ref f)=some (.type "function"))
  (h:codeAny (model prog w) (A.under (.builtin "type.__call__" ⟨.ref C::vs,kw⟩)) (.call (.ref f) ⟨.ref (s.heap.objs.size+1)::vs,kw⟩) (PySem.W.InitBack (s.heap.objs.size+1) R)
   {s with heap:=(s.heap.push PySem.W.emptyDict).push (PySem.W.instObj C s.heap.objs.size)}):
  codeAny (model prog w) A (.call (.ref C) ⟨vs,kw⟩) R s:=by
 obtain ⟨hh,g,d,t,os⟩:=s
 exact PySem.W.make_core (PySem.W.makes_of X hm) (PySem.W.looks_findIn X hi) (fun self=>PySem.W.bind_fn X self hf) (.inl rfl) h
theorem BN {R:Τ}(X:K.In s.heap)(hm:PySem.W.makesIn K C=true)
  (hi:PySem.W.findIn K (.ref C) "__init__"=some (some (.builtin "object.__init__")))
  (hb:∀self,PySem.W.Looks (model prog w) s.heap (bindSpecial (.builtin "object.__init__") self) (.builtin "object.__init__",[self]))
  (h:codeAny (model prog w) (A.under (.builtin "type.__call__" ⟨[.ref C],[]⟩)) (.call (.builtin "object.__init__") ⟨[.ref (s.heap.objs.size+1)],[]⟩) (PySem.W.InitBack (s.heap.objs.size+1) R)
   {s with heap:=(s.heap.push PySem.W.emptyDict).push (PySem.W.instObj C s.heap.objs.size)}):
  codeAny (model prog w) A (.call (.ref C) ⟨[],[]⟩) R s:=by
 obtain ⟨hh,g,d,t,os⟩:=s
 exact PySem.W.make_core (PySem.W.makes_of X hm) (PySem.W.looks_findIn X hi) hb (.inr ⟨rfl,rfl⟩) h
end
def d6 (f:Str)(v:V):List (Str×V)->List (Str×V)
 | []=>[(f,v)]
 | (g,x)::r=>if g=f then (g,v)::r else (g,x)::d6 f v r
theorem l0 (f g:Str)(v:V):∀fs:List (Str×V),(d6 f v fs).lookup g=if g=f then some v else fs.lookup g
 | []=>by
  show ab' g [(f,v)]=_
  by_cases h:g=f
  ·have hb:(g==f)=true:=beq_iff_eq.mpr h
   simp only [ab',hb,if_pos h]
  ·have hb:(g==f)=false:=beq_eq_false_iff_ne.mpr h
   simp only [ab',hb,if_neg h]
 | (k,x)::r=>by
  have ih:=l0 f g v r
  rw [show d6 f v ((k,x)::r)=(if k=f then (k,v)::r else (k,x)::d6 f v r) from rfl]
  by_cases hk:k=f
  ·rw [if_pos hk]
   by_cases h:g=k
   ·have hb:(g==k)=true:=beq_iff_eq.mpr h
    simp only [ab',hb,if_pos (h.trans hk)]
   ·have hb:(g==k)=false:=beq_eq_false_iff_ne.mpr h
    simp only [ab',hb,if_neg (fun e:g=f=>h (e.trans hk.symm))]
  ·rw [if_neg hk]
   by_cases h:g=k
   ·have hb:(g==k)=true:=beq_iff_eq.mpr h
    simp only [ab',hb,if_neg (fun e:g=f=>hk (h.symm.trans e))]
   ·have hb:(g==k)=false:=beq_eq_false_iff_ne.mpr h
    simp only [ab',hb]
    exact ih
theorem kC (f:Str)(v:V):∀fs:List (Str×V),f∈(d6 f v fs).map (·.1)/\∀g,g∈fs.map (·.1)->g∈(d6 f v fs).map (·.1)
 | []=>⟨by simp [d6],fun g h=>by simp at h⟩
 | (k,x)::r=>by
  obtain ⟨i1,i2⟩:=kC f v r
  rw [show d6 f v ((k,x)::r)=(if k=f then (k,v)::r else (k,x)::d6 f v r) from rfl]
  by_cases hk:k=f
  ·rw [if_pos hk]
   subst hk
   exact ⟨by simp,fun g h=>by simpa using h⟩
  ·rw [if_neg hk]
   refine ⟨?_,fun g h=>?_⟩
   ·rw [aah]
    exact aae _ i1
   ·rw [aah] at h ⊢
    rcases aaQ.mp h with e | e
    ·exact aaQ.mpr (.inl e)
    ·exact aae _ (i2 g e)
theorem l_ (f:Str)(v:V):∀fs:List (Str×V),(d6 f v fs).length<=fs.length+1
 | []=>by simp [d6]
 | (k,x)::r=>by
  have ih:=l_ f v r
  rw [show d6 f v ((k,x)::r)=(if k=f then (k,v)::r else (k,x)::d6 f v r) from rfl]
  by_cases hk:k=f
  ·rw [if_pos hk,abf,abf];omega
  ·rw [if_neg hk,abf,abf];omega
theorem gL.some_of (r:gL (some v) o):∃u,o=some u/\RelV v u:=by
 cases o with
 | none=>exact (show False from r).elim
 | some u=>exact ⟨u,rfl,r⟩
theorem gL.none_of (r:gL none o):o=none:=by
 cases o with
 | none=>rfl
 | some u=>exact (show False from r).elim
theorem BO (r:RelV v u):PySem.W.handedIn u=true:=by
 cases v with
 | cw=>cases (show u=Value.none from r);rfl
 | bl b=>cases (show u=Value.bool b from r);rfl
 | int i=>obtain ⟨t,e⟩:=(show ∃t,u=Value.int i t from r);cases e;rfl
 | str x=>obtain ⟨t,e⟩:=(show ∃t,u=Value.str x t from r);cases e;rfl
 | byt b=>obtain ⟨t,e⟩:=(show ∃t,u=Value.bytes b t from r);cases e;rfl
 | Pq b=>obtain ⟨t,e⟩:=(show ∃t,u=Value.float b t from r);cases e;rfl
 | ref a=>cases (show u=Value.ref a from r);rfl
 | ty n=>cases (show u=Value.type n from r);rfl
section
variable {P:Program}{w:World}{H H' :Hp}{h h' :Heap}{a C dx:Addr}{fs fs' :List (Str×V)}
theorem m6 (bH:iZ P w H h)(e:H a=some (.ins C dx fs)):∃mA,xu h a dx C mA/\(∀f,gL (fs.lookup f) (mA f))/\PySem.Within mA (fs.map (·.1))/\fs.length<=1000/\H dx=some (.own a):=by
 obtain ⟨d,z,ne,ob,mA,n,r,q⟩:=(show cg P w H h a (.ins C dx fs) from bH a _ e)
 exact ⟨mA,⟨ob,n,ne⟩,r,q,z,d⟩
end
structure vf (K:Frag)(C:Addr):Prop where
 pg:PySem.W.plainGet K C Str.empty=true
 hd:PySem.W.hasDictIn K C=true
 po:PySem.W.plainOver K C=true
 sa:PySem.W.findIn K (.ref C) "__setattr__"=some (some (.builtin "object.__setattr__"))
theorem vf.get {K:Frag}(c:vf K C)(f:Str):PySem.W.plainGet K C f=true:=c.pg
def fK (K:Frag)(C:Addr)(f:Str):Prop:=PySem.W.findIn K (.ref C) f=some none
theorem fK.TL {K:Frag}(n:fK K C f):PySem.W.takerIn K C f=some none:=by
 unfold PySem.W.takerIn
 rw [show PySem.W.findIn K (.ref C) f=some none from n]
 rfl
structure Meth (K:Frag)(C:Addr)(m:Str)(f:Addr):Prop where
 at_:PySem.W.findIn K (.ref C) m=some (some (.ref f))
 fn:PySem.W.isFn K (.ref f)=true
 kp:keepIn K (.ref f)=true
section
variable {X:Cx}{pins:ε}{σ:St}{H:Hp}{s:Shared}{a C dx:Addr}{fs:List (Str×V)}{f:Str}{v:V}{A:Around}{E:γ}
theorem xw {Q:γ}(I:Inv X pins σ H s)(e:H a=some (.ins C dx fs))(c:vf X.K C)(n:fK X.K C f)(l:fs.lookup f=some v)
  (h:∀u s',Inv X pins σ H s' ->RelV v u->Q u s'):wpAny (model X.prog X.w) A (getAttr (.ref a) f b) Q E s:=by
 obtain ⟨mA,O,r,_,_,_⟩:=m6 I.bH e
 obtain ⟨u,hu,ru⟩:=gL.some_of (v:=v) (o:=mA f) (by rw [<- l];exact r f)
 exact get_map I.ji O (c.get f) c.hd n hu (BO ru) (h u _ (I.tok _) ru)
theorem jm (I:Inv X pins σ H s)(e:H a=some (.ins C dx fs))(c:vf X.K C)(k:Meth X.K C m g)(l:fs.lookup m=none)
  (h:Q (.ref g,[.ref a]) s):wpAny (model X.prog X.w) A (getMethod (.ref a) m pl) Q E s:=by
 obtain ⟨mA,O,r,_,_,_⟩:=m6 I.bH e
 have hn:mA m=none:=gL.none_of (by rw [<- l];exact r m)
 exact HM I.ji O (c.get m) k.at_ k.fn hn h
theorem xx (I:Inv X pins σ H s)(e:H a=some (.ins C dx fs))(c:vf X.K C)(n:fK X.K C f)(hl:fs.length < 1000)(ry:RelV y u)
  (h:∀s',Inv X pins σ (upd H a (.ins C dx (d6 f y fs))) s' ->Q () s'):wpAny (model X.prog X.w) A (setAttr (.ref a) f u) Q E s:=by
 obtain ⟨mA,O,r,wi,_,ho⟩:=m6 I.bH e
 have hz:(fs.map (·.1)).length<=sizeLine:=by rw [aaa,sizeLine_eq];omega
 refine LW I.ji O c.sa c.po n.TL c.hd wi hz fun h' O' sb=>h _ ?_
 have hd:∃o,h'.get? dx=some o:=let ⟨o,_,_,e',_⟩:=O'.ns;⟨o,e'⟩
 refine I.write (x:=a) (e:=dx) (by rw [e];exact True.intro) (.inr ho) (fun b q hb z=>(sb.2 b hb).trans z) hd ?_
 refine ⟨by rw [ao O.ne];exact ho,?_,O.ne,O'.obj,_,O'.ns,fun g=>?_,fun g hg=>?_⟩
 ·have:=l_ f y fs;omega
 ·show gL ((d6 f y fs).lookup g) (if g=f then some u else mA g)
  rw [l0]
  by_cases q:g=f
  ·rw [if_pos q,if_pos q];exact ry
  ·rw [if_neg q,if_neg q];exact r g
 ·by_cases q:g=f
  ·rw [q];exact (kC f y fs).1
  ·refine (kC f y fs).2 g (wi g fun z=>hg ?_)
   show (if g=f then some u else mA g)=none
   rw [if_neg q];exact z
theorem Inv.made (I:Inv X pins σ H s):Inv X pins σ (upd (upd H s.heap.objs.size (.own (s.heap.objs.size+1))) (s.heap.objs.size+1) (.ins C s.heap.objs.size []))
  {s with heap:=(s.heap.push PySem.W.emptyDict).push (PySem.W.instObj C s.heap.objs.size)}:=by
 have e1:(s.heap.push PySem.W.emptyDict).get? s.heap.objs.size=some PySem.W.emptyDict:=Heap.get?_push_size s.heap rfl
 have e2:((s.heap.push PySem.W.emptyDict).push (PySem.W.instObj C s.heap.objs.size)).get? (s.heap.objs.size+1)=some (PySem.W.instObj C s.heap.objs.size):=by
  have:=Heap.get?_push_size (s.heap.push PySem.W.emptyDict) (o:=PySem.W.instObj C s.heap.objs.size) rfl
  rwa [Heap.size_push] at this
 have e3:(s.heap.push PySem.W.emptyDict).Ns s.heap.objs.size (fun _=>none):=⟨PySem.W.emptyDict, #[],_,e1,rfl,(fun e he=>absurd he (by simp)),fun _=>rfl⟩
 have I1:=I.laid (a:=s.heap.objs.size) (o:=.own (s.heap.objs.size+1)) (h' :=s.heap.push PySem.W.emptyDict) (t' :=s.toks) (fun b u q=>Heap.get?_push_of_some _ q) (aac _) ⟨_,e1⟩
 refine I1.laid (a:=s.heap.objs.size+1) (o:=.ins C s.heap.objs.size []) (t' :=s.toks) (fun b u q=>Heap.get?_push_of_some _ q) (ait (Heap.size_push _ _)) ?_
 have ne:s.heap.objs.size≠s.heap.objs.size+1:=aa_ (abu _)
 refine ⟨by rw [ao ne,ah],abc _,ne,e2,fun _=>none,(Heap.Ns1.of_empty e3).at fun o q=>Heap.get?_push_of_some _ q,fun _=>True.intro,fun y hy=>absurd rfl hy⟩
theorem LX {Q:γ}(hb:attributeBase e f env (eval e env)=eval e env)
  (h:wpAny (model prog w) A (eval e env) (fun o s₁=>wpAny (model prog w) A (getAttr o f true) Q E s₁) E s):wpAny (model prog w) A (eval (.Attribute e f pos) env) Q E s:=
 Attribute_any_ h (by rw [arm_eval_Attribute,hb])
end
inductive N_ (K:Frag)(f:Str)(Q:VK)(x:V)(H1:Hp):Prop where
 | mk (a C dx fs v:_) (_:x=.ref a) (_:H1 a=some (.ins C dx fs)) (_:vf K C) (_:fK K C f) (_:fs.lookup f=some v) (_:Q v H1):N_ K f Q x H1
def aaK (K:Frag)(ta:TE)(f:Str):TE:=fun σ H Q=>ta σ H fun x H1=>N_ K f Q x H1
inductive N' (K:Frag)(f:Str)(D:Ends)(σ:St)(y:V)(x:V)(H2:Hp):Prop where
 | mk (a C dx fs:_) (_:x=.ref a) (_:H2 a=some (.ins C dx fs)) (_:vf K C) (_:fK K C f) (_:fs.length < 1000) (_:D.nx σ (upd H2 a (.ins C dx (d6 f y fs)))):N' K f D σ y x H2
def aaL (K:Frag)(ta tv:TE)(f:Str):TS:=fun D σ H=>tv σ H fun y H1=>ta σ H1 fun x H2=>N' K f D σ y x H2
section
variable {X:Cx}{o e value:Expr}{f:Str}{pos pos' sL:Pos}{ta tv:TE}
theorem cB (he:PE X e ta)(hb:attributeBase e f X.env (eval e X.env)=eval e X.env):PE X (.Attribute e f pos) (aaK X.K ta f):=by
 intro pins s σ H Q I h
 refine LX hb (cq (he pins s σ H _ I h) fun u s1 ⟨x,H1,I1,rx,a,C,dx,fs,v,ex,ea,c,n,l,q⟩=>?_)
 subst ex
 obtain rfl:u=Value.ref a:=rx
 exact xw I1 ea c n l fun u' s2 I2 ru=>⟨v,H1,I2,ru,q⟩
theorem sM (ha:PE X o ta)(hv:PE X value tv)(hs:swapsWith value (some (.Attribute o f pos')) pos.line X.env=pure false):PS X (.Assign [.Attribute o f pos'] value pos) (aaL X.K ta tv f):=by
 intro pins s σ H D I h
 refine plainObj_wpAny_Assign_Attribute (cq (hv pins s σ H _ I h) fun u s1 ⟨y,H1,I1,ry,q⟩=>cq (ha pins s1 σ H1 _ I1 q) fun ov s2 ⟨x,H2,I2,rx,a,C,dx,fs,ex,ea,c,n,l,q2⟩=>?_) hs
 subst ex
 obtain rfl:ov=Value.ref a:=rx
 exact xx I2 ea c n l ry fun s3 I3=>⟨σ,_,I3,q2⟩
end
section
variable {X:Cx}{pins:ε}{σ:St}{H:Hp}{s:Shared}{A:Around}{E:γ}{Q:γ}{c:Value}{b:Bool}
inductive kD (K:Frag)(H:Hp):V->Value->Prop where
 | cw:kD K H .cw (.type "NoneType")
 | bl (x:Bool):kD K H (.bl x) (.type "bool")
 | int (i:Int):kD K H (.int i) (.type "int")
 | str (x:Str):kD K H (.str x) (.type "str")
 | Pq (x:UInt64):kD K H (.Pq x) (.type "float")
 | lst {a:Addr} {xs:η} (e:H a=some (.lst xs)):kD K H (.ref a) (.type "list")
 | cV {a:Addr} {o:Obj} {xs:η} (e:H a=some (.cV o (.lst xs))):kD K H (.ref a) (.type "list")
 | tup {a:Addr} {xs:η} (e:H a=some (.tup xs)):kD K H (.ref a) (.type "tuple")
 | dK {a:Addr} {kvs:δ} (e:H a=some (.dK kvs)):kD K H (.ref a) (.type "dict")
 | dT {a:Addr} {kvs:ν} (e:H a=some (.dT kvs)):kD K H (.ref a) (.type "dict")
 | ins {a C dx:Addr} {fs:List (Str×V)} (e:H a=some (.ins C dx fs)) (cl:vf K C) (ha:PySem.W.findIn K (.ref C) "__class__"=some (some (.builtin "object.__class__")))
   (hn:PySem.W.specialIn K (.builtin "object.__class__") "__get__"=some (some (.builtin "getset_descriptor.__get__"))) (htk:PySem.W.takesIn K (.builtin "object.__class__")=some true)
   (hm:PySem.W.mroIn K C (.type "object")=some true):kD K H (.ref a) (.ref C)
theorem BP (I:Inv X pins σ H s)(rx:RelV x u)(ty:kD X.K H x t)(e:PySem.W.kitOne X.K t c=some b)(h:∀tk,Q (.bool b) {s with toks:=tk}):
  wpAny (model X.prog X.w) A (call (.builtin "isinstance") [u,c]) Q E s:=by
 cases ty with
 | cw=>cases (show u=Value.none from rx);exact PySem.W.kia_one PySem.W.kitx_none I.ji True.intro e (fun z=>nomatch z) h
 | bl y=>cases (show u=Value.bool y from rx);exact PySem.W.kia_one PySem.W.kitx_bool I.ji True.intro e (fun z=>nomatch z) h
 | int i=>obtain ⟨t,q⟩:=(show ∃t,u=Value.int i t from rx);cases q;exact PySem.W.kia_one PySem.W.kitx_int I.ji True.intro e (fun z=>nomatch z) h
 | str y=>obtain ⟨t,q⟩:=(show ∃t,u=Value.str y t from rx);cases q;exact PySem.W.kia_one PySem.W.kitx_str I.ji True.intro e (fun z=>nomatch z) h
 | Pq y=>obtain ⟨t,q⟩:=(show ∃t,u=Value.float y t from rx);cases q;exact PySem.W.kia_one PySem.W.kitx_float I.ji True.intro e (fun z=>nomatch z) h
 | @lst a xs ea=>
  cases (show u=Value.ref a from rx)
  obtain ⟨_,_,n,_,h1⟩:=(show cg X.prog X.w H s.heap a (.lst xs) from I.bH a _ ea)
  exact PySem.W.kia_one PySem.W.kitx_list I.ji ⟨_,h1,rfl⟩ e (fun z=>nomatch z) h
 | @cV a ob xs ea=>
  cases (show u=Value.ref a from rx)
  obtain ⟨_,_,_,n,_,h1⟩:=(show cg X.prog X.w H s.heap a (.cV ob (.lst xs)) from I.bH a _ ea)
  exact PySem.W.kia_one PySem.W.kitx_list I.ji ⟨_,h1,rfl⟩ e (fun z=>nomatch z) h
 | @tup a xs ea=>
  cases (show u=Value.ref a from rx)
  obtain ⟨_,_,_,p⟩:=(show cg X.prog X.w H s.heap a (.tup xs) from I.bH a _ ea)
  obtain ⟨o,h1,h2,_⟩:=p
  exact PySem.W.kia_one PySem.W.kitx_tuple I.ji ⟨o,h1,h2⟩ e (fun z=>nomatch z) h
 | @dK a kvs ea=>
  cases (show u=Value.ref a from rx)
  obtain ⟨_,_,vs,_,p⟩:=(show cg X.prog X.w H s.heap a (.dK kvs) from I.bH a _ ea)
  obtain ⟨o,es,ep,h1,h2,_⟩:=p
  exact PySem.W.kia_one PySem.W.kitx_dict I.ji ⟨o,h1,h2.1⟩ e (fun z=>nomatch z) h
 | @dT a kvs ea=>
  cases (show u=Value.ref a from rx)
  obtain ⟨_,_,xs,_,o,es,ep,h1,h2,_⟩:=(show cg X.prog X.w H s.heap a (.dT kvs) from I.bH a _ ea)
  exact PySem.W.kia_one PySem.W.kitx_dict I.ji ⟨o,h1,h2.1⟩ e (fun z=>nomatch z) h
 | @ins a C dx fs ea cl ha hn htk hm=>
  cases (show u=Value.ref a from rx)
  obtain ⟨mA,O,_⟩:=m6 I.bH ea
  obtain ⟨od,J,_⟩:=O.look
  exact PySem.W.kia_one (PySem.W.kitx_own (cl.get _) cl.hd ha hn htk hm) I.ji J e (fun z=>nomatch z) h
end
end L2
namespace L2
open PySem PySem.Spec PyProof.Rows
structure cC (k:Nat)(A:Around):Prop where
 hd:A.handled=none
 dp:A.depth+3*k+5 < recursionLimit
 un:A.units+16*k+200 < cLine
theorem cC.mono (r:cC k A)(h:j<=k):cC j A:=⟨r.hd,by have:=r.dp;omega,by have:=r.un;omega⟩
theorem cC.deeper (r:cC (k+1) A)(env:Env):cC k (A.deeper env):=
 ⟨r.hd,by have:=r.dp;show A.depth+1+3*k+5 < _;omega,by have:=r.un;show A.units+3+16*k+200 < _;omega⟩
theorem xy {A:Around}{us:π}{kw:Ω}:(A.under (.builtin "type.__call__" ⟨.ref C::us,kw⟩)).depth=A.depth+1:=by
 first | rfl | simp [Around.under,Code.weight,Code.isCreation,Code.isGuard,Code.isCaller,Code.frames,Code.isFrame,guardIds]
theorem xA {A:Around}{us:π}{kw:Ω}:(A.under (.builtin "type.__call__" ⟨.ref C::us,kw⟩)).units=A.units+1:=by
 first | rfl | simp [Around.under,Code.cUnits,Code.frames,Code.isFrame]
theorem cC.make (r:cC (k+1) A)(C:Addr)(us:π)(kw:Ω):cC k (A.under (.builtin "type.__call__" ⟨.ref C::us,kw⟩)):=
 ⟨r.hd,by have:=r.dp;rw [xy];omega,by have:=r.un;rw [xA];omega⟩
theorem cC.depth (r:cC k A):A.depth < recursionLimit:=by have:=r.dp;omega
theorem cC.units (r:cC k A):A.units+64 < cLine:=by have:=r.un;omega
def fV:TA:=fun _ H Q=>Q [] H
def Oa (ta:TE)(tr:TA):TA:=fun σ H Q=>ta σ H fun x H1=>tr σ H1 fun xs H2=>Q (x::xs) H2
section
variable {X:Cx}{e:Expr}{es:Α}{te:TE}{t:TA}{pos:Pos}
theorem aa:PA X [] fV:=fun _ _ _ _ H Q I h=>Calls.spliced_nil ⟨[],H,I,.nil,h⟩
theorem LY (ha:PE X e te)(hr:PA X es t)(hs:starEach (e::es) X.env=(false,eval e X.env)::starEach es X.env:=by rfl):PA X (e::es) (Oa te t):=by
 intro pos pins s σ H Q I h
 rw [hs]
 show wpAny _ _ (spliced ((false,eval e X.env)::backTo pos (starEach es X.env))) _ _ s
 refine Calls.spliced_cons (cq (ha pins s σ H _ I h) fun u s1 ⟨x,H1,I1,r1,q1⟩=>?_)
 exact cq (hr pos pins s1 σ H1 _ I1 q1) fun us s2 ⟨xs,H2,I2,r2,q2⟩=>⟨x::xs,H2,I2,.cons r1 r2,q2⟩
def aaM (t:TA):TE:=fun σ H Q=>t σ H fun xs H1=>xs.length<=sizeLine/\∀p,H1 p=none->Q (.ref p) (upd H1 p (.tup xs))
def aaN (t:TA):TE:=fun σ H Q=>t σ H fun xs H1=>xs.length<=sizeLine/\∀p,H1 p=none->Q (.ref p) (upd H1 p (.lst xs))
theorem aV (h:PA X es t):PE X (.Tuple es x1 pos) (aaM t):=by
 intro pins s σ H Q I hq
 refine wpAny_Tuple_spliced (cq (h pos pins s σ H _ I hq) fun us s1 ⟨xs,H1,I1,r,z,q⟩=>⟨by rw [<- r.length];exact z,?_⟩)
 have hf:H1 s1.heap.objs.size=none:=I1.bH.fresh (aac _)
 refine ⟨.ref s1.heap.objs.size,upd H1 s1.heap.objs.size (.tup xs),I1.laid (t' :=s1.toks) (fun b u e=>Heap.get?_push_of_some _ e) (aac _) ?_,rfl,q _ hf⟩
 exact ⟨z,us,r,⟨_,Heap.get?_push_size _ rfl,rfl,_,rfl⟩⟩
theorem cN (h:PA X es t):PE X (.List es pos) (aaN t):=by
 intro pins s σ H Q I hq
 refine wpAny_List_spliced (cq (h pos pins s σ H _ I hq) fun us s1 ⟨xs,H1,I1,r,z,q⟩=>⟨by rw [<- r.length];exact z,?_⟩)
 have hf:H1 s1.heap.objs.size=none:=I1.bH.fresh (aac _)
 refine ⟨.ref s1.heap.objs.size,upd H1 s1.heap.objs.size (.lst xs),I1.laid (t' :=s1.toks) (fun b u e=>Heap.get?_push_of_some _ e) (aac _) ?_,rfl,q _ hf⟩
 exact ⟨z,us,0,r,Heap.get?_push_size _ rfl⟩
end
abbrev Sp:=List V->Hp->VK->XK->Prop
abbrev ku:=List Env->Hp->Shared->XK->Value->Shared->Prop
structure xB (P:Program)(w:World)(K:Frag)(mg:ι)(base:Heap)(A:Around)(outer:List Env)(s:Shared)(H:Hp):Prop where
 frames:A.frames=some outer
 mod:Mod K mg base
 bs:∀b o,base.get? b=some o->s.heap.get? b=some o/\H b=none
 LN:base.objs.size<=s.heap.objs.size
 mH:s.heap.FunFrames base outer
 Py:∀b∈yU outer,H b=none
 bH:iZ P w H s.heap
 bare:AllBare s.gens
def CE (outer:List Env)(P:Program)(w:World)(H:Hp)(s:Shared)(Q:VK)(u:Value)(s' :Shared):Prop:=
 ∃v H',s'.os=s.os/\AllBare s'.gens/\Un (yU outer) [] H H' s.heap s'.heap/\iZ P w H' s'.heap/\RelV v u/\Q v H'
def CR (CX:ku)(outer:List Env)(P:Program)(w:World)(H:Hp)(s:Shared)(Q:VK)(E:XK)(r:Result)(s' :Shared):Prop:=
 match r with
 | .ok (.ret u)=>CE outer P w H s Q u s'
 | .ok _=>False
 | .error e=>CX outer H s E e s'
structure cJ (P:Program)(w:World)(K:Frag)(mg:ι)(base:Heap)(CX:ku)(k:Nat)(f:Addr)(fd:FuncData)(ps:ρ)(sp:Sp):Prop where
 len:∀vs H Q E,sp vs H Q E->vs.length=ps.length
 run:∀(A:Around) (outer:List Env) (s:Shared) (H:Hp) (args:Args) (us:π) (vs:η) (Q:VK) (E:XK),cC k A->xB P w K mg base A outer s H->BindsTo s fd args (ps.zip us)->Vals vs us->sp vs H Q E->
  codeAny (model P w) A (.call (.ref f) args) (CR CX outer P w H s Q E) s
theorem cJ.mono {K:Frag}(F:cJ P w K mg base CX j f fd ps sp)(h:j<=k):
  cJ P w K mg base CX k f fd ps sp:=⟨F.len,fun A outer s H args us vs Q E hr=>F.run A outer s H args us vs Q E (hr.mono h)⟩
theorem cJ.imp {K:Frag}(F:cJ P w K mg base CX k f fd ps sp)
  (h:∀vs H Q E,sp' vs H Q E->sp vs H Q E):cJ P w K mg base CX k f fd ps sp' :=
 ⟨fun vs H Q E q=>F.len vs H Q E (h _ _ _ _ q),fun A outer s H args us vs Q E hr he hb hv hs=>F.run A outer s H args us vs Q E hr he hb hv (h _ _ _ _ hs)⟩
theorem xB.make {K:Frag}(e:xB P w K mg base A outer s H)(C:Addr)(us:π)(kw:Ω):
  xB P w K mg base (A.under (.builtin "type.__call__" ⟨.ref C::us,kw⟩)) outer s H:=⟨by first | exact e.frames | (simpa [Around.under,Code.envs,Code.isFrame,pushEnvs] using e.frames),e.mod,e.bs,e.LN,e.mH,e.Py,e.bH,e.bare⟩
section
variable {X:Cx}{pins:ε}{σ:St}{H:Hp}{s s' :Shared}
theorem Inv.TM (I:Inv X pins σ H s):xB X.prog X.w X.K X.mg X.base X.A X.stack s H:=
 ⟨I.ok.frames,I.ok.mod,I.bs,aaf I.ok.LN I.sz,I.stack,I.yV,I.bH,I.bare⟩
theorem Inv.after (I:Inv X pins σ H s)(h:CE X.stack X.prog X.w H s Q u s'):EP X pins σ Q u s' :=by
 obtain ⟨v,H',os,bare,un,bH,r,q⟩:=h
 obtain ⟨hh,g,d,t,LZ⟩:=s'
 obtain rfl:LZ =s.os:=os
 exact ⟨v,H',I.call (h' :=hh) (g' :=g) (d' :=d) (t' :=t) (ch:=[]) un bH bare (fun b z=>absurd z (by simp)),r,q⟩
end
def Ob (sp:Sp)(dvs:η)(E:XK)(t:TA):TE:=fun σ H Q=>t σ H fun vs H1=>sp (vs++dvs) H1 Q E
def Oc (C:Addr)(sp:Sp)(dvs:η)(E:XK)(t:TA):TE:=fun σ H Q=>t σ H fun vs H1=>∀x dx,H1 x=none->H1 dx=none->dx≠x->
 sp (.ref x::(vs++dvs)) (upd (upd H1 dx (.own x)) x (.ins C dx [])) (fun v H2=>v=.cw/\Q (.ref x) H2) E
def Binds (K:Frag)(fd:FuncData)(ps:ρ)(ds:π):Prop:=
 ∀(s:Shared) (us:π),K.In s.heap->(us++ds).length=ps.length->BindsTo s fd ⟨us,[]⟩ (ps.zip (us++ds))
theorem Binds.all {K:Frag}(h:∀us:List Value,us.length=ps.length->bindArgs fd ⟨us,[]⟩=pure (ps.zip us)):Binds K fd ps []:=fun s us _ hl=>by
 rw [ac2] at hl ⊢
 exact .of_eq (h us hl)
def Passes (CX:ku)(X:Cx)(E:XK):Prop:=∀(pins:ε) (σ:St) (H:Hp) (s:Shared) (e:Value) (s' :Shared),Inv X pins σ H s->CX X.stack H s E e s' ->X.xe e s'
section
variable {X:Cx}{CX:ku}{k:Nat}{f C:Addr}{fd:FuncData}{ps:ρ}{sp:Sp}{dvs:η}{ds:π}{E:XK}{x m:Str}{p pos apos:Pos}{e o:Expr}{es:Α}{ta:TE}{t:TA}
theorem sN {σ:St}{us:π}{vs:η}(F:cJ X.prog X.w X.K X.mg X.base CX k f fd ps sp)(hr:cC k X.A)(hb:Binds X.K fd ps ds)(hd:Vals dvs ds)(hx:Passes CX X E)
  (I:Inv X pins σ H s) (r:Vals vs us) (h:sp (vs++dvs) H Q E):wpAny (model X.prog X.w) X.A (call (.ref f) us) (EP X pins σ Q) X.xe s:=by
 have r2:Vals (vs++dvs) (us++ds):=r.append hd
 have hl:(us++ds).length=ps.length:=by rw [<- r2.length];exact F.len _ _ _ _ h
 refine wpAny_call (codeAny_mono (F.run X.A X.stack s H ⟨us,[]⟩ (us++ds) (vs++dvs) Q E hr I.TM (hb s us I.ji hl) r2 h) fun r s' hq=>?_)
 cases r with
 | error e=>exact hx pins σ H s e s' I hq
 | ok fl=>
  cases fl with
  | ret u=>exact I.after hq
  | next=>exact False.elim hq
  | brk=>exact False.elim hq
  | cont=>exact False.elim hq
theorem L6 (F:cJ X.prog X.w X.K X.mg X.base CX k f fd ps sp)(hr:cC k X.A)(hg:Gl X x)(hm:X.mg x=some (.ref f))(hk:keepIn X.K (.ref f)=true)(hb:Binds X.K fd ps ds)(hd:Vals dvs ds)(hx:Passes CX X E)
  (ha:PA X (e::es) t) (BQ:(x==("__debug__":Str))=false:=by decide) (he:starEach (e::es) X.env=(false,eval e X.env)::starEach es X.env:=by rfl) (y_:(backTo pos (starEach es X.env)).any (·.1)=false:=by rfl):
  PE X (.Call (.Name x p) (e::es) [] pos) (Ob sp dvs E t):=by
 intro pins s σ H Q I h
 refine wpAny_Call_Name_kw (jz I hg hm ?_ BQ)
 refine PySem.W.callWith_K (h₀:=X.base) I.ok.mod.SA hk (cq (ha pos pins s σ H _ I h) fun us s1 ⟨vs,H1,I1,r,q⟩=>⟨I1.ji,?_⟩) he y_
 exact sN F hr hb hd hx I1 r q
structure Mk (K:Frag)(C f:Addr):Prop where
 makes:PySem.W.makesIn K C=true
 init:PySem.W.findIn K (.ref C) "__init__"=some (some (.ref f))
 fn:PySem.W.isFn K (.ref f)=true
 kp:keepIn K (.ref C)=true
theorem vg {σ:St}{us:π}{vs:η}(M:Mk X.K C f)(F:cJ X.prog X.w X.K X.mg X.base CX k f fd ps sp)(hr:cC (k+1) X.A)(hb:Binds X.K fd ps ds)(hd:Vals dvs ds)
  (hx:Passes CX X E) (I:Inv X pins σ H s) (r:Vals vs us)
  (h:∀x dx,H x=none->H dx=none->dx≠x->sp (.ref x::(vs++dvs)) (upd (upd H dx (.own x)) x (.ins C dx [])) (fun v H2=>v=.cw/\Q (.ref x) H2) E):
  wpAny (model X.prog X.w) X.A (call (.ref C) us) (EP X pins σ Q) X.xe s:=by
 have hq:=h (s.heap.objs.size+1) s.heap.objs.size (I.bH.fresh (aik _)) (I.bH.fresh (aac _)) (aa_ (abu _))
 have I2:=Inv.made (C:=C) I
 have r2:Vals (V.ref (s.heap.objs.size+1)::(vs++dvs)) (Value.ref (s.heap.objs.size+1)::(us++ds)):=.cons rfl (r.append hd)
 have hl:(Value.ref (s.heap.objs.size+1)::us++ds).length=ps.length:=by
  have e:=r2.length
  rw [F.len _ _ _ _ hq] at e
  exact e.symm
 refine wpAny_call (HN (f:=f) I.ji M.makes M.init (beq_iff_eq.mp M.fn) (codeAny_mono (F.run _ X.stack _ _ ⟨Value.ref (s.heap.objs.size+1)::us,[]⟩ (Value.ref (s.heap.objs.size+1)::(us++ds)) _ _ E (hr.make C us [])
  (I2.TM.make C us []) (hb _ (Value.ref (s.heap.objs.size+1)::us) I2.ji hl) r2 hq) fun r s' h8 =>?_))
 cases r with
 | error e=>exact hx pins σ _ _ e s' I2 h8
 | ok fl=>
  cases fl with
  | ret u=>
   obtain ⟨v,H',I3,rv,ev,q3⟩:=I2.after h8
   subst ev
   exact ⟨rv,⟨V.ref (s.heap.objs.size+1),H',I3,rfl,q3⟩⟩
  | next=>exact False.elim h8
  | brk=>exact False.elim h8
  | cont=>exact False.elim h8
theorem za (M:Mk X.K C f)(F:cJ X.prog X.w X.K X.mg X.base CX k f fd ps sp)(hr:cC (k+1) X.A)(hg:Gl X x)(hm:X.mg x=some (.ref C))(hb:Binds X.K fd ps ds)(hd:Vals dvs ds)(hx:Passes CX X E)
  (ha:PA X (e::es) t) (BQ:(x==("__debug__":Str))=false:=by decide) (he:starEach (e::es) X.env=(false,eval e X.env)::starEach es X.env:=by rfl) (y_:(backTo pos (starEach es X.env)).any (·.1)=false:=by rfl):
  PE X (.Call (.Name x p) (e::es) [] pos) (Oc C sp dvs E t):=by
 intro pins s σ H Q I h
 refine wpAny_Call_Name_kw (jz I hg hm ?_ BQ)
 refine PySem.W.callWith_K (h₀:=X.base) I.ok.mod.SA M.kp (cq (ha pos pins s σ H _ I h) fun us s1 ⟨vs,H1,I1,r,q⟩=>⟨I1.ji,?_⟩) he y_
 exact vg M F hr hb hd hx I1 r q
theorem HP (M:Mk X.K C f)(F:cJ X.prog X.w X.K X.mg X.base CX k f fd ps sp)(hr:cC (k+1) X.A)(hg:Gl X x)(hm:X.mg x=some (.ref C))(hb:Binds X.K fd ps ds)(hd:Vals dvs ds)(hx:Passes CX X E)
  (BQ:(x==("__debug__":Str))=false:=by decide):PE X (.Call (.Name x p) [] [] pos) (Oc C sp dvs E fV):=by
 intro pins s σ H Q I h
 refine wpAny_Call_Name_kw (jz I hg hm ?_ BQ)
 exact PySem.W.callWith_K0 I.ji M.kp (vg (us:=[]) M F hr hb hd hx I .nil h)
end
section
variable {X:Cx}{CX:ku}{k:Nat}{f C:Addr}{fd:FuncData}{ps ks:ρ}{sp:Sp}{E:XK}{x m:Str}{p pos apos aqw:Pos}{e o:Expr}{es:Α}{kws:List Keyword}{te ta:TE}{t tk:TA}{nm:Option Str}
variable {g:List Value->List Value->List Value}{gV:List V->List V->List V}
end
structure aE (N P:ρ)(sc:Scope):Prop where
 kind:sc.kind=.function
 co:sc.isCoroutine=false
 gen:sc.isGenerator=false
 nd:N.Nodup
 pre:N.take P.length=P
 par:∀x∈P,sc.names.lookup x=some .local\/sc.names.lookup x=some .cell
 P1:∀y∈sc.names,y.2≠.free
theorem rD {kindOf:Str->Option NameKind}:∀{binds:Ω} {m:ι},(∀v,(x,v)∉binds)->bindL kindOf binds m x=m x
 | [],_,_=>rfl
 | (n,v)::r,m,h=>by
  unfold bindL
  rw [rD fun w hw=>h w (aae _ hw)]
  split
  ·have:x≠n:=by rintro rfl;exact h v aak
   simp [this]
  ·rfl
theorem rE {kindOf:Str->Option NameKind}:∀{binds:Ω} {m:ι},(∀v,(x,v)∉binds)->bindC kindOf binds m x=m x
 | [],_,_=>rfl
 | (n,v)::r,m,h=>by
  unfold bindC
  rw [rE fun w hw=>h w (aae _ hw)]
  split
  ·rfl
  ·have:x≠n:=by rintro rfl;exact h v aak
   simp [this]
theorem rF {kindOf:Str->Option NameKind}:∀{P:ρ} {vs:π} {i:Nat} {m:ι},P.Nodup->P[i]? =some x->vs[i]? =some v->kindOf x=some .local->
  bindL kindOf (P.zip vs) m x=some v
 | [],_,_,_,_,h,_,_=>by simp at h
 | _::_,[],_,_,_,_,h,_=>by simp at h
 | p::P,w::vs,0,m,nd,h1,h2,hk=>by
  simp at h1 h2;subst h1;subst h2
  show bindL kindOf ((p,w)::P.zip vs) m p=_
  unfold bindL
  rw [rD fun v hv=>(aa5.mp nd).1 (aiz hv).1,if_pos hk]
  simp
 | p::P,w::vs,i+1,m,nd,h1,h2,hk=>by
  show bindL kindOf ((p,w)::P.zip vs) m x=_
  unfold bindL
  exact rF (i:=i) (aa5.mp nd).2 (by simpa using h1) (by simpa using h2) hk
theorem rG {kindOf:Str->Option NameKind}:∀{P:ρ} {vs:π} {i:Nat} {m:ι},P.Nodup->P[i]? =some x->vs[i]? =some v->kindOf x≠some .local->
  bindC kindOf (P.zip vs) m x=some v
 | [],_,_,_,_,h,_,_=>by simp at h
 | _::_,[],_,_,_,_,h,_=>by simp at h
 | p::P,w::vs,0,m,nd,h1,h2,hk=>by
  simp at h1 h2;subst h1;subst h2
  show bindC kindOf ((p,w)::P.zip vs) m p=_
  unfold bindC
  rw [rE fun v hv=>(aa5.mp nd).1 (aiz hv).1,if_neg hk]
  simp
 | p::P,w::vs,i+1,m,nd,h1,h2,hk=>by
  show bindC kindOf ((p,w)::P.zip vs) m x=_
  unfold bindC
  exact rG (i:=i) (aa5.mp nd).2 (by simpa using h1) (by simpa using h2) hk
def start (N:ρ)(vs:η):St:=vs.map some++aaJ (N.length - vs.length) none
def mJ (CX:ku)(P:Program)(w:World)(K:Frag)(mg:ι)(base:Heap)(N:ρ)(qual:Str)(scope:Scope)(f:Addr)(cd:Value)(A:Around)(outer:List Env)(s:Shared)(H:Hp)(E:XK):Cx where
 prog:=P
 w:=w
 K:=K
 mg:=mg
 base:=base
 A:=A.deeper (envOfC qual scope s.heap.objs.size f cd)
 N:=N
 s₀:=s
 H₀:=H
 env:=envOfC qual scope s.heap.objs.size f cd
 outer:=outer
 stack:=envOfC qual scope s.heap.objs.size f cd::outer
 ex:=[]
 calm:=true
 fn:=fun _=>true
 pn:=[]
 xe:=fun e s' =>wpAny (model P w) (A.deeper (envOfC qual scope s.heap.objs.size f cd)) (leaving (envOfC qual scope s.heap.objs.size f cd) e) (fun _ TN =>CX outer H s E e TN) (fun e' TN =>CX outer H s E e' TN) s'
theorem vh {sc:Scope}(h:sc.names.lookup x=some .cell):∃c,(cellsFrom n sc.names []).lookup x=some c:=by
 have q:=PySem.W.cellsFrom_some sc.names n [] (.inl h)
 exact acX.mp q
theorem BR {K:Frag}{us:π}{vs:η}
  (S:aE N ps scope) (hd:A.handled=none) (e0:xB P w K mg base A outer s H) (hl:vs.length=ps.length) (r:Vals vs us)
  (x:InCallC s s.heap.objs.size (bindL (envOfC qual scope s.heap.objs.size f cd).kindOf (ps.zip us) fun _=>none) (cellsFrom (s.heap.objs.size+1) scope.names []) (bindC (envOfC qual scope s.heap.objs.size f cd).kindOf (ps.zip us) fun _=>none) s1):
  Inv (mJ CX P w K mg base N qual scope f cd A outer s H E) [] (start N vs) H s1:=by
 have y_:ps.length<=N.length:=by have:=congrArg abR S.pre;rw [abb] at this;omega
 obtain ⟨h1,tk,rfl,hk⟩:=x.done
 have TQ:∀b:Addr,b∉(mJ CX P w K mg base N qual scope f cd A outer s H E).ex:=fun b z=>absurd (show b∈([]:List Addr) from z) (by simp)
 refine ⟨⟨e0.mod,S.kind,rfl,rfl,aac _,fun y z c h1 h2=>?_,fun y hy=>?_,fun y c _ h=>?_,fun _=>hd,Around.frames_deeper e0.frames,.inr ⟨rfl,rfl⟩,fun b z=>absurd z (TQ b),e0.bs,e0.LN,fun b _ _=>TQ b,fun b z=>absurd z (TQ b),e0.mH,e0.Py⟩,
  rfl,e0.bare,Un.kept hk,⟨_,x.toInCall.ns,fun i y v h1 h2 h3=>?_⟩,fun y c h=>⟨_,x.cell y c h⟩,e0.bH.fresh (aac _),fun y c h=>?_,fun p hp=>absurd (show p∈([]:List (Addr×Obj)) from hp) (by simp),e0.bH.kept hk,?_⟩
 ·exact name_of_addr x.apart (PySem.mem_of_lookup h1) (PySem.mem_of_lookup h2)
 ·have hy:scope.names.lookup y=some .cell\/scope.names.lookup y=some .free:=hy
  rcases hy with hy | hy
  ·exact vh hy
  ·exact absurd rfl (S.P1 _ (PySem.mem_of_lookup hy))
 ·exact ab7 (x.above y c (PySem.mem_of_lookup h))
 ·have hi:i < vs.length:=by
   unfold start at h2
   by_cases hi:i < vs.length
   ·exact hi
   ·rw [aaY (by simpa using hi)] at h2
    rw [ac_] at h2
    split at h2 <;> cases h2
  have ha:vs[i]? =some v:=by
   unfold start at h2
   rw [aap (by simpa using hi),Wp] at h2
   cases e:vs[i]? with
   | none=>rw [e] at h2;cases h2
   | some a=>rw [e] at h2;cases h2;rfl
  obtain ⟨u,hu,rv⟩:=r.get ha
  have hp:ps[i]? =some y:=by
   rw [<- S.pre,aip (by omega)];exact h1
  have ndP:ps.Nodup:=by rw [<- S.pre];exact S.nd.sublist (List.take_sublist _ _)
  refine ⟨u,rv,?_⟩
  rcases S.par y (ir hp) with k | k
  ·exact .inl ⟨k,rF ndP hp hu k⟩
  ·obtain ⟨c,e⟩:=vh (n:=s.heap.objs.size+1) k
   refine .inr ⟨.inl k,c,e,?_⟩
   have q:=x.cell y c e
   rw [rG ndP hp hu (by show scope.names.lookup y≠_;rw [k];decide)] at q
   exact q
 ·exact e0.bH.fresh (ab7 (x.above y c (PySem.mem_of_lookup h)))
 ·unfold start
  show _=N.length
  rw [aan,aaa,acm]
  omega
theorem zc {K:Frag}{dV kV doc pm bJ ct oc:Value}{an od:Ι}
  {mK:Κ}   (lk:K.lookup f=some ⟨oc,od,.func (fnOf name qual params body scope dV kV doc pm an bJ ct),mK⟩) (qD:codeIn K bJ qual=true) (S:aE N ps scope)
  (len:∀vs H Q E,sp vs H Q E->vs.length=ps.length)
  (jC:∀(A:Around) (outer:List Env) (s:Shared) (H:Hp) (vs:η) (Q:VK) (E:XK),cC k (A.deeper (envOfC qual scope s.heap.objs.size f bJ))->sp vs H Q E->
   ∃t,PSs (mJ CX P w K mg base N qual scope f bJ A outer s H E) body t/\t {nx:=fun _ H' =>Q .cw H',rt:=Q} (start N vs) H):
  cJ P w K mg base CX (k+1) f (fnOf name qual params body scope dV kV doc pm an bJ ct) ps sp:=by
 refine ⟨len,fun A outer s H args us vs Q E hr e0 hb r qF=>?_⟩
 have hl:=len _ _ _ _ qF
 have KX:K.In s.heap:=e0.mod.SA.keeps fun b o e=>(e0.bs b o e).1
 have lim:s.heap.NoLimit:=e0.mod.nolimit.keeps fun b o e=>(e0.bs b o e).1
 have TR:∀y∈ps.zip us,scope.names.lookup y.1=some .local\/(scope.names.lookup y.1=some .cell/\((cellsFrom (s.heap.objs.size+1) scope.names []).lookup y.1).isSome=true):=fun ⟨n,v⟩ hy=>by
  rcases S.par n (aiz hy).1 with q | q
  ·exact .inl q
  ·exact .inr ⟨q,PySem.W.cellsFrom_some _ _ _ (.inl q)⟩
 refine codeAny_call_function hr.depth (KX _ _ lk) rfl S.co S.gen rfl (PySem.W.codeRec_of KX qD) (hb _ _ _ _ ?_)
 refine wpAny_newFunctionEnv_cells S.kind TR fun env he s1 x=>?_
 subst he
 refine ⟨lim.keeps x.toInCall.keep,codeAny_func ?_⟩
 obtain ⟨t,ht,hq⟩:=jC A outer s H vs Q E (hr.deeper _) qF
 have I:Inv (mJ CX P w K mg base N qual scope f bJ A outer s H E) [] (start N vs) H s1:=BR S hr.hd e0 hl r x
 refine wpAny_mono (ht [] s1 (start N vs) H _ I hq) (fun fl s' hs=>?_) fun e s' hs=>hs
 have fin:∀{σ' :St} {H' :Hp} {v:V} {u:Value},Inv (mJ CX P w K mg base N qual scope f bJ A outer s H E) [] σ' H' s' ->RelV v u->Q v H' ->CE outer P w H s Q u s' :=
  fun {σ' H' v u} J rv q=>⟨v,H',J.os,J.bare,J.base,J.bH,rv,q⟩
 cases fl with
 | ret u=>
  obtain ⟨v,σ',H',J,rv,q⟩:=hs
  exact fin J rv q
 | next=>
  obtain ⟨σ',H',J,q⟩:=hs
  exact fin (v:=V.cw) (u:=Value.none) J rfl q
 | brk=>
  obtain ⟨_,_,_,q⟩:=hs
  exact False.elim q
 | cont=>
  obtain ⟨_,_,_,q⟩:=hs
  exact False.elim q
end L2
namespace L2
open PySem PySem.Spec PyProof.Rows
section
variable {X:Cx}{x:Str}{p pos:Pos}{e:Expr}{es:Α}{t:TA}{id T:String}{r:List V->Hp->VK->Prop}
def tCB (r:List V->Hp->VK->Prop)(t:TA):TE:=fun σ H Q=>t σ H fun vs H1=>r vs H1 Q
theorem aJ (hc:fe X (.builtin id) r)(hg:Gl X x)(hm:X.mg x=none)(hv:bootBuiltins x=some (.builtin id))(ha:PA X (e::es) t)(hn:x≠ "__name__":=by decide)(BQ:(x==("__debug__":Str))=false:=by decide)
  (he:starEach (e::es) X.env=(false,eval e X.env)::starEach es X.env:=by rfl) (y_:(backTo pos (starEach es X.env)).any (·.1)=false:=by rfl):PE X (.Call (.Name x p) (e::es) [] pos) (tCB r t):=by
 intro pins s σ H Q I h
 refine wpAny_Call_Name_kw (gM I hg hm hv ?_ hn BQ)
 exact PyProof.Rows.callWith_builtin1 (cq (ha pos pins s σ H _ I h) fun us s1 ⟨vs,H1,I1,r1,q1⟩=>hc pins s1 σ H1 vs us Q I1 r1 q1) he y_
theorem b9 (hc:fe X (.type T) r)(hg:Gl X x)(hm:X.mg x=none)(hv:bootBuiltins x=some (.type T))(ha:PA X (e::es) t)(hn:x≠ "__name__":=by decide)(BQ:(x==("__debug__":Str))=false:=by decide)
  (he:starEach (e::es) X.env=(false,eval e X.env)::starEach es X.env:=by rfl) (y_:(backTo pos (starEach es X.env)).any (·.1)=false:=by rfl):PE X (.Call (.Name x p) (e::es) [] pos) (tCB r t):=by
 intro pins s σ H Q I h
 refine wpAny_Call_Name_kw (gM I hg hm hv ?_ hn BQ)
 exact PyProof.Rows.callWith_type1 (cq (ha pos pins s σ H _ I h) fun us s1 ⟨vs,H1,I1,r1,q1⟩=>hc pins s1 σ H1 vs us Q I1 r1 q1) he y_
end
end L2
namespace HT
open PySem PyProof.Rows
section
open PySem.SeqAt
open PySem.AutoSeq1 (wpAny_loadPart')
open PySem.MeetsSeq PySem.MeetsSeq2 PySem.MeetsSeq3
end
section
variable {prog:Program}{w:World}{A:Around}{E:γ}{s:Shared}
theorem L7 {vs ws:π}{Q:γ}(ht:IsTup s.heap t vs.toArray)(hb:IsTup s.heap b ws.toArray)(hv:vs≠[])
  (h1:ws=[]->Q (.ref t) s) (h2:ws≠[]->Q (.ref s.heap.objs.size) {s with heap:=s.heap.push {cls:=.type "tuple",data:=.seq (vs++ws).toArray}})
  (hsz:vs.length+ws.length<=sizeLine):wpAny (model prog w) A (binaryOp .Add (.ref t) (.ref b)) Q E s:=by
 obtain ⟨⟨cls,dd,data,sl⟩,ho,hc,n,hd⟩:=id ht
 obtain ⟨⟨aqx,TU,data2,sl2⟩,ZN,P2,n2,hd2⟩:=id hb
 simp only at hc hd P2 hd2
 subst hc hd P2 hd2
 have e:vs.toArray++ws.toArray=(vs++ws).toArray:=by simp
 by_cases hw:ws=[]
 ·exact concat_meets ⟨_,ho,rfl⟩ ⟨_,ZN,rfl⟩ noFill_tuple_add seq_tuple_add PySem.F.slot_tuple_add PySem.F.entry_tuple_add (PySem.F.args_tuple_add_2 _ _)
   (tuple_addW1 t b vs.toArray ws.toArray n n2 dd TU sl sl2 (by simpa using hv) (by simp [hw])) ⟨ho,ZN,h1 hw⟩
 ·refine concat_meets ⟨_,ho,rfl⟩ ⟨_,ZN,rfl⟩ noFill_tuple_add seq_tuple_add PySem.F.slot_tuple_add PySem.F.entry_tuple_add (PySem.F.args_tuple_add_2 _ _)
   (tuple_addW2 t b vs.toArray ws.toArray n n2 dd TU sl sl2 (by simpa using hv) (by simpa using hw) (by rw [aaq,aaq];exact hsz)) ⟨ho,ZN,?_⟩
  rw [e]
  exact h2 hw
def d_ (n d:Nat):Option Int->Nat
 | none=>d
 | some v=>if v < 0 then (v+(n:Int)).toNat else min v.toNat n
theorem vi (n d:Nat):d_ n d none=d:=rfl
theorem m7 (n d k:Nat):d_ n d (some (k:Int))=min k n:=by
 show (if (k:Int) < 0 then ((k:Int)+(n:Int)).toNat else min (k:Int).toNat n)=min k n
 rw [if_neg (by omega),acG]
theorem P4 (n d:Nat)(hd:d<=n)(o:Ο):d_ n d o<=n:=by
 cases o with
 | none=>exact hd
 | some v=>
  show (if v < 0 then (v+(n:Int)).toNat else min v.toNat n)<=n
  by_cases hv:v < 0
  ·rw [if_pos hv];omega
  ·rw [if_neg hv];exact Nat.min_le_right _ _
theorem zd (v:Int)(n d:Nat):(if v < 0 then max (v+(n:Int)) 0 else min v (n:Int))=((d_ n d (some v):Nat):Int):=by
 show (if v < 0 then max (v+(n:Int)) 0 else min v (n:Int))=(((if v < 0 then (v+(n:Int)).toNat else min v.toNat n):Nat):Int)
 by_cases hv:v < 0
 ·simp only [if_pos hv];omega
 ·simp only [if_neg hv];omega
theorem xC (lo hi:Ο)(n:Nat):Builtin.Slice.sliceAdjust lo hi 1 (n:Int)=(((d_ n 0 lo:Nat):Int),((d_ n n hi:Nat):Int)):=by
 have h1:¬ ((1:Int) < 0):=by omega
 unfold Builtin.Slice.sliceAdjust
 simp only [h1,if_false]
 refine ade ?_ ?_
 ·cases lo with
  | none=>rfl
  | some v=>exact zd v n 0
 ·cases hi with
  | none=>rfl
  | some v=>exact zd v n n
theorem xD (i j:Nat):Builtin.Slice.slicePlaces (i:Int) (j:Int) 1=j - i:=by
 unfold Builtin.Slice.slicePlaces
 have h1:(1:Int) > 0:=by omega
 simp only [h1,if_true,Int.ediv_one]
 split <;> omega
theorem oj {o:Ο}(p:IsPart v o)(h:Q o s):wpAny (model prog w) A (Builtin.Slice.slicePartIndex v) Q E s:=by
 cases p with
 | none=>exact slicePart_none h
 | int i t=>exact slicePart_int h
theorem kE {lo hi:Ο}{Q:Int×Int×Nat->Shared->Prop}(hs:s.heap.IsSliceOf sl vl vu .none)(pl:IsPart vl lo)(pu:IsPart vu hi)
  (h:Q (((d_ n 0 lo:Nat):Int),1,d_ n n hi - d_ n 0 lo) s):wpAny (model prog w) A (Builtin.Slice.sliceApplied (.ref sl) (pure (n:Int))) Q E s:=by
 obtain ⟨os,TV,hcs,ZO⟩:=id hs
 unfold Builtin.Slice.sliceApplied Builtin.Slice.sliceFields
 refine wpAny_bind (wpAny_bind (wpAny_field TV ZO (x:=vl) rfl (wpAny_bind (wpAny_field TV ZO (x:=vu) rfl (wpAny_bind (wpAny_field TV ZO (x:=.none) rfl (wpAny_pure ?_)))))))
 refine wpAny_bind (slicePart_none ?_)
 show wpAny _ _ (if ((1:Int)==0)=true then _ else _) _ _ s
 rw [if_neg (by decide)]
 refine wpAny_bind (oj pl (wpAny_bind (oj pu (wpAny_bind (wpAny_pure ?_)))))
 show wpAny _ _ (match Builtin.Slice.sliceAdjust lo hi 1 (n:Int) with | (lo,hi)=>pure (lo,(1:Int),Builtin.Slice.slicePlaces lo hi 1)) _ _ s
 rw [xC lo hi n]
 show wpAny _ _ (pure (((d_ n 0 lo:Nat):Int),(1:Int),Builtin.Slice.slicePlaces ((d_ n 0 lo:Nat):Int) ((d_ n n hi:Nat):Int) 1)) _ _ s
 rw [xD]
 exact wpAny_pure h
theorem HQ (xs:Μ)(i k:Nat):((abJ k).filterMap fun (m:Nat)=>xs[((i:Int)+(m:Int)*1).toNat]?).toArray=((xs.toList.drop i).take k).toArray:=by
 have e:(fun (m:Nat)=>xs[((i:Int)+(m:Int)*1).toNat]?)=fun m=>xs[i+m]? :=by
  funext m
  have:((i:Int)+(m:Int)*1).toNat=i+m:=by omega
  rw [this]
 rw [e]
 have:=pick_run xs i k
 rw [List.filterMap_map] at this
 have e2:((fun x=>xs[x]?) ∘ fun x=>i+x)=fun m=>xs[i+m]? :=rfl
 rw [e2] at this
 rw [this]
theorem jD {items:Μ}{lo hi:Ο}{Q:γ}(ht:IsTup s.heap t items)(hs:s.heap.IsSliceOf sl vl vu .none)(pl:IsPart vl lo)(pu:IsPart vu hi)
  (hw:¬ (d_ items.size 0 lo=0/\d_ items.size items.size hi=items.size))
  (h:Q (.ref s.heap.objs.size) {s with heap:=s.heap.push {cls:=.type "tuple",data:=.seq ((items.toList.drop (d_ items.size 0 lo)).take (d_ items.size items.size hi - d_ items.size 0 lo)).toArray}})
  (hsz:items.size<=sizeLine):wpAny (model prog w) A (getItem (.ref t) (.ref sl)) Q E s:=by
 have ze:sizeOk (.seq ((items.toList.drop (d_ items.size 0 lo)).take (d_ items.size items.size hi - d_ items.size 0 lo)).toArray):=by
  show ((items.toList.drop (d_ items.size 0 lo)).take (d_ items.size items.size hi - d_ items.size 0 lo)).toArray.size<=sizeLine
  rw [aaq,abb,ack,acg]
  omega
 have hj:d_ items.size items.size hi<=items.size:=P4 _ _ (aac _) hi
 obtain ⟨os,TV,hcs,ZO⟩:=id hs
 have hTs:s.TypeIs (.ref sl) "slice":=⟨os,TV,hcs⟩
 unfold getItem
 try with_reducible refine wpAny_holding ?_
 first | refine wpAny_bind (wpAny_pure ?_) | skip
 refine wpAny_bind (wpAny_sequenceKey ht.typeIs (by decide) ?_)
 refine wpAny_bind (wpAny_callSpecial?_slot (name:=Str.ofString "__getitem__") ht.typeIs PyProof.Rows.slot_tuple_getitem
  (wpAny_call_entry PyProof.Rows.slot_tuple_getitem ht.typeIs entry_tuple_getitem ?_ (args_tuple_getitem _ _)))
 show wpAny _ _ (Builtin.Tuple.tupleItemsOf (.ref t) >>=_) _ _ s
 refine wpAny_bind (tupleItemsOf_ ht ?_)
 refine wpAny_bind (wpAny_typeOf hTs ?_)
 rw [if_pos (by decide)]
 refine wpAny_bind (kE hs pl pu ?_)
 have P5:¬ ((((d_ items.size 0 lo:Nat):Int)==0 && (1:Int)==1 && (d_ items.size items.size hi - d_ items.size 0 lo)==items.size)=true):=by
  intro q
  rw [abE,abE] at q
  have q1:((d_ items.size 0 lo:Nat):Int)=0:=eq_of_beq q.1.1
  have q2:d_ items.size items.size hi - d_ items.size 0 lo=items.size:=eq_of_beq q.2
  exact hw ⟨by omega,by omega⟩
 show wpAny _ _ (if (((d_ items.size 0 lo:Nat):Int)==0 && (1:Int)==1 && (d_ items.size items.size hi - d_ items.size 0 lo)==items.size)=true then _ else _) _ _ s
 rw [if_neg P5,HQ]
 first
  | exact wpAny_bind (m:=Builtin.Tuple.tupleExact _) (wpAny_newObj_type (wpAny_pure ⟨_,rfl,wpAny_pure h⟩) ze)
  | exact wpAny_bind (m:=Builtin.Tuple.tupleExact _) (wpAny_newObj_type (wpAny_bind (wpAny_pure (wpAny_pure ⟨_,rfl,wpAny_pure h⟩))) ze)
  | exact wpAny_bind (wpAny_bind (m:=Builtin.Tuple.tupleExact _) (wpAny_newObj_type (wpAny_pure (wpAny_pure ⟨_,rfl,wpAny_pure h⟩)) ze))
  | exact wpAny_bind (wpAny_bind (m:=Builtin.Tuple.tupleExact _) (wpAny_newObj_type (wpAny_pure ⟨_,rfl,wpAny_pure h⟩) ze))
end
end HT
namespace L2
open PySem PySem.Spec PyProof.Rows
abbrev TO:=St->Hp->(Option Int->Hp->Prop)->Prop
def PO (X:Cx)(e:Option Expr)(t:TO):Prop:=
 ∀(pins:ε) (s:Shared) (σ:St) (H:Hp) (Q:Option Int->Hp->Prop),Inv X pins σ H s->t σ H Q->
  wpAny (model X.prog X.w) X.A (evalPart e X.env) (fun u s' =>∃o H',Inv X pins σ H' s' /\IsPart u o/\Q o H') X.xe s
def L8:TO:=fun _ H Q=>Q none H
inductive HR (Q:(Option Int->Hp->Prop))(x:V)(H1:Hp):Prop where
 | mk (i:_) (_:x=.int i) (_:Q (some i) H1):HR Q x H1
def TX (t:TE):TO:=fun σ H Q=>t σ H fun x H1=>HR Q x H1
section
variable {X:Cx}{e:Expr}{te:TE}{lo hi:Option Expr}{tl th:TO}{pos p2:Pos}
theorem iN:PO X none L8:=by
 intro pins s σ H Q I h
 rw [evalPart_none]
 exact wpAny_pure ⟨none,H,I,.none,h⟩
theorem dW (h:PE X e te):PO X (some e) (TX te):=by
 intro pins s σ H Q I hw
 rw [evalPart_some]
 refine cq (h pins s σ H _ I hw) fun u s1 ⟨x,H1,I1,r1,q1⟩=>?_
 obtain ⟨i,rfl,q⟩:=q1
 obtain ⟨t,rfl⟩:=r1
 exact ⟨some i,H1,I1,.int i t,q⟩
def TY (X:Cx)(r:V->Option Int->Option Int->Hp->VK->Prop):Prop:=
 ∀(pins:ε) (s:Shared) (σ:St) (H:Hp) (x:V) (v vl vu:Value) (lo hi:Ο) (sl:Addr) (Q:VK),Inv X pins σ H s->RelV x v->s.heap.IsSliceOf sl vl vu .none->IsPart vl lo->IsPart vu hi->r x lo hi H Q->
  ∃T id,typeLookup (.type T) "__getitem__"=pure (some (.builtin id))/\s.TypeIs v T/\wpAny (model X.prog X.w) X.A (getItem v (.ref sl)) (EP X pins σ Q) X.xe s
def tSl (r:V->Option Int->Option Int->Hp->VK->Prop)(te:TE)(tl th:TO):TE:=fun σ H Q=>te σ H fun x H1=>tl σ H1 fun l H2=>th σ H2 fun u H3=>r x l u H3 Q
theorem eg (hr:TY X r)(he:PE X e te)(hl:PO X lo tl)(hu:PO X hi th):PE X (.Subscript e (.Slice lo hi none p2) pos) (tSl r te tl th):=by
 intro pins s σ H Q I h
 refine Subscript_ (cq (he pins s σ H _ I h) fun v s1 ⟨x,H1,I1,r1,q1⟩=>?_)
 refine wpAny_Slice (cq (hl pins s1 σ H1 _ I1 q1) fun vl s2 ⟨l,H2,I2,pl,q2⟩=>cq (hu pins s2 σ H2 _ I2 q2) fun vu s3 ⟨u,H3,I3,pu,q3⟩=>?_)
 rw [evalPart_none]
 refine wpAny_pure ?_
 have I4:Inv X pins σ H3 {s3 with heap:=s3.heap.push {cls:=.type "slice",data:=.fields #[vl,vu,.none]}}:=I3.kept (t' :=s3.toks) fun b ob q=>Heap.get?_push_of_some _ q
 obtain ⟨T,id,hT,ht,hg⟩:=hr pins {s3 with heap:=s3.heap.push {cls:=.type "slice",data:=.fields #[vl,vu,.none]}} σ H3 x v vl vu l u s3.heap.objs.size Q I4 r1 (Heap.IsSliceOf.new ..) pl pu q3
 show wpAny (model X.prog X.w) X.A (subscriptTail e (.Slice lo hi none p2) v (.ref s3.heap.objs.size)) (EP X pins σ Q) X.xe {s3 with heap:=s3.heap.push {cls:=.type "slice",data:=.fields #[vl,vu,.none]}}
 exact tail_any (ops:=[.ref s3.heap.objs.size,v]) ht hT hg (by with_unfolding_all rfl)
def fL (xs:η)(lo hi:Ο):List V:=(xs.drop (HT.d_ xs.length 0 lo)).take (HT.d_ xs.length xs.length hi - HT.d_ xs.length 0 lo)
theorem ma (xs:η)(lo hi:Ο):(fL xs lo hi).length<=xs.length:=by
 unfold fL
 rw [abb,ack]
 omega
inductive P6 (K:Frag)(x:V)(lo:Ο)(hi:Ο)(H:Hp)(Q:VK):Prop where
 | mk (a xs:_) (_:x=.ref a) (_:bT K H a xs) (_:¬ (HT.d_ xs.length 0 lo=0/\HT.d_ xs.length xs.length hi=xs.length)) (_:∀p,H p=none->Q (.ref p) (upd H p (.tup (fL xs lo hi)))):P6 K x lo hi H Q
theorem xE:TY X (P6 X.K):=by
 intro pins s σ H x v vl vu lo hi sl Q I rx hs pl pu h
 obtain ⟨a,xs,rfl,hx,hw,q⟩:=h
 cases rx
 obtain ⟨its,r,ht,hz⟩:=I.tuple hx
 have hlen:its.toArray.size=xs.length:=by rw [aaq];exact r.length.symm
 refine ⟨"tuple",_,PyProof.Rows.slot_tuple_getitem.lookup,ht.typeIs,?_⟩
 refine HT.jD ht hs pl pu (by rw [hlen];exact hw) ?_ (by rw [hlen];exact hz)
 rw [hlen]
 refine ⟨.ref s.heap.objs.size,_,I.laid (t' :=s.toks) (o:=.tup (fL xs lo hi)) (fun b ob q=>Heap.get?_push_of_some _ q) (aac _) ?_,rfl,q _ (I.bH.fresh (aac _))⟩
 exact ⟨aaf (ma xs lo hi) hz,_,(r.drop (HT.d_ xs.length 0 lo)).take (HT.d_ xs.length xs.length hi - HT.d_ xs.length 0 lo),IsTup.new _ _⟩
inductive Od (K:Frag)(x:V)(y:V)(H:Hp)(Q:VK):Prop where
 | mk (a b xs ys:_) (_:x=.ref a) (_:y=.ref b) (_:bT K H a xs) (_:bT K H b ys) (_:xs≠[]) (_:xs.length+ys.length<=sizeLine) (_:(ys=[]->Q (.ref a) H)) (_:(ys≠[]->∀p,H p=none->Q (.ref p) (upd H p (.tup (xs++ys))))):Od K x y H Q
theorem Vals.sO {xs:η}{us:π}(r:Vals xs us):us=[] ↔ xs=[]:=by
 cases r with
 | nil=>simp
 | cons _ _=>simp
theorem L9:jx X (binaryOp .Add) (Od X.K):=by
 intro pins s σ H x y v u Q I rx ry h
 obtain ⟨a,b,xs,ys,rfl,rfl,ha,hb,hx,hz,q1,q2⟩:=h
 cases rx
 cases ry
 obtain ⟨its,r1,p1,_⟩:=I.tuple ha
 obtain ⟨dj,r2,p2,_⟩:=I.tuple hb
 refine HT.L7 p1 p2 (fun z=>hx (r1.sO.mp z)) (fun z=>⟨.ref a,H,I,rfl,q1 (r2.sO.mp z)⟩) (fun z=>?_) (by rw [<- r1.length, <- r2.length];exact hz)
 refine ⟨.ref s.heap.objs.size,_,I.laid (t' :=s.toks) (o:=.tup (xs++ys)) (fun b ob q=>Heap.get?_push_of_some _ q) (aac _) ?_,rfl,q2 (fun w=>z (r2.sO.mpr w)) _ (I.bH.fresh (aac _))⟩
 exact ⟨by rw [aan];exact hz,_,r1.append r2,IsTup.new _ _⟩
end
end L2
namespace L2
open PySem PySem.Spec PyProof.Rows
def HS (n:Nat)(i:Int):Option Nat:=if 0<=i then (if i < n then some i.toNat else none) else if -(n:Int)<=i then some (i+n).toNat else none
def gO {α:Type}(xs:List α)(i:Int):Option α:=(HS xs.length i).bind fun j=>xs[j]?
theorem zf (h:HS n i=some j):seqIndex? i n=some j/\j < n/\ -(n:Int)<=i/\i < n:=by
 unfold HS at h
 by_cases h0:0<=i
 ·rw [if_pos h0] at h
  by_cases h1:i < n
  ·rw [if_pos h1] at h
   have e:i.toNat=j:=aao h
   exact ⟨by rw [seqIndex_of h0 h1,e],by omega,by omega,h1⟩
  ·rw [if_neg h1] at h;cases h
 ·rw [if_neg h0] at h
  by_cases h1: -(n:Int)<=i
  ·rw [if_pos h1] at h
   have e:(i+n).toNat=j:=aao h
   exact ⟨by rw [seqIndex_neg (by omega) h1,e],by omega,h1,by omega⟩
  ·rw [if_neg h1] at h;cases h
theorem sQ {v:α}(h:gO xs i=some v):∃j,seqIndex? i xs.length=some j/\xs[j]? =some v/\j < xs.length/\ -(xs.length:Int)<=i/\i < xs.length:=by
 unfold gO at h
 cases e:HS xs.length i with
 | none=>rw [e] at h;cases h
 | some j=>
  rw [e] at h
  obtain ⟨h1,h2,h3,h4⟩:=zf e
  exact ⟨j,h1,h,h2,h3,h4⟩
theorem bS {j:Nat}{v:α}(h:xs[j]? =some v):gO xs (j:Int)=some v:=by
 have hj:j < xs.length:=(be.mp h).1
 have e:HS xs.length (j:Int)=some j:=by
  unfold HS
  rw [if_pos (by omega),if_pos (by omega)];simp
 unfold gO;rw [e];exact h
def L_ (b:Expr):Prop:=∀o i,subscripted b false o i=operate [o,i] (getItem o i)
def SF (X:Cx)(r:R2):Prop:=
 ∀(value slice:Expr) (pins:ε) (s:Shared) (σ:St) (H:Hp) (x y:V) (v u:Value) (Q:VK),Inv X pins σ H s->RelV x v->RelV y u->r x y H Q->
  subscripted slice false v u=operate [v,u] (getItem v u)->wpAny (model X.prog X.w) X.A (subscriptTail value slice v u) (EP X pins σ Q) X.xe s
def MtR (X:Cx)(id:String)(r:V->List V->Hp->VK->Prop):Prop:=
 ∀(pins:ε) (s:Shared) (σ:St) (H:Hp) (x:V) (xs:η) (v:Value) (us:π) (Q:VK),Inv X pins σ H s->RelV x v->Vals xs us->r x xs H Q->
  wpAny (model X.prog X.w) X.A (call (.builtin id) (v::us)) (EP X pins σ Q) X.xe s
section
variable {X:Cx}{a b:Expr}{ta tb:TE}{pos:Pos}
theorem bo (hr:SF X r)(ha:PE X a ta)(hb:PE X b tb)(hs:L_ b):PE X (.Subscript a b pos) (PV r ta tb):=by
 intro pins s σ H Q I h
 exact Subscript_ (PX ha hb I h fun v u s2 x y H2 I2 rx ry q=>hr a b pins s2 σ H2 x y v u Q I2 rx ry q (hs _ _))
inductive Ma (K:Frag)(x:V)(y:V)(H:Hp)(Q:VK):Prop where
 | mk (p xs i v:_) (_:x=.ref p) (_:y=.int i) (_:aX K H p xs) (_:gO xs i=some v) (_:Q v H):Ma K x y H Q
inductive HU (K:Frag)(x:V)(y:V)(H:Hp)(Q:VK):Prop where
 | mk (p xs i v:_) (_:x=.ref p) (_:y=.int i) (_:bT K H p xs) (_:gO xs i=some v) (_:Q v H):HU K x y H Q
inductive TZ (x:V)(y:V)(H:Hp)(Q:VK):Prop where
 | mk (z i c:_) (_:x=.str z) (_:y=.int i) (_:z.length<=sizeLine) (_:gO z.cps.toList i=some c) (_:Q (.str ⟨#[c]⟩) H):TZ x y H Q
theorem aY:SF X (Ma X.K):=by
 intro value slice pins s σ H x y v u Q I rx ry h hs
 obtain ⟨p,xs,i,z,rfl,rfl,hq,he,q⟩:=h
 cases rx
 obtain ⟨t,rfl⟩:=ry
 obtain ⟨its,r,pl,hz⟩:=I.list hq
 obtain ⟨j,h1,h2,h3,h4,h5⟩:=sQ he
 obtain ⟨w,ew,mZ⟩:=r.get h2
 have hl:=r.length
 have hn:=oi
 have fin:EP X pins σ Q w s:=⟨z,H,I,mZ,q⟩
 by_cases h0:0<=i
 ·have hj:i.toNat=j:=by
   rw [seqIndex_of h0 h5] at h1
   exact aao h1
  exact item_listR pl.isList h0 (by omega) (by rw [hj];simpa using ew) fin hs
 ·have hj:(i+(its.toArray.size:Int)).toNat=j:=by
   rw [seqIndex_neg (by omega) h4] at h1
   rw [aaq, <- hl]
   exact aao h1
  exact subscriptTail_builtinR (x:=w) pl.isList.typeIs slot_list_getitem.lookup
   (wpAny_getItem_list_neg (Q:=fun r s' =>r=w/\EP X pins σ Q r s') pl.isList (by omega) (by rw [aaq] <;> omega) (by omega) (by rw [hj];simpa using ew) ⟨rfl,fin⟩) hs
theorem om:SF X (HU X.K):=by
 intro value slice pins s σ H x y v u Q I rx ry h hs
 obtain ⟨p,xs,i,z,rfl,rfl,hq,he,q⟩:=h
 cases rx
 obtain ⟨t,rfl⟩:=ry
 obtain ⟨its,r,pl,hz⟩:=I.tuple hq
 obtain ⟨j,h1,h2,h3,h4,h5⟩:=sQ he
 obtain ⟨w,ew,mZ⟩:=r.get h2
 have hl:=r.length
 have hn:=oi
 have fin:EP X pins σ Q w s:=⟨z,H,I,mZ,q⟩
 exact subscriptTail_builtinR (x:=w) pl.typeIs slot_tuple_getitem.lookup
  (getItem_tuple (j:=j) (Q:=fun r s' =>r=w/\EP X pins σ Q r s') pl (by omega) (by omega) (by rw [aaq, <- hl];exact h1) (by simpa using ew) ⟨rfl,fin⟩) hs
theorem P7:SF X TZ:=by
 intro value slice pins s σ H x y v u Q I rx ry h hs
 obtain ⟨z,i,c,rfl,rfl,hz,he,q⟩:=h
 obtain ⟨t,rfl⟩:=rx
 obtain ⟨t',rfl⟩:=ry
 obtain ⟨j,h1,h2,h3,h4,h5⟩:=sQ he
 have hl:z.cps.toList.length=z.length:=by simp [Str.length]
 rw [hl] at h1 h4 h5
 have hn:=oi
 exact tail_any (typeIs_str s z t) slot_str_getitem.lookup (getItem_str (c:=c) (by
  have e1:decide (i < -(2^63:Int))=false:=decide_eq_false (by omega)
  have e2:decide (i≥2^63)=false:=decide_eq_false (by omega)
  rw [e1,e2,aiK]) (by rw [h1];simpa using h2) ⟨.str ⟨#[c]⟩,H,I.tok _,⟨_,rfl⟩,q⟩) hs
theorem xF (its:π)(n j:Nat)(u:Value):Obj.mapSeq (·.setIfInBounds j u) {cls:=.type "list",data:=.seq its.toArray n}={cls:=.type "list",data:=.seq (its.set j u).toArray n}:=by
 simp [Obj.mapSeq]
theorem Inv.lst {pins:ε}{σ:St}{H:Hp}{s:Shared}{p:Addr}{xs:η}(I:Inv X pins σ H s)(h:H p=some (.lst xs)):
  ∃(its:π) (n:Nat),Vals xs its/\s.heap.get? p=some {cls:=.type "list",data:=.seq its.toArray n}/\xs.length<=sizeLine:=by
 obtain ⟨z,its,n,r,e⟩:=I.bH p _ h
 exact ⟨its,n,r,e,z⟩
theorem Inv.P8 {σ:St}{xs ys:η}{its its' :π}(I:Inv X pins σ H s)(h:H p=some (.lst xs))
  (ho:s.heap.get? p=some {cls:=.type "list",data:=.seq its.toArray n}) (hf:f {cls:=.type "list",data:=.seq its.toArray n}={cls:=.type "list",data:=.seq its'.toArray n' }) (r:Vals ys its') (hz:ys.length<=sizeLine) (t:Nat):
  Inv X pins σ (upd H p (.lst ys)) {s with heap:=s.heap.update p f,toks:=t}:=by
 have e:(s.heap.update p f).get? p=some {cls:=.type "list",data:=.seq its'.toArray n' }:=by
  rw [Heap.get?_update_self f ho (by rw [hf] <;> rfl),hf]
 refine I.write (x:=p) (e:=p) (by rw [h];trivial) (.inl rfl) (fun b u hb q=>(Heap.get?_update_other _ _ (aba hb)).trans q) ⟨_,e⟩ ?_
 exact ⟨hz,its',n',r,e⟩
inductive Oe (o:V)(i:V)(v:V)(H:Hp)(Q:(Hp->Prop)):Prop where
 | mk (p xs k j:_) (_:o=.ref p) (_:i=.int k) (_:H p=some (.lst xs)) (_:HS xs.length k=some j) (_:Q (upd H p (.lst (xs.set j v)))):Oe o i v H Q
theorem set_list:TB X Oe:=by
 intro pins s σ H o i v ov iv u Q I ro ri rv h
 obtain ⟨p,xs,k,j,rfl,rfl,hp,hj,q⟩:=h
 cases ro
 obtain ⟨t,rfl⟩:=ri
 obtain ⟨its,n,r,ho,hz⟩:=I.lst hp
 obtain ⟨h1,h2,h3,h4⟩:=zf hj
 have hl:=r.length
 have hn:=oi
 have I' :Inv X pins σ (upd H p (.lst (xs.set j v))) {s with heap:=s.heap.update p (Obj.mapSeq (·.setIfInBounds j u))}:=
  I.P8 hp ho (xF its n j u) (r.set rv j) (by rw [aiA];exact hz) s.toks
 by_cases h0:0<=k
 ·have hk:k.toNat=j:=by
   rw [seqIndex_of h0 h4] at h1
   exact aao h1
  exact PySem.W.ki_setAt ho h0 (by omega) (by rw [aaq, <- hl];exact h4) (by rw [hk];exact ⟨_,I',q⟩)
 ·have hk:(k+(its.toArray.size:Int)).toNat=j:=by
   rw [seqIndex_neg (by omega) h3] at h1
   rw [aaq, <- hl]
   exact aao h1
  exact PySem.W.ki_setBack ho (by omega) (by rw [aaq, <- hl];exact h3) (by omega) (by rw [hk];exact ⟨_,I',q⟩)
theorem sR (lo hi:Ο)(n:Nat):(sliceBounds lo hi none n).1=((HT.d_ n 0 lo:Nat):Int)/\(sliceBounds lo hi none n).2.1=((HT.d_ n n hi:Nat):Int)/\(sliceBounds lo hi none n).2.2=1:=by
 refine ⟨?_,?_,rfl⟩
 ·cases lo with
  | none=>simp [sliceBounds,HT.d_]
  | some i=>
   simp only [sliceBounds,HT.d_,ai5,show (1:Int) > 0 by decide,if_true]
   by_cases h:i < 0
   ·simp only [h,if_true] <;> omega
   ·simp only [h,if_false] <;> omega
 ·cases hi with
  | none=>simp [sliceBounds,HT.d_]
  | some i=>
   simp only [sliceBounds,HT.d_,ai5,show (1:Int) > 0 by decide,if_true]
   by_cases h:i < 0
   ·simp only [h,if_true] <;> omega
   ·simp only [h,if_false] <;> omega
theorem qG (its:π)(lo hi:Ο):slicePick its.toArray lo hi none=((its.drop (HT.d_ its.length 0 lo)).take (HT.d_ its.length its.length hi - HT.d_ its.length 0 lo)).toArray:=by
 obtain ⟨h1,h2,h3⟩:=sR lo hi its.toArray.size
 unfold slicePick
 rw [h1,h2,h3]
 simp only [sliceRange_one,pick_run,aaq] <;> rfl
inductive T1 (K:Frag)(x:V)(lo:Ο)(hi:Ο)(H:Hp)(Q:VK):Prop where
 | mk (a xs:_) (_:x=.ref a) (_:aX K H a xs) (_:∀p,H p=none->Q (.ref p) (upd H p (.lst (fL xs lo hi)))):T1 K x lo hi H Q
theorem jE:TY X (T1 X.K):=by
 intro pins s σ H x v vl vu lo hi sl Q I rx hs pl pu h
 obtain ⟨a,xs,rfl,hx,q⟩:=h
 cases rx
 obtain ⟨its,r,ht,hz⟩:=I.list hx
 have hlen:=r.length
 refine ⟨"list",_,slot_list_getitem.lookup,ht.isList.typeIs,?_⟩
 refine wpAny_getItem_list_slice ht.isList hs pl pu .none (by simp) ?_ (by rw [aaq] <;> omega)
 rw [qG, <- hlen]
 refine ⟨.ref s.heap.objs.size,_,I.laid (t' :=s.toks) (o:=.lst (fL xs lo hi)) (fun b ob q=>Heap.get?_push_of_some _ q) (aac _) ?_,rfl,q _ (I.bH.fresh (aac _))⟩
 exact ⟨aaf (ma xs lo hi) hz,_,0,(r.drop (HT.d_ xs.length 0 lo)).take (HT.d_ xs.length xs.length hi - HT.d_ xs.length 0 lo),Heap.get?_push_size _ rfl⟩
def i_:V->Bool
 | .cw=>true
 | .bl _=>true
 | .int _=>true
 | .str _=>true
 | _=>false
def qv:V->V->Bool
 | .cw,.cw=>true
 | .bl a,.bl b=>a==b
 | .bl a,.int b=>(if a then 1 else 0)==b
 | .int a,.bl b=>a==(if b then 1 else 0)
 | .int a,.int b=>a==b
 | .str a,.str b=>a==b
 | _,_=>false
theorem HV (ry:RelV y u)(rx:RelV x v)(fy:i_ y=true)(fx:i_ x=true):SeqAt.EqAt A s u v (qv y x):=by
 cases y with
 | cw=>
  cases ry
  cases x with
  | cw=>cases rx;exact SeqAt.EqAt.same _
  | bl b=>cases rx;exact SeqAt.EqAt.none_bool b
  | int b=>obtain ⟨t,rfl⟩:=rx;exact SeqAt.EqAt.none_int b t
  | str b=>obtain ⟨t,rfl⟩:=rx;exact SeqAt.EqAt.none_str b t
  | _=>exact absurd (show false=true from fx) aam
 | bl a=>
  cases ry
  cases x with
  | cw=>cases rx;exact SeqAt.EqAt.bool_none a
  | bl b=>cases rx;exact SeqAt.EqAt.bool_bool a b
  | int b=>obtain ⟨t,rfl⟩:=rx;exact SeqAt.EqAt.bool_int a b t
  | str b=>obtain ⟨t,rfl⟩:=rx;exact SeqAt.EqAt.bool_str a b t
  | _=>exact absurd (show false=true from fx) aam
 | int a=>
  obtain ⟨t',rfl⟩:=ry
  cases x with
  | cw=>cases rx;exact SeqAt.EqAt.int_none a t'
  | bl b=>cases rx;exact SeqAt.EqAt.int_bool a t' b
  | int b=>obtain ⟨t,rfl⟩:=rx;exact SeqAt.EqAt.int_int a t' b t
  | str b=>obtain ⟨t,rfl⟩:=rx;exact SeqAt.EqAt.int_str a t' b t
  | _=>exact absurd (show false=true from fx) aam
 | str a=>
  obtain ⟨t',rfl⟩:=ry
  cases x with
  | cw=>cases rx;exact SeqAt.EqAt.str_none a t'
  | bl b=>cases rx;exact SeqAt.EqAt.str_bool a t' b
  | int b=>obtain ⟨t,rfl⟩:=rx;exact SeqAt.EqAt.str_int a t' b t
  | str b=>obtain ⟨t,rfl⟩:=rx;exact SeqAt.EqAt.str_str a t' b t
  | _=>exact absurd (show false=true from fx) aam
 | _=>exact absurd (show false=true from fy) aam
def Mb (x:V)(u:Value):Bool:=match u with
 | .none=>qv .cw x
 | .bool b=>qv (.bl b) x
 | .int i _=>qv (.int i) x
 | .str z _=>qv (.str z) x
 | _=>false
theorem HW (r:RelV y u)(f:i_ y=true):Mb x u=qv y x:=by
 cases y with
 | cw=>cases r;rfl
 | bl b=>cases r;rfl
 | int i=>obtain ⟨t,rfl⟩:=r;rfl
 | str z=>obtain ⟨t,rfl⟩:=r;rfl
 | _=>exact absurd (show false=true from f) aam
theorem sS :∀{xs:η} {us:π},Vals xs us->xs.all i_=true->us.any (Mb x)=xs.any fun y=>qv y x
 | _,_,.nil,_=>rfl
 | y::xs,u::us,.cons r t,f=>by
  rw [ah7,abE] at f
  rw [ac1,ac1,HW r f.1,sS t f.2]
theorem oq (rx:RelV x v)(fx:i_ x=true):∀{xs:η} {us:π},Vals xs us->xs.all i_=true->∀u∈us,SeqAt.EqAt A s u v (Mb x u)
 | _,_,.nil,_=>fun u hu=>by cases hu
 | y::xs,u::us,.cons r t,f=>fun u' hu=>by
  rw [ah7,abE] at f
  rcases aaQ.mp hu with rfl | hu
  ·rw [HW r f.1];exact HV r rx f.1 fx
  ·exact oq rx fx t f.2 u' hu
def SG (x:V)(xs:η):Bool:=xs.any fun y=>qv y x
inductive rIn (K:Frag)(neg:Bool)(x:V)(y:V)(H:Hp)(Q:VK):Prop where
 | mk (p xs:_) (_:y=.ref p) (_:(aX K H p xs\/bT K H p xs)) (_:i_ x=true) (_:xs.all i_=true) (_:Q (.bl (if neg then !SG x xs else SG x xs)) H):rIn K neg x y H Q
theorem rH:jx X (compareOp .In) (rIn X.K false):=by
 intro pins s σ H x y v u Q I rx ry h
 obtain ⟨p,xs,rfl,hq,fx,fs,q⟩:=h
 cases ry
 rcases hq with hq | hq
 ·obtain ⟨its,r,pl,hz⟩:=I.list hq
  refine SeqAt.in_listAt (Mb x) pl.isList (fun w hw=>oq rx fx r fs w (by simpa using hw)) ⟨.bl _,H,I,rfl,?_⟩
  rw [show its.toArray.any (Mb x)=its.any (Mb x) by simp,sS r fs]
  exact q
 ·obtain ⟨its,r,pl,hz⟩:=I.tuple hq
  refine SeqAt.in_tupleAt (Mb x) pl (fun w hw=>oq rx fx r fs w (by simpa using hw)) ⟨.bl _,H,I,rfl,?_⟩
  rw [show its.toArray.any (Mb x)=its.any (Mb x) by simp,sS r fs]
  exact q
theorem aI:fe X (.builtin "len") (fun xs H Q=>∃p ys,xs=[.ref p]/\(aX X.K H p ys\/bT X.K H p ys)/\Q (.int ys.length) H):=by
 intro pins s σ H xs us Q I r h
 obtain ⟨p,ys,rfl,hq,q⟩:=h
 obtain ⟨u,rfl,rx⟩:=vals1 r
 cases rx
 have hn:=oi
 rcases hq with hq | hq
 ·obtain ⟨its,r',pl,hz⟩:=I.list hq
  have hlen:=r'.length
  exact Calls.call_len_list pl.isList (by simp only [aaq] <;> omega) ⟨.int ys.length,H,I.tok _,⟨s.toks+1,by rw [aaq,hlen]⟩,q⟩
 ·obtain ⟨its,r',pl,hz⟩:=I.tuple hq
  have hlen:=r'.length
  exact len_tuple pl (by simp only [aaq] <;> omega) ⟨.int ys.length,H,I.tok _,⟨s.toks+1,by rw [aaq,hlen]⟩,q⟩
def tyV (K:Frag)(T:String)(x:V)(H:Hp):Prop:=match x with
 | .str _=>T="str"
 | .int _=>T="int"
 | .ref p=>(T="list"/\∃xs,aX K H p xs)\/(T="tuple"/\∃o,K.lookup p=some o/\o.cls=.type "tuple"/\o.dict=none)\/
   (T="dict"/\((∃kvs,H p=some (.dK kvs))\/∃kvs,H p=some (.dT kvs)))\/(T="set"/\∃S n,H p=some (.set S n))
 | _=>False
theorem HX {σ:St}(I:Inv X pins σ H s)(r:RelV x v)(ty:tyV X.K T x H):
  s.TypeIs v T/\∀a,v=.ref a->∃ob,s.heap.get? a=some ob/\ob.dict=none:=by
 cases x with
 | str z=>
  obtain ⟨t,rfl⟩:=r
  cases (show T="str" from ty)
  exact ⟨typeIs_str s z t,fun _ e=>nomatch e⟩
 | int i=>
  obtain ⟨t,rfl⟩:=r
  cases (show T="int" from ty)
  exact ⟨typeIs_int s i t,fun _ e=>nomatch e⟩
 | ref p=>
  cases r
  rcases ty with ⟨rfl,xs,hq⟩ | ⟨rfl,o,hk,hc,hd⟩ | ⟨rfl,hk⟩ | ⟨rfl,S,n,hk⟩
  ·obtain ⟨its,_,pl,_⟩:=I.list hq
   refine ⟨pl.isList.typeIs,fun a e=>?_⟩
   cases e
   obtain ⟨o,n,e,c,hd,_⟩:=pl
   exact ⟨o,e,hd⟩
  ·refine ⟨⟨o,I.ji p o hk,hc⟩,fun a e=>?_⟩
   cases e
   exact ⟨o,I.ji _ o hk,hd⟩
  ·have z:∃o,s.heap.get? p=some o/\o.ExactDict:=by
    rcases hk with ⟨kvs,hk⟩ | ⟨kvs,hk⟩
    ·obtain ⟨_,_,_,_,o,_,_,e,ex,_⟩:=I.bH p _ hk
     exact ⟨o,e,ex⟩
    ·obtain ⟨_,_,_,_,o,_,_,e,ex,_⟩:=I.bH p _ hk
     exact ⟨o,e,ex⟩
   obtain ⟨o,e,ex⟩:=z
   refine ⟨⟨o,e,ex.1⟩,fun a e2=>?_⟩
   cases e2
   exact ⟨o,e,ex.2.1⟩
  ·obtain ⟨o,_,_,_,e,ex,_⟩:=I.bH p _ hk
   refine ⟨⟨o,e,ex.1⟩,fun a e2=>?_⟩
   cases e2
   exact ⟨o,e,ex.2.1⟩
 | _=>exact False.elim ty
def tBM (K:Frag)(T:String)(r:V->List V->Hp->VK->Prop)(to:TE)(t:TA):TE:=fun σ H Q=>to σ H fun x H1=>tyV K T x H1/\t σ H1 fun xs H2=>r x xs H2 Q
variable {o e:Expr}{es:Α}{to:TE}{t:TA}{name:Str}{apos cH:Pos}{T id:String}{r:V->List V->Hp->VK->Prop}
theorem ja (pa:PlainAttrs T)(slot:Slot T name id)(hty:typeOf (.builtin id)=pure (.type "method_descriptor"))(hm:MtR X id r)(ho:PE X o to)(ha:PA X (e::es) t)
  (iz:attributeBase o name X.env (eval o X.env)=eval o X.env:=by rfl)
  (aaP:((backTo cH (starEach (e::es) X.env)).all (fun x=> !x.1) && (backToKw cH (keywordEach [] X.env)).all (fun x=>x.1.isSome)
   && decide ((e::es).length+([]:List Keyword).length+(if ([]:List Keyword).isEmpty then 0 else 1) < 30))=true:=by rfl)
  (iA:(apos.endLine==cH.line)=true:=by rfl) (hs:starEach (e::es) X.env=(false,eval e X.env)::starEach es X.env:=by rfl) (P9:(backTo cH (starEach es X.env)).any (·.1)=false:=by rfl):
  PE X (.Call (.Attribute o name apos) (e::es) [] cH) (tBM X.K T r to t):=by
 intro pins s σ H Q I h
 refine wpAny_Call_method_late iz aaP iA rfl (cq (ho pins s σ H _ I h) fun v s1 ⟨x,H1,I1,r1,ty,q1⟩=>?_)
 obtain ⟨h1,h2⟩:=HX I1 r1 ty
 refine ⟨T,id,pa,slot,hty,h1,h2,?_⟩
 have hA:=ha cH pins s1 σ H1 _ I1 q1
 rw [hs] at hA ⊢
 refine Calls.callWith_builtin (by show (false || (backTo cH (starEach es X.env)).any (·.1))=false;rw [P9] <;> rfl) (Calls.evalArgs_plain ?_)
 exact cq hA fun us s2 ⟨vs,H2,I2,r2,q2⟩=>hm pins s2 σ H2 x vs v us Q I2 r1 r2 q2
end
end L2
namespace L2
open PySem PySem.Spec PyProof.Rows
def MtM (X:Cx)(id:String)(r:V->List V->Hp->VK->Prop):Prop:=
 ∀(pins:ε) (s:Shared) (σ:St) (H:Hp) (x:V) (xs:η) (v:Value) (us:π) (Q:VK),Inv X pins σ H s->RelV x v->Vals xs us->r x xs H Q->
  wpAny (model X.prog X.w) X.A (call (.builtin id) (v::us)) (EP X pins σ Q) X.xe s
theorem Vals.one:∀{x:V} {us:π},Vals [x] us->∃u,us=[u]/\RelV x u
 | _,_,.cons r .nil=>⟨_,rfl,r⟩
theorem Vals.eraseIdx:∀{xs:η} {us:π} (i:Nat),Vals xs us->Vals (xs.eraseIdx i) (us.eraseIdx i)
 | _,_,_,.nil=>.nil
 | _,_,0,.cons _ t=>t
 | _,_,i+1,.cons r t=>.cons r (Vals.eraseIdx i t)
theorem Vals.rep {xs:η}{us:π}(h:Vals xs us):∀k:Nat,Vals (aaJ k xs).flatten (aaJ k us).flatten
 | 0=>.nil
 | k+1=>by
  rw [ach,ach,adf,adf]
  exact Vals.append h (Vals.rep h k)
theorem rJ {α:Type}:∀(l:List α) (i:Nat),(l.eraseIdx i).length<=l.length
 | [],_=>aac _
 | _::_,0=>aik _
 | _::r,i+1=>Nat.succ_le_succ (rJ r i)
theorem foldl_rep (its:π):∀(k:Nat) (acc:π),
  aji (fun x1 x2=>x1++x2) acc.toArray (aaJ k its.toArray)=(acc++(aaJ k its).flatten).toArray
 | 0,acc=>by simp
 | k+1,acc=>by
  have e:acc.toArray++its.toArray=(acc++its).toArray:=by simp
  have e2:(acc++its)++(aaJ k its).flatten=acc++(aaJ (k+1) its).flatten:=by
   rw [ach,adf,abK]
  rw [<- e2, <- foldl_rep its k (acc++its), <- e,ach,List.foldl_cons]
section
variable {X:Cx}{pins:ε}{σ:St}{H:Hp}{s:Shared}{l b:Addr}{xs ys zs:η}
theorem Inv.Mc {its its' :π}(I:Inv X pins σ H s)(hH:H l=some (.lst xs))
  (e:s.heap.get? l=some {cls:=.type "list",data:=.seq its.toArray n}) (hf:f its.toArray=its'.toArray) (hv:Vals ys its') (hz:ys.length<=sizeLine):
  Inv X pins σ (upd H l (.lst ys)) {s with heap:=s.heap.update l (Obj.mapSeq f),toks:=t' }:=by
 have q:=PySem.IsL.update e f
 rw [hf] at q
 refine I.write (x:=l) (e:=l) (by rw [hH];exact trivial) (.inl rfl) (fun b' u hb hu=>(Heap.get?_update_other s.heap (Obj.mapSeq f) (aba hb)).trans hu) ⟨_,q⟩ ?_
 exact ⟨hz,its',_,hv,q⟩
theorem Inv.P_ {its:π}(I:Inv X pins σ H s)(hv:Vals ys its)(hz:ys.length<=sizeLine):
  Inv X pins σ (upd H s.heap.objs.size (.lst ys)) {s with heap:=s.heap.push {cls:=.type "list",data:=.seq its.toArray},toks:=t' }:=
 I.laid (fun _ _ q=>Heap.get?_push_of_some _ q) (aac _) ⟨hz,its,0,hv,Heap.get?_push_size _ rfl⟩
theorem Inv.fresh (I:Inv X pins σ H s):H s.heap.objs.size=none:=I.bH.fresh (aac _)
theorem Inv.jF (I:Inv X pins σ H s)(hH:H l=some (.lst xs)):xs.length<=sizeLine/\∃(its:π) (n:Nat),Vals xs its/\xs.length=its.length/\s.heap.get? l=some {cls:=.type "list",data:=.seq its.toArray n}:=by
 obtain ⟨z,its,n,r,e⟩:=I.bH l _ hH
 exact ⟨z,its,n,r,r.length,e⟩
theorem ou (h:n<=sizeLine):Builtin.List.listTooLong n=false:=by
 unfold Builtin.List.listTooLong
 exact decide_eq_false (by omega)
end
section
variable {X:Cx}
inductive zg (x:V)(vs:η)(H:Hp)(Q:VK):Prop where
 | mk (l xs y:_) (_:x=.ref l) (_:vs=[y]) (_:H l=some (.lst xs)) (_:xs.length < sizeLine) (_:Q .cw (upd H l (.lst (xs++[y])))):zg x vs H Q
theorem eO:MtM X "list.append" zg:=by
 intro pins s σ H x vs v us Q I rx rv h
 obtain ⟨l,xs,y,rfl,rfl,hH,hz,q⟩:=h
 cases rx
 obtain ⟨u,rfl,ru⟩:=rv.one
 obtain ⟨z,its,n,r,hl,e⟩:=I.jF hH
 refine call_meets F.slot_list_append ⟨_,e,rfl⟩ F.entry_list_append (F.args_list_append_2 _ _) (PySem.list_append l its.toArray n u (by rw [aaq];omega)) ⟨e,?_⟩
 refine ⟨.cw,_,I.Mc (its' :=its++[u]) hH e (by simp) (r.append (.cons ru .nil)) ?_,rfl,q⟩
 rw [aan,List.length_singleton]
 omega
inductive zh (x:V)(vs:η)(H:Hp)(Q:VK):Prop where
 | mk (l b xs zs:_) (_:x=.ref l) (_:vs=[.ref b]) (_:H l=some (.lst xs)) (_:H b=some (.lst zs)) (_:xs.length+zs.length<=sizeLine) (_:Q .cw (upd H l (.lst (xs++zs)))):zh x vs H Q
theorem BS:MtM X "list.extend" zh:=by
 intro pins s σ H x vs v us Q I rx rv h
 obtain ⟨l,b,xs,zs,rfl,rfl,hH,hB,hz,q⟩:=h
 cases rx
 obtain ⟨u,rfl,ru⟩:=rv.one
 cases ru
 obtain ⟨z,its,n,r,hl,e⟩:=I.jF hH
 obtain ⟨z2,dj,n2,r2,xi,e2⟩:=I.jF hB
 have hsz:its.toArray.size+dj.toArray.size<=sizeLine:=by rw [aaq,aaq];omega
 have vj:¬ (!its.toArray.isEmpty && Builtin.List.listTooLong (its.toArray.size+dj.toArray.size))=true:=by
  rw [ou hsz,adg]
  exact aam
 refine call_meets F.slot_list_extend ⟨_,e,rfl⟩ F.entry_list_extend (F.args_list_extend_2 _ _)
  (AutoSeq1.list_extend_list_list_0 l its.toArray n b dj.toArray n2 vj (by rw [aaq];omega) (by omega)) ⟨e,e2,?_⟩
 refine ⟨.cw,_,I.Mc (its' :=its++dj) hH e (by simp) (r.append r2) ?_,rfl,q⟩
 rw [aan]
 omega
def Qa:V->List V->Hp->VK->Prop:=fun x vs H Q=>∃l xs i k y,x=.ref l/\vs=[.int i]/\H l=some (.lst xs)/\ -(2^63)<=i/\i < 2^63/\seqIndex? i xs.length=some k/\xs[k]? =some y/\Q y (upd H l (.lst (xs.eraseIdx k)))
theorem vk:MtM X "list.pop" Qa:=by
 intro pins s σ H x vs v us Q I rx rv h
 obtain ⟨l,xs,i,k,y,rfl,rfl,hH,h1,h2,hk,hy,q⟩:=h
 cases rx
 obtain ⟨u,rfl,ru⟩:=rv.one
 obtain ⟨t,rfl⟩:=ru
 obtain ⟨z,its,n,r,hl,e⟩:=I.jF hH
 obtain ⟨w,hw,mZ⟩:=r.get hy
 refine call_meets F.slot_list_pop ⟨_,e,rfl⟩ F.entry_list_pop (F.args_list_pop_2 _ _)
  (MeetsSeq.list_pop_at l its.toArray n i t k w (fitsIndex_both h1 h2) (by rw [aaq, <- hl];exact hk) (by rw [<- acD];exact hw) (by rw [aaq];omega)) ⟨e,?_⟩
 refine ⟨y,_,I.Mc (its' :=its.eraseIdx k) hH e ?_ (r.eraseIdx k) ?_,mZ,q⟩
 ·show its.toArray.eraseIdxIfInBounds k=(its.eraseIdx k).toArray
  rw [List.eraseIdxIfInBounds_toArray]
 ·have:=rJ xs k
  omega
inductive T3 (x:V)(y:V)(H:Hp)(Q:VK):Prop where
 | mk (l b xs zs:_) (_:x=.ref l) (_:y=.ref b) (_:H l=some (.lst xs)) (_:H b=some (.lst zs)) (_:xs.length+zs.length<=sizeLine) (_:∀p,H p=none->Q (.ref p) (upd H p (.lst (xs++zs)))):T3 x y H Q
theorem xG:jx X (binaryOp .Add) T3:=by
 intro pins s σ H x y v u Q I rx ry h
 obtain ⟨l,b,xs,zs,rfl,rfl,hH,hB,hz,q⟩:=h
 cases rx
 cases ry
 obtain ⟨z,its,n,r,hl,e⟩:=I.jF hH
 obtain ⟨z2,dj,n2,r2,xi,e2⟩:=I.jF hB
 refine PySem.P.add_list e e2 ?_ (by rw [aaq,aaq];omega)
 have ea:its.toArray++dj.toArray=(its++dj).toArray:=by simp
 rw [ea]
 exact ⟨.ref _,_,I.P_ (t' :=s.toks) (r.append r2) (by rw [aan];omega),rfl,q _ I.fresh⟩
inductive T6 (x:V)(y:V)(H:Hp)(Q:VK):Prop where
 | mk (l k xs:_) (_:x=.ref l) (_:y=.int k) (_:H l=some (.lst xs)) (_: -(2^63)<=k) (_:k < 2^63) (_:xs.length*k.toNat<=sizeLine) (_:∀p,H p=none->Q (.ref p) (upd H p (.lst (aaJ k.toNat xs).flatten))):T6 x y H Q
theorem len_rep {α:Type}(xs:List α)(k:Nat):(aaJ k xs).flatten.length=k*xs.length:=by
 induction k with
 | zero=>simp
 | succ k ih=>rw [ach,adf,aan,ih,Nat.succ_mul,aiu]
theorem HY:jx X (binaryOp .Mult) T6:=by
 intro pins s σ H x y v u Q I rx ry h
 obtain ⟨l,k,xs,rfl,rfl,hH,h1,h2,hz,q⟩:=h
 cases rx
 obtain ⟨t,rfl⟩:=ry
 obtain ⟨z,its,n,r,hl,e⟩:=I.jF hH
 have hlen:its.toArray.size*k.toNat<=sizeLine:=by rw [aaq, <- hl];exact hz
 have aaR:¬ its.toArray.size*k.toNat > (2^63 - 1) / 8:=by
  have:(sizeLine:Nat)<=(2^63 - 1) / 8:=by decide
  omega
 have aaS:¬ (!Builtin.List.listFitsIndex k)=true:=by
  rw [fitsIndex_both h1 h2]
  exact aam
 have vj:¬ Builtin.List.listTooLong (its.toArray.size*k.toNat)=true:=by
  rw [ou hlen]
  exact aam
 have Md:aji (fun x1 x2=>x1++x2) #[] (aaJ (if its.toArray.isEmpty=true then 0 else k.toNat) its.toArray)=(aaJ k.toNat its).flatten.toArray:=by
  have f0:∀m:Nat,aji (fun x1 x2=>x1++x2) #[] (aaJ m its.toArray)=(aaJ m its).flatten.toArray:=fun m=>by
   have:=foldl_rep its m []
   rw [acB] at this
   exact this
  rw [f0]
  cases its with
  | nil=>simp
  | cons a r' =>rw [if_neg (by simp)]
 refine wpAny_binaryOp_repeat_ref (T:="list") (U:="int") (by decide) ⟨_,e,rfl⟩ (fun s' =>typeIs_int s' k t) noFill_list_mul F.fills_int_mul F.slot_int_rmul repeat_list F.slot_int_index.lookup
  (call_meets F.slot_int_rmul (typeIs_int s k t) F.entry_int_rmul (F.args_int_rmul_2 _ _) (int___rmul___int_list k t l its.toArray n)
   ⟨e,rfl,⟨_,e,rfl⟩,call_meets F.slot_list_mul ⟨_,e,rfl⟩ F.entry_list_mul (F.args_list_mul_2 _ _) (AutoListH.list___mul___list_int_3 l its.toArray n k t aaS aaR vj) ⟨e,?_⟩⟩)
 rw [Md]
 exact ⟨.ref _,_,I.P_ (t' :=s.toks) (r.rep k.toNat) (by rw [len_rep,aic];exact hz),rfl,q _ I.fresh⟩
end
section
variable {prog:Program}{w:World}{A:Around}{E:γ}{s:Shared}
set_option maxRecDepth 100000 in
end
section
variable {X:Cx}
end
end L2
namespace Att
open PySem PySem.W PySem.Calls PyProof.Rows
theorem mL :∀(ns:ξ) (vs:π),WellAll P h vs (ns.map WData.int)->IntsAre vs ns:=by
 intro ns
 induction ns with
 | nil=>
  intro vs w
  rw [adh] at w
  cases w
  exact .nil
 | cons n ns ih=>
  intro vs w
  rw [aah] at w
  cases w with
  | cons a b=>
   cases a
   exact .cons _ _ (ih _ b)
theorem BU {l:OpenLaw}(hn:l.most=some n){vals:π}
  (Me:l.row.toRowW.claim.pre args=true) (hwl:WellAll P h vals args):
  ∃a vs ns,vals=[Value.ref a]/\args=[WData.list (ns.map WData.int)]/\h.get? a=some {cls:=.type "list",data:=.seq vs.toArray}/\IntsAre vs ns/\ns.length<=n:=by
 have hsh:WShape.hasAll [] args [.list .int]=true:=(pre_splitW Me).1
 have hc:l.pre.holds [] {args:=args}=true:=(pre_splitW Me).2
 obtain ⟨d,r,rfl,h1,h2⟩:=hasAllW_cons hsh
 obtain rfl:=hasAllW_nil h2
 obtain ⟨xs,rfl,h3⟩:=hasW_list h1
 obtain ⟨ns,rfl⟩:=items_int h3
 have hlen:ns.length<=n:=by
  unfold OpenLaw.pre at hc
  have h4:(WTm.not (.lt (.lit (.int (n:Int))) (.len (.arg 0)))).holds [] {args:=[.list (ns.map .int)]}=true:=by
   have h4:=(holds_andW hc).1
   rw [hn] at h4
   exact h4
  have h5:=condW_of h4 (w_not (w_lt w_lit (w_len_list (w_arg rfl))))
  rw [aaa] at h5
  refine air fun q=>?_
  have q' :(n:Int) < ((ns.length:Nat):Int):=by omega
  first
   | (rw [decide_eq_true q'] at h5;exact absurd h5 (by decide))
   | (simp at h5;omega)
 cases hwl with
 | cons w1 w2=>
  cases w2
  cases w1 with
  | list ho HZ=>exact ⟨_,_,ns,rfl,rfl,ho,mL ns _ HZ,hlen⟩
theorem BV (l:OpenLaw)(args:List WData):l.row.toRowW.claim.post args (.bool true) args=true:=
 postW_of (r:=l.row.toRowW) (X:=(true==true))
  (show WShape.has [] (.bool true) .bool=true by first | rfl | decide | simp [WShape.has,WShape.arms,WShape.armsAll])
  (show (WTm.eq .res (.lit (.bool true))).value [] {args:=args,res:=some (.bool true),after:=args}=some (.bool (true==true)) from w_eq_bool (w_res rfl) w_lit) rfl
section
variable {prog:Program}{w:World}{A:Around}{E:γ}{s:Shared}{K:Frag}
end
end Att
namespace L2
open PySem PySem.Spec PyProof.Rows
theorem rK:∀{vs:π} {ns:ξ},IntsAre vs ns->Vals (ns.map V.int) vs
 | _,_,.nil=>.nil
 | _,_,.cons n t h=>.cons ⟨t,rfl⟩ (rK h)
def T7 (H:Hp):Prop:=∀b,H b=none\/∃o xs,H b=some (.cV o (.lst xs))
theorem H_ {K:Frag}{mg mb:ι}{vs:π}{ns:ξ}
  (KX:K.In s₁.heap) (hns:s₁.heap.Ns mainGlobals mg) (hb:s₁.heap.Ns builtinsNs mb) (hbb:∀x:Str,x≠ "__name__"->mb x=bootBuiltins x) (aaU:s₁.heap.NoLimit) (Mf:s₁.heap.NoSeer) (hg:s₁.gens= #[])
  (ha:s₁.heap.get? a=some {cls:=.type "list",data:=.seq vs.toArray}) (hi:IntsAre vs ns) (hl:ns.length<=sizeLine) (hr:cC k callerA)
  (F:∀base:Heap,K.In base->base.Ns mainGlobals mg->cJ P w K mg base CX k fa fd [x] sp) (T8:∀(s:Shared) (u:Value),BindsTo s fd ⟨[u],[]⟩ [(x,u)])
  (qF:∀H:Hp,T7 H->aX K H a (ns.map V.int)->sp [.ref a] H (fun v _=>v=.bl true) fun _ _ _=>False)
  (hCX:∀H e s',CX [] H s₁ (fun _ _ _=>False) e s' ->False):
  codeAny (model P w) callerA (.call (.ref fa) ⟨[.ref a],[]⟩) (fun r s' =>r=.ok (.ret (.bool true))/\OldK s₁.heap s'.heap/\s'.os=s₁.os/\AllBare s'.gens) s₁:=by
 have rv:=rK hi
 have aaV:=hi.length
 have core:∀H:Hp,T7 H->aX K H a (ns.map V.int)->iZ P w H s₁.heap->(∀b,H b≠none->b=a)->(H a≠none->K.lookup a=none)->
   codeAny (model P w) callerA (.call (.ref fa) ⟨[.ref a],[]⟩) (fun r s' =>r=.ok (.ret (.bool true))/\OldK s₁.heap s'.heap/\s'.os=s₁.os/\AllBare s'.gens) s₁:=by
  intro H hO hS bH hA hK
  have sT:∀{b:Addr} {o:Obj},s₁.heap.get? b=some o->H b=none->(sH s₁.heap H).get? b=some o:=fun e n=>GY e n
  have TQ:∀{b:Addr} {o:Obj} {es:Δ} {ep:Nat},s₁.heap.get? b=some o->o.data=.dict es ep->H b=none:=fun {b o es ep} e d=>by
   cases q:H b with
   | none=>rfl
   | some u=>
    have e' :b=a:=hA b (by rw [q];simp)
    subst e'
    rw [ha] at e;cases e
    have d' :Data.seq vs.toArray _=Data.dict es ep:=d
    cases d'
  have Of:∀{b:Addr} {m:ι},s₁.heap.Ns b m->(sH s₁.heap H).Ns b m:=fun {b m} ⟨o,es,ep,e,d,r⟩=>⟨o,es,ep,sT e (TQ e d),d,r⟩
  have hKb:K.In (sH s₁.heap H):=fun b o e=>sT (KX b o e) (by
   cases q:H b with
   | none=>rfl
   | some u=>
    have e' :b=a:=hA b (by rw [q];simp)
    subst e'
    rw [hK (by rw [q];simp)] at e;cases e)
  have hM:Mod K mg (sH s₁.heap H):=⟨hKb,Of hns,⟨mb,Of hb,hbb⟩,let ⟨mc,h1,h2⟩:=aaU;⟨mc,Of h1,h2⟩,
   ⟨let ⟨mc,h1,h2⟩:=Mf.statics;⟨mc,Of h1,h2⟩,let ⟨mc,h1,h2⟩:=Mf.mods;⟨mc,Of h1,h2⟩,let ⟨mc,h1,h2⟩:=Mf.imp;⟨mc,Of h1,h2⟩,
    let ⟨mg',bm,ob,h1,h2,h3,h4,h5⟩:=Mf.main;⟨mg',bm,ob,Of h1,h2,sT h3 (by
     cases q:H bm with
     | none=>rfl
     | some u=>
      have e' :bm=a:=hA bm (by rw [q];simp)
      subst e'
      rw [ha] at h3
      cases h3
      have h4' :Value.type "list"=Value.type "module":=h4
      injection h4' with e9
      exact absurd e9 (by decide)),h4,h5⟩⟩⟩
  have e0:xB P w K mg (sH s₁.heap H) callerA [] s₁ H:=⟨rfl,hM,fun b o e=>LL e,ait (BI _ _),trivial,fun b hb=>absurd (show b∈([]:List Addr) from hb) (by simp),bH,.of_eq hg⟩
  refine codeAny_mono ((F _ hKb (Of hns)).run callerA [] s₁ H ⟨[.ref a],[]⟩ [.ref a] [.ref a] _ _ hr e0 (T8 s₁ (.ref a)) (.cons rfl .nil) (qF H hO hS)) fun r s' h=>?_
  cases r with
  | error e=>exact (hCX H e s' h).elim
  | ok fl=>
   cases fl with
   | next=>exact False.elim h
   | brk=>exact False.elim h
   | cont=>exact False.elim h
   | ret u=>
    obtain ⟨v,H',os,bare,un,aaW,r',q⟩:=h
    have q' :v=.bl true:=q
    subst q'
    obtain rfl:u=Value.bool true:=r'
    refine ⟨rfl,OldK.of_keep fun b o e=>?_,os,bare⟩
    cases q:H b with
    | none=>exact un.keep b o e q (by intro z;exact absurd (show b∈([]:List Addr) from z) (by simp)) (by simp)
    | some u=>
     rcases hO b with z | ⟨ob,xs,z⟩
     ·rw [q] at z;cases z
     ·have z2:=un.qC b ob _ z
      obtain ⟨e1,_⟩:=bH b _ z
      obtain ⟨e2,_⟩:=aaW b _ z2
      rw [e] at e1;cases e1
      exact e2
 cases hk:K.lookup a with
 | some o=>
  have e:=KX a o hk
  rw [ha] at e
  cases e
  refine core (fun _=>none) (fun _=>.inl rfl) (.inr ⟨_,vs.toArray,_,hk,rfl,rfl,rfl,by rw [aaq,aaV];exact hl,by simpa using rv⟩) (fun b u z=>by have z' :(none:Option HO)=some u:=z;cases z') (fun b z=>absurd rfl z) fun z=>absurd rfl z
 | none=>
  refine core (fun b=>if b=a then some (.cV {cls:=.type "list",data:=.seq vs.toArray} (.lst (ns.map V.int))) else none) (fun b=>?_) (.inl (.inr ⟨{cls:=.type "list",data:=.seq vs.toArray},if_pos rfl⟩)) (fun b u z=>?_) (fun b z=>?_) fun _=>hk
  ·by_cases hb:b=a
   ·exact .inr ⟨_,_,if_pos hb⟩
   ·exact .inl (if_neg hb)
  ·by_cases hb:b=a
   ·have z' :=(if_pos hb).symm.trans z
    cases z'
    subst hb
    exact ⟨ha,by rw [aaa];exact hl,vs,_,rv,ha⟩
   ·have z' :=(if_neg hb).symm.trans z
    cases z'
  ·by_cases hb:b=a
   ·exact hb
   ·exact absurd (if_neg hb) z
end L2
namespace L2
open PySem PySem.Spec PyProof.Rows
abbrev KOf {K:Frag}{h:Heap}(_:K.In h):Frag:=K
end L2
namespace L2
open PySem PySem.Spec PyProof.Rows
def inClass (s:Stmt)(j:Nat):Stmt:=match s with
 | .ClassDef _ _ _ body _ _ _ _ _ _ _=>body.getD j (.Pass ⟨0,0,0,0⟩)
 | _=>.Pass ⟨0,0,0,0⟩
def aA (s:Stmt):Arguments:=match s with
 | .FunctionDef _ a _ _ _ _ _ _ _ _=>a
 | _=>{posonlyargs:=[],args:=[],vararg:=none,kwonlyargs:=[],kw_defaults:=[],kwarg:=none,defaults:=[]}
def ay (s:Stmt):List Stmt:=match s with
 | .FunctionDef _ _ b _ _ _ _ _ _ _=>b
 | _=>[]
def ag (s:Stmt):Scope:=match s with
 | .FunctionDef _ _ _ _ _ _ sc _ _ _=>sc
 | _=>{kind:=.function,names:=[],isGenerator:=false,isCoroutine:=false}
abbrev E0:XK:=fun _ _ _=>False
structure m8 (K:Frag)(x qual:Str)(st:Stmt)(f:Addr)(fd:FuncData):Prop where
 ex:∃(oc:Value) (od:Ι) (kV doc pm:Value) (an:Ι) (bJ ct:Value) (mK:Κ),
  fd=fnOf x qual (aA st) (ay st) (ag st) .none kV doc pm an bJ ct/\K.lookup f=some ⟨oc,od,.func fd,mK⟩/\codeIn K bJ qual=true
 kp:keepIn K (.ref f)=true
section
variable {P:Program}{w:World}{K:Frag}{mg:ι}{base:Heap}
theorem m8.binds {st:Stmt}(F:m8 K x qual st f fd)
  (h:∀(kV doc pm:Value) (an:Ι) (bJ ct:Value) (us:π),us.length=ps.length->bindArgs (fnOf x qual (aA st) (ay st) (ag st) .none kV doc pm an bJ ct) ⟨us,[]⟩=pure (ps.zip us)):Binds K fd ps []:=by
 obtain ⟨oc,od,kV,doc,pm,an,bJ,ct,mK,rfl,lk,qD⟩:=F.ex
 exact .all (h kV doc pm an bJ ct)
theorem cX {st:Stmt}{od an:Ι}{mK:Κ}{kV doc pm bJ ct:Value}(l:K.lookup f=some ⟨oc,od,.func (fnOf x qual (aA st) (ay st) (ag st) .none kV doc pm an bJ ct),mK⟩)
  (c:codeIn K bJ qual=true) (k:keepIn K (.ref f)=true):m8 K x qual st f (fnOf x qual (aA st) (ay st) (ag st) .none kV doc pm an bJ ct):=⟨⟨oc,od,kV,doc,pm,an,bJ,ct,mK,rfl,l,c⟩,k⟩
end
theorem bU (hr:cC k A):A.units+1 < cLine:=aaj (Nat.add_le_add_left (by decide:1<=64) _) hr.units
section
variable {X:Cx}
theorem pv (i:Nat){pos:Pos}(hN:X.N[i]? =some x:=by rfl)(hv:Vis X.env.scope x:=by first | exact aad rfl | exact abj (aad rfl) | exact abj (abj rfl))(hd:(x==("__debug__":Str))=false:=by decide)
  (qD:(x==("__classdict__":Str))=false:=by decide):PE X (.Name x pos) (LP i):=PH hN hv hd qD
end
theorem Qb {A B:Prop}(h:B):if false=true then A else B:=by
 rw [if_neg aam]
 exact h
theorem bq {c A B:Prop}[Decidable c](h1:c->A)(h2:¬ c->B):if c then A else B:=by
 by_cases h:c
 ·rw [if_pos h]
  exact h1 h
 ·rw [if_neg h]
  exact h2 h
theorem IA {c A B:Prop}[Decidable c](hc:c)(h:B):if (!decide c)=true then A else B:=by
 rw [decide_eq_true hc]
 exact Qb h
def au (H H' :Hp):Prop:=∀b o,H b=some o->H' b=some o
theorem au.refl (H:Hp):au H H:=fun _ _ h=>h
theorem au.trans (a:au H H1)(b:au H1 H2):au H H2:=fun c o h=>b c o (a c o h)
theorem au.free (e:au H H')(h:H' l=aqd):H l=aqd:=by
 cases q:H l with
 | none=>rfl
 | some o=>
  rw [e l o q] at h
  cases h
theorem au.seq {K:Frag}(e:au H H')(h:aX K H a xs):aX K H' a xs:=by
 rcases h with (h | ⟨o,h⟩) | h
 ·exact .inl (.inl (e _ _ h))
 ·exact .inl (.inr ⟨o,e _ _ h⟩)
 ·exact .inr h
end L2
namespace Ty
def gz (t b:Int):Int:=(aby t b:Nat)
def sg (t b:Int):Int:=if b < 0 then -gz t b else gz t b
def low (t b:Int):Int×Int:=(t.fdiv (sg t b),b.fdiv (sg t b))
theorem vm (a b:Int):aby b (a.fmod b)=aby a b:=by
 rw [aiS,Int.gcd_sub_mul_left_right,Int.gcd_comm]
theorem rL {a b:Int}(h:b≠0):(a.fmod b).natAbs < b.natAbs:=by
 rcases ail b 0 with q | q | q
 ·have h1:(-a).fmod (-b)= -(a.fmod b):=by
   rw [aiS,aiS,Int.neg_fdiv_neg,Int.neg_mul]
   omega
  have h2:=acx (-a) (show 0 < -b by omega)
  have h3:=aif (-a) (show 0 < -b by omega)
  omega
 ·exact absurd q h
 ·have h2:=acx a q
  have h3:=aif a q
  omega
theorem sU (h:b≠0):0 < gz t b:=by
 have:=ai'.mpr (abj h:t≠0\/b≠0)
 show (0:Int) < ((aby t b:Nat):Int)
 omega
theorem T9 (h:b≠0):(gz t b).natAbs<=b.natAbs:=by
 have h1:aby t b ∣ b.natAbs:=acE.mpr (aco t b)
 have h2:=Nat.le_of_dvd (by omega) h1
 show ((aby t b:Nat):Int).natAbs<=_
 omega
theorem oy (h:b≠0):sg t b≠0:=by
 have:=sU (t:=t) h
 unfold sg
 split <;> omega
theorem Qc :(sg t b).natAbs=(gz t b).natAbs:=by
 unfold sg
 split
 ·exact ajk _
 ·rfl
theorem vn (t b:Int):sg t b ∣ t:=by
 unfold sg gz
 split
 ·exact Int.neg_dvd.mpr (acs t b)
 ·exact acs t b
theorem sV (t b:Int):sg t b ∣ b:=by
 unfold sg gz
 split
 ·exact Int.neg_dvd.mpr (aco t b)
 ·exact aco t b
theorem cy {a g:Int}(h:g≠0)(d:g ∣ a):a=g*a.fdiv g:=by
 obtain ⟨c,hc⟩:=d
 have:=acH h hc
 rw [this]
 exact hc
theorem m9 (h:b≠0):t=sg t b*(low t b).1:=cy (oy h) (vn t b)
theorem jG (h:b≠0):b=sg t b*(low t b).2:=cy (oy h) (sV t b)
theorem jH (h:b≠0):0 < (low t b).2:=by
 have e:=jG (t:=t) h
 have g:=sU (t:=t) h
 rcases ail (low t b).2 0 with q | q | q
 ·exfalso
  by_cases c:b < 0
  ·have s:sg t b= -gz t b:=by unfold sg;rw [if_pos c]
   rw [s] at e
   have:=Int.mul_pos_of_neg_of_neg (show -gz t b < 0 by omega) q
   omega
  ·have s:sg t b=gz t b:=by unfold sg;rw [if_neg c]
   rw [s] at e
   have:=aij g q
   omega
 ·exfalso
  rw [q,adi] at e
  exact h e
 ·exact q
theorem BW (h:b≠0):(low t b).1*b=t*(low t b).2:=by
 have e1:=m9 (t:=t) h
 have e2:=jG (t:=t) h
 calc (low t b).1*b=(low t b).1*(sg t b*(low t b).2):=by rw [<- e2]
  _=sg t b*(low t b).1*(low t b).2:=by rw [<- ah8,acp (low t b).1]
  _=t*(low t b).2:=by rw [<- e1]
theorem m_ (h:b≠0):aby (low t b).1 (low t b).2=1:=by
 have e1:=m9 (t:=t) h
 have e2:=jG (t:=t) h
 have k:aby t b=(sg t b).natAbs*aby (low t b).1 (low t b).2:=by
  have q:=ai6 (sg t b) (low t b).1 (low t b).2
  rw [<- e1, <- e2] at q
  exact q
 have g:(sg t b).natAbs=aby t b:=by
  rw [Qc]
  rfl
 have p:=ai'.mpr (abj h:t≠0\/b≠0)
 rw [g] at k
 have k' :aby t b*1=aby t b*aby (low t b).1 (low t b).2:=by rw [Nat.mul_one];exact k
 exact (Nat.eq_of_mul_eq_mul_left p k').symm
theorem dO {g a:Int}(h:g≠0):a.natAbs<=(g*a).natAbs:=by
 rw [abW]
 have:1<=g.natAbs:=by omega
 have:=abd a.natAbs this
 omega
theorem oz (h:b≠0):(low t b).1.natAbs<=t.natAbs:=by
 have e:=m9 (t:=t) h
 have:=dO (g:=sg t b) (a:=(low t b).1) (oy h)
 rw [<- e] at this
 exact this
theorem oA (h:b≠0):(low t b).2.natAbs<=b.natAbs:=by
 have e:=jG (t:=t) h
 have:=dO (g:=sg t b) (a:=(low t b).2) (oy h)
 rw [<- e] at this
 exact this
theorem IC (hg:g≠0)(ht:t=g*x)(hb:b=g*y)(hy:0 < y)(h1:aby x y=1):low t b=(x,y):=by
 have hbn:b≠0:=by
  rw [hb]
  exact aja hg (by omega)
 have gg:aby t b=g.natAbs:=by
  rw [ht,hb,ai6,h1,Nat.mul_one]
 have s:sg t b=g:=by
  unfold sg gz
  rw [gg]
  by_cases c:g < 0
  ·have:b < 0:=by rw [hb];exact Int.mul_neg_of_neg_of_pos c hy
   rw [if_pos this]
   omega
  ·have:¬ b < 0:=by
    have:=Int.mul_nonneg (show 0<=g by omega) (show 0<=y by omega)
    omega
   rw [if_neg this]
   omega
 unfold low
 rw [s]
 rw [acH hg ht,acH hg hb]
theorem oB (hy:0 < y)(h:aby x y=1):low x y=(x,y):=IC (g:=1) (by decide) (by omega) (by omega) hy h
theorem rM (hk:k≠0)(h:b≠0):low (k*t) (k*b)=low t b:=by
 refine IC (g:=k*sg t b) (aja hk (oy h)) ?_ ?_ (jH h) (m_ h)
 ·rw [ah8]
  exact congrArg (k*·) (m9 h)
 ·rw [ah8]
  exact congrArg (k*·) (jG h)
theorem qH (hb:b≠0)(hc:c≠0)(h:t*c=u*b):low t b=low u c:=by
 rw [<- rM (t:=t) (b:=b) hc hb, <- rM (t:=u) (b:=c) hb hc]
 rw [acp c t,h,acp u b,acp c b]
end Ty
set_option maxHeartbeats 4000000
namespace Ty
open PySem PySem.Spec PyProof.Rows L2
open Builtin.Int (intBits)
section
variable {X:Cx}
def zi (i j:Int):Prop:=intBits i<=33554432/\intBits j<=33554432
theorem c9:jx X (binaryOp .Mult) (rI zi fun i j=>.int (i*j)):=
 ZM fun _ _ _ _ _ _ _ hc q=>mul_int q (IntMulOk.of_le hc.1 hc.2 (by decide))
def T_ (i j:Int):Prop:=j≠0/\intBits j<=9000
theorem aaX (h:intBits j<=9000):Builtin.divisionGoesByPylong i j=false:=by
 refine PyProof.noPylong_of_log2 ?_
 have h1:=intBits_le_iff.mp h
 by_cases h0:j.natAbs=0
 ·rw [h0]
  decide+kernel
 ·exact (Nat.log2_lt h0).mpr h1
theorem vo:jx X (binaryOp .FloorDiv) (rI T_ fun i j=>.int (i.fdiv j)):=
 ZM fun _ _ _ _ _ _ _ hc q=>floordiv_int hc.1 q (.inl (aaX hc.2))
end
inductive Da where
 | v (x:V)
 | t (ds:List Da)
 | l (ds:List Da)
mutual
def Is (K:Frag)(H:Hp):Da->V->Prop
 | .v x,u=>u=x/\i_ x=true
 | .t ds,u=>∃p xs,u=.ref p/\bT K H p xs/\fw K H ds xs
 | .l ds,u=>∃p xs,u=.ref p/\aX K H p xs/\fw K H ds xs
def fw (K:Frag)(H:Hp):List Da->List V->Prop
 | [],[]=>True
 | d::ds,x::xs=>Is K H d x/\fw K H ds xs
 | _,_=>False
end
mutual
def gc:Da->Da->Bool
 | .v x,.v y=>qv x y
 | .t ds,.t es=>cK ds es
 | .l ds,.l es=>cK ds es
 | _,_=>false
def cK:List Da->List Da->Bool
 | [],[]=>true
 | d::ds,e::es=>gc d e && cK ds es
 | _,_=>false
end
mutual
def alike:Da->Da->Bool
 | .v _,.v _=>true
 | .t ds,.t es=>df ds es
 | .l ds,.l es=>df ds es
 | _,_=>false
def df:List Da->List Da->Bool
 | d::ds,e::es=>alike d e && df ds es
 | _,_=>true
end
mutual
def dep:Da->Nat
 | .v _=>0
 | .t ds=>gd ds+1
 | .l ds=>gd ds+1
def gd:List Da->Nat
 | []=>0
 | d::ds=>max (dep d) (gd ds)
end
theorem fw.length {K:Frag}:∀{ds:List Da} {xs:η},fw K H ds xs->ds.length=xs.length
 | [],[],_=>rfl
 | _::_,_::_,h=>congrArg (·+1) (fw.length (by unfold fw at h;exact h.2))
 | [],_::_,h=>by unfold fw at h;exact h.elim
 | _::_,[],h=>by unfold fw at h;exact h.elim
def iB (ds es:List Da)(j:Nat):Bool:=match ds[j]?,es[j]? with
 | some d,some e=>gc d e
 | _,_=>true
theorem dh:∀ds es:List Da,cK ds es=((abJ (min ds.length es.length)).all (iB ds es) && ds.length==es.length)
 | [],[]=>rfl
 | [],_::_=>by simp [cK]
 | _::_,[]=>by simp [cK]
 | d::ds,e::es=>by
  have ih:=dh ds es
  have r:min (d::ds).length (e::es).length=min ds.length es.length+1:=by simp [Nat.succ_min_succ]
  rw [r,aiv,ah7,List.all_map]
  have b0:iB (d::ds) (e::es) 0=gc d e:=rfl
  have b1:(iB (d::ds) (e::es) ∘ Nat.succ)=iB ds es:=by
   funext j
   rfl
  have l1:((d::ds).length==(e::es).length)=(ds.length==es.length):=by simp
  rw [b0,b1,l1,Bool.and_assoc, <- ih]
  rfl
section
variable {X:Cx}{pins:ε}{σ:L2.St}{H:Hp}{s:Shared}
theorem vp (h:i_ x=true):qv x x=true:=by
 cases x <;> first | rfl | (simp [qv];done) | (cases h;done)
mutual
theorem sW (I:Inv X pins σ H s):∀(d e:Da) (x:V),Is X.K H d x->Is X.K H e x->alike d e=true->gc d e=true
 | .v a,.v b,x,h1,h2,_=>by
  unfold Is at h1 h2
  obtain ⟨rfl,f⟩:=h1
  obtain ⟨rfl,_⟩:=h2
  unfold gc
  exact vp f
 | .t ds,.t es,x,h1,h2,a=>by
  unfold Is at h1 h2
  obtain ⟨p,xs,rfl,q1,k1⟩:=h1
  obtain ⟨p',ys,e',q2,k2⟩:=h2
  cases e'
  cases I.gu q1 q2
  unfold gc
  unfold alike at a
  exact oC I ds es xs k1 k2 a
 | .l ds,.l es,x,h1,h2,a=>by
  unfold Is at h1 h2
  obtain ⟨p,xs,rfl,q1,k1⟩:=h1
  obtain ⟨p',ys,e',q2,k2⟩:=h2
  cases e'
  cases I.iw q1 q2
  unfold gc
  unfold alike at a
  exact oC I ds es xs k1 k2 a
 | .v _,.t _,_,_,_,a=>by unfold alike at a;cases a
 | .v _,.l _,_,_,_,a=>by unfold alike at a;cases a
 | .t _,.v _,_,_,_,a=>by unfold alike at a;cases a
 | .t _,.l _,_,_,_,a=>by unfold alike at a;cases a
 | .l _,.v _,_,_,_,a=>by unfold alike at a;cases a
 | .l _,.t _,_,_,_,a=>by unfold alike at a;cases a
theorem oC (I:Inv X pins σ H s):∀(ds es:List Da) (xs:η),fw X.K H ds xs->fw X.K H es xs->df ds es=true->cK ds es=true
 | [],[],_,_,_,_=>by unfold cK;rfl
 | d::ds,e::es,x::xs,h1,h2,a=>by
  unfold fw at h1 h2
  unfold df at a
  rw [abE] at a
  unfold cK
  rw [sW I d e x h1.1 h2.1 a.1,oC I ds es xs h1.2 h2.2 a.2]
  rfl
 | [],_::_,[],_,h2,_=>by unfold fw at h2;exact h2.elim
 | [],_::_,_::_,h1,_,_=>by unfold fw at h1;exact h1.elim
 | _::_,[],[],h1,_,_=>by unfold fw at h1;exact h1.elim
 | _::_,[],_::_,_,h2,_=>by unfold fw at h2;exact h2.elim
 | _::_,_::_,[],h1,_,_=>by unfold fw at h1;exact h1.elim
end
theorem in1_units (A:Around):A.in1.units=A.units+1:=rfl
mutual
theorem zk (I:Inv X pins σ H s):∀(d e:Da) (x y:V) (u w:Value) (A:Around),Is X.K H d x->Is X.K H e y->alike d e=true->RelV x u->RelV y w->A.units+dep d < cLine->SeqAt.EqAt A s u w (gc d e)
 | .v a,.v b,x,y,u,w,A,h1,h2,_,r1,r2,_=>by
  unfold Is at h1 h2
  obtain ⟨rfl,f1⟩:=h1
  obtain ⟨rfl,f2⟩:=h2
  unfold gc
  exact HV r1 r2 f1 f2
 | .t ds,.t es,x,y,u,w,A,h1,h2,a,r1,r2,hu=>by
  have dN :=h1
  have ZP :=h2
  unfold Is at h1 h2
  obtain ⟨p,xs,rfl,q1,k1⟩:=h1
  obtain ⟨p',ys,rfl,q2,k2⟩:=h2
  cases r1
  cases r2
  by_cases e:p=p'
  ·subst e
   rw [sW I _ _ _ dN ZP a]
   exact .same _
  ·refine .of_refs e ?_
   obtain ⟨its,v1,t1,_⟩:=I.tuple q1
   obtain ⟨dj,v2,t2,_⟩:=I.tuple q2
   unfold gc
   rw [dh,k1.length,k2.length,v1.length,v2.length]
   have z:=SeqAt.RcAt.tuples (A:=A) (e:=iB ds es) t1 t2 (by unfold dep at hu;omega) fun j g1 g2=>by
    unfold dep at hu
    unfold alike at a
    exact fM I ds es xs ys its dj A.in1 k1 k2 a v1 v2 (by rw [in1_units];omega) j (by simpa using g1) (by simpa using g2)
   simpa using z
 | .l ds,.l es,x,y,u,w,A,h1,h2,a,r1,r2,hu=>by
  have dN :=h1
  have ZP :=h2
  unfold Is at h1 h2
  obtain ⟨p,xs,rfl,q1,k1⟩:=h1
  obtain ⟨p',ys,rfl,q2,k2⟩:=h2
  cases r1
  cases r2
  by_cases e:p=p'
  ·subst e
   rw [sW I _ _ _ dN ZP a]
   exact .same _
  ·refine .of_refs e ?_
   obtain ⟨its,v1,t1,_⟩:=I.list q1
   obtain ⟨dj,v2,t2,_⟩:=I.list q2
   unfold gc
   unfold dep at hu
   unfold alike at a
   by_cases el:its.length=dj.length
   ·rw [dh,k1.length,k2.length,v1.length,v2.length]
    have z:=SeqAt.RcAt.lists (A:=A) (e:=iB ds es) t1.isList t2.isList (by simpa using el) (by omega) fun j g1 g2=>
     fM I ds es xs ys its dj A.in1 k1 k2 a v1 v2 (by rw [in1_units];omega) j (by simpa using g1) (by simpa using g2)
    rw [el,aiT,beq_self_eq_true,aiq]
    rw [aaq,el] at z
    exact z
   ·have ne:cK ds es=false:=by
     rw [dh,k1.length,k2.length,v1.length,v2.length,beq_eq_false_iff_ne.mpr el,adg]
    rw [ne]
    exact SeqAt.RcAt.lists_lengths t1.isList t2.isList (by simpa using el) (by omega)
 | .v _,.t _,_,_,_,_,_,_,_,a,_,_,_=>by unfold alike at a;cases a
 | .v _,.l _,_,_,_,_,_,_,_,a,_,_,_=>by unfold alike at a;cases a
 | .t _,.v _,_,_,_,_,_,_,_,a,_,_,_=>by unfold alike at a;cases a
 | .t _,.l _,_,_,_,_,_,_,_,a,_,_,_=>by unfold alike at a;cases a
 | .l _,.v _,_,_,_,_,_,_,_,a,_,_,_=>by unfold alike at a;cases a
 | .l _,.t _,_,_,_,_,_,_,_,a,_,_,_=>by unfold alike at a;cases a
theorem fM (I:Inv X pins σ H s):∀(ds es:List Da) (xs ys:η) (us ws:π) (A:Around),fw X.K H ds xs->fw X.K H es ys->df ds es=true->Vals xs us->Vals ys ws->A.units+gd ds < cLine->
  ∀(j:Nat) (h1:j < us.length) (h2:j < ws.length),SeqAt.EqAt A s us[j] ws[j] (iB ds es j)
 | d::ds,e::es,x::xs,y::ys,u::us,w::ws,A,k1,k2,a,.cons r1 v1,.cons r2 v2,hu,0,_,_=>by
  unfold fw at k1 k2
  unfold df at a
  rw [abE] at a
  unfold gd at hu
  exact zk I d e x y u w A k1.1 k2.1 a.1 r1 r2 (by omega)
 | d::ds,e::es,x::xs,y::ys,u::us,w::ws,A,k1,k2,a,.cons r1 v1,.cons r2 v2,hu,j+1,h1,h2=>by
  unfold fw at k1 k2
  unfold df at a
  rw [abE] at a
  unfold gd at hu
  exact fM I ds es xs ys us ws A k1.2 k2.2 a.2 v1 v2 (by omega) j (by simpa using h1) (by simpa using h2)
 | [],_,[],_,_,_,_,_,_,_,.nil,_,_,_,h1,_=>absurd h1 (acf _)
 | _,[],_,[],_,_,_,_,_,_,_,.nil,_,_,_,h2=>absurd h2 (acf _)
 | [],_,_::_,_,_,_,_,k1,_,_,_,_,_,_,_,_=>by unfold fw at k1;exact k1.elim
 | _::_,_,[],_,_,_,_,k1,_,_,_,_,_,_,_,_=>by unfold fw at k1;exact k1.elim
 | _,[],_,_::_,_,_,_,_,k2,_,_,_,_,_,_,_=>by unfold fw at k2;exact k2.elim
 | _,_::_,_,[],_,_,_,_,k2,_,_,_,_,_,_,_=>by unfold fw at k2;exact k2.elim
end
end
section
variable {X:Cx}
inductive Og (K:Frag)(x:V)(y:V)(H:Hp)(Q:VK):Prop where
 | mk (ds es:_) (_:((Is K H (.t ds) x/\Is K H (.t es) y)\/(Is K H (.l ds) x/\Is K H (.l es) y))) (_:df ds es=true) (_:gd ds<=60) (_:Q (.bl (cK ds es)) H):Og K x y H Q
inductive zl (K:Frag)(x:V)(y:V)(H:Hp)(Q:VK):Prop where
 | mk (ds es:_) (_:((Is K H (.t ds) x/\Is K H (.t es) y)\/(Is K H (.l ds) x/\Is K H (.l es) y))) (_:df ds es=true) (_:gd ds<=60) (_:Q (.bl (!cK ds es)) H):zl K x y H Q
theorem nc (hu:X.A.units+64 < cLine):jx X (compareOp .Eq) (Og X.K):=by
 intro pins s σ H x y v u Q I rx ry h
 obtain ⟨ds,es,h,a,hd,q⟩:=h
 rcases h with ⟨h1,h2⟩ | ⟨h1,h2⟩
 ·unfold Is at h1 h2
  obtain ⟨p,xs,rfl,q1,k1⟩:=h1
  obtain ⟨p',ys,rfl,q2,k2⟩:=h2
  cases rx
  cases ry
  obtain ⟨its,v1,t1,_⟩:=I.tuple q1
  obtain ⟨dj,v2,t2,_⟩:=I.tuple q2
  have z:=SeqAt.RcAt.tuples (A:=X.A) (e:=iB ds es) t1 t2 (by omega) fun j g1 g2=>
   fM I ds es xs ys its dj X.A.in1 k1 k2 a v1 v2 (by rw [in1_units];omega) j (by simpa using g1) (by simpa using g2)
  refine z X.prog X.w X.xe _ ⟨.bl _,H,I,rfl,?_⟩
  have e:=dh ds es
  rw [k1.length,k2.length,v1.length,v2.length] at e
  simpa [e] using q
 ·unfold Is at h1 h2
  obtain ⟨p,xs,rfl,q1,k1⟩:=h1
  obtain ⟨p',ys,rfl,q2,k2⟩:=h2
  cases rx
  cases ry
  obtain ⟨its,v1,t1,_⟩:=I.list q1
  obtain ⟨dj,v2,t2,_⟩:=I.list q2
  have e:=dh ds es
  rw [k1.length,k2.length,v1.length,v2.length] at e
  by_cases el:its.length=dj.length
  ·have z:=SeqAt.RcAt.lists (A:=X.A) (e:=iB ds es) t1.isList t2.isList (by simpa using el) (by omega) fun j g1 g2=>
    fM I ds es xs ys its dj X.A.in1 k1 k2 a v1 v2 (by rw [in1_units];omega) j (by simpa using g1) (by simpa using g2)
   refine z X.prog X.w X.xe _ ⟨.bl _,H,I,rfl,?_⟩
   rw [el,aiT,beq_self_eq_true,aiq] at e
   simpa [e,el] using q
  ·have ne:cK ds es=false:=by rw [e,beq_eq_false_iff_ne.mpr el,adg]
   rw [ne] at q
   exact SeqAt.RcAt.lists_lengths t1.isList t2.isList (by simpa using el) (by omega) X.prog X.w X.xe _ ⟨.bl _,H,I,rfl,q⟩
theorem ng (hu:X.A.units+64 < cLine):jx X (compareOp .NotEq) (zl X.K):=by
 intro pins s σ H x y v u Q I rx ry h
 obtain ⟨ds,es,h,a,hd,q⟩:=h
 rcases h with ⟨h1,h2⟩ | ⟨h1,h2⟩
 ·unfold Is at h1 h2
  obtain ⟨p,xs,rfl,q1,k1⟩:=h1
  obtain ⟨p',ys,rfl,q2,k2⟩:=h2
  cases rx
  cases ry
  obtain ⟨its,v1,t1,_⟩:=I.tuple q1
  obtain ⟨dj,v2,t2,_⟩:=I.tuple q2
  have z:=SeqAt.RcNeAt.tuples (A:=X.A) (e:=iB ds es) t1 t2 (by omega) fun j g1 g2=>
   fM I ds es xs ys its dj X.A.in1 k1 k2 a v1 v2 (by rw [in1_units];omega) j (by simpa using g1) (by simpa using g2)
  refine z X.prog X.w X.xe _ ⟨.bl _,H,I,rfl,?_⟩
  have e:=dh ds es
  rw [k1.length,k2.length,v1.length,v2.length] at e
  simpa [e] using q
 ·unfold Is at h1 h2
  obtain ⟨p,xs,rfl,q1,k1⟩:=h1
  obtain ⟨p',ys,rfl,q2,k2⟩:=h2
  cases rx
  cases ry
  obtain ⟨its,v1,t1,_⟩:=I.list q1
  obtain ⟨dj,v2,t2,_⟩:=I.list q2
  have e:=dh ds es
  rw [k1.length,k2.length,v1.length,v2.length] at e
  by_cases el:its.length=dj.length
  ·have z:=SeqAt.RcNeAt.lists (A:=X.A) (e:=iB ds es) t1.isList t2.isList (by simpa using el) (by omega) fun j g1 g2=>
    fM I ds es xs ys its dj X.A.in1 k1 k2 a v1 v2 (by rw [in1_units];omega) j (by simpa using g1) (by simpa using g2)
   refine z X.prog X.w X.xe _ ⟨.bl _,H,I,rfl,?_⟩
   rw [el,aiT,beq_self_eq_true,aiq] at e
   simpa [e,el] using q
  ·have ne:cK ds es=false:=by rw [e,beq_eq_false_iff_ne.mpr el,adg]
   rw [ne] at q
   exact SeqAt.RcNeAt.lists_lengths t1.isList t2.isList (by simpa using el) (by omega) X.prog X.w X.xe _ ⟨.bl _,H,I,rfl,q⟩
def Qd:V->Value
 | .ty n=>.type n
 | .ref a=>.ref a
 | _=>.none
def Oh:V->Bool
 | .ty _=>true
 | .ref _=>true
 | _=>false
theorem zo (h:Oh c=true)(r:RelV c u):u=Qd c:=by
 cases c <;> first | exact r | (cases h;done)
inductive Ua (K:Frag)(xs:η)(H:Hp)(Q:VK):Prop where
 | mk (x c t b:_) (_:xs=[x,c]) (_:Oh c=true) (_:kD K H x t) (_:PySem.W.kitOne K t (Qd c)=some b) (_:Q (.bl b) H):Ua K xs H Q
theorem ff:fe X (.builtin "isinstance") (Ua X.K):=by
 intro pins s σ H xs us Q I r h
 obtain ⟨x,c,t,b,rfl,hc,ty,e,q⟩:=h
 obtain ⟨u,w,rfl,r1,r2⟩:=vals2 r
 obtain rfl:=zo hc r2
 exact BP I r1 ty e fun tk=>⟨.bl b,H,I.tok tk,rfl,q⟩
end
section
variable {K:Frag}
theorem ID (h:((Value.type a==Value.type b)=true->v=true)/\((Value.type a==Value.type b)=false->PySem.W.kitMeta b=true/\(fastBuiltinMro a).map (·.contains (Value.type b))=some v)):PySem.W.kitOne K (.type a) (.type b)=some v:=by
 unfold PySem.W.kitOne
 by_cases e:(Value.type a==Value.type b)=true
 ·rw [if_pos e,h.1 e]
 ·rw [if_neg e]
  obtain ⟨h1,h2⟩:=h.2 (by simpa using e)
  unfold PySem.W.kitCls
  dsimp only
  rw [if_pos h1]
  exact h2
end
theorem bZ:bootBuiltins "len"=some (.builtin "len"):=by decide+kernel
theorem Oi:bootBuiltins "abs"=some (.builtin "abs"):=by decide+kernel
theorem bO:bootBuiltins "isinstance"=some (.builtin "isinstance"):=by decide+kernel
theorem IE:bootBuiltins "all"=some (.builtin "all"):=by decide+kernel
theorem zp:bootBuiltins "int"=some (.type "int"):=by decide+kernel
theorem IF:bootBuiltins "bool"=some (.type "bool"):=by decide+kernel
theorem Ub:bootBuiltins "str"=some (.type "str"):=by decide+kernel
theorem fN:bootBuiltins "list"=some (.type "list"):=by decide+kernel
theorem sX:bootBuiltins "tuple"=some (.type "tuple"):=by decide+kernel
theorem xH:bootBuiltins "dict"=some (.type "dict"):=by decide+kernel
theorem iC {pos:Pos}(hg:Gl X x)(hm:X.mg x=none)(hv:bootBuiltins x=some (.type n))(hn:x≠ "__name__":=by decide)(hd:(x==("__debug__":Str))=false:=by decide):PE X (.Name x pos) (tC (.ty n)):=LQ (v:=.ty n) hg hm hv rfl hn hd
def Qe (_ j:Int):Prop:=j≠0
theorem nz (h:j≠0):Qe i j:=h
theorem fY :jx X (binaryOp .Mod) (rI Qe fun i j=>.int (i.fmod j)):=LV
theorem Mg :gd [.v a,.v b]<=60:=by simp [gd,dep]
end Ty
set_option maxHeartbeats 4000000
namespace TyAtt
open PySem PySem.W PySem.Calls PyProof.Rows
open Builtin.Int (intBits)
theorem BX {ns:ξ}(h:(WData.list (ns.map WData.int)).layable=true)(hn:n∈ns):intBits n<=1048576:=by
 obtain ⟨_,_,hw⟩:=layableW_iff.mp h
 have a:∀(l:ξ),n∈l->intBits n<=WData.weightAll (l.map WData.int):=by
  intro l
  induction l with
  | nil=>intro q;cases q
  | cons y r ih=>
   intro q
   rw [aah]
   unfold WData.weightAll
   rcases aaQ.mp q with z | z
   ·subst z
    have:intBits n<=WData.weight (.int n):=by
     unfold WData.weight
     exact aac _
    omega
   ·have:=ih z
    omega
 have b:=a ns hn
 unfold WData.weight at hw
 omega
theorem vq {l:OpenLaw}{loose:ρ}
  (hn:l.most=some n) (hdf:d.params.defaults=[])
  (call:∀(w:World) (s₀ s₁:Shared) (mg mb:ι) (fa:Addr) (o:Obj) (pm cd doc:Value) (a:Addr) (vs:π) (ns:ξ),
   Ground q loose [] XP w s₀ mg mb s₁.heap->YP w s₁.heap->
   s₁.heap.get? fa=some o->o.data=.func (docDef d.name d.params d.body d.scope pm cd doc)->s₁.heap.CodeRec cd d.name->mg d.name=some (.ref fa)->
   s₁.heap.get? a=some {cls:=.type "list",data:=.seq vs.toArray}->IntsAre vs ns->ns.length<=n->(∀i∈ns,intBits i<=1048576)->s₁.gens= #[]->
   codeAny (model l.prog w) callerA (.call (.ref fa) ⟨[.ref a],[]⟩) (fun r s' =>r=.ok (.ret (.bool true))/\OldK s₁.heap s'.heap/\s'.os=s₁.os/\AllBare s'.gens) s₁):
  WalkO q loose XP YP l.row.toRowW d [] (fun f vs=>PySem.call f vs):=by
 intro w s₀ s₁ mg mb G Y fa o pm cd doc dV kV ho hd qD hD Uc hg args vals as Me hlay hrd hwl hlo
 obtain rfl:dV=.none:=Dflts.none hD hdf
 obtain rfl:kV=.none:=Dflts.noKw hD
 obtain ⟨a,vs,ns,rfl,rfl,Qf,hints,hlen⟩:=Att.BU hn Me hwl
 have hb:∀i∈ns,intBits i<=1048576:=fun i hi=>BX (layW_cons hlay).1 hi
 refine enter_call (codeAny_mono (call w s₀ s₁ mg mb fa o pm cd doc a vs ns G Y ho (fd_plain hd) qD Uc Qf hints hlen hb hg) fun r s' hq=>?_)
 obtain ⟨rfl,h2,h3,h4⟩:=hq
 exact ⟨.inl ⟨.bool true,.bool true,[],rfl,fun _=>rfl,.bool true,Att.BV l _,fun _=>⟨List.Pairwise.nil,fun _ hm=>(nomatch hm)⟩⟩,h2,h3,h4⟩
end TyAtt
namespace Ty
open PySem PySem.Spec PyProof.Rows L2
open Builtin.Int (intBits)
structure Fn (P:Program)(w:World)(K:Frag)(mg:ι)(base:Heap)(CX:ku)(k:Nat)(x:Str)(ps:ρ)(sp:Sp):Prop where
 ex:∃(f:Addr) (fd:FuncData),cJ P w K mg base CX k f fd ps sp/\Binds K fd ps []/\mg x=some (.ref f)/\keepIn K (.ref f)=true
structure Def (K:Frag)(mg:ι)(x:Str)(st:Stmt)(ps:ρ):Prop where
 ex:∃(f:Addr) (dV oc:Value) (od:Ι) (kV doc pm:Value) (an:Ι) (bJ ct:Value) (mK:Κ),
  K.lookup f=some ⟨oc,od,.func (fnOf x x (aA st) (ay st) (ag st) dV kV doc pm an bJ ct),mK⟩/\codeIn K bJ x=true/\keepIn K (.ref f)=true/\
  Binds K (fnOf x x (aA st) (ay st) (ag st) dV kV doc pm an bJ ct) ps []/\mg x=some (.ref f)
theorem Def.of {K:Frag}{st:Stmt}(F:m8 K x x st f fd)(b:Binds K fd ps [])(m:mg x=some (.ref f)):Def K mg x st ps:=by
 obtain ⟨oc,od,kV,doc,pm,an,bJ,ct,mK,rfl,lk,qD⟩:=F.ex
 exact ⟨f,.none,oc,od,kV,doc,pm,an,bJ,ct,mK,lk,qD,F.kp,b,m⟩
section
variable {P:Program}{w:World}{K:Frag}{mg:ι}{base:Heap}{CX:ku}
theorem Def.ok {st:Stmt}(D:Def K mg x st ps)(S:aE N ps (ag st))(len:∀vs H Q E,sp vs H Q E->vs.length=ps.length)
  (jC:∀(f:Addr) (bJ:Value) (A:Around) (outer:List Env) (s:Shared) (H:Hp) (vs:η) (Q:VK) (E:XK),cC k (A.deeper (envOfC x (ag st) s.heap.objs.size f bJ))->sp vs H Q E->
   ∃t,PSs (mJ CX P w K mg base N x (ag st) f bJ A outer s H E).yX (ay st) t/\t {nx:=fun _ H' =>Q .cw H',rt:=Q} (start N vs) H):Fn P w K mg base CX (k+1) x ps sp:=by
 obtain ⟨f,dV,oc,od,kV,doc,pm,an,bJ,ct,mK,lk,qD,kp,b,m⟩:=D.ex
 refine ⟨f,_,zc lk qD S len fun A outer s H vs Q E hr qF=>?_,b,m,kp⟩
 obtain ⟨t,h,q⟩:=jC f bJ A outer s H vs Q E hr qF
 exact ⟨t,h.yX,q⟩
theorem _root_.L2.m8.okG {st:Stmt}(F:m8 K x x st f fd)(S:aE N ps (ag st))(len:∀vs H Q E,sp vs H Q E->vs.length=ps.length)
  (jC:∀(bJ:Value) (A:Around) (outer:List Env) (s:Shared) (H:Hp) (vs:η) (Q:VK) (E:XK),cC k (A.deeper (envOfC x (ag st) s.heap.objs.size f bJ))->sp vs H Q E->
   ∃t,PSs (mJ CX P w K mg base N x (ag st) f bJ A outer s H E).yX (ay st) t/\t {nx:=fun _ H' =>Q .cw H',rt:=Q} (start N vs) H):cJ P w K mg base CX (k+1) f fd ps sp:=by
 obtain ⟨oc,od,kV,doc,pm,an,bJ,ct,mK,rfl,lk,qD⟩:=F.ex
 refine zc lk qD S len fun A outer s H vs Q E hr qF=>?_
 obtain ⟨t,h,q⟩:=jC bJ A outer s H vs Q E hr qF
 exact ⟨t,h.yX,q⟩
def vt (CX:ku):Prop:=∀outer H s e s',CX outer H s E0 e s' ->False
theorem vv {X:Cx}(h:vt CX):Passes CX X.yX E0:=fun _ _ _ _ _ _ _ q=>(h _ _ _ _ _ q).elim
section
variable {X:Cx}{k:Nat}{ps:ρ}{sp:Sp}{E:XK}{x:Str}{p pos:Pos}{e:Expr}{es:Α}{t:TA}
theorem aC (F:Fn X.prog X.w X.K X.mg X.base CX k x ps sp)(hr:cC k X.A)(hx:Passes CX X E)(ha:PA X (e::es) t)(hg:Gl X x:=by rfl)(BQ:(x==("__debug__":Str))=false:=by decide)
  (he:starEach (e::es) X.env=(false,eval e X.env)::starEach es X.env:=by rfl) (y_:(backTo pos (starEach es X.env)).any (·.1)=false:=by rfl):PE X (.Call (.Name x p) (e::es) [] pos) (Ob sp [] E t):=by
 obtain ⟨f,fd,G,b,m,kp⟩:=F.ex
 exact L6 G hr hg m kp b .nil hx ha BQ he y_
end
end
def IG (K:Frag):Sp:=fun vs H Q _=>∃(a:Addr) (ns:ξ),vs=[.ref a]/\aX K H a (ns.map V.int)/\ns.length<=63/\(∀i∈ns,intBits i<=1048576)/\∀H',Q (.bl true) H'
theorem walk {l:PySem.W.OpenLaw}{loose:ρ}{K:Params->Frag}{CX:World->ku}
  (hn:l.most=some 63) (hdf:d.params.defaults=[]) (hi:importsNone q=true) (hr:cC k callerA)
  (hY:∀(w:World) (h:Heap),YP w h->(K w.params).In h) (hm:∀w,vt (CX w))
  (F:∀(w:World) (mg:ι) (fa:Addr) (h:Heap),(K w.params).In h->h.Ns mainGlobals mg->mg d.name=some (.ref fa)->
   ∃fd:FuncData,(∀(s:Shared) (u:Value),BindsTo s fd ⟨[u],[]⟩ [(x,u)])/\
    ∀base:Heap,(K w.params).In base->base.Ns mainGlobals mg->cJ l.prog w (K w.params) mg base (CX w) k fa fd [x] (IG (K w.params))):
  PySem.W.WalkO q loose XP YP l.row.toRowW d [] (fun f vs=>PySem.call f vs):=by
 refine TyAtt.vq hn hdf fun w s₀ s₁ mg mb fa o pm cd doc a vs ns G Y ho hd qD Uc Qf hints hlen hb hg=>?_
 have KX:=hY w _ Y
 obtain ⟨fd,hbd,hF⟩:=F w mg fa _ KX G.T.g Uc
 exact H_ KX G.T.g G.T.b G.T.builtins G.T.nolimit (G.T.seer hi) hg Qf hints (aaf hlen (by decide)) hr hF hbd (fun H hO hS=>⟨a,ns,rfl,hS,hlen,hb,fun _=>rfl⟩) fun H e s' =>hm w [] H s₁ e s'
end Ty
set_option maxHeartbeats 4000000
namespace Ty
open PySem PySem.Spec PyProof.Rows
end Ty
set_option maxHeartbeats 4000000
namespace Ty
open PySem PySem.Spec PyProof.Rows L2
def DictAt (h:Heap)(a:Addr)(dx:Ι):Prop:=∃o,h.get? a=some o/\o.dict=dx
def a_ (P:Program)(w:World):ku:=fun outer H s E e s' =>∃(a:Addr) (cls a0:Value) (dx:Ι) (H' :Hp) (B:Heap),
 e=.ref a/\Heap.FlyingW B outer a cls a0 s'.heap/\DictAt s'.heap a dx/\Un (yU outer) [] H H' s.heap s'.heap/\iZ P w H' s'.heap/\s'.os=s.os/\AllBare s'.gens/\
 (∀b o,s.heap.get? b=some o->b∉yU outer->∃o',B.get? b=some o')/\(∀b u,H' b=some u->∃o,B.get? b=some o)/\E cls dx H'
theorem a_.mM :vt (a_ P w):=fun _ _ _ _ _ h=>by obtain ⟨_,_,_,_,_,_,_,_,_,_,_,_,_,_,_,z⟩:=h;exact z
section
variable {P:Program}{w:World}{K:Frag}{mg:ι}{base:Heap}{N:ρ}{qual:Str}{scope:Scope}{f:Addr}{bJ:Value}{A:Around}{outer:List Env}{s0:Shared}{H0:Hp}{E:XK}
abbrev cxr (P:Program)(w:World)(K:Frag)(mg:ι)(base:Heap)(N:ρ)(qual:Str)(scope:Scope)(f:Addr)(bJ:Value)(A:Around)(outer:List Env)(s0:Shared)(H0:Hp)(E:XK):Cx:=mJ (a_ P w) P w K mg base N qual scope f bJ A outer s0 H0 E
end
section
variable {X:Cx}{pins:ε}{σ:L2.St}{H H' :Hp}{s:Shared}
def XP (X:Cx)(pins:ε)(σ:L2.St)(E:XK)(e:Value)(s' :Shared):Prop:=∃H s,Inv X pins σ H s/\a_ X.prog X.w X.stack H s E e s'
end
end Ty
set_option maxHeartbeats 4000000
namespace TyExc
open PySem PySem.W PySem.Calls PyProof.Rows Builtin Builtin.ObjectAttr Builtin.Getset_descriptor
section
variable {prog:Program}{w:World}{A:Around}{E:γ}{K:Frag}{h:Heap}{g:Array GenState}{d:Drawn}{t:Nat}{os:OsState}{a C:Addr}{o:Obj}
end
end TyExc
set_option maxHeartbeats 4000000
namespace Ty
open PySem PySem.Spec PyProof.Rows L2
section
variable {X:Cx}
end
end Ty
set_option maxHeartbeats 4000000
namespace TyExc
open PySem PySem.W PySem.Calls PyProof.Rows Builtin Builtin.ObjectAttr Builtin.Getset_descriptor
section
variable {prog:Program}{w:World}{A:Around}{E:γ}{K:Frag}{h:Heap}{g:Array GenState}{d:Drawn}{t:Nat}{os:OsState}{a C:Addr}{o:Obj}{od:Option Obj}{name:Str}{v:Value}
end
end TyExc
set_option maxHeartbeats 4000000
namespace TyExc
open PySem PySem.W PySem.Calls PyProof.Rows Builtin Builtin.ObjectAttr
section
variable {prog:Program}{w:World}{A:Around}{E:γ}{K:Frag}{s:Shared}{x C:Addr}{ox:Obj}{od:Option Obj}{name:Str}{v:Value}{cd:ClassData}
end
end TyExc
set_option maxHeartbeats 400000
namespace TyExc
open PySem PySem.W PySem.Calls PyProof.Rows Builtin
section
variable {prog:Program}{w:World}{A:Around}{K:Frag}{h:Heap}{g:Array GenState}{d:Drawn}{t:Nat}{os:OsState}{e C:Addr}{oe:Obj}{vs:Μ}{args:π}{E:γ}
end
end TyExc
set_option maxHeartbeats 400000
namespace TyExc
open PySem PySem.W PySem.Calls PyProof.Rows Builtin
section
variable {prog:Program}{w:World}{A:Around}{K:Frag}{h:Heap}{g:Array GenState}{d:Drawn}{t:Nat}{os:OsState}{nm q:Str}{C N f:Addr}{bs bm bmB:π}{aaZ:Bool}{sn:ρ}{sub:π}{ab:Bool}{col:Option Bool}{dd:Ι}{k0 k1 k2 k3 k5:Option Value}{B newId aa0:String}{rest:π}{E:γ}
end
end TyExc
set_option maxHeartbeats 400000
namespace TyExc
open PySem PySem.W PySem.Calls PyProof.Rows Builtin
section
variable {M:Model}{A:Around}{E:γ}{env:Env}{nm q:Str}{C N:Addr}{bs bm:π}{aaZ:Bool}{sn:ρ}{sub:π}{ab:Bool}{col:Option Bool}{dd:Ι}{k0 k1 k2 k3 k5:Option Value}{newId:String}{s:Shared}{x:Sem Value}{Q:Flow->Shared->Prop}
end
end TyExc
set_option maxHeartbeats 400000
namespace TyExc
open PySem PySem.W
end TyExc
namespace Ty
open PySem PySem.Spec PyProof.Rows L2
section
variable {P:Program}{w:World}{H:Hp}{h:Heap}{C a:Addr}{dx:Ι}
end
section
variable {X:Cx}
end
end Ty
set_option maxHeartbeats 1000000
namespace Ty
open PySem PySem.Spec PyProof.Rows L2
section
variable {P:Program}{w:World}{K:Frag}{mg:ι}{base:Heap}{N:ρ}{qual:Str}{scope:Scope}{f:Addr}{bJ:Value}{A:Around}{outer:List Env}{s0:Shared}{H0:Hp}{E:XK}
end
section
variable {prog:Program}{w:World}{A:Around}{R:Τ}{s:Shared}
theorem sY {ifs:Α}(I:Nat->Shared->Prop)
  (turn:∀n s,I n s->wpAny (model prog w) A (pyNext it) (fun r s₁=>match r with
   | none=>R (.ok .next) s₁
   | some v=>wpAny (model prog w) A (letOwnedTupleGo target it v) (fun _ s₁' =>wpAny (model prog w) A (assign target env v) (fun _ s₂=>
     wpAny (model prog w) A (forIn ifs true fun c r=>if r=true then do let ok <- isTrue c env (eval c env);pure (ForInStep.yield ok) else pure (ForInStep.yield r)) (fun ok s₃=>
      if ok=true then wpAny (model prog w) A (eval elt env) (fun x s₄=>
       wpAny (model prog w) A (call (.builtin "list.append") [acc,x]) (fun _ s₅=>∃m,m < n/\I m s₅) (fun _ _=>False) s₄) (fun _ _=>False) s₃
      else ∃m,m < n/\I m s₃) (fun _ _=>False) s₂) (fun _ _=>False) s₁') (fun _ _=>False) s₁) (fun _ _=>False) s)
  (n:Nat) (h:I n s):
  codeAny (model prog w) A (.compLoop (.ListComp elt [⟨target,iter,ifs,0⟩] scope pos) 0 it acc env) R s:=by
 refine codeAny_loop rfl I (fun n s hI=>?_) n h
 show wpAny _ A ((compTurn (.ListComp elt [⟨target,iter,ifs,0⟩] scope pos) 0 it acc env).onRaise (fun x=>do noteFrame x env;theTreesLotGoes x)) _ _ s
 refine wpAny_noted ?_
 rw [compTurn_list]
 refine wpAny_bind (wpAny_standAt (wpAny_bind (wpAny_mono (turn n s hI) (fun r s₁ h₁=>?_) fun _ _ h' =>h'.elim)))
 cases r with
 | none=>exact wpAny_pure h₁
 | some v=>
  refine wpAny_bind (wpAny_mono h₁ (fun _ s₁' h₁' =>?_) fun _ _ h' =>h'.elim)
  refine wpAny_bind (wpAny_mono h₁' (fun _ s₂ h₂=>wpAny_bind (wpAny_mono h₂ (fun ok s₃ h₃=>?_) fun _ _ h' =>h'.elim)) fun _ _ h' =>h'.elim)
  cases ok with
  | false=>exact wpAny_pure ⟨rfl,h₃⟩
  | true=>
   exact wpAny_bind (wpAny_bind (wpAny_mono h₃ (fun x s₄ h₄=>wpAny_bind (wpAny_mono h₄ (fun _ s₅ h₅=>wpAny_pure (wpAny_pure ⟨rfl,h₅⟩)) fun _ _ h' =>h'.elim)) fun _ _ h' =>h'.elim))
end
def bG (env:Env)(fr:ρ):List (Str×Addr):=fr.filterMap fun n=>(env.cells.lookup n).map fun c=>(n,c)
theorem lookup_mem {α:Type}{c:α}:∀{l:List (Str×α)},l.lookup x=some c->(x,c)∈l
 | [],h=>by simp at h
 | (y,d)::r,h=>by
  rw [acS] at h
  cases e:x==y with
  | true=>
   rw [e] at h
   have e1:x=y:=by simpa using e
   cases h
   rw [e1]
   exact aak
  | false=>
   rw [e] at h
   exact aae _ (lookup_mem h)
theorem BY (h:(x,c)∈bG env fr):env.cells.lookup x=some c:=by
 obtain ⟨n,_,e⟩:=aie.mp h
 cases q:env.cells.lookup n with
 | none=>rw [q] at e;cases e
 | some d=>
  rw [q] at e
  have e' :(n,d)=(x,c):=aao e
  cases e'
  exact q
theorem fF (h:(bG env fr).lookup x=some c):env.cells.lookup x=some c:=BY (lookup_mem h)
theorem kF (q:env.cells.lookup x=some c):∀{fr:ρ},x∈fr->(bG env fr).lookup x=some c
 | [],h=>nomatch h
 | y::r,h=>by
  unfold bG
  rw [acV]
  by_cases e:x=y
  ·subst e
   rw [q]
   simp
  ·have hr:x∈r:=by
    rcases aaQ.mp h with z | z
    ·exact absurd z e
    ·exact z
   have ih:=kF q hr
   cases z:env.cells.lookup y with
   | none=>exact ih
   | some d=>
    show ab' x ((y,d)::_)=_
    rw [acS]
    have ne:(x==y)=false:=by simpa using e
    rw [ne]
    exact ih
def gf (env:Env):List Str->Prop
 | []=>True
 | y::r=>(env.kindOf y=some .cell\/env.kindOf y=some .free)/\gf env r
theorem gf.at :∀{fr:ρ},gf env fr->x∈fr->env.kindOf x=some .cell\/env.kindOf x=some .free
 | [],_,h=>nomatch h
 | y::r,a,h=>by
  rcases aaQ.mp h with z | z
  ·rw [z]
   exact a.1
  ·exact gf.at a.2 z
section
variable {X:Cx}
def sZ (X:Cx)(NB:ρ)(scope:Scope)(fn:Str->Bool)(cl:List (Str×Addr))(C:Addr)(s:Shared)(H:Hp)(fp:ω):Cx:=
 {prog:=X.prog,w:=X.w,K:=X.K,mg:=X.mg,base:=X.base,A:=X.A,N:=NB,s₀:=s,H₀:=H,env:=compEnvC scope cl C X.env,outer:=X.stack,stack:=X.stack,ex:=fp,fn:=fn,calm:=X.calm,pn:=[],xe:=fun _ _=>False}
abbrev SH (X:Cx)(NB:ρ)(scope:Scope)(cl:List (Str×Addr))(C:Addr)(s:Shared)(H:Hp)(fp:ω):Cx:=sZ X NB scope (fun _=>false) cl C s H fp
structure IH (X:Cx)(scope:Scope)(ow:Addr->List (Str×Addr))(fn:Str->Bool)(fr:ρ)(caps:Ρ):Prop where
 BZ:closureFor scope X.env=pure (bG X.env fr)
 kind:scope.kind=.function
 names:∀y∈scope.names,y.2=.local->scope.names.lookup y.1=some .local
 free:∀y∈scope.names,y.2=.free->y.1∈fr
 caps:caps.map (fun i=>X.N[i]?)=fr.map some
 out:gf X.env fr
 Ud:gf (compEnvC scope [] 0 X.env) fr
 new:∀{s:Shared} {Q:Env->Shared->Prop} {E:γ},(∀h',h'.Ns s.heap.objs.size (fun _=>none)->(∀b o,s.heap.get? b=some o->h'.get? b=some o)->(∀x c,(ow s.heap.objs.size).lookup x=some c->h'.IsCell c none)->
   Q (newEnv scope s.heap.objs.size X.env.globals (ow s.heap.objs.size++bG X.env fr) X.env.qual none .none (some X.env) builtinsNs) {s with heap:=h',toks:=s.toks+([]:List (Str×Value)).length})->
  wpAny (model X.prog X.w) X.A (newFunctionEnv scope X.env.globals (bG X.env fr) [] X.env.qual none .none (some X.env)) Q E s
 ge:∀C x c,(ow C).lookup x=some c->C < c
 one:∀C x z c,(ow C).lookup x=some c->(ow C).lookup z=some c->x=z
 fn1:∀C x,fn x=true->(ow C).lookup x≠none
 only:∀z∈scope.names,z.2=.cell->fn z.1=true
 ny:∀C,∀x∈fr,(ow C).lookup x=none
theorem rN {o cl:List (Str×Addr)}(h:(o++cl).lookup x=some c):o.lookup x=some c\/(o.lookup x=none/\cl.lookup x=some c):=by
 rw [aih] at h
 cases e:o.lookup x with
 | none=>rw [e] at h;exact .inr ⟨rfl,h⟩
 | some d=>rw [e] at h;exact .inl h
structure Mh (X:Cx)(scope:Scope)(fr:ρ)(caps:Ρ):Prop where
 BZ:closureFor scope X.env=pure (bG X.env fr)
 cell:∀y∈scope.names,y.2≠.cell
 kind:scope.kind=.function
 names:∀y∈scope.names,y.2=.local->scope.names.lookup y.1=some .local
 free:∀y∈scope.names,y.2=.free->y.1∈fr
 caps:caps.map (fun i=>X.N[i]?)=fr.map some
 out:gf X.env fr
 Ud:gf (compEnvC scope [] 0 X.env) fr
def PF (X:Cx)(ifs:Α)(t:TT):Prop:=
 ∀(pins:ε) (s:Shared) (σ:L2.St) (H:Hp) (Q:Bool->Hp->Prop),Inv X pins σ H s->t σ H Q->
  wpAny (model X.prog X.w) X.A (forIn ifs true fun c r=>if r=true then do let ok <- isTrue c X.env (eval c X.env);pure (ForInStep.yield ok) else pure (ForInStep.yield r)) (TP X pins σ Q) X.xe s
def jn:TT:=fun _ H Q=>Q true H
theorem cY:PF X [] jn:=fun _ _ _ H _ I h=>wpAny_tests_nil ⟨H,I,h⟩
theorem II (h:PT X c t):PF X [c] t:=fun pins s σ H Q I q=>wpAny_tests_one (h pins s σ H Q I q)
def sB (k:Nat)(caps:Ρ)(σ:L2.St):L2.St:=aaJ k none++caps.map fun i=>(σ[i]?).getD none
def jI (D:Addr)(g:TG)(tt:TT)(te:TE)(J:It)(σ0:L2.St)(H1:Hp)(Q:VK):Prop:=∃W:Nat->Nat->L2.St->List V->Hp->Prop,
 (∃m,W 0 m σ0 [] (upd H1 D (.lst [])))/\∀i m σ2 ys H2,W i m σ2 ys H2->(J.stop i H2/\Q (.ref D) H2)\/(J.go i H2/\∀x H3,J.GN i H2 x H3->g x σ2 H3 fun σ4 H4=>tt σ4 H4 fun b H5=>
  if b=true then te σ4 H5 fun v H6=>H6 D=some (.lst ys)/\ys.length < sizeLine/\∃m',m' < m/\W (i+1) m' σ4 (ys++[v]) (upd H6 D (.lst (ys++[v]))) else ∃m',m' < m/\W (i+1) m' σ4 ys H5)
def vw (k:Nat)(caps:Ρ)(wi:TI)(g:TG)(tt:TT)(te:TE):TE:=fun σ H Q=>wi σ H fun J H1=>∀D,H1 D=none->jI D g tt te J (sB k caps σ) H1 Q
theorem Qg (h:(sB k caps σ)[i]? =some (some v)):k<=i/\∃j,caps[i - k]? =some j/\σ[j]? =some (some v):=by
 unfold sB at h
 by_cases c:i < k
 ·rw [aap (by simpa using c),ac_,if_pos c] at h
  cases h
 ·rw [aaY (by simpa using air c),acm,Wp] at h
  refine ⟨air c,?_⟩
  cases e:caps[i - k]? with
  | none=>rw [e] at h;cases h
  | some j=>
   rw [e] at h
   refine ⟨j,rfl,?_⟩
   have h' :(σ[j]?).getD none=some v:=aao h
   cases z:σ[j]? with
   | none=>rw [z] at h';cases h'
   | some o=>
    rw [z] at h'
    exact congrArg some h'
theorem oE {σ:L2.St}
    {RR:Value->Addr->Result->Shared->Prop} {E:γ} (hc:X.calm=true) (B:IH X scope ow fn fr caps)
  (hg:∀C s H fp,PG (sZ X (tn++fr) scope fn (ow C++bG X.env fr) C s H fp) target g) (ht:∀C s H fp,PF (sZ X (tn++fr) scope fn (ow C++bG X.env fr) C s H fp) ifs tt) (he:∀C s H fp,PE (sZ X (tn++fr) scope fn (ow C++bG X.env fr) C s H fp) elt te)
  (I2:Inv X pins σ H2 s2) (T:Turn X.prog X.w X.K target J fp it Oj) (kr:Oj 0 s2.heap) (f2:∀b∈fp,kA X pins H2 b) (q:∀D,H2 D=none->jI D g tt te J (sB tn.length caps σ) H2 Q)
  (fin:∀D C H' s' m,Inv X pins σ H' s' ->s'.heap.Ns C m->kA X pins H' C->Q (.ref D) H' ->RR (.ref D) C (.ok .next) s'):
  wpAny (model X.prog X.w) X.A (newList []) (fun acc s₃=>wpAny (model X.prog X.w) X.A (newFunctionEnv scope X.env.globals (bG X.env fr) [] X.env.qual none .none (some X.env)) (fun Ue s₄=>
   codeAny (model X.prog X.w) X.A (.compStart (.ListComp elt [⟨target,iter,ifs,0⟩] scope pos) 0 (.ref it) acc {Ue with scope:=relabel scope X.env}) (RR acc Ue.locals) s₄) E s₃) E s2:=by
 refine wpAny_newObj_type (B.new (fun h₁ Qh hk₁ hc₁=>?_))
 have I3:Inv X pins σ (upd H2 s2.heap.objs.size (.lst [])) {s2 with heap:=s2.heap.push {cls:=.type "list",data:=.seq ([]:List Value).toArray}}:=I2.P_ (t' :=s2.toks) (its:=[]) .nil (abc _)
 obtain ⟨W,⟨m0,w0⟩,turn⟩:=q s2.heap.objs.size (I2.bH.fresh (aac _))
 generalize hH3:upd H2 s2.heap.objs.size (.lst [])=H3 at I3 w0
 have f3:∀b∈fp,kA X pins H3 b:=fun b hb=>by
  obtain ⟨a0,a1⟩:=f2 b hb
  refine ⟨?_,a1⟩
  obtain ⟨o,e,_⟩:=T.obj _ _ kr b hb
  rw [<- hH3,ao (aa_ (Heap.lt_size e))]
  exact a0
 generalize hD:s2.heap.objs.size=D at*
 generalize ZQ:({s2 with heap:=s2.heap.push {cls:=.type "list",data:=.seq ([]:List Value).toArray}}:Shared)=s3 at*
 have e3:s3.heap=s2.heap.push {cls:=.type "list",data:=.seq ([]:List Value).toArray}:=by rw [<- ZQ]
 have xh:Oj 0 s3.heap:=T.keep _ _ _ kr fun b _ o e=>by rw [e3];exact Heap.get?_push_of_some _ e
 have kept:∀b o,s3.heap.get? b=some o->h₁.get? b=some o:=fun b o e=>hk₁ b o e
 generalize hC:s3.heap.objs.size=C at*
 have Ug:s3.heap.objs.size<=C:=ait hC
 have I4:Inv X pins σ H3 {s3 with heap:=h₁,toks:=s3.toks+([]:List (Str×Value)).length}:=I3.kept kept
 have fpC:∀b∈fp,b≠C:=fun b hb z=>by
  obtain ⟨o,e,_⟩:=T.obj _ _ xh b hb
  exact absurd z (aa_ (aaO (Heap.lt_size e) Ug))
 have nst:∀b∈fp,b∉yU X.stack:=fun b hb z=>(aaQ.mp (I3.xo b z)).elim (f3 b hb).2.1 (f3 b hb).2.2.1
 have old:∀x c,(bG X.env fr).lookup x=some c->c < C:=fun x c e=>by
  obtain ⟨v,ic⟩:=I3.cell x c (fF e)
  rw [<- hC]
  exact ic.lt
 have aa1:∀x z c,(ow C++bG X.env fr).lookup x=some c->(ow C++bG X.env fr).lookup z=some c->x=z:=fun x z c e1 e2=>by
  rcases rN e1 with b1 | ⟨_,b1⟩ <;> rcases rN e2 with b2 | ⟨_,b2⟩
  ·exact B.one _ _ _ _ b1 b2
  ·exact absurd (old z c b2) (Nat.lt_asymm (B.ge _ _ _ b1))
  ·exact absurd (old x c b1) (Nat.lt_asymm (B.ge _ _ _ b2))
  ·exact I3.ok.inj x z c (fF b1) (fF b2)
 have aa2:∀x c,fn x=true->(ow C++bG X.env fr).lookup x=some c->s3.heap.objs.size<=c:=fun x c hx e=>by
  rcases rN e with b1 | ⟨a1,b1⟩
  ·exact aaf (ait hC) (ab7 (B.ge _ _ _ b1))
  ·exact absurd a1 (B.fn1 C x hx)
 have nfp:∀b∈fp,∀x c,(ow C++bG X.env fr).lookup x=some c->c≠b:=fun b hb x c e=>by
  rcases rN e with b1 | ⟨a1,b1⟩
  ·obtain ⟨o,eo,_⟩:=T.obj _ _ xh b hb
   have:=Heap.lt_size eo
   rw [hC] at this
   exact aba (aa_ (aiw this (B.ge _ _ _ b1)))
  ·exact (f3 b hb).2.2.2.2.1 x c (fF b1)
 have Uh:∀{x:Str} {c:Addr},x∈fr->(bG X.env fr).lookup x=some c->(ow C++bG X.env fr).lookup x=some c:=fun {x c} hx e=>by
  rw [aih,B.ny C x hx]
  exact e
 have okB:(sZ X (tn++fr) scope fn (ow C++bG X.env fr) C s3 H3 fp).Ok:=by
  refine ⟨I3.ok.mod,B.kind,I3.ok.glob,I3.ok.blt,Ug,aa1,fun x hx=>?_,aa2,I3.ok.hd,I3.ok.frames,.inl rfl,
   fun b hb=>⟨fpC b hb,fun x c e=>nfp b hb x c e⟩,I3.bs,aaf I3.ok.LN I3.sz,fun b o e hb=>?_,nst,I3.stack,I3.yV⟩
  ·have hm:∃k,(x,k)∈scope.names/\k≠.local/\(k=.cell\/k=.free):=by
    have:∃k',(relabel scope X.env).names.lookup x=some k' /\(k' =.cell\/k' =.free):=by
     rcases hx with z | z
     ·exact ⟨_,z,.inl rfl⟩
     ·exact ⟨_,z,.inr rfl⟩
    obtain ⟨k',e',h'⟩:=this
    obtain ⟨⟨n,k⟩,hn,en⟩:=aab.mp (lookup_mem e')
    dsimp only at en
    by_cases cc:(k==NameKind.free && X.env.scope.kind==.function && X.env.kindOf n==some .cell)=true
    ·rw [if_pos cc] at en
     cases en
     have kf:k=.free:=by
      rw [abE,abE] at cc
      simpa using cc.1.1
     exact ⟨k,hn,(by intro z;rw [kf] at z;cases z),.inr kf⟩
    ·rw [if_neg cc] at en
     cases en
     exact ⟨k',hn,fun z' =>by rcases h' with y | y <;> (rw [y] at z';cases z'),h'⟩
   obtain ⟨k,hk,_,h2⟩:=hm
   rcases h2 with z | z
   ·cases e:(ow C).lookup x with
    | none=>exact absurd e (B.fn1 C x (B.only _ hk z))
    | some c=>exact ⟨c,by show ab' x (ow C++_)=_;rw [aih,e];rfl⟩
   ·have hf:=B.free _ hk z
    obtain ⟨c,ec⟩:=I3.ok.has x (B.out.at hf)
    exact ⟨c,Uh hf (kF ec hf)⟩
  ·obtain ⟨_,_,_,h1,_⟩:=f3 b hb
   rcases h1 with z | z
   ·exact I3.ok.GZ b o e z
   ·exact abU _ (aaO (aaO (Heap.lt_size e) I3.ok.LN) z)
 have IB:Inv (sZ X (tn++fr) scope fn (ow C++bG X.env fr) C s3 H3 fp) [] (sB tn.length caps σ) H3 {s3 with heap:=h₁,toks:=s3.toks+([]:List (Str×Value)).length}:=by
  refine ⟨okB,rfl,I3.bare,Un.kept kept,⟨_,Qh,fun i x v e1 e2 _=>?_⟩,fun x c e=>(rN e).elim (fun z=>⟨none,hc₁ x c z⟩) (fun z=>I4.cell x c (fF z.2)),?_,fun x c e=>(rN e).elim (fun z=>I3.bH.fresh (aaf Ug (ab7 (B.ge _ _ _ z)))) (fun z=>I3.ip x c (fF z.2)),fun p hp=>(nomatch hp),I3.bH.kept kept,?_⟩
  ·obtain ⟨hk,j,ej,es⟩:=Qg e2
   have B_ :fr[i - tn.length]? =some x:=by
    have z:(tn++fr)[i]? =some x:=e1
    rw [aaY hk] at z
    exact z
   have hx:x∈fr:=ir B_
   have eN:X.N[j]? =some x:=by
    have z:=congrArg (fun l:List (Option Str)=>l[i - tn.length]?) B.caps
    simp only [Wp,ej,B_,acn] at z
    exact aao z
   have ko:=B.out.at hx
   obtain ⟨m,hn,hl⟩:=I4.loc
   obtain ⟨u,r,lk⟩:=hl j x v eN es (by rcases ko with z | z;exact .inr (.inl z);exact .inr (.inr z))
   refine ⟨u,r,?_⟩
   rcases lk with ⟨k1,_⟩ | ⟨_,c,ec,ic⟩
   ·rcases ko with z | z <;> (rw [z] at k1;cases k1)
   ·exact .inr ⟨B.Ud.at hx,c,Uh hx (kF ec hx),ic⟩
  ·exact I3.bH.fresh Ug
  ·have:=congrArg abR B.caps
   simp only [aaa] at this
   show (sB tn.length caps σ).length=(tn++fr).length
   unfold sB
   simp [this]
 have IJ:∀{H' :Hp},(∀b∈fp,H' b=none)->∀b∈fp,kA (sZ X (tn++fr) scope fn (ow C++bG X.env fr) C s3 H3 fp) [] H' b:=fun hn b hb=>
  ⟨hn b hb,fpC b hb,nst b hb,.inl hb,nfp b hb,fun p hp=>(nomatch hp)⟩
 have Qi:Oj 0 h₁:=T.keep _ _ _ xh fun b _ o e=>kept b o e
 have loop:codeAny (model X.prog X.w) X.A (.compLoop (.ListComp elt [⟨target,iter,ifs,0⟩] scope pos) 0 (.ref it) (.ref D) (compEnvC scope (ow C++bG X.env fr) C X.env)) (RR (.ref D) C) {s3 with heap:=h₁,toks:=s3.toks+([]:List (Str×Value)).length}:=by
  refine sY (fun n s' =>∃i σ' ys H',Inv (sZ X (tn++fr) scope fn (ow C++bG X.env fr) C s3 H3 fp) [] σ' H' s' /\Oj i s'.heap/\(∀b∈fp,H' b=none)/\W i n σ' ys H') ?_ m0 ⟨0,_,[],H3,IB,Qi,fun b hb=>(f3 b hb).1,w0⟩
  rintro n s5 ⟨i,σ5,ys,H5,I5,LS,ZL,w5⟩
  rcases turn i n σ5 ys H5 w5 with ⟨stop,qn⟩ | ⟨go,step⟩
  ·refine wpAny_mono (T.done (sZ X (tn++fr) scope fn (ow C++bG X.env fr) C s3 H3 fp) rfl rfl rfl hc i [] s5 σ5 H5 (fun _ _=>False) I5 (IJ ZL) LS stop) (fun r s6 ⟨hr,I6⟩=>?_) fun _ _ z=>z
   subst hr
   obtain ⟨m,hn,_⟩:=I6.loc
   have J6:Inv X pins σ H5 s6:=I3.Ts (ch:=fp) I6.os I6.base I6.bH I6.bare fun b hb=>⟨(f3 b hb).2.2.2.1,(f3 b hb).2.1,(f3 b hb).2.2.2.2.1,(f3 b hb).2.2.2.2.2⟩
   exact fin D C H5 s6 m J6 hn (I3.mI Ug I6.free) qn
  ·refine wpAny_mono (T.item (sZ X (tn++fr) scope fn (ow C++bG X.env fr) C s3 H3 fp) rfl rfl rfl hc i [] s5 σ5 H5 (fun _ _=>False) I5 (IJ ZL) LS go) (fun r s6 ⟨u,hr,h6⟩=>?_) fun _ _ z=>z
   subst hr
   refine wpAny_mono h6 (fun _ s7 ⟨x,H7,I7,r7,y7,st7,fr7⟩=>?_) fun _ _ z=>z
   have I7' :=I7.pinned (IJ fr7) (T.obj _ _ st7)
   have held:∀{σ' :L2.St} {H' :Hp} {s' :Shared},Inv (sZ X (tn++fr) scope fn (ow C++bG X.env fr) C s3 H3 fp) ([]++oh fp s7.heap) σ' H' s' ->Oj (i+1) s'.heap/\∀b∈fp,H' b=none:=fun {σ' H' s'} I' =>by
    refine ⟨T.keep _ _ _ st7 fun b hb o e=>(I'.pin (b,o) (abk _ (abk _ (gN hb e)))).1,fun b hb=>?_⟩
    obtain ⟨o,e,d⟩:=T.obj _ _ st7 b hb
    exact (I'.pin (b,o) (abk _ (abk _ (gN hb e)))).2.1
   refine wpAny_mono (hg C s3 H3 fp _ s7 σ5 H7 x u _ I7' r7 (step x H7 y7)) (fun _ s8 ⟨σ8,H8,I8,q8⟩=>?_) fun _ _ z=>z
   refine wpAny_mono (ht C s3 H3 fp _ s8 σ8 H8 _ I8 q8) (fun ok s9 ⟨H9,I9,q9⟩=>?_) fun _ _ z=>z
   cases ok with
   | false=>
    rw [if_neg aam] at q9
    obtain ⟨m',hm,w9⟩:=q9
    rw [if_neg aam]
    obtain ⟨a,b⟩:=held I9
    exact ⟨m',hm,i+1,σ8,ys,H9,I9.iy,a,b,w9⟩
   | true=>
    rw [if_pos rfl] at q9
    rw [if_pos rfl]
    refine wpAny_mono (he C s3 H3 fp _ s9 σ8 H9 _ I9 q9) (fun v s10 ⟨y9,CA,I10,r10,hDD,hl,m',hm,w10⟩=>?_) fun _ _ z=>z
    refine wpAny_mono (eO (X:=sZ X (tn++fr) scope fn (ow C++bG X.env fr) C s3 H3 fp) _ s10 σ8 CA (.ref D) [y9] (.ref D) [v] (fun _ H' =>W (i+1) m' σ8 (ys++[y9]) H') I10 rfl (.cons r10 .nil) ⟨D,ys,y9,rfl,rfl,hDD,hl,w10⟩) (fun _ s11 ⟨z,Qj,I11,_,q11⟩=>?_) fun _ _ z=>z
    obtain ⟨a,b⟩:=held I11
    exact ⟨m',hm,i+1,σ8,ys++[y9],Qj,I11.iy,a,b,q11⟩
 exact codeAny_compStart_list loop (T.self X.A 0 _ _ _ Qi loop)
theorem IK (hc:X.calm=true)(B:IH X scope ow fn fr caps)(hi:PI X target iter wi)
  (hg:∀C s H fp,PG (sZ X (tn++fr) scope fn (ow C++bG X.env fr) C s H fp) target g) (ht:∀C s H fp,PF (sZ X (tn++fr) scope fn (ow C++bG X.env fr) C s H fp) ifs tt) (he:∀C s H fp,PE (sZ X (tn++fr) scope fn (ow C++bG X.env fr) C s H fp) elt te)
  (hs:∀x,foldedSetIterable iter X.env x=pure x:=by intro _;rfl):PE X (.ListComp elt [⟨target,iter,ifs,0⟩] scope pos) (vw tn.length caps wi g tt te):=by
 intro pins s σ H Q I h
 rw [eval_ListComp]
 refine wpAny_comprehension_free (use:=none) rfl hs B.BZ B.kind B.names (cq (hi pins s σ H _ I h) fun v s1 h1=>cq h1 fun ZK s2 h2=>?_)
 obtain ⟨it,fp,Oj,J,H2,rfl,I2,T,kr,f2,q⟩:=h2
 refine oE (Q:=Q) (RR:=fun acc C=>compPost (model X.prog X.w) X.A X.xe none (EP X pins σ Q) acc C) hc B hg ht he I2 T kr f2 q ?_
 intro D C H' s' m I' hn fc qq
 obtain ⟨g0,g1,g2,g3,g4,g5⟩:=fc
 exact ⟨m,hn,fun h' uY =>⟨.ref D,H',I'.turned (t' :=s'.toks) (fun b o hb e=>(uY.2 b hb).trans e) g0 g1 g3 g4 g5,rfl,qq⟩⟩
theorem vx {vy:Pos}(hN:X.N.Nodup)(Ui:X.N[i]? =some y)(hx:Loc X.env.scope y)
  (hc:X.calm=true) (B:IH X scope ow fn fr caps) (hi:PI X target iter wi)
  (hg:∀C s H fp,PG (sZ X (tn++fr) scope fn (ow C++bG X.env fr) C s H fp) target g) (ht:∀C s H fp,PF (sZ X (tn++fr) scope fn (ow C++bG X.env fr) C s H fp) ifs tt) (he:∀C s H fp,PE (sZ X (tn++fr) scope fn (ow C++bG X.env fr) C s H fp) elt te)
  (CB:swapsWith (.ListComp elt [⟨target,iter,ifs,0⟩] scope pos) (some (.Name y py)) vy.line X.env=pure true:=by rfl)
  (hs:∀x,foldedSetIterable iter X.env x=pure x:=by intro _;rfl) (hf:X.fn y=true\/X.env.scope.names.lookup y=some .local:=by first | exact .inl rfl | exact .inr rfl | assumption):
  PS X (.Assign [.Name y py] (.ListComp elt [⟨target,iter,ifs,0⟩] scope pos) vy) (HE (vw tn.length caps wi g tt te) (cF i)):=by
 intro pins s σ H D I h
 rw [exec_Assign_Name_used _ _ _ _ CB]
 refine wpAny_bind (wpAny_standAt (wpAny_bind ?_))
 show wpAny _ X.A (do let _ <- comprehension (.ListComp elt [⟨target,iter,ifs,0⟩] scope pos) scope X.env _ (newList []) false (eval iter X.env) (some (assign (.Name y py) X.env))) _ _ s
 refine wpAny_bind (wpAny_mono (wpAny_comprehension_free (use:=some (assign (.Name y py) X.env)) (Q:=fun _ s' =>SP X pins D .next s') rfl hs B.BZ B.kind B.names
  (cq (hi pins s σ H _ I h) fun v s1 h1=>cq h1 fun ZK s2 h2=>?_)) (fun _ s' hq=>wpAny_pure (wpAny_pure hq)) fun _ _ e=>e)
 obtain ⟨it,fp,Oj,J,H2,rfl,I2,T,kr,f2,q⟩:=h2
 refine oE (Q:=fun v H1=>cF i v σ H1 D.nx) (RR:=fun acc C=>compPost (model X.prog X.w) X.A X.xe (some (assign (.Name y py) X.env)) (fun _ s' =>SP X pins D .next s') acc C) hc B hg ht he I2 T kr f2 q ?_
 intro DD C H' s' m I' hn fc qq
 obtain ⟨g0,g1,g2,g3,g4,g5⟩:=fc
 show wpAny _ X.A (assign (.Name y py) X.env (.ref DD)) _ _ _
 refine wpAny_assign_Name (rB I' hN Ui hx (v:=.ref DD) (u:=.ref DD) rfl (fun TN I'' ⟨a,sb,ha⟩=>?_) hf)
 have hCa:C≠a:=by
  rcases ha with z | z
  ·rw [z]
   exact g1
  ·exact fun e=>g4 y a z e.symm
 exact ⟨m,hn.sameBut sb hCa,fun h' uY =>⟨_,H',I''.turned (t' :=TN.toks) (fun b o hb e=>(uY.2 b hb).trans e) g0 g1 g3 g4 g5,qq⟩⟩
theorem Mh.g {caps:Ρ}(B:Mh X scope fr caps):IH X scope (fun _=>[]) (fun _=>false) fr caps:=
 ⟨B.BZ,B.kind,B.names,B.free,B.caps,B.out,B.Ud,fun hQ=>wpAny_newFunctionEnv B.cell (by intro y hy;simp at hy) (fun h₁ Qh aa6=>hQ h₁ Qh (fun b o e=>(aa6.2 b (aa_ (Heap.lt_size e))).trans (Heap.get?_push_of_some _ e)) fun _ _ z=>(nomatch z)) B.kind,
  fun _ _ _ z=>(nomatch z),fun _ _ _ _ z=>(nomatch z),fun _ _ z=>(nomatch z),fun z hz e=>absurd e (B.cell z hz),fun _ _ _=>rfl⟩
theorem cO (hc:X.calm=true)(B:Mh X scope fr caps)(hi:PI X target iter wi)
  (hg:∀C s H fp,PG (SH X (tn++fr) scope (bG X.env fr) C s H fp) target g) (ht:∀C s H fp,PF (SH X (tn++fr) scope (bG X.env fr) C s H fp) ifs tt) (he:∀C s H fp,PE (SH X (tn++fr) scope (bG X.env fr) C s H fp) elt te)
  (hs:∀x,foldedSetIterable iter X.env x=pure x:=by intro _;rfl):PE X (.ListComp elt [⟨target,iter,ifs,0⟩] scope pos) (vw tn.length caps wi g tt te):=
 IK hc B.g hi hg ht he hs
theorem nh {vy:Pos}(hN:X.N.Nodup)(Ui:X.N[i]? =some y)(hx:Loc X.env.scope y)
  (hc:X.calm=true) (B:Mh X scope fr caps) (hi:PI X target iter wi)
  (hg:∀C s H fp,PG (SH X (tn++fr) scope (bG X.env fr) C s H fp) target g) (ht:∀C s H fp,PF (SH X (tn++fr) scope (bG X.env fr) C s H fp) ifs tt) (he:∀C s H fp,PE (SH X (tn++fr) scope (bG X.env fr) C s H fp) elt te)
  (CB:swapsWith (.ListComp elt [⟨target,iter,ifs,0⟩] scope pos) (some (.Name y py)) vy.line X.env=pure true:=by rfl)
  (hs:∀x,foldedSetIterable iter X.env x=pure x:=by intro _;rfl) (hf:X.fn y=true\/X.env.scope.names.lookup y=some .local:=by first | exact .inl rfl | exact .inr rfl | assumption):
  PS X (.Assign [.Name y py] (.ListComp elt [⟨target,iter,ifs,0⟩] scope pos) vy) (HE (vw tn.length caps wi g tt te) (cF i)):=
 vx hN Ui hx hc B.g hi hg ht he CB hs hf
end
section
variable {D:Addr}{te:TE}{cap:L2.St}{H1:Hp}{Q:VK}
theorem xI (n:Nat)(xs:Nat->V)(Pv:Nat->List V->Hp->Prop)(h0:Pv 0 [] (upd H1 D (.lst [])))
  (go:∀i ys H,i < n->Pv i ys H->J.go i H/\∀x H',J.GN i H x H' ->H' =H/\x=xs i) (stop:∀ys H,Pv n ys H->J.stop n H)
  (hs:∀i ys H (R:VK),i < n->Pv i ys H->H D=some (.lst ys)->(∀v H6,H6 D=some (.lst ys)->ys.length < sizeLine->Pv (i+1) (ys++[v]) (upd H6 D (.lst (ys++[v])))->R v H6)->te (some (xs i)::cap) H R)
  (hd:∀ys H,Pv n ys H->H D=some (.lst ys)->Q (.ref D) H):jI D (cF 0) jn te J (none::cap) H1 Q:=by
 refine ⟨fun i m σ ys H=>m=n - i/\i<=n/\(∃o,σ=o::cap)/\Pv i ys H/\H D=some (.lst ys),⟨n,by simp,abc _,⟨none,rfl⟩,h0,ah⟩,?_⟩
 rintro i m σ ys H ⟨rfl,hi,⟨o,rfl⟩,p,hD⟩
 by_cases i8:i < n
 ·obtain ⟨g1,g2⟩:=go i ys H i8 p
  refine .inr ⟨g1,fun x H' y=>?_⟩
  obtain ⟨e1,e2⟩:=g2 x H' y
  subst e1 e2
  unfold cF jn
  dsimp only
  rw [if_pos rfl]
  exact hs i ys _ _ i8 p hD fun v H6 a b c=>⟨a,b,n - (i+1),by omega,rfl,by omega,⟨_,rfl⟩,c,ah⟩
 ·have e:i=n:=by omega
  subst e
  exact .inl ⟨stop ys H p,hd ys H p hD⟩
end
section
variable {X:Cx}{tg:Expr}
end
section
variable {prog:Program}{w:World}{A:Around}{E:γ}
end
structure SI (K:Frag)(C:Addr):Prop where
 makes:PySem.W.makesIn K C=true
 init:PySem.W.findIn K (.ref C) "__init__"=some (some (.builtin "object.__init__"))
 kp:keepIn K (.ref C)=true
def Uj (C:Addr):TE:=fun _ H Q=>∀x dx,H x=none->H dx=none->dx≠x->Q (.ref x) (upd (upd H dx (.own x)) x (.ins C dx []))
section
variable {X:Cx}
theorem Mi {σ:L2.St}(M:SI X.K C)(I:Inv X pins σ H s)(h:Uj C σ H Q):wpAny (model X.prog X.w) X.A (call (.ref C) []) (EP X pins σ Q) X.xe s:=by
 have hq:=h (s.heap.objs.size+1) s.heap.objs.size (I.bH.fresh (aik _)) (I.bH.fresh (aac _)) (aa_ (abu _))
 have I2:=Inv.made (C:=C) I
 have Y:=PySem.W.makes_of (M:=model X.prog X.w) I.ji M.makes
 refine wpAny_call (BN I.ji M.makes M.init (fun self=>PySem.W.Looks.of_pure (PySem.W.oi_bind self)) ?_)
 have ho:((s.heap.push PySem.W.emptyDict).push (PySem.W.instObj C s.heap.objs.size)).get? (s.heap.objs.size+1)=some (PySem.W.instObj C s.heap.objs.size):=by
  have:=Heap.get?_push_size (s.heap.push PySem.W.emptyDict) (o:=PySem.W.instObj C s.heap.objs.size) rfl
  rwa [Heap.size_push] at this
 have t1:PySem.W.Looks (model X.prog X.w) ((s.heap.push PySem.W.emptyDict).push (PySem.W.instObj C s.heap.objs.size)) (typeOf (.ref (s.heap.objs.size+1))) (.ref C):=(PySem.W.Looks.ld ho).andThen .now
 have t2:PySem.W.Looks (model X.prog X.w) ((s.heap.push PySem.W.emptyDict).push (PySem.W.instObj C s.heap.objs.size)) (isInstance (.ref (s.heap.objs.size+1)) (.type "object")) true:=
  t1.andThen (Y.top.keeps fun b o e=>Heap.get?_push_of_some _ (Heap.get?_push_of_some _ e))
 refine codeAny_call_builtin PySem.W.oi_plain PySem.W.entry_oi (@PySem.W.check_slot (model X.prog X.w) _ _ _ "object.__init__" "object" "__init__" (.ref (s.heap.objs.size+1)) [] [] _ PySem.W.oi_kind PySem.W.oi_split t2 (PySem.W.oi_args (.ref (s.heap.objs.size+1))) ?_)
 rw [PySem.W.oi_run]
 exact wpAny_pure (And.intro rfl ⟨V.ref (s.heap.objs.size+1),_,I2,rfl,hq⟩)
theorem IL (M:SI X.K C)(hg:Gl X x)(hm:X.mg x=some (.ref C))(BQ:(x==("__debug__":Str))=false:=by decide):PE X (.Call (.Name x p) [] [] pos) (Uj C):=by
 intro pins s σ H Q I h
 refine wpAny_Call_Name_kw (jz I hg hm ?_ BQ)
 exact PySem.W.callWith_K0 I.ji M.kp (Mi M I h)
end
structure bI (P:Program)(w:World)(K:Frag)(mg:ι)(base:Heap)(CX:ku)(k:Nat)(C:Addr)(m:Str)(ps:ρ)(sp:Sp):Prop where
 ex:∃(f:Addr) (fd:FuncData),vf K C/\Meth K C m f/\cJ P w K mg base CX k f fd ps sp/\Binds K fd ps []
theorem bI.mono {K:Frag}(M:bI P w K mg base CX j C m ps sp)(h:j<=k):bI P w K mg base CX k C m ps sp:=by
 obtain ⟨f,fd,a,b,c,d⟩:=M.ex
 exact ⟨f,fd,a,b,c.mono h,d⟩
section
variable {X:Cx}{CX:ku}{k:Nat}{E:XK}{m:Str}{pos apos:Pos}{e o:Expr}{es:Α}{ta:TE}{t:TA}
inductive Ol (P:Program)(w:World)(K:Frag)(mg:ι)(base:Heap)(CX:ku)(k:Nat)(m:Str)(E:XK)(t:TA)(σ:L2.St)(Q:VK)(x:V)(H1:Hp):Prop where
 | mk (a C dx fs ps sp:_) (_:x=.ref a) (_:H1 a=some (.ins C dx fs)) (_:fs.lookup m=none) (_:bI P w K mg base CX k C m ps sp) (_:t σ H1 fun vs H2=>sp (x::vs) H2 Q E):Ol P w K mg base CX k m E t σ Q x H1
def Uk (P:Program)(w:World)(K:Frag)(mg:ι)(base:Heap)(CX:ku)(k:Nat)(m:Str)(E:XK)(ta:TE)(t:TA):TE:=fun σ H Q=>ta σ H fun x H1=>Ol P w K mg base CX k m E t σ Q x H1
theorem fZ (he:PE X o ta)(hr:cC k X.A)(hx:Passes CX X E)
  (ht:eval (.Call (.Attribute o m apos) [] [] pos) X.env=(do
   let ov <- eval o X.env
   standAt apos.atName
   let (f,first) <- holding [ov] (getMethod ov m pl)
   callWith pos f first (backTo pos (starEach [] X.env)) (backToKw pos (keywordEach [] X.env))):=by rfl):
  PE X (.Call (.Attribute o m apos) [] [] pos) (Uk X.prog X.w X.K X.mg X.base CX k m E ta fV):=by
 intro pins s σ H Q I h
 refine PySem.W.methodCall_KW (pl:=pl) (cq (he pins s σ H _ I h) fun u s1 ⟨x,H1,I1,rx,a,C,dx,fs,ps,sp,ex,ea,l,M,q⟩=>?_) ht
 subst ex
 obtain rfl:u=Value.ref a:=rx
 obtain ⟨f,fd,c,hm,F,hb⟩:=M.ex
 refine jm I1 ea c hm l ?_
 exact PySem.W.callWith_K0 (first:=[.ref a]) I1.ji hm.kp (sN (us:=[.ref a]) (vs:=[.ref a]) (dvs:=[]) F hr hb .nil hx I1 (.cons rfl .nil) q)
theorem cZ {pl:Sem Bool}(he:PE X o ta)(hr:cC k X.A)(hx:Passes CX X E)(ha:PA X (e::es) t)
  (LR:starEach (e::es) X.env=(false,eval e X.env)::starEach es X.env:=by rfl) (y_:(backTo pos (starEach es X.env)).any (·.1)=false:=by rfl)
  (ht:eval (.Call (.Attribute o m apos) (e::es) [] pos) X.env=(do
   let ov <- eval o X.env
   standAt apos.atName
   let (f,first) <- holding [ov] (getMethod ov m pl)
   callWith pos f first (backTo pos (starEach (e::es) X.env)) (backToKw pos (keywordEach [] X.env))):=by rfl):
  PE X (.Call (.Attribute o m apos) (e::es) [] pos) (Uk X.prog X.w X.K X.mg X.base CX k m E ta t):=by
 intro pins s σ H Q I h
 refine PySem.W.methodCall_KW (pl:=pl) (cq (he pins s σ H _ I h) fun u s1 ⟨x,H1,I1,rx,a,C,dx,fs,ps,sp,ex,ea,l,M,q⟩=>?_) ht
 subst ex
 obtain rfl:u=Value.ref a:=rx
 obtain ⟨f,fd,c,hm,F,hb⟩:=M.ex
 refine jm I1 ea c hm l ?_
 refine PySem.W.callWith_K (first:=[.ref a]) (h₀:=X.base) I.ok.mod.SA hm.kp (cq (ha pos pins s1 σ H1 _ I1 q) fun us s2 ⟨vs,H2,I2,r,q2⟩=>⟨I2.ji,?_⟩) LR y_
 refine sN (us:=.ref a::us) (vs:=.ref a::vs) (dvs:=[]) F hr hb .nil hx I2 (.cons rfl r) ?_
 rw [ac2]
 exact q2
end
theorem me (h:vt CX)(e:X.xe=fun _ _=>False):Passes CX X E0:=fun _ _ _ _ _ _ _ q=>(h _ _ _ _ _ q).elim
section
variable {σ:L2.St}{H:Hp}{Q:VK}{QB:Bool->Hp->Prop}{QA:List V->Hp->Prop}{D:Ends}{t u:TS}{ta tb te:TE}{tc td:TT}{t1:TA}
end
section
variable {X:Cx}
inductive Ul (x:V)(lo:Ο)(hi:Ο)(H:Hp)(Q:VK):Prop where
 | mk (z:_) (_:x=.str z) (_:z.length<=sizeLine) (_:Q (.str (Txt.slice z lo hi)) H):Ul x lo hi H Q
theorem Qk:TY X Ul:=by
 intro pins s σ H x v vl vu lo hi sl Q I rx hs pl pu h
 obtain ⟨z,rfl,hz,q⟩:=h
 obtain ⟨t,rfl⟩:=rx
 refine ⟨"str",_,F.slot_str_getitem.lookup,typeIs_str _ _ _,?_⟩
 cases pl <;> cases pu
 ·exact wpAny_getItem_str_slice (l:=none) (u:=none) (st:=none) hs rfl (post_val_or_str ⟨aaf (Txt.slice_le z _ _) hz,fun t' k=>⟨.str _,H,I.tok k,⟨t',rfl⟩,q⟩⟩)
 ·rename_i j uj
  exact wpAny_getItem_str_slice (l:=none) (u:=some (j,uj)) (st:=none) hs rfl (post_val_or_str ⟨aaf (Txt.slice_le z _ _) hz,fun t' k=>⟨.str _,H,I.tok k,⟨t',rfl⟩,q⟩⟩)
 ·rename_i i ui
  exact wpAny_getItem_str_slice (l:=some (i,ui)) (u:=none) (st:=none) hs rfl (post_val_or_str ⟨aaf (Txt.slice_le z _ _) hz,fun t' k=>⟨.str _,H,I.tok k,⟨t',rfl⟩,q⟩⟩)
 ·rename_i i ui j uj
  exact wpAny_getItem_str_slice (l:=some (i,ui)) (u:=some (j,uj)) (st:=none) hs rfl (post_val_or_str ⟨aaf (Txt.slice_le z _ _) hz,fun t' k=>⟨.str _,H,I.tok k,⟨t',rfl⟩,q⟩⟩)
inductive Om (x:V)(y:V)(H:Hp)(Q:VK):Prop where
 | mk (z n:_) (_:x=.str z) (_:y=.int n) (_:MulOk z n) (_:Q (.str (Txt.mul z n)) H):Om x y H Q
theorem s_:jx X (binaryOp .Mult) Om:=by
 intro pins s σ H x y v u Q I rx ry h
 obtain ⟨z,n,rfl,rfl,ok,q⟩:=h
 obtain ⟨t,rfl⟩:=rx
 obtain ⟨t',rfl⟩:=ry
 exact SB.mul ok fun t' k=>⟨.str _,H,I.tok k,⟨t',rfl⟩,q⟩
theorem all_range (bs:List Bool):(abJ bs.length).all (fun i=>(bs[i]?).getD true)=bs.all id:=by
 induction bs with
 | nil=>rfl
 | cons b r ih=>
  rw [abf,aiv,ah7,List.all_map,ah7, <- ih]
  rfl
inductive Um (K:Frag)(xs:η)(H:Hp)(Q:VK):Prop where
 | mk (p:Addr) (bs:List Bool) (_:xs=[.ref p]) (_:aX K H p (bs.map V.bl)) (_:Q (.bl (bs.all id)) H):Um K xs H Q
theorem kG (hc:X.calm=true):fe X (.builtin "all") (Um X.K):=by
 intro pins s σ H xs us Q I r h
 obtain ⟨p,bs,rfl,hq,q⟩:=h
 obtain ⟨u,rfl,r1⟩:=vals1 r
 cases r1
 obtain ⟨its,rv,pl,hz⟩:=I.list hq
 refine call_all_walk (wpAny_pyIter_list pl.isList ?_)
 have uZ:p≠s.heap.objs.size:=by obtain ⟨o,ho,_⟩:=pl.isList;exact aa_ (Heap.lt_size ho)
 have I1:Inv X pins σ H {s with heap:=s.heap.push {cls:=.type "list_iterator",data:=.fields #[.ref p,.int 0 0]}}:=I.kept (t' :=s.toks) fun b o e=>Heap.get?_push_of_some _ e
 obtain ⟨f0,f1,f2,f3,f4,f5⟩:=I.mI (H' :=H) (aac s.heap.objs.size) (I.bH.fresh (aac _))
 have hl:its.length=bs.length:=by rw [<- rv.length,aaa]
 refine ⟨s.heap.objs.size,_,_,_,_,_,fun i=>(bs[i]?).getD true,rfl,Walks.list (A:=X.A.in1) (I.ok.hd hc) s.heap.objs.size p uZ its.toArray,⟨⟨_,Heap.get?_push_size _ rfl,rfl,rfl⟩,pl.isList.at fun o e=>Heap.get?_push_of_some _ e⟩,?_,fun h' tk kk=>?_⟩
 ·intro i v s' Q' E' hv h8
  have P0 :its[i]? =some v:=by simpa using hv
  have hi:i < bs.length:=by rw [<- hl];exact (be.mp P0).1
  have eb:(bs.map V.bl)[i]? =some (.bl bs[i]):=by rw [Wp,gE hi];rfl
  obtain ⟨u,eu,ru⟩:=rv.get eb
  rw [P0] at eu
  cases eu
  cases ru
  dsimp only at h8
  rw [gE hi] at h8
  exact wpAny_truthy_bool h8
 ·refine ⟨.bl (bs.all id),H,I1.turned (t' :=tk) (it:=s.heap.objs.size) (fun b o hb e=>kk b o (by simpa using hb) e) f0 f1 f3 f4 f5,?_,q⟩
  show _=_
  rw [<- all_range bs,aaq,hl]
end
end Ty
set_option maxHeartbeats 4000000
namespace Ty
open PySem PySem.Spec PyProof.Rows L2 PySem.NumText
def dg (m:Nat):List Nat:=(Nat.toDigits 10 m).map Char.toNat
def tx (n:Int):Str:=Str.ofString (toString n)
def Uo:Str:=Str.ofString "/"
def nt (q:Int×Int):Str:=if q.2=1 then tx q.1 else tx q.1++Uo++tx q.2
end Ty
set_option maxHeartbeats 4000000
namespace Ty
open PySem PySem.Spec PyProof.Rows L2 PySem.NumText
section
variable {X:Cx}
end
def isStar:Expr->Bool
 | .Starred .. =>true
 | _=>false
theorem CC {es:Α}(h:isStar e=false):starEach (e::es) env=(false,eval e env)::starEach es env:=by
 cases e <;> first | rfl | (cases h;done)
theorem ar (ha:PE X e te)(hr:PA X es t)(h:isStar e=false:=by rfl):PA X (e::es) (Oa te t):=LY ha hr (CC h)
end Ty
set_option maxHeartbeats 4000000
namespace Ty
open PySem PySem.Spec PyProof.Rows L2
section
variable {D:Addr}{te:TE}{cap:L2.St}{H1:Hp}{Q:VK}
def aL (D:Addr)(H H' :Hp):Prop:=∀b o,b≠D->H b=some o->H' b=some o
theorem aL.of (s:au H H'):aL D H H' :=fun b o _ e=>s b o e
theorem aL.upd :aL D H (upd H D o):=fun b o' n e=>by rw [ao n];exact e
theorem IM (n:Nat)(xs:Nat->V)(Rel:Nat->V->Hp->Prop)(nD:H1 D=none)(hn:n < sizeLine)
  (go:∀i H,i < n->au H1 H->J.go i H/\∀x H',J.GN i H x H' ->H' =H/\x=xs i) (stop:∀H,au H1 H->J.stop n H)
  (hR:∀i v H H' ys,H D=some (.lst ys)->aL D H H' ->Rel i v H->Rel i v H')
  (he:∀i H (R:VK),i < n->au H1 H->(∀v H6,au H H6->Rel i v H6->R v H6)->te (some (xs i)::cap) H R)
  (hd:∀ys H,ys.length=n->(∀i v,ys[i]? =some v->Rel i v H)->au H1 H->H D=some (.lst ys)->Q (.ref D) H):
  jI D (cF 0) jn te J (none::cap) H1 Q:=by
 refine xI n xs (fun i ys H=>ys.length=i/\(∀i v,ys[i]? =some v->Rel i v H)/\au H1 H) ⟨rfl,fun i v e=>by simp at e,fun b o e=>by rw [ao (aq e nD)];exact e⟩ ?_ ?_ ?_ ?_
 ·rintro i ys H hi ⟨_,_,s⟩
  exact go i H hi s
 ·rintro ys H ⟨_,_,s⟩
  exact stop H s
 ·rintro i ys H R hi ⟨l,r,s⟩ hD k
  refine he i H R hi s fun v H6 s6 rv=>k v H6 (s6 _ _ hD) (by omega) ⟨by simp [l],fun j u e=>?_,fun b o e=>?_⟩
  ·by_cases c:j < ys.length
   ·rw [aap c] at e
    have ru:=hR j u H H6 ys hD (aL.of s6) (r j u e)
    exact hR j u H6 _ ys (s6 _ _ hD) aL.upd ru
   ·rw [aaY (by omega)] at e
    have ej:j=i:=by
     by_cases z:j - ys.length=0
     ·omega
     ·rw [aai (by simp;omega)] at e
      cases e
    subst ej
    have:v=u:=by
     rw [show j - ys.length=0 by omega] at e
     exact aao e
    subst this
    exact hR j v H6 _ ys (s6 _ _ hD) aL.upd rv
  ·rw [ao (aq e nD)]
   exact s6 _ _ (s _ _ e)
 ·rintro ys H ⟨l,r,s⟩ hD
  exact hd ys H l r s hD
theorem dk {K:Frag}(Rel:Nat->V->Hp->Prop)(nD:H1 D=none)(hn:xs.length < sizeLine)(hS:∀H,au H1 H->aX K H a xs)
  (hR:∀i v H H' ys,H D=some (.lst ys)->aL D H H' ->Rel i v H->Rel i v H')
  (he:∀i x H (R:VK),xs[i]? =some x->au H1 H->(∀v H6,au H H6->Rel i v H6->R v H6)->te (some x::cap) H R)
  (hd:∀ys H,ys.length=xs.length->(∀i v,ys[i]? =some v->Rel i v H)->au H1 H->H D=some (.lst ys)->Q (.ref D) H):
  jI D (cF 0) jn te (K3 K a) (none::cap) H1 Q:=by
 refine IM xs.length (fun i=>(xs[i]?).getD .cw) Rel nD hn (fun i H hi s=>⟨⟨xs,xs[i],hS H s,gE hi⟩,fun x H' y=>⟨y.1,?_⟩⟩) (fun H s=>⟨xs,hS H s,aac _⟩) hR (fun i H R hi s k=>?_) hd
 ·rw [y.2 xs (hS H s)];rfl
 ·have e:xs[i]? =some xs[i]:=gE hi
  have k' :=he i _ H R e s k
  rw [<- (show (xs[i]?).getD .cw=xs[i] by rw [e];rfl)] at k'
  exact k'
end
section
variable {X:Cx}{pins:ε}{σ:L2.St}{H:Hp}{s:Shared}{h' :Heap}
theorem Inv.nj {fp:ω}(I:Inv X pins σ H s)(k:∀b o,b∉fp->s.heap.get? b=some o->h'.get? b=some o)(hf:∀b∈fp,kA X pins H b):Inv X pins σ H {s with heap:=h',toks:=t' }:=by
 have N0:∀b u,H b=some u->b∉fp:=fun b u e z=>by rw [(hf b z).1] at e;cases e
 refine I.step (g' :=s.gens) (d' :=s.drawn) (ch:=fp) (fun b hb=>?_) (fun b o _ _ hc e _=>k b o hc e) (fun b o _ _ hc e _=>⟨o.slots,k b o hc e⟩) (fun _ _ _ _ n=>n)
  (fun b o hc e=>⟨o,k b o hc e⟩) (fun _ _ e=>e) (fun _ _ _ e=>e) (fun b ps e=>⟨#[],by rw [e];simp⟩) (fun m hm=>?_) (fun b u e=>?_) I.bare
 ·obtain ⟨f0,f1,f2,f3,f4,f5⟩:=hf b hb
  exact ⟨f3,f1,f4,f5⟩
 ·obtain ⟨o,es,ep,ho,r⟩:=hm
  exact ⟨o,es,ep,k _ o (fun z=>(hf _ z).2.1 rfl) ho,r⟩
 ·refine (I.bH b u e).qB (fun c v hc q=>k c v ?_ q) (fun _ q=>q) fun _ _ q=>q
  rcases hc with z | z
  ·rw [z];exact N0 b u e
  ·exact N0 c _ z
theorem Inv.tf {fp:ω}{T:Addr}{xs:η}{its:π}(I:Inv X pins σ H s)(k:∀b o,b∉fp->s.heap.get? b=some o->h'.get? b=some o)(hf:∀b∈fp,kA X pins H b)(hT:s.heap.objs.size<=T)
  (hz:xs.length<=sizeLine) (rv:Vals xs its) (ht:IsTup h' T its.toArray):Inv X pins σ (upd H T (.tup xs)) {s with heap:=h',toks:=t' }:=by
 have hn:=I.bH.fresh hT
 have N0:∀b u,H b=some u->b∉fp:=fun b u e z=>by rw [(hf b z).1] at e;cases e
 have ne:∀b o,s.heap.get? b=some o->b≠T:=fun b o e=>aa_ (aaO (Heap.lt_size e) hT)
 refine I.step (g' :=s.gens) (d' :=s.drawn) (ch:=fp) (fun b hb=>?_) (fun b o _ _ hc e _=>k b o hc e) (fun b o _ _ hc e _=>⟨o.slots,k b o hc e⟩) (fun b o _ e n=>by rw [ao (ne b o e)];exact n)
  (fun b o hc e=>⟨o,k b o hc e⟩) (fun b ys e=>by rw [ao (aq e hn)];exact e) (fun b o u e=>by rw [ao (aq e hn)];exact e) (fun b ps e=>⟨#[],by rw [ao (aq e hn),e];simp⟩) (fun m hm=>?_) (fun b u e=>?_) I.bare
 ·obtain ⟨f0,f1,f2,f3,f4,f5⟩:=hf b hb
  exact ⟨f3,f1,f4,f5⟩
 ·obtain ⟨o,es,ep,ho,r⟩:=hm
  exact ⟨o,es,ep,k _ o (fun z=>(hf _ z).2.1 rfl) ho,r⟩
 ·by_cases hb:b=T
  ·subst hb
   rw [ah] at e
   cases e
   exact ⟨hz,its,rv,ht⟩
  ·rw [ao hb] at e
   refine (I.bH b u e).qB (fun c v hc q=>k c v ?_ q) (fun c q=>by rw [ao (aq q hn)];exact q) fun c ys q=>by rw [ao (aq q hn)];exact q
   rcases hc with z | z
   ·rw [z];exact N0 b u e
   ·exact N0 c _ z
end
def Itz (K:Frag)(a b:Addr):It:=
 ⟨fun i H=>∃xs ys x y,aX K H a xs/\aX K H b ys/\xs[i]? =some x/\ys[i]? =some y,
  fun i H v H' =>∃p x y,(∀xs,aX K H a xs->xs[i]? =some x)/\(∀ys,aX K H b ys->ys[i]? =some y)/\v=.ref p/\H p=none/\H' =upd H p (.tup [x,y]),
  fun i H=>∃xs ys,aX K H a xs/\aX K H b ys/\(xs.length<=i\/ys.length<=i)⟩
theorem IP {K:Frag}{es:Α}(a b z TI TO i1 i2:Addr)(D:ZipApart z TI TO i1 i2 a b):
  Turn P w K (.Tuple es k pos) (Itz K a b) [z,TI,TO,i1,i2] z (fun i h=>IsZip h z TI TO .none/\IsPair h TI (.ref i1) (.ref i2)/\(∃x y,IsPair h TO x y)/\h.IsListIter i1 a i/\h.IsListIter i2 b i) where
 mem:=by simp
 obj:=fun i h st c hc=>by
  obtain ⟨hz,jo,⟨x,y,rO⟩,⟨o1,e1,c1,d1⟩,⟨o2,e2,c2,d2⟩⟩:=st
  have uX :c=z\/c=TI\/c=TO\/c=i1\/c=i2:=by simpa using hc
  rcases uX with e | e | e | e | e <;> subst e
  ·exact ⟨_,hz,fun v z=>by cases z⟩
  ·exact ⟨_,jo,fun v z=>by cases z⟩
  ·exact ⟨_,rO,fun v z=>by cases z⟩
  ·exact ⟨_,e1,fun v z=>by rw [d1] at z;cases z⟩
  ·exact ⟨_,e2,fun v z=>by rw [d2] at z;cases z⟩
 keep:=fun i h h' st k=>by
  obtain ⟨hz,jo,⟨x,y,rO⟩,h1,h2⟩:=st
  exact ⟨k z (by simp) _ hz,k TI (by simp) _ jo,⟨x,y,k TO (by simp) _ rO⟩,h1.at fun o e=>k i1 (by simp) o e,h2.at fun o e=>k i2 (by simp) o e⟩
 item:=by
  intro X hP hw hK hc i pins s σ H E I hf st hg
  subst hP hw hK
  obtain ⟨hz,jo,⟨x0,y0,rO⟩,h1,h2⟩:=st
  obtain ⟨xs,ys,x,y,qx,qy,ex,ey⟩:=hg
  obtain ⟨its,rv,p,_⟩:=I.list qx
  obtain ⟨Up,mZ,p',_⟩:=I.list qy
  obtain ⟨u,hu,ru⟩:=rv.get ex
  obtain ⟨v,hv,rv'⟩:=mZ.get ey
  refine wpAny_pyNext_zip_item D hz jo rO h1 h2 p.isList p'.isList (x:=u) (y:=v) (by simpa using hu) (by simpa using hv) fun h' a1 a2 a3 a4 a5 a6 a7=>?_
  refine ⟨_,rfl,wpAny_letOwnedTupleGo_zip (s:={s with heap:=h' }) a1 fun K6 b1 sb=>?_⟩
  have nz:∀c,c≠z->∀o,h'.get? c=some o->K6.get? c=some o:=fun c hc o e=>(sb.2 c hc).trans e
  have kk:∀b o,b∉[z,TI,TO,i1,i2]->s.heap.get? b=some o->K6.get? b=some o:=fun b o hb e=>by
   have gh :b≠z/\b≠TI/\b≠TO/\b≠i1/\b≠i2:=by simpa using hb
   exact nz b gh.1 o (a7 b o gh.1 gh.2.2.1 gh.2.2.2.1 gh.2.2.2.2 e)
  have sz:∀c o,s.heap.get? c=some o->s.heap.objs.size≠c:=fun c o e=>aib (Heap.lt_size e)
  have tz:s.heap.objs.size≠z:=sz _ _ hz
  have hn:=I.bH.fresh (aac s.heap.objs.size)
  have I2:Inv X pins σ (upd H s.heap.objs.size (.tup [x,y])) {s with heap:=K6,toks:=s.toks}:=
   Inv.tf I kk hf (aac _) (by show 2<=sizeLine;decide) (its:=[u,v]) (.cons ru (.cons rv' .nil)) ⟨_,nz _ tz _ a5,rfl,_,rfl⟩
  refine ⟨.ref s.heap.objs.size,_,I2,rfl,⟨s.heap.objs.size,x,y,fun xs' q=>by rw [I.iw q qx];exact ex,fun ys' q=>by rw [I.iw q qy];exact ey,rfl,hn,rfl⟩,⟨b1,nz _ D.TIz _ (a7 _ _ D.TIz D.TITO D.TIi1 D.TIi2 jo),⟨_,_,nz _ D.TOz _ a2⟩,a3.at fun o e=>nz _ D.i1z o e,a4.at fun o e=>nz _ D.i2z o e⟩,fun b hb=>?_⟩
  have ob:∃o,s.heap.get? b=some o:=by
   obtain ⟨o1,e1,_⟩:=h1
   obtain ⟨o2,e2,_⟩:=h2
   have uX :b=z\/b=TI\/b=TO\/b=i1\/b=i2:=by simpa using hb
   rcases uX with e | e | e | e | e <;> subst e
   ·exact ⟨_,hz⟩
   ·exact ⟨_,jo⟩
   ·exact ⟨_,rO⟩
   ·exact ⟨_,e1⟩
   ·exact ⟨_,e2⟩
  obtain ⟨o,e⟩:=ob
  rw [ao (aba (sz _ _ e))]
  exact (hf b hb).1
 done:=by
  intro X hP hw hK hc i pins s σ H E I hf st hg
  subst hP hw hK
  obtain ⟨hz,jo,⟨x0,y0,rO⟩,h1,h2⟩:=st
  obtain ⟨xs,ys,qx,qy,ee⟩:=hg
  obtain ⟨its,rv,p,_⟩:=I.list qx
  obtain ⟨Up,mZ,p',_⟩:=I.list qy
  have l1:=rv.length
  have l2:=mZ.length
  refine wpAny_pyNext_zip_end (I.ok.hd hc) D hz jo rO h1 h2 p.isList p'.isList ?_ fun h' kk=>⟨rfl,Inv.nj I (fun b o hb e=>?_) hf⟩
  ·rcases ee with e | e
   ·exact .inl (by simp;omega)
   ·exact .inr (by simp;omega)
  ·have gh :b≠z/\b≠TI/\b≠TO/\b≠i1/\b≠i2:=by simpa using hb
   exact kk b o gh.1 gh.2.2.1 gh.2.2.2.1 gh.2.2.2.2 e
 self:=fun _ _ _ _ _ st h=>wpAny_pyIter_zip st.1 h
theorem boot_zip:bootBuiltins "zip"=some (.type "zip"):=by decide+kernel
section
variable {X:Cx}
inductive Oo (K:Frag)(R:(It->Hp->Prop))(vs:η)(H1:Hp):Prop where
 | mk (a b:_) (_:vs=[.ref a,.ref b]) (_:(∃xs,aX K H1 a xs)) (_:(∃ys,aX K H1 b ys)) (_:R (Itz K a b) H1):Oo K R vs H1
def aa8 (K:Frag)(ta:TA):TI:=fun σ H R=>ta σ H fun vs H1=>Oo K R vs H1
theorem IQ {p pos:Pos}{es:Α}{k:Nat}{sL:Pos}(hg:Gl X "zip")(hm:X.mg "zip"=none)(ha:PA X [e1,e2] ta)(hs:starEach [e1,e2] X.env=[(false,eval e1 X.env),(false,eval e2 X.env)]:=by rfl)(K5:starEach [e2] X.env=[(false,eval e2 X.env)]:=by rfl):
  PI X (.Tuple es k sL) (.Call (.Name "zip" p) [e1,e2] [] pos) (aa8 X.K ta):=by
 intro pins s σ H R I h
 refine Call_ (gM I hg hm boot_zip (PyProof.Rows.callWith_type1 (cq (ha pos pins s σ H _ I h) fun us s1 ⟨vs,H1,I1,r1,q1⟩=>?_) (by rw [hs,K5]) (by rw [K5];rfl)))
 obtain ⟨a,b,e,⟨xs,hx⟩,⟨ys,hy⟩,q⟩:=q1
 subst e
 cases r1 with
 | cons r rr=>
  cases rr with
  | cons r' rr=>
   cases rr
   cases r
   cases r'
   obtain ⟨its,rv,pl,_⟩:=I1.list hx
   obtain ⟨Up,mZ,pl',_⟩:=I1.list hy
   have lt1:a < s1.heap.objs.size:=by obtain ⟨o,ho,_⟩:=pl.isList;exact Heap.lt_size ho
   have lt2:b < s1.heap.objs.size:=by obtain ⟨o,ho,_⟩:=pl'.isList;exact Heap.lt_size ho
   refine call_zip_2 pl.isList pl'.isList fun h' hz jo rO Ql Uq hsz hk=>wpAny_pyIter_zip (s:={s1 with heap:=h' }) hz ?_
   refine ⟨s1.heap.objs.size+4,[s1.heap.objs.size+4,s1.heap.objs.size+2,s1.heap.objs.size+3,s1.heap.objs.size,s1.heap.objs.size+1],_,_,H1,rfl,I1.kept (t' :=s1.toks) hk,IP a b _ _ _ _ _ ?_,⟨hz,jo,⟨_,_,rO⟩,Ql,Uq⟩,fun c hc=>?_,q⟩
   ·constructor <;> (intro z;simp only [Addr] at*;omega)
   ·have uX :s1.heap.objs.size<=c:=by
     have:c=s1.heap.objs.size+4\/c=s1.heap.objs.size+2\/c=s1.heap.objs.size+3\/c=s1.heap.objs.size\/c=s1.heap.objs.size+1:=by simpa using hc
     simp only [Addr] at*
     omega
    exact I1.mI uX (I1.bH.fresh uX)
inductive IS (K:Frag)(xs:η)(H:Hp)(Q:VK):Prop where
 | mk (p:Addr) (ys:η) (_:xs=[.ref p]) (_:aX K H p ys) (_:∀l,H l=none->Q (.ref l) (upd H l (.lst ys))):IS K xs H Q
theorem oF:fe X (.type "list") (IS X.K):=by
 intro pins s σ H xs us Q I r h
 obtain ⟨p,ys,rfl,hq,q⟩:=h
 obtain ⟨u,rfl,r1⟩:=vals1 r
 cases r1
 obtain ⟨its,rv,⟨o,n,e,c,d1,d⟩,hz⟩:=I.list hq
 have hlen:=rv.length
 refine call_list_seq p (.inl rfl) e c d (fun h' c' hk hl=>?_) (by simp;omega)
 have hn:=I.bH.fresh (aac s.heap.objs.size)
 have I2:Inv X pins σ (upd H s.heap.objs.size (.lst ys)) {s with heap:=h',toks:=s.toks}:=I.laid (t' :=s.toks) hk (aac _) ⟨hz,its,c',rv,hl⟩
 exact ⟨.ref _,_,I2,rfl,q _ hn⟩
end
section
variable {X:Cx}{K:Frag}
theorem dq (h:X.K=K):SF X (HU K):=by subst h;exact om
theorem IT (h:X.K=K):SF X (Ma K):=by subst h;exact aY
theorem qI (h:X.K=K):fe X (.builtin "len") (fun xs H Q=>∃p ys,xs=[.ref p]/\(aX K H p ys\/bT K H p ys)/\Q (.int ys.length) H):=by subst h;exact aI
theorem tj {k:Nat}{pos:Pos}(hK:X.K=K)(hc:X.calm=true)(h:Tz X es t)
  (hn:(assignEach es X.env).length=n:=by rfl) (LR:(assignEach es X.env).findIdx? (·.1)=none:=by rfl):PG X (.Tuple es k pos) (HD K n t):=by subst hK;exact dG hc h hn LR
end
section
variable {D:Addr}{te:TE}{cap:L2.St}{H1:Hp}{Q:VK}
theorem vA {K:Frag}(Rel:Nat->V->Hp->Prop)(nD:H1 D=none)(hn:xs.length < sizeLine)(hl:ys.length=xs.length)(hX:∀H,au H1 H->aX K H a xs)(hY:∀H,au H1 H->aX K H b ys)
  (hR:∀i v H H' ys,H D=some (.lst ys)->aL D H H' ->Rel i v H->Rel i v H')
  (he:∀i x y H (R:VK),xs[i]? =some x->ys[i]? =some y->au H1 H->(∀v H6,au H H6->Rel i v H6->R v H6)->te (some x::some y::cap) H R)
  (hd:∀zs H,zs.length=xs.length->(∀i v,zs[i]? =some v->Rel i v H)->au H1 H->H D=some (.lst zs)->Q (.ref D) H):
  jI D (HD K 2 (va (cF 0) (va (cF 1) PM))) jn te (Itz K a b) (none::none::cap) H1 Q:=by
 refine ⟨fun i m σ zs H=>m=xs.length - i/\i<=xs.length/\(∃o o',σ=o::o' ::cap)/\(zs.length=i/\(∀i v,zs[i]? =some v->Rel i v H)/\au H1 H)/\H D=some (.lst zs),⟨xs.length,by simp,abc _,⟨none,none,rfl⟩,⟨rfl,fun i v e=>by simp at e,fun b o e=>by rw [ao (aq e nD)];exact e⟩,ah⟩,?_⟩
 rintro i m σ zs H ⟨rfl,hi,⟨o,o',rfl⟩,⟨l,r,s⟩,hD⟩
 by_cases i8:i < xs.length
 ·have e1:xs[i]? =some xs[i]:=gE i8
  have e2:ys[i]? =some (ys[i]'(by omega)):=gE (by omega)
  refine .inr ⟨⟨xs,ys,_,_,hX H s,hY H s,e1,e2⟩,fun v H' y=>?_⟩
  obtain ⟨p,x,y,q1,q2,rfl,np,rfl⟩:=y
  have e1:=q1 xs (hX H s)
  have e2:=q2 ys (hY H s)
  have sp:au H (upd H p (.tup [x,y])):=fun b o e=>by rw [ao (aq e np)];exact e
  refine ⟨p,_,rfl,bT.of ah,rfl,_,_,rfl,_,_,rfl,rfl,?_⟩
  unfold jn
  dsimp only
  rw [if_pos rfl]
  refine he i x y _ _ e1 e2 (fun b o e=>sp _ _ (s _ _ e)) fun v H6 s6 rv=>⟨s6 _ _ (sp _ _ hD),by omega,xs.length - (i+1),by omega,rfl,by omega,⟨_,_,rfl⟩,⟨by simp [l],fun j u e=>?_,fun b o e=>?_⟩,ah⟩
  ·by_cases c:j < zs.length
   ·rw [aap c] at e
    have ru:=hR j u H H6 zs hD (aL.of fun b o q=>s6 _ _ (sp _ _ q)) (r j u e)
    exact hR j u H6 _ zs (s6 _ _ (sp _ _ hD)) aL.upd ru
   ·rw [aaY (by omega)] at e
    have ej:j=i:=by
     by_cases z:j - zs.length=0
     ·omega
     ·rw [aai (by simp;omega)] at e
      cases e
    subst ej
    have:v=u:=by
     rw [show j - zs.length=0 by omega] at e
     exact aao e
    subst this
    exact hR j v H6 _ zs (s6 _ _ (sp _ _ hD)) aL.upd rv
  ·rw [ao (aq e nD)]
   exact s6 _ _ (sp _ _ (s _ _ e))
 ·have e:i=xs.length:=by omega
  subst e
  exact .inl ⟨⟨xs,ys,hX H s,hY H s,.inl (aac _)⟩,hd zs H l r s hD⟩
end
open Builtin.Int (intBits)
def vl (q:Int×Int):Rat:=(q.1:Rat) / (q.2:Rat)
structure Sm (T B:Nat)(q:Int×Int):Prop where
 pos:0 < q.2
 low:aby q.1 q.2=1
 top:q.1.natAbs<=2^T
 bot:q.2.natAbs<=2^B
theorem cD {b:Int}(h:b≠0):(b:Rat)≠0:=by simpa using h
theorem xJ (h:b≠0):vl (low t b)=(t:Rat) / (b:Rat):=by
 have c:=BW (t:=t) h
 have p:=jH (t:=t) h
 have h1:=cD h
 have h2:=cD (b:=(low t b).2) (by omega)
 have c' :((low t b).1:Rat)*b=t*(low t b).2:=by exact_mod_cast c
 unfold vl
 grind
theorem vB {t b u c:Int}(hb:b≠0)(hc:c≠0)(h:(t:Rat) / b=(u:Rat) / c):t*c=u*b:=by
 have h1:=cD hb
 have h2:=cD hc
 have:(t:Rat)*c=u*b:=by grind
 exact_mod_cast this
theorem Qm (hq:0 < q.2)(hr:0 < r.2)(gq:aby q.1 q.2=1)(gr:aby r.1 r.2=1)(h:vl q=vl r):q=r:=by
 have c:=vB (t:=q.1) (b:=q.2) (u:=r.1) (c:=r.2) (by omega) (by omega) h
 have e:=qH (t:=q.1) (b:=q.2) (u:=r.1) (c:=r.2) (by omega) (by omega) c
 rw [oB hq gq,oB hr gr] at e
 exact ade (congrArg ajl e) (congrArg ajm e)
theorem CD {b d:Int}(hd:d≠0)(h:d ∣ b):((b.fdiv d:Int):Rat)=(b:Rat) / d:=by
 have e:=cy hd h
 have h1:=cD hd
 have:(b:Rat)=d*(b.fdiv d:Int):=by exact_mod_cast e
 grind
def mN (xs ys:τ):Rat:=(ab9 (fun a b=>vl a*vl b) xs ys).sum
theorem CG {xs ys:τ}:mN (x::xs) (y::ys)=vl x*vl y+mN xs ys:=by simp [mN]
def rP (ts:ξ)(qs:τ)(b:Int):Prop:=ts.length=qs.length/\∀(i:Nat) (t:Int) (q:Int×Int),ts[i]? =some t->qs[i]? =some q->(t:Rat)=vl q*b
theorem xK {a b:Int}(h1:a.natAbs<=2^m)(h2:b.natAbs<=2^n):(a*b).natAbs<=2^(m+n):=by
 rw [abW,ada]
 exact abB h1 h2
theorem Qn {a b:Int}(h1:a.natAbs<=2^m)(h2:b.natAbs<=2^m):(a+b).natAbs<=2^(m+1):=by
 have:=acJ a b
 rw [adj]
 omega
theorem Oq {a:Int}(h:a.natAbs<=2^m)(hm:m<=n):a.natAbs<=2^n:=aaf h (aa7 (by decide) hm)
theorem iO (h:a.natAbs<=2^m)(hm:m < n):intBits a<=n:=intBits_le_iff.mpr (aaj h (Nat.pow_lt_pow_right (by decide) hm))
theorem nq (h1:a.natAbs<=2^m)(h2:b.natAbs<=2^n)(hm:m < 30000000)(hn:n < 30000000):zi a b:=⟨aaf (iO h1 hm) (by decide),aaf (iO h2 hn) (by decide)⟩
theorem IU {b d:Int}(hb:0 < b)(hd:0 < d):0 < b.fdiv (gz b d)*d/\b ∣ b.fdiv (gz b d)*d/\d ∣ b.fdiv (gz b d)*d/\(b.fdiv (gz b d)*d).natAbs<=b.natAbs*d.natAbs:=by
 have gp:=sU (t:=b) (b:=d) (by omega)
 have g1:gz b d ∣ b:=acs ..
 have g2:gz b d ∣ d:=aco ..
 have e1:=cy (g:=gz b d) (by omega) g1
 have e2:=cy (g:=gz b d) (by omega) g2
 generalize gz b d=g at*
 have p1:0 < b.fdiv g:=by
  rcases ail (b.fdiv g) 0 with z | z | z
  ·exfalso
   have:=aij gp z
   omega
  ·rw [z] at e1;omega
  ·exact z
 refine ⟨acN p1 hd,⟨d.fdiv g,?_⟩,⟨b.fdiv g,acp ..⟩,?_⟩
 ·have:b.fdiv g*d=b.fdiv g*(g*d.fdiv g):=by rw [<- e2]
  rw [this]
  have h3:b*d.fdiv g=g*b.fdiv g*d.fdiv g:=by rw [<- e1]
  rw [h3]
  rw [<- ah8,acp (b.fdiv g) g]
 ·rw [abW]
  exact abd _ (by
   have:=dO (g:=g) (a:=b.fdiv g) (by omega)
   rw [<- e1] at this
   exact this)
theorem CH {b:Int}(hq:0 < q.2)(h:q.2 ∣ b):((q.1*b.fdiv q.2:Int):Rat)=vl q*b:=by
 have e:=CD (b:=b) (d:=q.2) (by omega) h
 have:((q.1*b.fdiv q.2:Int):Rat)=q.1*((b.fdiv q.2:Int):Rat):=by push_cast;rfl
 rw [this,e]
 unfold vl
 grind
theorem gv {b d:Int}(hd:d≠0)(h:d ∣ b):(b.fdiv d).natAbs<=b.natAbs:=by
 have:=dO (g:=d) (a:=b.fdiv d) hd
 rw [<- cy hd h] at this
 exact this
section
variable {D:Addr}{te:TE}{cap:L2.St}{H1:Hp}{Q:VK}
theorem CI (n:Nat)(xs:Nat->V)(Rel:Nat->V->Hp->Prop)(nD:H1 D=none)(hn:n < sizeLine)
  (go:∀i H,i < n->au H1 H->J.go i H/\∀x H',J.GN i H x H' ->H' =H/\x=xs i) (stop:∀H,au H1 H->J.stop n H)
  (hR:∀i v H H' ys,H D=some (.lst ys)->aL D H H' ->Rel i v H->Rel i v H')
  (he:∀i H (R:VK),i < n->au H1 H->(∃ys,H D=some (.lst ys))->(∀v H6,au H H6->Rel i v H6->R v H6)->te (some (xs i)::cap) H R)
  (hd:∀ys H,ys.length=n->(∀i v,ys[i]? =some v->Rel i v H)->au H1 H->H D=some (.lst ys)->Q (.ref D) H):
  jI D (cF 0) jn te J (none::cap) H1 Q:=by
 refine xI n xs (fun i ys H=>ys.length=i/\(∀i v,ys[i]? =some v->Rel i v H)/\au H1 H) ⟨rfl,fun i v e=>by simp at e,fun b o e=>by rw [ao (aq e nD)];exact e⟩ ?_ ?_ ?_ ?_
 ·rintro i ys H hi ⟨_,_,s⟩
  exact go i H hi s
 ·rintro ys H ⟨_,_,s⟩
  exact stop H s
 ·rintro i ys H R hi ⟨l,r,s⟩ hD k
  refine he i H R hi s ⟨_,hD⟩ fun v H6 s6 rv=>k v H6 (s6 _ _ hD) (by omega) ⟨by simp [l],fun j u e=>?_,fun b o e=>?_⟩
  ·by_cases c:j < ys.length
   ·rw [aap c] at e
    have ru:=hR j u H H6 ys hD (aL.of s6) (r j u e)
    exact hR j u H6 _ ys (s6 _ _ hD) aL.upd ru
   ·rw [aaY (by omega)] at e
    have ej:j=i:=by
     by_cases z:j - ys.length=0
     ·omega
     ·rw [aai (by simp;omega)] at e
      cases e
    subst ej
    have:v=u:=by
     rw [show j - ys.length=0 by omega] at e
     exact aao e
    subst this
    exact hR j v H6 _ ys (s6 _ _ hD) aL.upd rv
  ·rw [ao (aq e nD)]
   exact s6 _ _ (s _ _ e)
 ·rintro ys H ⟨l,r,s⟩ hD
  exact hd ys H l r s hD
theorem jq {K:Frag}(Rel:Nat->V->Hp->Prop)(nD:H1 D=none)(hn:xs.length < sizeLine)(hS:∀H,au H1 H->aX K H a xs)
  (hR:∀i v H H' ys,H D=some (.lst ys)->aL D H H' ->Rel i v H->Rel i v H')
  (he:∀i x H (R:VK),xs[i]? =some x->au H1 H->(∃ys,H D=some (.lst ys))->(∀v H6,au H H6->Rel i v H6->R v H6)->te (some x::cap) H R)
  (hd:∀ys H,ys.length=xs.length->(∀i v,ys[i]? =some v->Rel i v H)->au H1 H->H D=some (.lst ys)->Q (.ref D) H):
  jI D (cF 0) jn te (K3 K a) (none::cap) H1 Q:=by
 refine CI xs.length (fun i=>(xs[i]?).getD .cw) Rel nD hn (fun i H hi s=>⟨⟨xs,xs[i],hS H s,gE hi⟩,fun x H' y=>⟨y.1,?_⟩⟩) (fun H s=>⟨xs,hS H s,aac _⟩) hR (fun i H R hi s dd k=>?_) hd
 ·rw [y.2 xs (hS H s)];rfl
 ·have e:xs[i]? =some xs[i]:=gE hi
  have k' :=he i _ H R e s dd k
  rw [<- (show (xs[i]?).getD .cw=xs[i] by rw [e];rfl)] at k'
  exact k'
end
theorem Mj {E:γ}{s:Shared}
  (hc:∀n acc,cellsFrom n scope.names acc=(y,n)::acc) (hp:∀h,pushCells h scope.names=h.push {cls:=.type "cell",data:=.cell none})
  (hQ:∀h',h'.Ns s.heap.objs.size (fun _=>none)->(∀b o,s.heap.get? b=some o->h'.get? b=some o)->h'.IsCell (s.heap.objs.size+1) none->
   Q (newEnv scope s.heap.objs.size globals ((y,s.heap.objs.size+1)::cl) qual none .none (some outer) builtinsNs) {s with heap:=h',toks:=s.toks+([]:List (Str×Value)).length}):
  wpAny M A (newFunctionEnv scope globals cl [] qual none .none (some outer)) Q E s:=by
 simp only [newFunctionEnv,aiM,if_true]
 refine wpAny_bind (wpAny_alloc ?_)
 refine wpAny_bind (wpAny_layCells _ (fun name kind cells=>by cases hkc:kind==NameKind.cell <;> simp [hkc]) _ _ _ _ ?_)
 rw [show ({s with heap:=s.heap.push {cls:=.type "dict",data:=.dict #[]}}:Shared).heap.objs.size=s.heap.objs.size+1 from Heap.size_push ..,hc,hp]
 rw [aiF]
 refine wpAny_bind (wpAny_pure (wpAny_pure ?_))
 refine hQ _ ((Heap.Ns.new s.heap (.type "dict")).keeps fun b o e=>Heap.get?_push_of_some _ e) (fun b o e=>Heap.get?_push_of_some _ (Heap.get?_push_of_some _ e)) ?_
 have:=Heap.get?_push_size (s.heap.push {cls:=.type "dict",data:=.dict #[]}) (o:={cls:=.type "cell",data:=.cell none}) rfl
 rw [Heap.size_push] at this
 exact ⟨_,this,rfl⟩
section
variable {X:Cx}
theorem IV {K:Frag}(h:X.K=K)(hl:PE X l tl):PI X tg l (N5 K tl):=by subst h;exact bx hl
abbrev Qo (X:Cx)(NB:ρ)(scope:Scope)(y:Str)(cl:List (Str×Addr))(C:Addr)(s:Shared)(H:Hp)(fp:ω):Cx:=sZ X NB scope (fun x=>x==y) ((y,C+1)::cl) C s H fp
structure Qp (X:Cx)(scope:Scope)(y:Str)(fr:ρ)(caps:Ρ):Prop where
 BZ:closureFor scope X.env=pure (bG X.env fr)
 kind:scope.kind=.function
 names:∀y∈scope.names,y.2=.local->scope.names.lookup y.1=some .local
 free:∀y∈scope.names,y.2=.free->y.1∈fr
 caps:caps.map (fun i=>X.N[i]?)=fr.map some
 out:gf X.env fr
 Ud:gf (compEnvC scope [] 0 X.env) fr
 Qq:∀n acc,cellsFrom n scope.names acc=(y,n)::acc
 Ur:∀h,pushCells h scope.names=h.push {cls:=.type "cell",data:=.cell none}
 only:∀z∈scope.names,z.2=.cell->z.1=y
 ny:y∉fr
theorem Ml {y x:Str}{C c:Addr}(h:ab' x [(y,C)]=some c):x=y/\c=C:=by
 rw [acS] at h
 cases e:x==y with
 | true=>
  rw [e] at h
  exact ⟨by simpa using e,(aao h).symm⟩
 | false=>rw [e] at h;cases h
theorem Qp.g {caps:Ρ}(B:Qp X scope y fr caps):IH X scope (fun C=>[(y,C+1)]) (fun x=>x==y) fr caps:=
 ⟨B.BZ,B.kind,B.names,B.free,B.caps,B.out,B.Ud,fun hQ=>Mj B.Qq B.Ur fun h' a b c=>hQ h' a b fun x d e=>by rw [(Ml e).2];exact c,
  fun C x c e=>by rw [(Ml e).2];exact abu _,fun C x z c e1 e2=>(Ml e1).1.trans (Ml e2).1.symm,fun C x h e=>(by rw [acS,h] at e;cases e),fun z hz e=>by simpa using B.only z hz e,
  fun C x hx=>by rw [acS,show (x==y)=false by simpa using fun z:x=y=>B.ny (by rw [<- z];exact hx)];rfl⟩
end
end Ty
namespace L2
open PySem PySem.Spec PyProof.Rows
section
variable {κ:Type}[DecidableEq κ]
def bL (kvs:List (κ×V))(k:κ):Option V:=(kvs.find? fun kv=>decide (kv.1=k)).map (·.2)
def putK (kvs:List (κ×V))(k:κ)(v:V):List (κ×V):=
 if (kvs.any fun kv=>decide (kv.1=k))=true then kvs.map (fun kv=>if kv.1=k then (kv.1,v) else kv) else kvs++[(k,v)]
def eh (kvs:List (κ×V))(k:κ):List (κ×V):=kvs.filter fun kv=>decide (kv.1≠k)
theorem bM {k:κ}(e:p.1=k):bL (p::r) k=some p.2:=by simp [bL,acC,e]
theorem bE {k:κ}(e:¬ p.1=k):bL (p::r) k=bL r k:=by simp [bL,acC,e]
theorem gw (k:κ):∀kvs:List (κ×V),(kvs.any fun kv=>decide (kv.1=k))=(bL kvs k).isSome
 | []=>rfl
 | p::r=>by
  rw [ac1]
  by_cases e:p.1=k
  ·simp only [bM e,decide_eq_true e,Bool.true_or,aiM]
  ·rw [bE e,decide_eq_false e,Bool.false_or];exact gw k r
theorem vC (k j:κ)(y:V):∀kvs:List (κ×V),bL (kvs.map fun kv=>if kv.1=k then (kv.1,y) else kv) j=(bL kvs j).map fun x=>if j=k then y else x
 | []=>rfl
 | p::r=>by
  have ih:=vC k j y r
  rw [aah]
  by_cases h:p.1=k
  ·rw [if_pos h]
   by_cases e:p.1=j
   ·rw [bM (p:=(p.1,y)) e,bM e,acn,if_pos (e.symm.trans h)]
   ·rw [bE (p:=(p.1,y)) e,bE e,ih]
  ·rw [if_neg h]
   by_cases e:p.1=j
   ·rw [bM (p:=p) e,bM e,acn,if_neg (fun z=>h (e.trans z))]
   ·rw [bE (p:=p) e,bE e,ih]
theorem rQ (k j:κ)(y:V):∀kvs:List (κ×V),bL kvs k=none->bL (kvs++[(k,y)]) j=if j=k then some y else bL kvs j
 | [],_=>by
  by_cases e:k=j
  ·rw [if_pos e.symm];exact bM (p:=(k,y)) e
  ·rw [if_neg (fun z=>e z.symm)];exact bE (p:=(k,y)) e
 | p::r,hn=>by
  rw [acT]
  have hk:¬ p.1=k:=fun z=>by rw [bM z] at hn;cases hn
  rw [bE hk] at hn
  have ih:=rQ k j y r hn
  by_cases e:p.1=j
  ·rw [bM e,bM e,if_neg (fun z=>hk (e.trans z))]
  ·rw [bE e,bE e,ih]
theorem vD (kvs:List (κ×V))(k j:κ)(y:V):bL (putK kvs k y) j=if j=k then some y else bL kvs j:=by
 unfold putK
 by_cases a:(kvs.any fun kv=>decide (kv.1=k))=true
 ·rw [if_pos a,vC]
  rw [gw] at a
  by_cases e:j=k
  ·obtain ⟨x,hx⟩:=acX.mp a
   rw [if_pos e,e,hx,acn,if_pos rfl]
  ·rw [if_neg e]
   cases bL kvs j with
   | none=>rfl
   | some x=>rw [acn,if_neg e]
 ·rw [if_neg a]
  refine rQ k j y kvs ?_
  rw [gw] at a
  cases q:bL kvs k with
  | none=>rfl
  | some x=>rw [q] at a;exact (a rfl).elim
theorem fg (kvs:List (κ×V))(k:κ)(v:V):(putK kvs k v).length<=kvs.length+1:=by
 unfold putK
 split
 ·rw [aaa];omega
 ·rw [aan,abf,aiB];omega
theorem di {k:κ}(v:V)(h:bL kvs k=none):putK kvs k v=kvs++[(k,v)]:=by
 unfold putK
 rw [gw,h]
 exact if_neg (by decide)
theorem gL.gx {o:χ}(r:gL o u):o.isSome=u.isSome:=by
 cases o with
 | none=>cases u with
  | none=>rfl
  | some _=>exact (show False from r).elim
 | some _=>cases u with
  | none=>exact (show False from r).elim
  | some _=>rfl
theorem gL.getD {o:χ}(r:gL o u)(rd:RelV d d'):RelV (o.getD d) (u.getD d'):=by
 cases o with
 | none=>cases u with
  | none=>exact rd
  | some _=>exact (show False from r).elim
 | some _=>cases u with
  | none=>exact (show False from r).elim
  | some _=>exact r
theorem KV.val (r:KV kvs vs)(k:κ):gL (bL kvs k) (valueAt vs k):=by
 unfold KV at r
 induction r with
 | nil=>exact True.intro
 | @cons p q ps qs h t ih=>
  obtain ⟨h1,h2⟩:=h
  by_cases e:p.1=k
  ·have e' :q.1=k:=h1.symm.trans e
   have b:valueAt (q::qs) k=some q.2:=by simp [valueAt,acC,e']
   rw [bM e,b];exact h2
  ·have e' :¬ q.1=k:=fun z=>e (h1.trans z)
   have b:valueAt (q::qs) k=valueAt qs k:=by simp [valueAt,acC,e']
   rw [bE e,b];exact ih
theorem KV.any (r:KV kvs vs)(k:κ):(kvs.any fun kv=>decide (kv.1=k))=vs.any fun kv=>decide (kv.1=k):=by
 unfold KV at r
 induction r with
 | nil=>rfl
 | cons h t ih=>rw [ac1,ac1,ih,h.1]
theorem KV.Qr (r:KV kvs vs)(k:κ)(ry:RelV y u):
  KV (kvs.map fun kv=>if kv.1=k then (kv.1,y) else kv) (vs.map fun kv=>if kv.1=k then (kv.1,u) else kv):=by
 unfold KV at r ⊢
 induction r with
 | nil=>exact .nil
 | @cons p q ps qs h t ih=>
  rw [aah,aah]
  refine .cons ?_ ih
  obtain ⟨h1,h2⟩:=h
  by_cases e:p.1=k
  ·rw [if_pos e,if_pos (h1.symm.trans e)];exact ⟨h1,ry⟩
  ·rw [if_neg e,if_neg (fun z=>e (h1.trans z))];exact ⟨h1,h2⟩
theorem KV.put (r:KV kvs vs)(k:κ)(ry:RelV y u):KV (putK kvs k y) (stored vs k u):=by
 unfold putK stored
 rw [r.any k]
 by_cases e:(vs.any fun kv=>decide (kv.1=k))=true
 ·rw [if_pos e,if_pos e];exact r.Qr k ry
 ·rw [if_neg e,if_neg e];exact Paired.snoc r ⟨rfl,ry⟩
theorem KV.drop (r:KV kvs vs)(k:κ):KV (eh kvs k) (without vs k):=by
 unfold KV at r ⊢
 unfold eh without
 induction r with
 | nil=>exact .nil
 | @cons p q ps qs h t ih=>
  obtain ⟨h1,h2⟩:=h
  rw [ab1,ab1]
  by_cases e:p.1=k
  ·have a:¬ decide (p.1≠k)=true:=by simp [e]
   have b:¬ decide (q.1≠k)=true:=by simp [h1.symm.trans e]
   rw [if_neg a,if_neg b];exact ih
  ·have e' :¬ q.1=k:=fun z=>e (h1.trans z)
   have a:decide (p.1≠k)=true:=by simp [e]
   have b:decide (q.1≠k)=true:=by simp [e']
   rw [if_pos a,if_pos b];exact .cons ⟨h1,h2⟩ ih
theorem KV.length {vs:List (κ×Value)}(r:KV kvs vs):kvs.length=vs.length:=Paired.length r
theorem IW (kvs:List (κ×V))(k:κ):(eh kvs k).length<=kvs.length:=ab0 _ _
end
theorem jJ (r:RelV (kV k) u):(bw P w).is k u=true:=by
 cases k with
 | inl i=>obtain ⟨t,e⟩:=(show ∃t,u=Value.int i t from r);subst e;exact u3 P w i t
 | inr x=>obtain ⟨t,e⟩:=(show ∃t,u=Value.str x t from r);subst e;exact u5 P w x t
theorem rR :∀{ks:List Key} {us:π},Vals (ks.map kV) us->ItemsAre (bw P w) ks us
 | [],_,r=>by rw [adh] at r;cases r;exact .nil
 | k::ks,_,r=>by
  rw [aah] at r
  cases r with
  | cons h t=>exact .cons (jJ h) (rR t)
abbrev KT (H:Hp):List (List Key×V)->List (List Key×Addr×Value)->Prop:=Paired fun p q=>p.1=q.1/\H q.2.1=some (.tup (p.1.map kV))/\RelV p.2 q.2.2
theorem KT.val {kvs:ν}{xs:Υ}(r:KT H kvs xs)(k:List Key):gL (bL kvs k) ((atKey xs k).map (·.2)):=by
 induction r with
 | nil=>exact True.intro
 | @cons p q ps qs h t ih=>
  obtain ⟨h1,_,h2⟩:=h
  by_cases e:p.1=k
  ·have e' :q.1=k:=h1.symm.trans e
   have b:atKey (q::qs) k=some q.2:=by simp [atKey,acC,e']
   rw [bM e,b];exact h2
  ·have e' :¬ q.1=k:=fun z=>e (h1.trans z)
   have b:atKey (q::qs) k=atKey qs k:=by simp [atKey,acC,e']
   rw [bE e,b];exact ih
theorem KT.Qr {kvs:ν}{xs:Υ}(r:KT H kvs xs)(k:List Key)(ry:RelV y u):
  KT H (kvs.map fun kv=>if kv.1=k then (kv.1,y) else kv) (xs.map (putAt k u)):=by
 induction r with
 | nil=>exact .nil
 | @cons p q ps qs h t ih=>
  rw [aah,aah]
  refine .cons ?_ ih
  obtain ⟨h1,h2,h3⟩:=h
  unfold putAt
  by_cases e:p.1=k
  ·rw [if_pos e,if_pos (h1.symm.trans e)];exact ⟨h1,h2,ry⟩
  ·rw [if_neg e,if_neg (fun z=>e (h1.trans z))];exact ⟨h1,h2,h3⟩
theorem KT.put {kvs:ν}{xs:Υ}(r:KT H kvs xs)(k:List Key)(hb:H b=some (.tup (k.map kV)))(ry:RelV y u):
  KT H (putK kvs k y) (storedH xs k b u):=by
 have e:(kvs.any fun kv=>decide (kv.1=k))=(atKey xs k).isSome:=by
  rw [gw,(r.val k).gx,aim]
 unfold putK storedH
 rw [e]
 by_cases q:(atKey xs k).isSome=true
 ·rw [if_pos q,if_pos q];exact r.Qr k ry
 ·rw [if_neg q,if_neg q];exact Paired.snoc r ⟨rfl,hb,ry⟩
theorem KT.keeps {kvs:ν}{xs:Υ}(r:KT H kvs xs)(ht:∀b ys,H b=some (.tup ys)->H' b=some (.tup ys)):KT H' kvs xs:=
 Paired.bF r fun _ _ z=>⟨z.1,ht _ _ z.2.1,z.2.2⟩
section
variable {P:Program}{w:World}{H:Hp}{h:Heap}{a:Addr}
theorem Ot (ok:iZ P w H h)(e:Rd H a u):cg P w H h a u:=e.ok ok
theorem jb (ok:iZ P w H h)(e:Rd H a (.dK kvs)):kvs.length<=sizeLine/\(a==sysModules)=false/\∃vs,KV kvs vs/\h.DictOf (bw P w) a vs:=
 show cg P w H h a (.dK kvs) from Ot ok e
theorem oG (ok:iZ P w H h)(e:H a=some (.dK kvs)):kvs.length<=sizeLine/\(a==sysModules)=false/\∃vs,KV kvs vs/\h.DictOf (bw P w) a vs:=jb ok (.inl e)
theorem kH (ok:iZ P w H h)(e:H a=some (.tup (ks.map kV))):(tupleKind (bw P w)).is h ks a:=by
 obtain ⟨_,its,r,o,h1,h2,n,h3⟩:=(show cg P w H h a (.tup (ks.map kV)) from ok a _ e)
 exact ⟨o,its.toArray,n,h1,h2,h3,by simpa using rR r⟩
theorem mf (ok:iZ P w H h)(e:Rd H a (.dT kvs)):kvs.length<=sizeLine/\(a==sysModules)=false/\
  ∃xs,KT H kvs xs/\h.DictOfH (tupleKind (bw P w)) a xs:=by
 obtain ⟨z,y,xs,r,o,es,ep,h1,h2,h3,h4,h5⟩:=(show cg P w H h a (.dT kvs) from Ot ok e)
 refine ⟨z,y,xs,r,o,es,ep,h1,h2,h3,h4,fun x hx=>?_,h5⟩
 have all:∀{l:ν} {m:Υ},KT H l m->∀x∈m,(tupleKind (bw P w)).is h x.1 x.2.1:=by
  intro l m q
  induction q with
  | nil=>intro x hx;exact nomatch hx
  | @cons p q ps qs hq t ih=>
   intro x hx
   rcases aaQ.mp hx with e | hx
   ·subst e
    exact kH ok (by rw [<- hq.1];exact hq.2.1)
   ·exact ih x hx
 exact all r x hx
theorem IX (ok:iZ P w H h)(e:H a=some (.dT kvs)):kvs.length<=sizeLine/\(a==sysModules)=false/\
  ∃xs,KT H kvs xs/\h.DictOfH (tupleKind (bw P w)) a xs:=mf ok (.inl e)
end
def c7 (H:Hp)(a:Addr)(y:V)(r:χ):Prop:=
 (∃kvs k,Rd H a (.dK kvs)/\y=kV k/\r=bL kvs k)\/∃kvs k b,Rd H a (.dT kvs)/\y=.ref b/\H b=some (.tup (k.map kV))/\r=bL kvs k
def ib (H:Hp)(a:Addr)(y v:V)(H' :Hp):Prop:=
 (∃kvs k,H a=some (.dK kvs)/\y=kV k/\kvs.length < sizeLine/\H' =upd H a (.dK (putK kvs k v)))\/
 ∃kvs k b,H a=some (.dT kvs)/\y=.ref b/\H b=some (.tup (k.map kV))/\kvs.length < sizeLine/\H' =upd H a (.dT (putK kvs k v))
theorem c7.k {kvs:δ}{k:Key}(e:H a=some (.dK kvs)):c7 H a (kV k) (bL kvs k):=.inl ⟨kvs,k,.inl e,rfl,rfl⟩
theorem ib.k {kvs:δ}{k:Key}(e:H a=some (.dK kvs))(hl:kvs.length < sizeLine):ib H a (kV k) v (upd H a (.dK (putK kvs k v))):=.inl ⟨kvs,k,e,rfl,hl,rfl⟩
theorem ib.t {kvs:ν}{k:List Key}(e:H a=some (.dT kvs))(eb:H b=some (.tup (k.map kV)))(hl:kvs.length < sizeLine):
  ib H a (.ref b) v (upd H a (.dT (putK kvs k v))):=.inr ⟨kvs,k,b,e,rfl,eb,hl,rfl⟩
section
variable {X:Cx}{pins:ε}{σ:St}{H:Hp}{s:Shared}{a:Addr}{y v:V}{u r:Value}{o:χ}{A:Around}{E:γ}
theorem Inv.big (I:Inv X pins σ H s):sysModules < s.heap.objs.size:=by
 have h:mainGlobals < s.heap.objs.size:=(I.mod.glob.keeps I.bk).lt
 exact aiw (by decide) h
theorem CJ {Q:γ}(hu:A.units+1 < cLine)(I:Inv X pins σ H s)(g:c7 H a y (some v))(ry:RelV y u)(h:∀w' s',Inv X pins σ H s' ->RelV v w' ->Q w' s'):
  wpAny (model X.prog X.w) A (getItem (.ref a) u) Q E s:=by
 rcases g with ⟨kvs,k,e,ey,l⟩ | ⟨kvs,k,b,e,ey,eb,l⟩
 ·subst ey
  obtain ⟨z,hd,vs,rel,dd⟩:=jb I.bH e
  obtain ⟨w',hw,mZ⟩:=gL.some_of (v:=v) (o:=valueAt vs k) (by rw [l];exact rel.val k)
  exact wpAny_getItem_of (jJ ry) dd.mapOf hw (h w' _ (I.tok _) mZ)
 ·subst ey
  cases (show u=Value.ref b from ry)
  obtain ⟨z,hd,xs,rel,dd⟩:=mf I.bH e
  obtain ⟨w',hw,mZ⟩:=gL.some_of (v:=v) (o:=(atKey xs k).map (·.2)) (by rw [l];exact rel.val k)
  obtain ⟨p,hp,Us⟩:=aal.mp hw
  refine wpAny_getItem_heap (tupleKind_room_in1 hu) (kH I.bH eb) dd hp ?_
  rw [Us]
  exact h w' _ (I.tok _) mZ
theorem aa9 {Q:γ}(hu:A.units+1 < cLine)(I:Inv X pins σ H s)(g:c7 H a y o)(ry:RelV y u)(h:∀s',Inv X pins σ H s' ->Q (.bool o.isSome) s'):
  wpAny (model X.prog X.w) A (compareOp .In u (.ref a)) Q E s:=by
 rcases g with ⟨kvs,k,e,ey,l⟩ | ⟨kvs,k,b,e,ey,eb,l⟩
 ·subst ey
  obtain ⟨z,hd,vs,rel,dd⟩:=jb I.bH e
  refine wpAny_in_of (jJ ry) hd dd.mapOf ?_
  rw [<- (rel.val k).gx, <- l]
  exact h _ (I.tok _)
 ·subst ey
  cases (show u=Value.ref b from ry)
  obtain ⟨z,hd,xs,rel,dd⟩:=mf I.bH e
  refine wpAny_in_heap (tupleKind_room_in1 hu) (kH I.bH eb) hd dd ?_
  have q:=(rel.val k).gx
  rw [aim] at q
  rw [<- q, <- l]
  exact h _ (I.tok _)
theorem Mm {Q:γ}(hu:A.units+1 < cLine)(I:Inv X pins σ H s)(g:c7 H a y o)(ry:RelV y u)(h:∀s',Inv X pins σ H s' ->Q (.bool (!o.isSome)) s'):
  wpAny (model X.prog X.w) A (compareOp .NotIn u (.ref a)) Q E s:=by
 rcases g with ⟨kvs,k,e,ey,l⟩ | ⟨kvs,k,b,e,ey,eb,l⟩
 ·subst ey
  obtain ⟨z,hd,vs,rel,dd⟩:=jb I.bH e
  refine wpAny_notIn_of (jJ ry) hd dd.mapOf ?_
  rw [<- (rel.val k).gx, <- l]
  exact h _ (I.tok _)
 ·subst ey
  cases (show u=Value.ref b from ry)
  obtain ⟨z,hd,xs,rel,dd⟩:=mf I.bH e
  refine wpAny_notIn_heap (tupleKind_room_in1 hu) (kH I.bH eb) hd dd ?_
  have q:=(rel.val k).gx
  rw [aim] at q
  rw [<- q, <- l]
  exact h _ (I.tok _)
theorem gP (I:Inv X pins σ H s)(mu:Tn (H a))(hs:Heap.SameBut a s.heap h')(he:∃q,h'.get? a=some q)(new:cg X.prog X.w (upd H a ob) h' a ob):
  Inv X pins σ (upd H a ob) {s with heap:=h',toks:=t' }:=
 I.write (x:=a) (e:=a) mu (.inl rfl) (fun b q hb z=>(hs.2 b hb).trans z) he new
theorem kI {kvs:δ}(z:kvs.length<=sizeLine)(hd:(a==sysModules)=false)(rel:KV kvs vs)(dd:h'.DictOf (bw P w) a vs):
  cg P w H' h' a (.dK kvs):=⟨z,hd,vs,rel,dd⟩
theorem CK (hu:A.units+1 < cLine)(I:Inv X pins σ H s)(g:ib H a y v H')(ry:RelV y u)(rv:RelV v r)(h:∀s',Inv X pins σ H' s' ->Q () s'):
  wpAny (model X.prog X.w) A (setItem (.ref a) u r) Q E s:=by
 rcases g with ⟨kvs,k,e,ey,l,eH⟩ | ⟨kvs,k,b,e,ey,eb,l,eH⟩
 ·subst ey eH
  obtain ⟨z,hd,vs,rel,dd⟩:=oG I.bH e
  have hz:vs.length<=sizeLine:=by rw [<- rel.length];exact z
  have hl:(putK kvs k v).length<=sizeLine:=by have:=fg kvs k v;omega
  refine wpAny_setItem_pairs (hsz:=hz) (jJ ry) dd fun h' xj hs=>h _ ?_
  have he:∃q,h'.get? a=some q:=let ⟨q,_,_,hq,_⟩:=xj;⟨q,hq⟩
  exact gP I (by rw [e];exact True.intro) hs he (kI hl hd (rel.put k rv) xj)
 ·subst ey eH
  cases (show u=Value.ref b from ry)
  obtain ⟨z,hd,xs,rel,dd⟩:=IX I.bH e
  have hz:xs.length<=sizeLine:=by rw [<- Paired.length rel];exact z
  have hl:(putK kvs k v).length<=sizeLine:=by have:=fg kvs k v;omega
  refine wpAny_setItem_heap (hsz:=hz) (tupleKind_room_in1 hu) (kH I.bH eb) dd fun h' xj hs=>h _ ?_
  obtain ⟨q,es,ep,hq,h2,h3,h4,_,h5⟩:=xj
  refine gP I (by rw [e];exact True.intro) hs ⟨q,hq⟩ ⟨hl,hd,_,(rel.put k eb rv).keeps fun c ys ec=>?_,q,es,ep,hq,h2,h3,h4,h5⟩
  rw [ao (Tj ec e (fun z=>nomatch z))]
  exact ec
end
section
variable {X:Cx}{pins:ε}{σ:St}{H:Hp}{s:Shared}{a:Addr}{kvs:δ}{k:Key}{u:Value}{A:Around}{E:γ}
theorem Ut {more:π}{Q:γ}(I:Inv X pins σ H s)(e:H a=some (.dK kvs))(ry:RelV (kV k) u)(l:bL kvs k=some v)(hm:more=[]\/∃x,more=[x])
  (h:∀w' s',Inv X pins σ (upd H a (.dK (eh kvs k))) s' ->RelV v w' ->Q w' s'):wpAny (model X.prog X.w) A (call (.builtin "dict.pop") (.ref a::u::more)) Q E s:=by
 obtain ⟨z,hd,vs,rel,dd⟩:=oG I.bH e
 obtain ⟨w',hw,mZ⟩:=gL.some_of (v:=v) (o:=valueAt vs k) (by rw [<- l];exact rel.val k)
 have hp:(keyPart u).isSome=true:=by
  cases k with
  | inl i=>obtain ⟨t,q⟩:=(show ∃t,u=Value.int i t from ry);subst q;rfl
  | inr x=>obtain ⟨t,q⟩:=(show ∃t,u=Value.str x t from ry);subst q;rfl
 have ha:argsOk "dict.pop" ⟨.ref a::u::more,[]⟩:=by
  rcases hm with q | ⟨x,q⟩
  ·subst q;exact PySem.F.args_dict_pop_2 _ _
  ·subst q;exact PySem.F.args_dict_pop_3 _ _ _
 refine call_meetsIn PySem.F.slot_dict_pop dd.typeIs PySem.F.entry_dict_pop ha (meets_dict_pop_there (bw X.prog X.w) a (jJ ry) more hm hp)
  ⟨vs,w',dd,by rw [<- rel.length];exact z,hw,fun h' xj hs=>h w' _ ?_ mZ⟩
 have he:∃q,h'.get? a=some q:=let ⟨q,_,_,hq,_⟩:=xj;⟨q,hq⟩
 exact gP I (by rw [e];exact True.intro) hs he (kI (aaf (IW kvs k) z) hd (rel.drop k) xj)
theorem Mn {Q:γ}(I:Inv X pins σ H s)(e:H a=some (.dK kvs))(h:∀s',Inv X pins σ (upd H a (.dK [])) s' ->Q .none s'):wpAny (model X.prog X.w) A (call (.builtin "dict.clear") [.ref a]) Q E s:=by
 obtain ⟨z,hd,vs,rel,dd⟩:=oG I.bH e
 refine call_meetsIn PySem.F.slot_dict_clear dd.typeIs PySem.F.entry_dict_clear (PySem.F.args_dict_clear_1 _) (meets_dict_clear (bw X.prog X.w) a) ⟨vs,dd,by rw [<- rel.length];exact z,fun h' xj hs=>h _ ?_⟩
 have he:∃q,h'.get? a=some q:=let ⟨q,_,_,hq,_⟩:=xj;⟨q,hq⟩
 exact gP (t' :=s.toks) I (by rw [e];exact True.intro) hs he (kI (abc _) hd .nil xj)
theorem Uu {Q:γ}(I:Inv X pins σ H s)(e:Rd H a (.dK kvs))(h:∀t s',Inv X pins σ H s' ->Q (.int kvs.length t) s'):wpAny (model X.prog X.w) A (call (.builtin "len") [.ref a]) Q E s:=by
 obtain ⟨z,hd,vs,rel,dd⟩:=jb I.bH e
 refine call_len_dict hd dd (by rw [<- rel.length];rw [sizeLine_eq] at z;omega) ?_
 rw [<- rel.length]
 exact h _ _ (I.tok _)
end
def Uv (i:Expr):Prop:=∀ov iv,subscripted i false ov iv=operate [ov,iv] (getItem ov iv)
theorem Mo {E:γ}{T id:String}{Q:γ}
  (hl:typeLookup (.type T) "__getitem__"=pure (some (.builtin id))) (hs:Uv slice)
  (h:wpAny (model prog w) A (eval value env) (fun o s₁=>wpAny (model prog w) A (eval slice env) (fun i s₂=>s₂.TypeIs o T/\wpAny (model prog w) A (getItem o i) Q E s₂) E s₁) E s):
  wpAny (model prog w) A (eval (.Subscript value slice pos) env) Q E s:=by
 refine Subscript_ (wpAny_mono h (fun o s₁ h₁=>wpAny_mono h₁ (fun i s₂ h₂=>?_) fun _ _ x=>x) fun _ _ x=>x)
 obtain ⟨hT,h₂⟩:=h₂
 unfold subscriptTail
 refine wpAny_bind ?_
 rw [getitemInPython_of_ne hT.not_modules]
 refine wpAny_bind (wpAny_specialOf hT hl ?_)
 have fin:wpAny (model prog w) A (subscripted slice false o i) (fun r s₃=>wpAny (model prog w) A (letTemporaryGo value o r >>=fun _=>pure r) Q E s₃) E s₂:=by
  rw [hs o i]
  exact wpAny_operating (wpAny_mono h₂ (fun r s₃ h₃=>wpAny_bind (wpAny_letTemporaryGo (wpAny_pure h₃))) fun _ _ x=>x)
 first
  | exact wpAny_pure (wpAny_bind fin)
  | exact wpAny_bind (wpAny_pure (wpAny_bind fin))
  | exact wpAny_bind fin
theorem vE {σ:St}(I:Inv X pins σ H s)(g:c7 H a y o):s.TypeIs (.ref a) "dict":=by
 rcases g with ⟨kvs,k,e,_,_⟩ | ⟨kvs,k,b,e,_,_,_⟩
 ·obtain ⟨_,_,vs,_,dd⟩:=jb I.bH e
  exact dd.typeIs
 ·obtain ⟨_,_,xs,_,dd⟩:=mf I.bH e
  exact dd.typeIs
inductive IY (Q:VK)(x:V)(y:V)(H2:Hp):Prop where
 | mk (a v:_) (_:x=.ref a) (_:c7 H2 a y (some v)) (_:Q v H2):IY Q x y H2
def Uw (td ty:TE):TE:=fun σ H Q=>td σ H fun x H1=>ty σ H1 fun y H2=>IY Q x y H2
inductive Ou (Q:VK)(y:V)(x:V)(H2:Hp):Prop where
 | mk (a o:_) (_:x=.ref a) (_:c7 H2 a y o) (_:Q (.bl o.isSome) H2):Ou Q y x H2
def aa' (ty td:TE):TE:=fun σ H Q=>ty σ H fun y H1=>td σ H1 fun x H2=>Ou Q y x H2
inductive vF (Q:VK)(y:V)(x:V)(H2:Hp):Prop where
 | mk (a o:_) (_:x=.ref a) (_:c7 H2 a y o) (_:Q (.bl (!o.isSome)) H2):vF Q y x H2
def Mp (ty td:TE):TE:=fun σ H Q=>ty σ H fun y H1=>td σ H1 fun x H2=>vF Q y x H2
inductive IZ (D:Ends)(σ:L2.St)(v:V)(x:V)(y:V)(H3:Hp):Prop where
 | mk (a H4:_) (_:x=.ref a) (_:ib H3 a y v H4) (_:D.nx σ H4):IZ D σ v x y H3
def Ux (td ty tv:TE):TS:=fun D σ H=>tv σ H fun v H1=>td σ H1 fun x H2=>ty σ H2 fun y H3=>IZ D σ v x y H3
section
variable {X:Cx}{o i e value:Expr}{pos pos' sL:Pos}{td ty tv:TE}
theorem du (hu:X.A.units+1 < cLine)(ho:PE X o td)(hi:PE X i ty)(hs:Uv i):PE X (.Subscript o i pos) (Uw td ty):=by
 intro pins s σ H Q I h
 refine Mo PySem.F.slot_dict_getitem.lookup hs (cq (ho pins s σ H _ I h) fun u s1 ⟨x,H1,I1,rx,q1⟩=>cq (hi pins s1 σ H1 _ I1 q1) fun iv s2 ⟨y,H2,I2,ry,a,v,ex,g,q2⟩=>?_)
 subst ex
 obtain rfl:u=Value.ref a:=rx
 exact ⟨vE I2 g,CJ hu I2 g ry fun w' s3 I3 mZ =>⟨v,H2,I3,mZ,q2⟩⟩
theorem kJ (hu:X.A.units+1 < cLine)(hi:PE X i ty)(ho:PE X o td):PC X .In i o (aa' ty td):=by
 intro pins s σ H Q I h
 refine cq (hi pins s σ H _ I h) fun iv s1 ⟨y,H1,I1,ry,q1⟩=>cq (ho pins s1 σ H1 _ I1 q1) fun u s2 ⟨x,H2,I2,rx,a,ov,ex,g,q2⟩=>?_
 subst ex
 obtain rfl:u=Value.ref a:=rx
 exact aa9 hu I2 g ry fun s3 I3=>⟨.bl ov.isSome,H2,I3,rfl,q2⟩
theorem iP (hu:X.A.units+1 < cLine)(hi:PE X i ty)(ho:PE X o td):PC X .NotIn i o (Mp ty td):=by
 intro pins s σ H Q I h
 refine cq (hi pins s σ H _ I h) fun iv s1 ⟨y,H1,I1,ry,q1⟩=>cq (ho pins s1 σ H1 _ I1 q1) fun u s2 ⟨x,H2,I2,rx,a,ov,ex,g,q2⟩=>?_
 subst ex
 obtain rfl:u=Value.ref a:=rx
 exact Mm hu I2 g ry fun s3 I3=>⟨.bl (!ov.isSome),H2,I3,rfl,q2⟩
theorem eA (hu:X.A.units+1 < cLine)(ho:PE X o td)(hi:PE X i ty)(hv:PE X value tv)(hs:swapsWith value (some (.Subscript o i pos')) pos.line X.env=pure false):
  PS X (.Assign [.Subscript o i pos'] value pos) (Ux td ty tv):=by
 intro pins s σ H D I h
 refine wpAny_Assign_Subscript (cq (hv pins s σ H _ I h) fun r s1 ⟨v,H1,I1,rv,q1⟩=>cq (ho pins s1 σ H1 _ I1 q1) fun u s2 ⟨x,H2,I2,rx,q2⟩=>cq (hi pins s2 σ H2 _ I2 q2) fun iv s3 ⟨y,H3,I3,ry,a,H4,ex,g,q3⟩=>?_) hs
 subst ex
 obtain rfl:u=Value.ref a:=rx
 exact CK hu I3 g ry rv fun s4 I4=>⟨σ,H4,I4,q3⟩
end
theorem vG (h:Heap)(hb:sysModules < h.objs.size):cg P w H (h.push {cls:=.type "dict",data:=.dict #[]}) h.objs.size (.dK []):=
 ⟨abc _,beq_eq_false_iff_ne.mpr (aba (aa_ hb)),[],.nil,Heap.DictOf.new h⟩
theorem I_ (h:Heap)(hb:sysModules < h.objs.size):cg P w H (h.push {cls:=.type "dict",data:=.dict #[]}) h.objs.size (.dT []):=
 ⟨abc _,beq_eq_false_iff_ne.mpr (aba (aa_ hb)),[],.nil,_, #[],0,Heap.get?_push_size _ rfl,⟨rfl,rfl,rfl⟩,rfl,rfl,acv⟩
def Qs:TE:=fun _ H Q=>∀p,H p=none->Q (.ref p) (upd H p (.dK []))
def Qt:TE:=fun _ H Q=>∀p,H p=none->Q (.ref p) (upd H p (.dT []))
section
variable {X:Cx}{pos:Pos}
theorem fh:PE X (.Dict [] [] pos) Qs:=fun pins s σ H Q I h=>
 wpAny_Dict_empty ⟨.ref s.heap.objs.size,_,I.laid (a:=s.heap.objs.size) (o:=.dK []) (t' :=s.toks) (fun _ _ q=>Heap.get?_push_of_some _ q) (aac _) (vG s.heap I.big),rfl,h _ (I.bH.fresh (aac _))⟩
theorem vH:PE X (.Dict [] [] pos) Qt:=fun pins s σ H Q I h=>
 wpAny_Dict_empty ⟨.ref s.heap.objs.size,_,I.laid (a:=s.heap.objs.size) (o:=.dT []) (t' :=s.toks) (fun _ _ q=>Heap.get?_push_of_some _ q) (aac _) (I_ s.heap I.big),rfl,h _ (I.bH.fresh (aac _))⟩
end
def xM:List (TE×TE)->St->Hp->(List (V×V)->Hp->Prop)->Prop
 | [],_,H,Q=>Q [] H
 | (tk,tv)::r,σ,H,Q=>tk σ H fun x H1=>tv σ H1 fun y H2=>xM r σ H2 fun ps H3=>Q ((x,y)::ps) H3
abbrev VV:List (V×V)->List (Value×Value)->Prop:=Paired fun p q=>RelV p.1 q.1/\RelV p.2 q.2
def ZR (X:Cx)(pos:Pos)(keys:List (Option Expr))(values:Α)(Mq:List (TE×TE)):Prop:=
 ∀(pins:ε) (s:Shared) (σ:St) (H:Hp) (Q:List (V×V)->Hp->Prop),Inv X pins σ H s->xM Mq σ H Q->
  wpAny (model X.prog X.w) X.A (evalPairs (pairTrees keys values X.env pos)) (fun vs s' =>∃ps H',Inv X pins σ H' s' /\VV ps vs/\Q ps H') X.xe s
theorem zq :ZR X pos [] [] []:=fun pins s σ H Q I h=>pairTrees_nil_walk ⟨[],H,I,.nil,h⟩
theorem oH (hk:PE X k tk)(hv:PE X v tv)(hr:ZR X pos ks vs Mq):
  ZR X pos (some k::ks) (v::vs) ((tk,tv)::Mq):=fun pins s σ H Q I h=>
 pairTrees_cons_walk (cq (hk pins s σ H _ I h) fun u s1 ⟨x,H1,I1,rx,q1⟩=>cq (hv pins s1 σ H1 _ I1 q1) fun w2 s2 ⟨y,H2,I2,ry,q2⟩=>
  cq (hr pins s2 σ H2 _ I2 q2) fun ws s3 ⟨ps,H3,I3,rel,q3⟩=>⟨(x,y)::ps,H3,I3,.cons ⟨rx,ry⟩ rel,q3⟩)
def cn (kvs more:δ):List (Key×V):=more.foldl (fun acc kv=>putK acc kv.1 kv.2) kvs
theorem KV.merge:∀{more:δ} {rs:List (Key×Value)} {kvs:δ} {vs:List (Key×Value)},KV more rs->KV kvs vs->KV (cn kvs more) (merged vs rs):=by
 intro more rs kvs vs r
 unfold KV at r
 induction r generalizing kvs vs with
 | nil=>intro q;exact q
 | @cons p q ps qs h t ih=>
  intro r0
  have e:KV (putK kvs p.1 p.2) (stored vs q.1 q.2):=by
   have:=r0.put p.1 h.2
   rw [<- h.1];exact this
  exact ih e
theorem gi:∀(more kvs:δ),(cn kvs more).length<=kvs.length+more.length
 | [],kvs=>by show kvs.length<=kvs.length+0;omega
 | p::r,kvs=>by
  have h1:=gi r (putK kvs p.1 p.2)
  have h2:=fg kvs p.1 p.2
  show (cn (putK kvs p.1 p.2) r).length<=_
  rw [abf];omega
theorem oI :∀{kvs:δ} {ws:List (Value×Value)},VV (kvs.map fun kv=>(kV kv.1,kv.2)) ws->∃rs,Carries (bw P w) ws rs/\KV kvs rs
 | [],_,r=>by rw [adh] at r;cases r;exact ⟨[],True.intro,.nil⟩
 | p::kvs,_,r=>by
  rw [aah] at r
  cases r with
  | @cons a b as bs h t=>
   obtain ⟨rs,c,q⟩:=oI (P:=P) (w:=w) t
   obtain ⟨b1,b2⟩:=b
   exact ⟨(p.1,b2)::rs,⟨jJ h.1,rfl,c⟩,.cons ⟨rfl,h.2⟩ q⟩
def Uy (Mq:List (TE×TE)):TE:=fun σ H Q=>∀p,H p=none->xM Mq σ (upd H p (.dK [])) fun ps H2=>H2 p=some (.dK [])/\∃kvs:List (Key×V),ps=kvs.map (fun kv=>(kV kv.1,kv.2))/\kvs.length<=15/\Q (.ref p) (upd H2 p (.dK (cn [] kvs)))
theorem zu (h:ZR X pos keys values Mq)(HZ:keys.all (·.isSome)=true)(hl:keys.length=values.length)(h0:keys≠[])
  (h15:keys.length<=15):PE X (.Dict keys values pos) (Uy Mq):=by
 intro pins s σ H Q I q
 have hn:=I.bH.fresh (aac s.heap.objs.size)
 have I1:=I.laid (a:=s.heap.objs.size) (o:=.dK []) (h' :=s.heap.push {cls:=.type "dict",data:=.dict #[]}) (t' :=s.toks) (fun _ _ q=>Heap.get?_push_of_some _ q) (aac _) (vG s.heap I.big)
 refine wpAny_Dict_walk (knd:=bw X.prog X.w) HZ hl h0 h15 (cq (h pins _ σ _ _ I1 (q _ hn)) fun ws s2 ⟨ps,H2,I2,rel,e,kvs,ep,lk,q2⟩=>?_)
 subst ep
 obtain ⟨rs,c,rk⟩:=oI (P:=X.prog) (w:=X.w) rel
 obtain ⟨z,hd,vs0,r0,dd⟩:=oG I2.bH e
 cases r0
 refine ⟨rs,c,dd,fun h' xj hs=>⟨.ref s.heap.objs.size,_,?_,rfl,q2⟩⟩
 have hz:(cn [] kvs).length<=sizeLine:=by
  have h1:=gi kvs []
  rw [aiB] at h1
  rw [sizeLine_eq];omega
 have he:∃q,h'.get? s.heap.objs.size=some q:=let ⟨q,_,_,hq,_⟩:=xj;⟨q,hq⟩
 exact gP I2 (by rw [e];exact True.intro) hs he (kI hz hd (rk.merge .nil) xj)
structure M1 (X:Cx)(o:Expr)(m:Str)(apos:Pos)(e:Expr)(cH:Pos):Prop where
 base:attributeBase o m X.env (eval o X.env)=eval o X.env
 few:((backTo cH (starEach [e] X.env)).all (fun x=> !x.1) && (backToKw cH (keywordEach [] X.env)).all (fun x=>x.1.isSome)
  && decide (([e]:List Expr).length+([]:List Keyword).length+(if ([]:List Keyword).isEmpty then 0 else 1) < 30))=true
 line:(apos.endLine==cH.line)=true
 trees:backTo cH (starEach [e] X.env)=[(false,eval e X.env)]
structure M2 (X:Cx)(o:Expr)(m:Str)(apos:Pos)(e f:Expr)(cH:Pos):Prop where
 base:attributeBase o m X.env (eval o X.env)=eval o X.env
 few:((backTo cH (starEach [e,f] X.env)).all (fun x=> !x.1) && (backToKw cH (keywordEach [] X.env)).all (fun x=>x.1.isSome)
  && decide (([e,f]:List Expr).length+([]:List Keyword).length+(if ([]:List Keyword).isEmpty then 0 else 1) < 30))=true
 line:(apos.endLine==cH.line)=true
 trees:backTo cH (starEach [e,f] X.env)=[(false,eval e X.env),(false,eval f X.env)]
def IsD (H:Hp)(a:Addr):Prop:=(∃kvs,Rd H a (.dK kvs))\/∃kvs,Rd H a (.dT kvs)
theorem oJ {σ:St}(I:Inv X pins σ H s)(d:IsD H a):
  s.TypeIs (.ref a) "dict"/\(∀b,Value.ref a=.ref b->∃ob,s.heap.get? b=some ob/\ob.dict=none)/\(a==sysModules)=false:=by
 rcases d with ⟨kvs,e⟩ | ⟨kvs,e⟩
 ·obtain ⟨_,hd,vs,_,dd⟩:=jb I.bH e
  refine ⟨dd.typeIs,fun b q=>?_,hd⟩
  cases q
  obtain ⟨ob,_,_,h1,h2,_⟩:=dd
  exact ⟨ob,h1,h2.2.1⟩
 ·obtain ⟨_,hd,xs,_,dd⟩:=mf I.bH e
  refine ⟨dd.typeIs,fun b q=>?_,hd⟩
  cases q
  obtain ⟨ob,_,_,h1,h2,_⟩:=dd
  exact ⟨ob,h1,h2.2.1⟩
section
variable {X:Cx}{pins:ε}{σ:St}{H:Hp}{s:Shared}{a:Addr}{y d:V}{u r:Value}{o:χ}{A:Around}{E:γ}
theorem Qu {Q:γ}(hu:A.units+1 < cLine)(I:Inv X pins σ H s)(g:c7 H a y o)(ry:RelV y u)(rd:RelV d r)(h:∀w' s',Inv X pins σ H s' ->RelV (o.getD d) w' ->Q w' s'):
  wpAny (model X.prog X.w) A (call (.builtin "dict.get") [.ref a,u,r]) Q E s:=by
 rcases g with ⟨kvs,k,e,ey,l⟩ | ⟨kvs,k,b,e,ey,eb,l⟩
 ·subst ey
  obtain ⟨z,hd,vs,rel,dd⟩:=jb I.bH e
  refine call_meetsIn PySem.F.slot_dict_get dd.typeIs PySem.F.entry_dict_get (PySem.F.args_dict_get_3 _ _ _) (meets_dict_get_default (bw X.prog X.w) a (jJ ry) hd r) ⟨_,dd.mapOf,h _ _ (I.tok _) ?_⟩
  rw [l]
  exact (rel.val k).getD rd
 ·subst ey
  cases (show u=Value.ref b from ry)
  obtain ⟨z,hd,xs,rel,dd⟩:=mf I.bH e
  refine call_meetsIn PySem.F.slot_dict_get dd.typeIs PySem.F.entry_dict_get (PySem.F.args_dict_get_3 _ _ _) (meetsH_dict_get_default (tupleKind (bw X.prog X.w)) a b hd r) ⟨tupleKind_room_in1 hu,k,xs,kH I.bH eb,dd,h _ _ (I.tok _) ?_⟩
  rw [l]
  exact (rel.val k).getD rd
end
def Qv (td ty tx:TE):TE:=fun σ H Q=>td σ H fun x H1=>∃a,x=.ref a/\IsD H1 a/\ty σ H1 fun y H2=>tx σ H2 fun z H3=>∃o,c7 H3 a y o/\Q (o.getD z) H3
def Qw (td ty:TE):TE:=fun σ H Q=>td σ H fun x H1=>∃a,x=.ref a/\IsD H1 a/\ty σ H1 fun y H2=>∃kvs k v,H2 a=some (.dK kvs)/\y=kV k/\bL kvs k=some v/\Q v (upd H2 a (.dK (eh kvs k)))
section
variable {X:Cx}{o e f:Expr}{apos cH:Pos}{td ty tx:TE}
theorem Jc (hu:X.A.units+1 < cLine)(ho:PE X o td)(he:PE X e ty)(hf:PE X f tx)(m:M2 X o "get" apos e f cH):PE X (.Call (.Attribute o "get" apos) [e,f] [] cH) (Qv td ty tx):=by
 intro pins s σ H Q I h
 refine wpAny_Call_method m.base m.few m.line PySem.F.plainAttrs_dict PySem.F.slot_dict_get PySem.F.type_dict_get (cq (ho pins s σ H _ I h) fun u s1 ⟨x,H1,I1,rx,a,ex,d,q1⟩=>?_)
 subst ex
 obtain rfl:u=Value.ref a:=rx
 obtain ⟨t1,t2,_⟩:=oJ I1 d
 refine ⟨t1,t2,?_⟩
 rw [m.trees]
 refine Calls.callWith_builtin rfl (Calls.evalArgs_plain (Calls.spliced_cons (cq (he pins s1 σ H1 _ I1 q1) fun iv s2 ⟨y,H2,I2,ry,q2⟩=>
  Calls.spliced_cons (cq (hf pins s2 σ H2 _ I2 q2) fun fv s3 ⟨z,H3,I3,rz,ov,g,q3⟩=>Calls.spliced_nil ?_))))
 exact Qu hu I3 g ry rz fun w' s4 I4 mZ =>⟨_,H3,I4,mZ,q3⟩
theorem oK (ho:PE X o td)(he:PE X e ty)(m:M1 X o "pop" apos e cH):PE X (.Call (.Attribute o "pop" apos) [e] [] cH) (Qw td ty):=by
 intro pins s σ H Q I h
 refine wpAny_Call_method m.base m.few m.line PySem.F.plainAttrs_dict PySem.F.slot_dict_pop PySem.F.type_dict_pop (cq (ho pins s σ H _ I h) fun u s1 ⟨x,H1,I1,rx,a,ex,d,q1⟩=>?_)
 subst ex
 obtain rfl:u=Value.ref a:=rx
 obtain ⟨t1,t2,_⟩:=oJ I1 d
 refine ⟨t1,t2,?_⟩
 rw [m.trees]
 refine Calls.callWith_builtin rfl (Calls.evalArgs_plain (Calls.spliced_cons (cq (he pins s1 σ H1 _ I1 q1) fun iv s2 ⟨y,H2,I2,ry,kvs,k,v,ea,ey,l,q2⟩=>Calls.spliced_nil ?_)))
 subst ey
 exact Ut I2 ea ry l (.inl rfl) fun w' s3 I3 mZ =>⟨v,_,I3,mZ,q2⟩
end
section
variable {X:Cx}{pins:ε}{σ:St}{H:Hp}{s:Shared}{a:Addr}{kvs:δ}{A:Around}{E:γ}
end
section
variable {X:Cx}{pins:ε}{σ:St}{H:Hp}{s:Shared}{a:Addr}{y:V}{u:Value}{A:Around}{E:γ}
end
end L2
set_option maxHeartbeats 4000000
namespace Ty
open PySem PySem.Spec PyProof.Rows L2
section
variable {X:Cx}
theorem Mr {σ:L2.St}(I:Inv X pins σ H s):s.heap.NoSeer:=I.ok.mod.seer.keeps I.bk
theorem cC.py (r:cC k A)(h:32<=k):A.depth+Builtin.pylongFrames < recursionLimit:=by
 have:=r.dp
 have:Builtin.pylongFrames=100:=rfl
 omega
theorem fO (ht:X.prog.given.tree=none)(hd:X.A.depth+Builtin.pylongFrames < recursionLimit)(LR:X.stack=env::l)(h1:env.scope.isGenerator=false)(h2:env.scope.isCoroutine=false)(h3:env.builtins=builtinsNs)(h4:env.globals=mainGlobals):
  jx X (binaryOp .FloorDiv) (rI Qe fun i j=>.int (i.fdiv j)):=by
 intro pins s σ H x y v u Q I rx ry h
 obtain ⟨i,j,rfl,rfl,hc,q⟩:=h
 obtain ⟨t,rfl⟩:=rx
 obtain ⟨t',rfl⟩:=ry
 exact floordiv_int hc ⟨.int _,H,I.tok _,⟨_,rfl⟩,q⟩ (.inr (PylongRoom.of I.nolimit hd (SeerAt.of (Mr I) ht (by rw [I.ok.frames,LR]) h1 h2 h3 h4)))
end
section
variable {prog:Program}{w:World}{A:Around}{E:γ}{s:Shared}{KK:Type}[DecidableEq KK]{knd:KeyKind prog w KK}
theorem CL (hm:s.heap.DictOf knd d kvs)(h:Q false s):wpAny (model prog w) A (Builtin.List.listLengthHint (.ref d)) Q E s:=by
 unfold Builtin.List.listLengthHint
 refine wpAny_bind (wpAny_specialOf (name:=Str.ofString "__len__") hm.typeIs F.slot_dict_len.lookup ?_)
 generalize hid:("dict.__len__":String)=id0
 wp_delta
 rw [show splitId id0=some ("dict","__len__") from by subst hid;decide+kernel]
 subst hid
 refine wpAny_bind (wpAny_isInstance (T:="dict") (b:=true) hm.typeIs (by rw [isSubtype_type];kernel_rfl) ?_)
 refine wpAny_ite_split (fun hab=>absurd hab (by decide)) (fun _=>?_)
 refine wpAny_ite_split (fun _=>?_) (fun hab=>absurd (by decide+kernel) hab)
 refine wpAny_bind (wpAny_typeOf (T:="dict") hm.typeIs ?_)
 exact wpAny_pure h
theorem vI {R:Τ}(hh:A.handled=none)(hd:(d==sysModules)=false)(hm:s.heap.DictAt knd d kvs ep)(hlen:kvs.length<=sizeLine)(S:Addr)(res:Value)(c₀:Nat)(hS:s.heap.get? S=some {cls:=.type "list",data:=.seq #[] c₀})
  (hR:∀h' tk fC c',(∀b o,b≠S->s.heap.get? b=some o->h'.get? b=some o)->h'.get? S=some {cls:=.type "list",dict:=none,data:=.seq fC c',slots:= #[]}->
   ItemsOf (fun i v=>∃k x,kvs[i]? =some (k,x)/\knd.is k v=true) fC kvs.length->R (.ok (.ret res)) {s with heap:=h',toks:=tk}):
  wpAny (model prog w) A.in1 (Builtin.List.listExtendWith (.ref S) (.ref d) res)
   (fun fin s' =>match fin with | .done f=>R (.ok f) s' | .again c' =>c'.quiet=true/\codeAny (model prog w) A c' R s') (fun e s' =>R (.error e) s') s:=by
 obtain ⟨od,es,qJ,qD,dw,hk0,hp0,hn0⟩:=id hm
 have hT:s.TypeIs (.ref d) "dict":=hm.dictOf.typeIs
 have SJ:S≠d:=fun e=>by
  rw [e] at hS
  rw [hS] at qJ
  cases qJ
  cases dw
 have hdI:d≠s.heap.objs.size:=aa_ (Heap.lt_size qJ)
 have hSI:S≠s.heap.objs.size:=aa_ (Heap.lt_size hS)
 have hSf:S∉[s.heap.objs.size,d]:=fun hm=>by
  rcases aaQ.mp hm with z | z
  ·exact hSI z
  ·exact SJ (aas.mp z)
 have W:=(Walks.dictKeys (knd:=knd) (A:=A.in1) hh s.heap.objs.size d hdI kvs ep).toS
 unfold Builtin.List.listExtendWith
 refine wpAny_bind (wpAny_typeOf (T:="dict") hT ?_)
 have h1:Builtin.List.listSameRef (.ref S) (.ref d)=false:=by simp [Builtin.List.listSameRef,SJ]
 have h2:(Value.type "dict"==Value.type "list")=false:=by decide
 have h3:(Value.type "dict"==Value.type "tuple")=false:=by decide
 simp only [h1,h2,h3,aiK,abC,if_false]
 refine wpAny_bind (wpAny_pyIter_dict hd hm ?_)
 have Ms:(s.heap.push {cls:=.type "dict_keyiterator",data:=.fields #[.ref d,.int 0 0,.int kvs.length 0,.int ep 0]}).DictAt knd d kvs ep:=hm.at' fun o e=>Heap.get?_push_of_some _ e
 refine wpAny_bind (wpAny_holding (CL (knd:=knd) Ms.dictOf ?_))
 have Uz:=Heap.get?_push_of_some {cls:=.type "dict_keyiterator",data:=.fields #[.ref d,.int 0 0,.int kvs.length 0,.int ep 0]} hS
 have it₁:(s.heap.push {cls:=.type "dict_keyiterator",data:=.fields #[.ref d,.int 0 0,.int kvs.length 0,.int ep 0]}).IsKeyIter s.heap.objs.size d 0 kvs.length ep:=⟨_,Heap.get?_push_size _ rfl,rfl,rfl⟩
 have key:∀(h:Heap) (c₁ tk:Nat),h.IsKeyIter s.heap.objs.size d 0 kvs.length ep->h.DictAt knd d kvs ep->(∀b o,b≠S->s.heap.get? b=some o->h.get? b=some o)->
   h.get? S=some {cls:=.type "list",data:=.seq #[] c₁}->codeAny (model prog w) A (.builtin "list.extend.loop" ⟨[.ref S,.ref s.heap.objs.size,res],[]⟩) R {s with heap:=h,toks:=tk}:=by
  intro h c₁ tk hit hdm hk Uz
  refine codeAny_extend_loopS W hlen S hSf res kvs.length 0 _ #[] c₁ rfl (abc _) ⟨hit,hdm⟩ Uz (ItemsOf.nil _) fun s' fC c' hm' Qx jK=>?_
  rw [Moved.eq_with hm']
  refine hR s'.heap s'.toks fC c' (fun b o hb e=>hm'.heap b o (fun CM=>?_) (hk b o hb e)) Qx jK
  rcases aaQ.mp CM with e' | CM
  ·exact hb e'
  ·exact absurd (Heap.lt_size e) (by rw [aas.mp CM];exact abU _)
 refine wpAny_ite_split (fun _=>?_) (fun _=>wpAny_pure ⟨plainId_quiet F.plain_extend_loop _,key _ c₀ _ it₁ Ms (fun b o _ e=>Heap.get?_push_of_some _ e) Uz⟩)
 refine wpAny_bind (wpAny_rule ?_)
 refine wpAny_bind ?_
 show wpAny _ _ (updateSeq S (·.push .none) >>=fun _=>updateSeq S (·.pop)) _ _ _
 refine wpAny_bind (wpAny_updateSeq Uz rfl ?_)
 have ZS:=Heap.get?_update_self (Obj.mapSeq (·.push Value.none)) Uz rfl
 refine wpAny_updateSeq (hz:=by seq_fits) ZS rfl ?_
 have hS₃:=Heap.get?_update_self (Obj.mapSeq (·.pop)) ZS rfl
 refine wpAny_pure ⟨plainId_quiet F.plain_extend_loop _,key _ _ _ (it₁.at fun o e=>?_) (Ms.at' fun o e=>?_) (fun b o hb e=>?_) hS₃⟩
 ·exact (Heap.get?_update_other _ _ hSI).trans ((Heap.get?_update_other _ _ hSI).trans e)
 ·exact (Heap.get?_update_other _ _ SJ).trans ((Heap.get?_update_other _ _ SJ).trans e)
 ·exact (Heap.get?_update_other _ _ (aba hb)).trans ((Heap.get?_update_other _ _ (aba hb)).trans (Heap.get?_push_of_some _ e))
theorem oM {R:Τ}(hh:A.handled=none)(hd:(d==sysModules)=false)(hm:s.heap.DictAt knd d kvs ep)(hlen:kvs.length<=sizeLine)(S:Addr)(hS:s.heap.get? S=some {cls:=.type "list",data:=.seq #[]})
  (hR:∀h' tk fC c',(∀b o,b≠S->s.heap.get? b=some o->h'.get? b=some o)->h'.get? S=some {cls:=.type "list",dict:=none,data:=.seq fC c',slots:= #[]}->
   ItemsOf (fun i v=>∃k x,kvs[i]? =some (k,x)/\knd.is k v=true) fC kvs.length->R (.ok (.ret .none)) {s with heap:=h',toks:=tk}):
  wpAny (model prog w) A.in1 (Builtin.«list.__init__» ⟨[.ref S,.ref d],[]⟩)
   (fun fin s' =>match fin with | .done f=>R (.ok f) s' | .again c' =>c'.quiet=true/\codeAny (model prog w) A c' R s') (fun e s' =>R (.error e) s') s:=by
 obtain ⟨od,es,qJ,qD,dw,hk0,hp0,hn0⟩:=id hm
 have SJ:S≠d:=fun e=>by
  rw [e] at hS
  rw [hS] at qJ
  cases qJ
  cases dw
 show wpAny _ _ (do let old <- Builtin.List.listItems (.ref S);Builtin.List.listUpdate (.ref S) (fun _=> #[]);letGo old.toList.reverse;Builtin.List.listExtendWith (.ref S) (.ref d) .none) _ _ s
 refine wpAny_bind ?_
 unfold Builtin.List.listItems
 refine wpAny_bind (wpAny_seqItems hS rfl (wpAny_pure ?_))
 show wpAny _ _ (updateSeq S (fun _=> #[]) >>=fun _=>letGo (#[]:Array Value).toList.reverse >>=fun _=>Builtin.List.listExtendWith (.ref S) (.ref d) .none) _ _ s
 refine wpAny_bind (wpAny_updateSeq hS rfl ?_)
 have ZS:=Heap.get?_update_self (Obj.mapSeq (fun _=>(#[]:Array Value))) hS rfl
 have SK:∀b o,b≠S->s.heap.get? b=some o->(s.heap.update S (Obj.mapSeq (fun _=>(#[]:Array Value)))).get? b=some o:=
  fun b o hb e=>(Heap.get?_update_other _ _ (aba hb)).trans e
 refine wpAny_bind (wpAny_letGo ?_)
 refine vI hh hd (hm.at' fun o e=>SK d o (aba SJ) e) hlen S .none _ ZS fun h' tk fC c' hk Qx jK=>?_
 exact hR h' tk fC c' (fun b o hb e=>hk b o hb (SK b o hb e)) Qx jK
theorem oN {Q:γ}(hh:A.handled=none)(hd:(d==sysModules)=false)(hm:s.heap.DictAt knd d kvs ep)(hlen:kvs.length<=sizeLine)
  (hQ:∀h' tk fC c',(∀b o,s.heap.get? b=some o->h'.get? b=some o)->
   h'.get? s.heap.objs.size=some {cls:=.type "list",dict:=none,data:=.seq fC c',slots:= #[]}->ItemsOf (fun i v=>∃k x,kvs[i]? =some (k,x)/\knd.is k v=true) fC kvs.length->Q (.ref s.heap.objs.size) {s with heap:=h',toks:=tk}):
  wpAny (model prog w) A (call (.type "list") [.ref d]) Q E s:=by
 refine callType_codes (Q₁:=fun obj s₁=>obj=.ref s.heap.objs.size/\s₁={s with heap:=s.heap.push {cls:=.type "list",data:=.seq #[]}}) F.called_list (F.typeCall_list_1 _) F.entry_list_init
  (code_list_new _ ⟨rfl,rfl⟩) fun obj s₁ h₁=>?_
 obtain ⟨rfl,rfl⟩:=h₁
 have hS:(s.heap.push {cls:=.type "list",data:=.seq #[]}).get? s.heap.objs.size=some {cls:=.type "list",data:=.seq #[]}:=Heap.get?_push_size _ rfl
 refine ⟨⟨_,hS,rfl⟩,F.args_list_init_2 _ _,oM (A:=A.in1) hh hd (hm.at' fun o e=>Heap.get?_push_of_some _ e) hlen _ hS fun h' tk fC c' hk Qx jK=>?_⟩
 exact ⟨rfl,hQ h' tk fC c' (fun b o e=>hk b o (aa_ (Heap.lt_size e)) (Heap.get?_push_of_some _ e)) Qx jK⟩
end
theorem aw :∀{l₁:List α} {l₂:List β} {i:Nat} {a:α},Paired F l₁ l₂->l₁[i]? =some a->∃b,l₂[i]? =some b/\F a b
 | _,_,_,_,.nil,h=>by simp at h
 | _,_,0,_,.cons r _,h=>by
  cases h
  exact ⟨_,rfl,r⟩
 | _,_,i+1,_,.cons _ t,h=>by
  obtain ⟨b,e,f⟩:=aw (i:=i) t (by simpa using h)
  exact ⟨b,by simpa using e,f⟩
theorem dy :∀{l₁:List α} {l₂:List β},l₁.length=l₂.length->(∀(i:Nat) (a:α) (b:β),l₁[i]? =some a->l₂[i]? =some b->F a b)->Paired F l₁ l₂
 | [],[],_,_=>.nil
 | a::l₁,b::l₂,h,f=>.cons (f 0 a b rfl rfl) (dy (by simpa using h) fun i a b e1 e2=>f (i+1) a b (by simpa using e1) (by simpa using e2))
 | [],_::_,h,_=>by simp at h
 | _::_,[],h,_=>by simp at h
theorem zv (h:(bw P w).is k u=true):RelV (kV k) u:=by
 rcases bY h with ⟨i,t,rfl,rfl⟩ | ⟨x,t,rfl,rfl⟩
 ·exact ⟨t,rfl⟩
 ·exact ⟨t,rfl⟩
section
variable {X:Cx}
inductive Jd (xs:η)(H:Hp)(Q:VK):Prop where
 | mk (p:Addr) (kvs:δ) (_:xs=[.ref p]) (_:Rd H p (.dK kvs)) (_:∀l,H l=none->Q (.ref l) (upd H l (.lst (kvs.map fun kv=>kV kv.1)))):Jd xs H Q
theorem fP (hc:X.calm=true):fe X (.type "list") Jd:=by
 intro pins s σ H xs us Q I r h
 obtain ⟨p,kvs,rfl,hq,q⟩:=h
 obtain ⟨u,rfl,r1⟩:=vals1 r
 cases r1
 obtain ⟨z,hd,vs,rel,o,es,ep,ho,hx,dw,hk,hp,hn⟩:=jb I.bH hq
 have hl:=rel.length
 refine oN (knd:=bw X.prog X.w) (I.ok.hd hc) hd ⟨o,es,ho,hx,dw,hk,hp,hn⟩ (by omega) fun h' tk fC c' kk hS jK=>?_
 have PD :=I.bH.fresh (aac s.heap.objs.size)
 have rv:Vals (kvs.map fun kv=>kV kv.1) fC.toList:=dy (by have:=jK.1;simp;omega) fun i a b e1 e2=>by
  rw [Wp] at e1
  obtain ⟨kv,ek,rfl⟩:=aal.mp e1
  obtain ⟨q',eq,e3,_⟩:=aw rel ek
  obtain ⟨k,x,e4,e5⟩:=jK.2 i b (by simpa using e2)
  rw [eq] at e4
  cases e4
  rw [e3]
  exact zv e5
 have I2:Inv X pins σ (upd H s.heap.objs.size (.lst (kvs.map fun kv=>kV kv.1))) {s with heap:=h',toks:=tk}:=I.laid (t' :=tk) kk (aac _) ⟨by rw [aaa];exact z,fC.toList,c',rv,by simpa using hS⟩
 exact ⟨.ref _,_,I2,rfl,q _ PD⟩
theorem Inv.freeze {σ:L2.St}(I:Inv X pins σ H s)(e:H d=some (.dK kvs))(ho:s.heap.get? d=some o):Inv X pins σ (upd H d (.cV o (.dK kvs))) s:=by
 have nx:∀b u,H b=some u->b≠d->upd H d (.cV o (.dK kvs)) b=some u:=fun b u q n=>by rw [ao n];exact q
 refine I.step (g' :=s.gens) (t' :=s.toks) (d' :=s.drawn) (ch:=[]) (fun _ z=>nomatch z) (fun b o _ _ _ e _=>e) (fun b o _ _ _ e _=>⟨o.slots,e⟩) (fun b o _ _ n=>by rw [ao (fun z=>by rw [z,e] at n;cases n)];exact n) (fun b o _ e=>⟨o,e⟩)
  (fun b xs q=>nx b _ q fun z=>by rw [z,e] at q;cases q) (fun b o' u q=>nx b _ q fun z=>by rw [z,e] at q;cases q) (fun b ps q=>⟨#[],by rw [nx b _ q fun z=>by rw [z,e] at q;cases q];simp⟩) (fun m hm=>hm) (fun b u q=>?_) I.bare
 by_cases hb:b=d
 ·subst hb
  rw [ah] at q
  cases q
  exact ⟨ho,I.bH b _ e⟩
 ·rw [ao hb] at q
  exact (I.bH b u q).qB (fun _ _ _ k=>k) (fun c k=>nx c _ k fun z=>by rw [z,e] at k;cases k) fun c xs k=>nx c _ k fun z=>by rw [z,e] at k;cases k
def SM (d:Addr)(o:Obj)(kvs:δ):It:=
 ⟨fun i H=>H d=some (.cV o (.dK kvs))/\i < kvs.length,
  fun i H v H' =>∃p k x,kvs[i]? =some (k,x)/\v=.ref p/\H p=none/\H' =upd H p (.tup [kV k,x]),
  fun i H=>H d=some (.cV o (.dK kvs))/\kvs.length<=i⟩
theorem Je {Jf:Δ}(ok:iZ P w H h)(e:H d=some (.cV o (.dK kvs)))(he:o.data=.dict Jf ep):
  (d==sysModules)=false/\∃vs,KV kvs vs/\h.DictAt (bw P w) d vs ep/\kvs.length<=sizeLine:=by
 obtain ⟨h1,z,hd,vs,rel,o',es,u6,ho,hx,dw,hk,hp,hn⟩:=ok d _ e
 rw [h1] at ho
 cases ho
 rw [he] at dw
 cases dw
 exact ⟨hd,vs,rel,⟨o,Jf,h1,hx,he,hk,hp,hn⟩,z⟩
theorem kK:entryFor table "dict_itemiterator.__iter__"=some Builtin.«dict_keyiterator.__iter__»:=
 entryFor_alias (id' :="dict_keyiterator.__iter__") (by kernel_rfl) (by first | rfl | decide+kernel | (unfold String.splitOn;simp+decide [String.splitOnAux])) (by decide+kernel) (by kernel_rfl)
theorem xN {E:γ}{Q:γ}(st:IsItemIter s.heap it d i n ep ok ov)(h:Q (.ref it) s):wpAny (model P w) A (pyIter (.ref it)) Q E s:=by
 have hT:s.TypeIs (.ref it) "dict_itemiterator":=⟨_,st,rfl⟩
 refine wpAny_pyIter_slot hT F.slot_dict_itemiterator_iter (wpAny_call_entry F.slot_dict_itemiterator_iter hT kK ?_ (F.args_dict_itemiterator_iter_1 _))
 show wpAny _ _ (ret (.ref it)) _ _ s
 exact wpAny_pure ⟨_,rfl,"dict_itemiterator",_,hT,F.slot_dict_itemiterator_next.lookup,h⟩
theorem oO {K:Frag}{es:Α}(d it:Addr)(o:Obj)(kvs:δ){Jf:Δ}(he:o.data=.dict Jf ep)(uZ:it≠d):
  Turn P w K (.Tuple es k pos) (SM d o kvs) [it] it (fun i h=>∃ok ov,IsItemIter h it d i kvs.length ep ok ov) where
 mem:=by simp
 obj:=fun i h st b hb=>by
  have e:b=it:=by simpa using hb
  subst e
  obtain ⟨ok,ov,st⟩:=st
  exact ⟨_,st,fun v z=>by cases z⟩
 keep:=fun i h h' st k=>by
  obtain ⟨ok,ov,st⟩:=st
  exact ⟨ok,ov,k it (by simp) _ st⟩
 item:=by
  intro X hP hw hK hc i pins s σ H E I hf st hg
  subst hP hw hK
  obtain ⟨ok,ov,st⟩:=st
  obtain ⟨fz,hi⟩:=hg
  obtain ⟨hd,vs,rel,da,_⟩:=Je I.bH fz he
  have ek:kvs[i]? =some kvs[i]:=gE hi
  obtain ⟨⟨k',u⟩,ev,e1,ru⟩:=aw rel ek
  have lv:=rel.length
  rw [lv] at st
  refine wpAny_pyNext_items_item st da ev fun key h' PZ out tup sz kk=>?_
  refine ⟨_,rfl,wpAny_letOwnedTupleGo_items (s:={s with heap:=h' }) out fun K6 abe sb=>?_⟩
  have hsz:∀c o,s.heap.get? c=some o->s.heap.objs.size≠c:=fun c o e=>aib (Heap.lt_size e)
  have tz:s.heap.objs.size≠it:=hsz _ _ st
  have nz:∀c,c≠it->∀o,h'.get? c=some o->K6.get? c=some o:=fun c hc o e=>(sb.2 c hc).trans e
  have hn:=I.bH.fresh (aac s.heap.objs.size)
  have B_ :kvs[i].1=k' :=e1
  have I2:Inv X pins σ (upd H s.heap.objs.size (.tup [kV kvs[i].1,kvs[i].2])) {s with heap:=K6,toks:=s.toks}:=
   Inv.tf I (fun b o hb e=>nz b (by simpa using hb) o (kk b o (by simpa using hb) e)) hf (aac _) (by show 2<=sizeLine;decide) (its:=[key,u]) (.cons (by rw [B_];exact zv PZ) (.cons ru .nil)) ⟨_,nz _ tz _ tup,rfl,_,rfl⟩
  refine ⟨.ref s.heap.objs.size,_,I2,rfl,⟨s.heap.objs.size,kvs[i].1,kvs[i].2,ek,rfl,hn,rfl⟩,⟨_,_,by rw [lv];exact abe⟩,fun b hb=>?_⟩
  have eb:b=it:=by simpa using hb
  rw [ao (by rw [eb];exact aba tz)]
  exact (hf b hb).1
 done:=by
  intro X hP hw hK hc i pins s σ H E I hf st hg
  subst hP hw hK
  obtain ⟨ok,ov,st⟩:=st
  obtain ⟨fz,hi⟩:=hg
  obtain ⟨hd,vs,rel,da,_⟩:=Je I.bH fz he
  have lv:=rel.length
  rw [lv] at st
  obtain ⟨f0,f1,f2,f3,f4,f5⟩:=hf it (by simp)
  exact wpAny_pyNext_items_end (I.ok.hd hc) st da (aai (by omega)) fun h' eb=>⟨rfl,I.turned (t' :=s.toks) (fun b o hb e=>eb b o hb e) f0 f1 f3 f4 f5⟩
 self:=fun _ _ _ _ _ st h=>by
  obtain ⟨ok,ov,st⟩:=st
  exact xN st h
inductive zA (R:(It->Hp->Prop))(x:V)(H1:Hp):Prop where
 | mk (d kvs:_) (_:x=.ref d) (_:H1 d=some (.dK kvs)) (_:∀o,R (SM d o kvs) (upd H1 d (.cV o (.dK kvs)))):zA R x H1
def Qy (te:TE):TI:=fun σ H R=>te σ H fun x H1=>zA R x H1
theorem jL {apos cH:Pos}{es:Α}{k:Nat}{sL:Pos}(ho:PE X e te)(iz:attributeBase e "items" X.env (eval e X.env)=eval e X.env:=by rfl)(iA:(apos.endLine==cH.line)=true:=by rfl):
  PI X (.Tuple es k sL) (.Call (.Attribute e "items" apos) [] [] cH) (Qy te):=by
 intro pins s σ H R I h
 refine wpAny_Call_method0_late iz iA (cq (ho pins s σ H _ I h) fun v s1 ⟨x,H1,I1,r1,q1⟩=>?_)
 obtain ⟨d,kvs,rfl,e,q⟩:=q1
 cases r1
 obtain ⟨z,hd,vs,rel,o,SN,ep,xk,hx,dw,hk,hp,hn⟩:=oG I1.bH e
 obtain ⟨h1,h2⟩:=HX (T:="dict") I1 (show RelV (.ref d) (.ref d) from rfl) (.inr (.inr (.inl ⟨rfl,.inl ⟨kvs,e⟩⟩)))
 have da:s1.heap.DictAt (bw X.prog X.w) d vs ep:=⟨o,SN,xk,hx,dw,hk,hp,hn⟩
 have lv:=rel.length
 refine ⟨"dict","dict.items",F.plainAttrs_dict,F.slot_dict_items,F.type_dict_items,h1,h2,Calls.callWith_builtin rfl (PySem.evalArgs_none ?_)⟩
 refine call_meetsIn F.slot_dict_items h1 F.entry_dict_items (F.args_dict_items_1 _) (meets_dict_items (bw X.prog X.w) d hd) ⟨⟨vs,da.dictOf⟩,?_⟩
 have I2:=Inv.freeze I1 e xk
 have da2:(s1.heap.push {cls:=.type "dict_items",data:=.fields #[.ref d]}).DictAt (bw X.prog X.w) d vs ep:=da.at' fun o e=>Heap.get?_push_of_some _ e
 show wpAny (model X.prog X.w) X.A (pyIter (.ref s1.heap.objs.size)) _ _ _
 refine wpAny_pyIter_items (s:={s1 with heap:=s1.heap.push {cls:=.type "dict_items",data:=.fields #[.ref d]}}) ⟨_,Heap.get?_push_size _ rfl,rfl,rfl⟩ da2 ?_
 have sz:(s1.heap.push {cls:=.type "dict_items",data:=.fields #[.ref d]}).objs.size=s1.heap.objs.size+1:=Heap.size_push ..
 have ne:(s1.heap.push {cls:=.type "dict_items",data:=.fields #[.ref d]}).objs.size≠d:=by
  rw [sz]
  exact aba (aa_ (acK (Heap.lt_size xk)))
 have I3:Inv X pins σ (upd H1 d (.cV o (.dK kvs))) {s1 with heap:=(s1.heap.push {cls:=.type "dict_items",data:=.fields #[.ref d]}).push {cls:=.type "dict_itemiterator",data:=.fields #[.none,.bool false,.ref d,.int 0 0,.int vs.length 0,.int ep 0,.none,.none]}}:=I2.kept (t' :=s1.toks) fun b o e=>Heap.get?_push_of_some _ (Heap.get?_push_of_some _ e)
 refine ⟨_,[_],_,_,_,rfl,I3,oO d _ o kvs dw ne,⟨_,_,by rw [lv];exact Heap.get?_push_size _ rfl⟩,fun b hb=>?_,q o⟩
 have eb:b=(s1.heap.push {cls:=.type "dict_items",data:=.fields #[.ref d]}).objs.size:=by simpa using hb
 have le:s1.heap.objs.size<=b:=by rw [eb,sz];exact aik _
 exact I2.mI le (I2.bH.fresh le)
end
end Ty
set_option maxHeartbeats 4000000
namespace Ty
def ev:List Int->(Nat->Rat)->Rat
 | [],_=>0
 | a::r,z=>(a:Rat)*z 0+ev r (fun i=>z (i+1))
theorem Jg:∀(l:ξ) (z y:Nat->Rat),ev l (fun i=>z i+y i)=ev l z+ev l y
 | [],_,_=>by simp [ev];grind
 | a::r,z,y=>by
  simp only [ev]
  rw [Jg r (fun i=>z (i+1)) (fun i=>y (i+1))]
  grind
theorem nA:∀(l:ξ) (z:Nat->Rat),(∀j,((l.getD j 0:Int):Rat)*z j=0)->ev l z=0
 | [],_,_=>rfl
 | a::r,z,h=>by
  have h0:=h 0
  have ih:=nA r (fun i=>z (i+1)) (fun j=>by simpa using h (j+1))
  simp only [ev]
  rw [ih]
  simp at h0
  grind
theorem tm:∀(l:ξ) (z:Nat->Rat) (p:Nat),(∀j,j≠p->((l.getD j 0:Int):Rat)*z j=0)->ev l z=((l.getD p 0:Int):Rat)*z p
 | [],_,_,_=>by simp [ev]
 | a::r,z,0,h=>by
  have ih:=nA r (fun i=>z (i+1)) (fun j=>by simpa using h (j+1) (by omega))
  simp only [ev]
  rw [ih]
  simp
  grind
 | a::r,z,p+1,h=>by
  have h0:=h 0 (by omega)
  have ih:=tm r (fun i=>z (i+1)) p (fun j hj=>by simpa using h (j+1) (by omega))
  simp only [ev]
  rw [ih]
  simp at h0
  simp
  grind
theorem Jh :∀{new line lead:ξ},new.length=line.length->lead.length=line.length->(∀j,s*new.getD j 0=t*line.getD j 0 - u*lead.getD j 0)->∀z:Nat->Rat,(s:Rat)*ev new z=t*ev line z - u*ev lead z
 | [],[],[],_,_,_,z=>by simp [ev];grind
 | a::new,b::line,c::lead,h1,h2,h,z=>by
  have h0:=h 0
  have ih:=Jh (by simpa using h1) (by simpa using h2) (fun j=>by simpa using h (j+1)) (fun i=>z (i+1))
  simp at h0
  have h0' :(s:Rat)*a=t*b - u*c:=by exact_mod_cast h0
  simp only [ev]
  grind
 | [],_::_,_,h,_,_,_=>by simp at h
 | _::_,[],_,h,_,_,_=>by simp at h
 | _,[],_::_,_,h,_,_=>by simp at h
 | _,_::_,[],_,h,_,_=>by simp at h
def eQ:List Rat->List (List Int)->Nat->Rat
 | c::y,o::os,j=>c*((o.getD j 0:Int):Rat)+eQ y os j
 | _,_,_=>0
theorem vJ (hs:s≠0)(j:Nat):∀(os:ζ) (y1 y2:List Rat),y1.length=os.length->y2.length=os.length->s*eQ (ab9 (fun a b=>(t*a - u*b) / s) y1 y2) os j=t*eQ y1 os j - u*eQ y2 os j
 | [],[],[],_,_=>by simp [eQ];grind
 | o::os,a::y1,b::y2,h1,h2=>by
  have ih:=vJ (t:=t) (u:=u) hs j os y1 y2 (by simpa using h1) (by simpa using h2)
  simp only [aix,eQ]
  grind
 | [],_::_,_,h,_=>by simp at h
 | [],[],_::_,_,h=>by simp at h
 | _::_,[],_,h,_=>by simp at h
 | _::_,_::_,[],_,h=>by simp at h
theorem rS (j:Nat):∀(os:ζ),eQ (aaJ os.length 0) os j=0
 | []=>rfl
 | o::os=>by
  simp only [abf,ach,eQ]
  rw [rS j os]
  grind
def tq (os:ζ)(l:ξ):Prop:=∃y:List Rat,y.length=os.length/\∀j,((l.getD j 0:Int):Rat)=eQ y os j
theorem vK:∀{os:ζ} {l:ξ},l∈os->tq os l
 | o::os,l,h=>by
  rcases aaQ.mp h with z | z
  ·subst z
   refine ⟨1::aaJ os.length 0,by simp,fun j=>?_⟩
   simp only [eQ]
   rw [rS]
   grind
  ·obtain ⟨y,hl,hy⟩:=vK z
   refine ⟨0::y,by simp [hl],fun j=>?_⟩
   simp only [eQ]
   rw [<- hy j]
   grind
theorem Ji (hs:s≠0)(h:∀j,s*new.getD j 0=t*line.getD j 0 - u*lead.getD j 0)(h1:tq os line)(h2:tq os lead):tq os new:=by
 obtain ⟨y1,l1,e1⟩:=h1
 obtain ⟨y2,l2,e2⟩:=h2
 have uY :=cD hs
 refine ⟨ab9 (fun a b=>((t:Rat)*a - u*b) / s) y1 y2,by simp [l1,l2],fun j=>?_⟩
 have k:=vJ (t:=(t:Rat)) (u:=(u:Rat)) uY j os y1 y2 l1 l2
 rw [<- e1 j, <- e2 j] at k
 have h' :(s:Rat)*(new.getD j 0:Int)=t*(line.getD j 0:Int) - u*(lead.getD j 0:Int):=by exact_mod_cast h j
 rw [<- h'] at k
 grind
theorem oP (k:Rat)(j:Nat):∀(os:ζ) (y:List Rat),eQ (y.map (fun a=>a*k)) os j=eQ y os j*k
 | [],_=>by cases ‹List Rat› <;> simp [eQ] <;> grind
 | _::_,[]=>by simp [eQ]
 | o::os,a::y=>by
  simp only [aah,eQ]
  rw [oP k j os y]
  grind
structure qw (line lead new:ξ)(c:Nat):Prop where
 len:new.length=line.length
 Jj:new.getD c 0=0
 iQ:∃s t u:Int,s≠0/\t≠0/\∀j,s*new.getD j 0=t*line.getD j 0 - u*lead.getD j 0
theorem qw.zero (h:qw line lead new c)(h1:line.getD j 0=0)(h2:lead.getD j 0=0):new.getD j 0=0:=by
 obtain ⟨s,t,u,hs,_,e⟩:=h.iQ
 have:=e j
 rw [h1,h2,adi,adi,Int.sub_self] at this
 rcases aiC.mp this with z | z
 ·exact absurd z hs
 ·exact z
theorem qw.at (h:qw line lead new c)(h2:lead.getD j 0=0)(h1:line.getD j 0≠0):new.getD j 0≠0:=by
 obtain ⟨s,t,u,hs,ht,e⟩:=h.iQ
 have:=e j
 rw [h2] at this
 intro z
 rw [z,adi,adi,Int.sub_zero] at this
 rcases aiC.mp this.symm with y | y
 ·exact ht y
 ·exact h1 y
theorem qw.comb (h:qw line lead new c)(h1:tq os line)(h2:tq os lead):tq os new:=by
 obtain ⟨s,t,u,hs,ht,e⟩:=h.iQ
 exact Ji hs e h1 h2
theorem qw.ev (h:qw line lead new c)(hl:lead.length=line.length)(h2:Ty.ev lead z=0):Ty.ev new z=0 ↔ Ty.ev line z=0:=by
 obtain ⟨s,t,u,hs,ht,e⟩:=h.iQ
 have k:=Jh h.len hl e z
 rw [h2] at k
 have uY :=cD hs
 have ht' :=cD ht
 constructor
 ·intro w
  rw [w] at k
  grind
 ·intro w
  rw [w] at k
  grind
end Ty
set_option maxHeartbeats 4000000
namespace Ty
open PySem PySem.Spec PyProof.Rows L2
def SO (K:Frag)(a:Addr):It:=
 ⟨fun i H=>∃xs x,aX K H a xs/\xs[i]? =some x,
  fun i H v H' =>∃p x,(∀xs,aX K H a xs->xs[i]? =some x)/\v=.ref p/\H p=none/\H' =upd H p (.tup [.int (i:Int),x]),
  fun i H=>∃xs,aX K H a xs/\xs.length<=i⟩
theorem CN {K:Frag}{es:Α}(a e it:Addr)(uZ:e≠it):
  Turn P w K (.Tuple es k pos) (SO K a) [e,it] e (fun i h=>(∃old,IsEnum h e it ((i:Nat):Int) old)/\h.IsListIter it a i) where
 mem:=by simp
 obj:=fun i h st c hc=>by
  obtain ⟨⟨old,he⟩,⟨o1,e1,c1,d1⟩⟩:=st
  have uX :c=e\/c=it:=by simpa using hc
  rcases uX with z | z <;> subst z
  ·exact ⟨_,he,fun v z=>by cases z⟩
  ·exact ⟨_,e1,fun v z=>by rw [d1] at z;cases z⟩
 keep:=fun i h h' st k=>by
  obtain ⟨⟨old,he⟩,h1⟩:=st
  exact ⟨⟨old,k e (by simp) _ he⟩,h1.at fun o e=>k it (by simp) o e⟩
 item:=by
  intro X hP hw hK hc i pins s σ H E I hf st hg
  subst hP hw hK
  obtain ⟨⟨old,he⟩,h1⟩:=st
  obtain ⟨xs,x,qx,ex⟩:=hg
  obtain ⟨its,rv,p,_⟩:=I.list qx
  obtain ⟨u,hu,ru⟩:=rv.get ex
  refine wpAny_pyNext_enum_item he h1 p.isList (x:=u) (by simpa using hu) uZ fun h' a1 a2 a3 a4 a5=>?_
  refine ⟨_,rfl,wpAny_letOwnedTupleGo_enum (s:={s with heap:=h',toks:=s.toks+1}) a1 fun K6 b1 sb=>?_⟩
  have nz:∀c,c≠e->∀o,h'.get? c=some o->K6.get? c=some o:=fun c hc o q=>(sb.2 c hc).trans q
  have kk:∀b o,b∉[e,it]->s.heap.get? b=some o->K6.get? b=some o:=fun b o hb q=>by
   have gh :b≠e/\b≠it:=by simpa using hb
   exact nz b gh.1 o (a5 b o gh.1 gh.2 q)
  have sz:∀c o,s.heap.get? c=some o->s.heap.objs.size≠c:=fun c o q=>aib (Heap.lt_size q)
  have tz:s.heap.objs.size≠e:=sz _ _ he
  have hn:=I.bH.fresh (aac s.heap.objs.size)
  have I2:Inv X pins σ (upd H s.heap.objs.size (.tup [.int (i:Int),x])) {s with heap:=K6,toks:=s.toks+1}:=
   Inv.tf I kk hf (aac _) (by show 2<=sizeLine;decide) (its:=[.int i s.toks,u]) (.cons ⟨_,rfl⟩ (.cons ru .nil)) ⟨_,nz _ tz _ a3,rfl,_,rfl⟩
  refine ⟨.ref s.heap.objs.size,_,I2,rfl,⟨s.heap.objs.size,x,fun xs' q=>by rw [I.iw q qx];exact ex,rfl,hn,rfl⟩,⟨⟨_,by exact b1⟩,a2.at fun o q=>nz _ (aba uZ) o q⟩,fun b hb=>?_⟩
  have ob:∃o,s.heap.get? b=some o:=by
   obtain ⟨o1,e1,_⟩:=h1
   have uX :b=e\/b=it:=by simpa using hb
   rcases uX with z | z <;> subst z
   ·exact ⟨_,he⟩
   ·exact ⟨_,e1⟩
  obtain ⟨o,q⟩:=ob
  rw [ao (aba (sz _ _ q))]
  exact (hf b hb).1
 done:=by
  intro X hP hw hK hc i pins s σ H E I hf st hg
  subst hP hw hK
  obtain ⟨⟨old,he⟩,h1⟩:=st
  obtain ⟨xs,qx,ee⟩:=hg
  obtain ⟨its,rv,p,_⟩:=I.list qx
  have l1:=rv.length
  refine wpAny_pyNext_enum_end (I.ok.hd hc) he h1 p.isList (by simp;omega) fun h' kk=>⟨rfl,Inv.nj I (fun b o hb q=>?_) hf⟩
  have gh :b≠e/\b≠it:=by simpa using hb
  exact kk b o gh.2 q
 self:=fun _ _ _ _ _ st h=>by
  obtain ⟨⟨old,he⟩,_⟩:=st
  exact wpAny_pyIter_enum he h
theorem boot_enumerate:bootBuiltins "enumerate"=some (.type "enumerate"):=by decide+kernel
section
variable {X:Cx}
inductive Jk (K:Frag)(R:(It->Hp->Prop))(vs:η)(H1:Hp):Prop where
 | mk (a:_) (_:vs=[.ref a]) (_:(∃xs,aX K H1 a xs)) (_:R (SO K a) H1):Jk K R vs H1
def UA (K:Frag)(ta:TA):TI:=fun σ H R=>ta σ H fun vs H1=>Jk K R vs H1
theorem tu {es:Α}(hg:Gl X "enumerate")(hm:X.mg "enumerate"=none)(ha:PA X [e1] ta)(hs:starEach [e1] X.env=[(false,eval e1 X.env)]:=by rfl):
  PI X (.Tuple es k sL) (.Call (.Name "enumerate" p) [e1] [] pos) (UA X.K ta):=by
 intro pins s σ H R I h
 refine Call_ (gM I hg hm boot_enumerate (PyProof.Rows.callWith_type1 (cq (ha pos pins s σ H _ I h) fun us s1 ⟨vs,H1,I1,r1,q1⟩=>?_) hs rfl))
 obtain ⟨a,e,⟨xs,hx⟩,q⟩:=q1
 subst e
 cases r1 with
 | cons r rr=>
  cases rr
  cases r
  obtain ⟨its,rv,pl,_⟩:=I1.list hx
  refine call_enumerate_list pl.isList fun h' hE hI hsz hk=>wpAny_pyIter_enum (s:={s1 with heap:=h' }) hE ?_
  refine ⟨s1.heap.objs.size+1,[s1.heap.objs.size+1,s1.heap.objs.size],_,_,H1,rfl,I1.kept (t' :=s1.toks) hk,CN a _ _ (Nat.succ_ne_self _),⟨⟨_,hE⟩,hI⟩,fun c hc=>?_,q⟩
  have uX :s1.heap.objs.size<=c:=by
   have:c=s1.heap.objs.size+1\/c=s1.heap.objs.size:=by simpa using hc
   simp only [Addr] at*
   omega
  exact I1.mI uX (I1.bH.fresh uX)
theorem any_range (bs:List Bool):(abJ bs.length).any (fun i=>(bs[i]?).getD true)=bs.any id:=by
 rw [abr,ah6,ah6]
 constructor
 ·rintro ⟨i,hi,h⟩
  have hi' :i < bs.length:=abV.mp hi
  rw [gE hi'] at h
  exact ⟨bs[i],ab2 hi',h⟩
 ·rintro ⟨b,hb,h⟩
  obtain ⟨i,hi⟩:=aag hb
  exact ⟨i,abV.mpr (be.mp hi).1,by rw [hi];exact h⟩
inductive Qz (K:Frag)(xs:η)(H:Hp)(Q:VK):Prop where
 | mk (p:Addr) (bs:List Bool) (_:xs=[.ref p]) (_:aX K H p (bs.map V.bl)) (_:Q (.bl (bs.any id)) H):Qz K xs H Q
theorem CO (hc:X.calm=true):fe X (.builtin "any") (Qz X.K):=by
 intro pins s σ H xs us Q I r h
 obtain ⟨p,bs,rfl,hq,q⟩:=h
 obtain ⟨u,rfl,r1⟩:=vals1 r
 cases r1
 obtain ⟨its,rv,pl,hz⟩:=I.list hq
 refine call_any_walk (wpAny_pyIter_list pl.isList ?_)
 have uZ:p≠s.heap.objs.size:=by obtain ⟨o,ho,_⟩:=pl.isList;exact aa_ (Heap.lt_size ho)
 have I1:Inv X pins σ H {s with heap:=s.heap.push {cls:=.type "list_iterator",data:=.fields #[.ref p,.int 0 0]}}:=I.kept (t' :=s.toks) fun b o e=>Heap.get?_push_of_some _ e
 obtain ⟨f0,f1,f2,f3,f4,f5⟩:=I.mI (H' :=H) (aac s.heap.objs.size) (I.bH.fresh (aac _))
 have hl:its.length=bs.length:=by rw [<- rv.length,aaa]
 refine ⟨s.heap.objs.size,_,_,_,_,_,fun i=>(bs[i]?).getD true,rfl,Walks.list (A:=X.A.in1) (I.ok.hd hc) s.heap.objs.size p uZ its.toArray,⟨⟨_,Heap.get?_push_size _ rfl,rfl,rfl⟩,pl.isList.at fun o e=>Heap.get?_push_of_some _ e⟩,?_,fun h' tk kk=>?_⟩
 ·intro i v s' Q' E' hv h8
  have P0 :its[i]? =some v:=by simpa using hv
  have hi:i < bs.length:=by rw [<- hl];exact (be.mp P0).1
  have eb:(bs.map V.bl)[i]? =some (.bl bs[i]):=by rw [Wp,gE hi];rfl
  obtain ⟨u,eu,ru⟩:=rv.get eb
  rw [P0] at eu
  cases eu
  cases ru
  dsimp only at h8
  rw [gE hi] at h8
  exact wpAny_truthy_bool h8
 ·refine ⟨.bl (bs.any id),H,I1.turned (t' :=tk) (it:=s.heap.objs.size) (fun b o hb e=>kk b o (by simpa using hb) e) f0 f1 f3 f4 f5,?_,q⟩
  show _=_
  rw [<- any_range bs,aaq,hl]
theorem UB:bootBuiltins "any"=some (.builtin "any"):=by decide+kernel
end
theorem vL {K:Frag}{g:TG}{tb:TS}{D:Ends}(Pv:Nat->L2.St->Hp->Prop)(h0:Pv 0 σ H)(hl:∀i σ H,i<=xs.length->Pv i σ H->aX K H a xs)
  (hs:∀i x σ H p,xs[i]? =some x->Pv i σ H->H p=none->g (.ref p) σ (upd H p (.tup [.int (i:Int),x])) fun σ2 H2=>tb {D with nx:=Pv (i+1),ct:=Pv (i+1),bk:=D.nx} σ2 H2) (hd:∀σ H,Pv xs.length σ H->D.nx σ H):
  ∃W:Nat->Nat->L2.St->Hp->Prop,(∃m,W 0 m σ H)/\∀i m σ H,W i m σ H->
   ((SO K a).stop i H/\D.nx σ H)\/((SO K a).go i H/\∃N:L2.St->Hp->Prop,(∀σ' H',N σ' H' ->∃m',m' < m/\W (i+1) m' σ' H')/\∀x H',(SO K a).GN i H x H' ->g x σ H' fun σ2 H2=>tb {D with nx:=N,ct:=N,bk:=D.nx} σ2 H2):=by
 refine ⟨fun i m σ H=>m=xs.length - i/\i<=xs.length/\Pv i σ H,⟨xs.length,by simp,abc _,h0⟩,?_⟩
 rintro i m σ H ⟨rfl,hi,p⟩
 have q:=hl i σ H hi p
 by_cases i8:i < xs.length
 ·have e:xs[i]? =some xs[i]:=gE i8
  refine .inr ⟨⟨xs,_,q,e⟩,Pv (i+1),fun σ' H' z=>⟨xs.length - (i+1),by omega,rfl,by omega,z⟩,fun x H' y=>?_⟩
  obtain ⟨pp,x',y1,rfl,np,rfl⟩:=y
  exact hs i x' σ H pp (y1 xs q) p np
 ·have e:i=xs.length:=by omega
  subst e
  exact .inl ⟨⟨xs,q,aac _⟩,hd σ H p⟩
theorem fG {g:TG}{tb:TS}{D:Ends}(Pv:Nat->L2.St->Hp->Prop)(h0:Pv 0 σ H)(hl:∀i σ H,i<=kvs.length->Pv i σ H->H d=some (.cV o (.dK kvs)))
  (hs:∀i k x σ H p,kvs[i]? =some (k,x)->Pv i σ H->H p=none->g (.ref p) σ (upd H p (.tup [kV k,x])) fun σ2 H2=>tb {D with nx:=Pv (i+1),ct:=Pv (i+1),bk:=D.nx} σ2 H2) (hd:∀σ H,Pv kvs.length σ H->D.nx σ H):
  ∃W:Nat->Nat->L2.St->Hp->Prop,(∃m,W 0 m σ H)/\∀i m σ H,W i m σ H->
   ((SM d o kvs).stop i H/\D.nx σ H)\/((SM d o kvs).go i H/\∃N:L2.St->Hp->Prop,(∀σ' H',N σ' H' ->∃m',m' < m/\W (i+1) m' σ' H')/\∀x H',(SM d o kvs).GN i H x H' ->g x σ H' fun σ2 H2=>tb {D with nx:=N,ct:=N,bk:=D.nx} σ2 H2):=by
 refine ⟨fun i m σ H=>m=kvs.length - i/\i<=kvs.length/\Pv i σ H,⟨kvs.length,by simp,abc _,h0⟩,?_⟩
 rintro i m σ H ⟨rfl,hi,p⟩
 have q:=hl i σ H hi p
 by_cases i8:i < kvs.length
 ·refine .inr ⟨⟨q,i8⟩,Pv (i+1),fun σ' H' z=>⟨kvs.length - (i+1),by omega,rfl,by omega,z⟩,fun x H' y=>?_⟩
  obtain ⟨pp,k,x',y1,rfl,np,rfl⟩:=y
  exact hs i k x' σ H pp y1 p np
 ·have e:i=kvs.length:=by omega
  subst e
  exact .inl ⟨⟨q,aac _⟩,hd σ H p⟩
open Builtin.Int (intBits)
section
variable {X:Cx}
def Jl (i j:Int):Prop:=intBits i+intBits j<=134217728
theorem iR:jx X (binaryOp .Mult) (rI Jl fun i j=>.int (i*j)):=
 ZM fun _ _ _ _ _ _ _ hc q=>mul_int q (IntMulOk.of_le (aac _) (aac _) hc)
theorem gy (h1:a.natAbs<=2^m)(h2:b.natAbs<=2^n)(h:m+n<=134000000):Jl a b:=by
 have x1:=iO h1 (abu m)
 have x2:=iO h2 (abu n)
 unfold Jl
 omega
inductive Ov (K:Frag)(xs:η)(H:Hp)(Q:VK):Prop where
 | mk (p ys:_) (_:xs=[.ref p,.ty "tuple"]) (_:bT K H p ys) (_:Q (.bl true) H):Ov K xs H Q
theorem kL:fe X (.builtin "isinstance") (Ov X.K):=by
 intro pins s σ H xs us Q I r h
 obtain ⟨p,ys,rfl,hq,q⟩:=h
 obtain ⟨u,w,rfl,r1,r2⟩:=vals2 r
 obtain rfl:=zo (c:=.ty "tuple") rfl r2
 cases r1
 obtain ⟨its,rv,⟨o,h1,h2,_⟩,_⟩:=I.tuple hq
 have e:PySem.W.kitOne X.K (.type "tuple") (Qd (.ty "tuple"))=some true:=by unfold PySem.W.kitOne;rw [if_pos (by decide)]
 exact PySem.W.kia_one PySem.W.kitx_tuple I.ji ⟨o,h1,h2⟩ e (fun z=>nomatch z) fun tk=>⟨.bl true,H,I.tok tk,rfl,q⟩
end
theorem au.bX {K:Frag}(e:au H H')(h:bT K H a xs):bT K H' a xs:=by
 rcases h with (h | ⟨o,h⟩) | h
 ·exact .inl (.inl (e _ _ h))
 ·exact .inl (.inr ⟨o,e _ _ h⟩)
 ·exact .inr h
section
variable {D:Addr}{te:TE}{cap:L2.St}{H1:Hp}{Q:VK}
end
def nC (K:Frag)(H:Hp)(v:V)(q:Int×Int):Prop:=∃p,v=.ref p/\bT K H p [.int q.1,.int q.2]
theorem nC.same {K:Frag}(h:nC K H v q)(s:au H H'):nC K H' v q:=by
 obtain ⟨p,e,k⟩:=h
 exact ⟨p,e,Ty.au.bX s k⟩
def fj (K:Frag)(H:Hp)(us:η)(qs:τ):Prop:=us.length=qs.length/\∀(i:Nat) (u:V) (q:Int×Int),us[i]? =some u->qs[i]? =some q->nC K H u q
theorem fj.same {K:Frag}(h:fj K H us qs)(s:au H H'):fj K H' us qs:=⟨h.1,fun i u q e1 e2=>(h.2 i u q e1 e2).same s⟩
def abg (K:Frag)(H:Hp)(a:Addr)(qs:τ):Prop:=∃us,aX K H a us/\fj K H us qs
def sumTo:Nat->(Nat->Rat)->Rat
 | 0,_=>0
 | n+1,f=>f 0+sumTo n (fun i=>f (i+1))
theorem rT (c:Rat):∀(n:Nat) (f:Nat->Rat),sumTo n (fun i=>c*f i)=c*sumTo n f
 | 0,_=>by simp [sumTo]
 | n+1,f=>by
  simp only [sumTo]
  rw [rT c n (fun i=>f (i+1))]
  grind
theorem oQ:∀(n:Nat) (f:Nat->Rat),(∀i,f i=0)->sumTo n f=0
 | 0,_,_=>rfl
 | n+1,f,h=>by
  simp only [sumTo]
  rw [h 0,oQ n (fun i=>f (i+1)) (fun i=>h (i+1))]
  grind
theorem vM:∀(n:Nat) (l:ξ) (z:Nat->Rat),l.length<=n->ev l z=sumTo n (fun j=>((l.getD j 0:Int):Rat)*z j)
 | n,[],z,_=>by
  rw [oQ n _ (fun i=>by simp)]
  rfl
 | 0,_::_,_,h=>by simp at h
 | n+1,a::r,z,h=>by
  simp only [ev,sumTo]
  rw [vM n r (fun i=>z (i+1)) (by simpa using h)]
  simp
theorem QC (e:H d=some o):upd H d o=H:=by
 funext b
 by_cases z:b=d
 ·subst z
  rw [ah,e]
 ·rw [ao z]
section
variable {X:Cx}
def Mt (te:TE):TI:=fun σ H R=>te σ H fun x H1=>∃d kvs,x=.ref d/\Rd H1 d (.dK kvs)/\∀o,R (SM d o kvs) (upd H1 d (.cV o (.dK kvs)))
theorem rV {apos cH:Pos}{es:Α}{k:Nat}{sL:Pos}(ho:PE X e te)(iz:attributeBase e "items" X.env (eval e X.env)=eval e X.env:=by rfl)(iA:(apos.endLine==cH.line)=true:=by rfl):
  PI X (.Tuple es k sL) (.Call (.Attribute e "items" apos) [] [] cH) (Mt te):=by
 intro pins s σ H R I h
 refine wpAny_Call_method0_late iz iA (cq (ho pins s σ H _ I h) fun v s1 ⟨x,H1,I1,r1,q1⟩=>?_)
 obtain ⟨d,kvs,rfl,e,q⟩:=q1
 cases r1
 obtain ⟨z,hd,vs,rel,o,SN,ep,xk,hx,dw,hk,hp,hn⟩:=jb I1.bH e
 have da:s1.heap.DictAt (bw X.prog X.w) d vs ep:=⟨o,SN,xk,hx,dw,hk,hp,hn⟩
 have h1:s1.TypeIs (.ref d) "dict":=da.dictOf.typeIs
 have h2:∀a,Value.ref d=.ref a->∃ob,s1.heap.get? a=some ob/\ob.dict=none:=fun a z=>by
  cases z
  exact ⟨o,xk,hx.2.1⟩
 have lv:=rel.length
 refine ⟨"dict","dict.items",F.plainAttrs_dict,F.slot_dict_items,F.type_dict_items,h1,h2,Calls.callWith_builtin rfl (PySem.evalArgs_none ?_)⟩
 refine call_meetsIn F.slot_dict_items h1 F.entry_dict_items (F.args_dict_items_1 _) (meets_dict_items (bw X.prog X.w) d hd) ⟨⟨vs,da.dictOf⟩,?_⟩
 have I2:Inv X pins σ (upd H1 d (.cV o (.dK kvs))) s1:=by
  rcases e with e | ⟨o',e⟩
  ·exact Inv.freeze I1 e xk
  ·have g:=(I1.bH d _ e).1
   rw [xk] at g
   cases g
   rw [QC e]
   exact I1
 have da2:(s1.heap.push {cls:=.type "dict_items",data:=.fields #[.ref d]}).DictAt (bw X.prog X.w) d vs ep:=da.at' fun o e=>Heap.get?_push_of_some _ e
 show wpAny (model X.prog X.w) X.A (pyIter (.ref s1.heap.objs.size)) _ _ _
 refine wpAny_pyIter_items (s:={s1 with heap:=s1.heap.push {cls:=.type "dict_items",data:=.fields #[.ref d]}}) ⟨_,Heap.get?_push_size _ rfl,rfl,rfl⟩ da2 ?_
 have sz:(s1.heap.push {cls:=.type "dict_items",data:=.fields #[.ref d]}).objs.size=s1.heap.objs.size+1:=Heap.size_push ..
 have ne:(s1.heap.push {cls:=.type "dict_items",data:=.fields #[.ref d]}).objs.size≠d:=by
  rw [sz]
  exact aba (aa_ (acK (Heap.lt_size xk)))
 have I3:Inv X pins σ (upd H1 d (.cV o (.dK kvs))) {s1 with heap:=(s1.heap.push {cls:=.type "dict_items",data:=.fields #[.ref d]}).push {cls:=.type "dict_itemiterator",data:=.fields #[.none,.bool false,.ref d,.int 0 0,.int vs.length 0,.int ep 0,.none,.none]}}:=I2.kept (t' :=s1.toks) fun b o e=>Heap.get?_push_of_some _ (Heap.get?_push_of_some _ e)
 refine ⟨_,[_],_,_,_,rfl,I3,oO d _ o kvs dw ne,⟨_,_,by rw [lv];exact Heap.get?_push_size _ rfl⟩,fun b hb=>?_,q o⟩
 have eb:b=(s1.heap.push {cls:=.type "dict_items",data:=.fields #[.ref d]}).objs.size:=by simpa using hb
 have le:s1.heap.objs.size<=b:=by rw [eb,sz];exact aik _
 exact I2.mI le (I2.bH.fresh le)
end
section
variable {D:Addr}{te:TE}{cap:L2.St}{H1:Hp}{Q:VK}
theorem xO {K:Frag}(Rel:Nat->V->Hp->Prop)(nD:H1 D=none)(hn:xs.length < sizeLine)(hX:∀H,au H1 H->aX K H a xs)
  (hR:∀i v H H' ys,H D=some (.lst ys)->aL D H H' ->Rel i v H->Rel i v H')
  (he:∀(i:Nat) x H (R:VK),xs[i]? =some x->au H1 H->(∃ys,H D=some (.lst ys))->(∀v H6,au H H6->Rel i v H6->R v H6)->te (some (.int (i:Int))::some x::cap) H R)
  (hd:∀zs H,zs.length=xs.length->(∀i v,zs[i]? =some v->Rel i v H)->au H1 H->H D=some (.lst zs)->Q (.ref D) H):
  jI D (HD K 2 (va (cF 0) (va (cF 1) PM))) jn te (SO K a) (none::none::cap) H1 Q:=by
 refine ⟨fun i m σ zs H=>m=xs.length - i/\i<=xs.length/\(∃o o',σ=o::o' ::cap)/\(zs.length=i/\(∀i v,zs[i]? =some v->Rel i v H)/\au H1 H)/\H D=some (.lst zs),⟨xs.length,by simp,abc _,⟨none,none,rfl⟩,⟨rfl,fun i v e=>by simp at e,fun b o e=>by rw [ao (aq e nD)];exact e⟩,ah⟩,?_⟩
 rintro i m σ zs H ⟨rfl,hi,⟨o,o',rfl⟩,⟨l,r,s⟩,hD⟩
 by_cases i8:i < xs.length
 ·have e1:xs[i]? =some xs[i]:=gE i8
  refine .inr ⟨⟨xs,_,hX H s,e1⟩,fun v H' y=>?_⟩
  obtain ⟨p,x,q1,rfl,np,rfl⟩:=y
  have e1:=q1 xs (hX H s)
  have sp:au H (upd H p (.tup [.int (i:Int),x])):=fun b o e=>by rw [ao (aq e np)];exact e
  refine ⟨p,_,rfl,bT.of ah,rfl,_,_,rfl,_,_,rfl,rfl,?_⟩
  unfold jn
  dsimp only
  rw [if_pos rfl]
  refine he i x _ _ e1 (fun b o e=>sp _ _ (s _ _ e)) ⟨zs,sp _ _ hD⟩ fun v H6 s6 rv=>⟨s6 _ _ (sp _ _ hD),by omega,xs.length - (i+1),by omega,rfl,by omega,⟨_,_,rfl⟩,⟨by simp [l],fun j u e=>?_,fun b o e=>?_⟩,ah⟩
  ·by_cases c:j < zs.length
   ·rw [aap c] at e
    have ru:=hR j u H H6 zs hD (aL.of fun b o q=>s6 _ _ (sp _ _ q)) (r j u e)
    exact hR j u H6 _ zs (s6 _ _ (sp _ _ hD)) aL.upd ru
   ·rw [aaY (by omega)] at e
    have ej:j=i:=by
     by_cases z:j - zs.length=0
     ·omega
     ·rw [aai (by simp;omega)] at e
      cases e
    subst ej
    have:v=u:=by
     rw [show j - zs.length=0 by omega] at e
     exact aao e
    subst this
    exact hR j v H6 _ zs (s6 _ _ (sp _ _ hD)) aL.upd rv
  ·rw [ao (aq e nD)]
   exact s6 _ _ (sp _ _ (s _ _ e))
 ·have e:i=xs.length:=by omega
  subst e
  exact .inl ⟨⟨xs,hX H s,aac _⟩,hd zs H l r s hD⟩
end
section
variable {X:Cx}
inductive Ow (xs:η)(H:Hp)(Q:VK):Prop where
 | mk (p:Addr) (kvs:δ) (_:xs=[.ref p]) (_:Rd H p (.dK kvs)) (_:Q (.int (kvs.length:Int)) H):Ow xs H Q
theorem rW:fe X (.builtin "len") Ow:=by
 intro pins s σ H xs us Q I r h
 obtain ⟨p,kvs,rfl,hq,q⟩:=h
 obtain ⟨u,rfl,r1⟩:=vals1 r
 cases r1
 exact Uu I hq fun t s' I' =>⟨.int _,H,I',⟨t,rfl⟩,q⟩
end
section
variable {D:Addr}{te:TE}{cap:L2.St}{H1:Hp}{Q:VK}
end
section
variable {X:Cx}
theorem Inv.Jm {σ:L2.St}(I:Inv X pins σ H s)(e:H d=some (.cV o u))(n:∀o' u',X.H₀ d≠some (.cV o' u'))(nt:∀xs,u≠.tup xs):Inv X pins σ (upd H d u) s:=by
 have nx:∀b u',H b=some u' ->b≠d->upd H d u b=some u' :=fun b u q n=>by rw [ao n];exact q
 have nn:∀b,H b=none->upd H d u b=none:=fun b q=>by rw [ao (fun z=>by rw [z,e] at q;cases q)];exact q
 refine ⟨I.ok,I.os,I.bare,⟨I.base.keep,I.base.slot,fun b ob q z hx=>nn b (I.base.free b ob q z hx),I.base.there,fun b xs q=>?_,fun b ob u' q=>?_,fun b ps q=>?_⟩,I.loc,I.cell,nn _ I.free,fun x c q=>nn _ (I.ip x c q),fun p hp=>?_,?_,I.len⟩
 ·have z:=I.base.sE b xs q
  exact nx b _ z fun y=>by rw [y,e] at z;cases z
 ·have z:=I.base.qC b ob u' q
  exact nx b _ z fun y=>by rw [y] at q;exact n _ _ q
 ·obtain ⟨m,z⟩:=I.base.sG b ps q
  exact ⟨m,nx b _ z fun y=>by rw [y,e] at z;cases z⟩
 ·obtain ⟨a1,a2,a3⟩:=I.pin p hp
  exact ⟨a1,nn _ a2,a3⟩
 ·have st:∀{b u'},cg X.prog X.w H s.heap b u' ->cg X.prog X.w (upd H d u) s.heap b u' :=fun {b u'} k=>k.qB (fun _ _ _ z=>z) (fun c z=>nx c _ z fun y=>by rw [y,e] at z;cases z) fun c xs z=>nx c _ z fun y=>by rw [y,e] at z;cases z
  intro b u' q
  by_cases hb:b=d
  ·subst hb
   rw [ah] at q
   cases q
   exact st (I.bH b _ e).2
  ·rw [ao hb] at q
   exact st (I.bH b u' q)
def UC (H0:Hp)(t:TS):TS:=fun D σ H=>t {D with nx:=fun σ' H' =>∃d o kvs,H' d=some (.cV o (.dK kvs))/\(∀o' u',H0 d≠some (.cV o' u'))/\D.nx σ' (upd H' d (.dK kvs))} σ H
theorem nE {st:Stmt}(h:PS X st t):PS X st (UC X.H₀ t):=by
 intro pins s σ H D I q
 refine wpAny_mono (h pins s σ H _ I q) (fun f s' z=>?_) fun _ _ z=>z
 cases f with
 | next=>
  obtain ⟨σ',H',I',d,o,kvs,e,n,k⟩:=z
  exact ⟨σ',_,Inv.Jm I' e n (fun _ z=>nomatch z),k⟩
 | brk=>exact z
 | cont=>exact z
 | ret u=>exact z
end
section
variable {prog:Program}{w:World}{KK:Type}[DecidableEq KK]{knd:KeyKind prog w KK}{A:Around}{E:γ}{s:Shared}
open MeetsSeq MeetsSeq2 MeetsSeq3 SeqRoads2 in
open MeetsSeq MeetsSeq2 MeetsSeq3 SeqRoads2 in
end
section
variable {X:Cx}
end
structure QD (K:Frag)(x qual:Str)(st:Stmt)(f:Addr)(fd:FuncData):Prop where
 ex:∃(dV oc:Value) (od:Ι) (kV doc pm:Value) (an:Ι) (bJ ct:Value) (mK:Κ),
  fd=fnOf x qual (aA st) (ay st) (ag st) dV kV doc pm an bJ ct/\K.lookup f=some ⟨oc,od,.func fd,mK⟩/\codeIn K bJ qual=true
 kp:keepIn K (.ref f)=true
section
variable {P:Program}{w:World}{K:Frag}{mg:ι}{base:Heap}{CX:ku}
theorem Mu {st:Stmt}{od an:Ι}{mK:Κ}{kV doc pm bJ ct:Value}(l:K.lookup f=some ⟨oc,od,.func (fnOf x qual (aA st) (ay st) (ag st) dV kV doc pm an bJ ct),mK⟩)
  (c:codeIn K bJ qual=true) (k:keepIn K (.ref f)=true):QD K x qual st f (fnOf x qual (aA st) (ay st) (ag st) dV kV doc pm an bJ ct):=⟨⟨dV,oc,od,kV,doc,pm,an,bJ,ct,mK,rfl,l,c⟩,k⟩
theorem c_ {st:Stmt}(F:m8 K name qual st f fd)(S:aE N ps (ag st))(len:∀vs H Q E,sp vs H Q E->vs.length=ps.length)
  (jC:∀(bJ:Value) (A:Around) (outer:List Env) (s:Shared) (H:Hp) (vs:η) (Q:VK) (E:XK),cC k (A.deeper (envOfC qual (ag st) s.heap.objs.size f bJ))->sp vs H Q E->
   ∃t,PSs (cxr P w K mg base N qual (ag st) f bJ A outer s H E).yX (ay st) t/\t {nx:=fun _ H' =>Q .cw H',rt:=Q} (start N vs) H):cJ P w K mg base (a_ P w) (k+1) f fd ps sp:=by
 obtain ⟨oc,od,kV,doc,pm,an,bJ,ct,mK,rfl,lk,qD⟩:=F.ex
 exact zc lk qD S len fun A outer s H vs Q E hr qF=>by
  obtain ⟨t,h,q⟩:=jC bJ A outer s H vs Q E hr qF
  exact ⟨t,h.yX,q⟩
theorem Jn {st:Stmt}(F:QD K name qual st f fd)(S:aE N ps (ag st))(len:∀vs H Q E,sp vs H Q E->vs.length=ps.length)
  (jC:∀(bJ:Value) (A:Around) (outer:List Env) (s:Shared) (H:Hp) (vs:η) (Q:VK) (E:XK),cC k (A.deeper (envOfC qual (ag st) s.heap.objs.size f bJ))->sp vs H Q E->
   ∃t,PSs (cxr P w K mg base N qual (ag st) f bJ A outer s H E).yX (ay st) t/\t {nx:=fun _ H' =>Q .cw H',rt:=Q} (start N vs) H):cJ P w K mg base (a_ P w) (k+1) f fd ps sp:=by
 obtain ⟨dV,oc,od,kV,doc,pm,an,bJ,ct,mK,rfl,lk,qD⟩:=F.ex
 exact zc lk qD S len fun A outer s H vs Q E hr qF=>by
  obtain ⟨t,h,q⟩:=jC bJ A outer s H vs Q E hr qF
  exact ⟨t,h.yX,q⟩
end
structure tw (P:Program)(w:World)(K:Frag)(mg:ι)(base:Heap)(CX:ku)(k:Nat)(C:Addr)(m:Str)(ps:ρ)(ds:π)(sp:Sp):Prop where
 ex:∃(f:Addr) (fd:FuncData),vf K C/\Meth K C m f/\cJ P w K mg base CX k f fd ps sp/\Binds K fd ps ds
section
variable {X:Cx}{CX:ku}{k:Nat}{E:XK}{m:Str}{pos apos:Pos}{e o:Expr}{es:Α}{ta:TE}{t:TA}
inductive Jo (P:Program)(w:World)(K:Frag)(mg:ι)(base:Heap)(CX:ku)(k:Nat)(m:Str)(E:XK)(t:TA)(σ:L2.St)(Q:VK)(x:V)(H1:Hp):Prop where
 | mk (a C dx fs ps sp:_) (_:x=.ref a) (_:H1 a=some (.ins C dx fs)) (_:fs.lookup m=none) (_:tw P w K mg base CX k C m ps [.none] sp) (_:t σ H1 fun vs H2=>sp (x::vs++[.cw]) H2 Q E):Jo P w K mg base CX k m E t σ Q x H1
def UD (P:Program)(w:World)(K:Frag)(mg:ι)(base:Heap)(CX:ku)(k:Nat)(m:Str)(E:XK)(ta:TE)(t:TA):TE:=fun σ H Q=>ta σ H fun x H1=>Jo P w K mg base CX k m E t σ Q x H1
theorem zB {pl:Sem Bool}(he:PE X o ta)(hr:cC k X.A)(hx:Passes CX X E)(ha:PA X (e::es) t)
  (LR:starEach (e::es) X.env=(false,eval e X.env)::starEach es X.env:=by rfl) (y_:(backTo pos (starEach es X.env)).any (·.1)=false:=by rfl)
  (ht:eval (.Call (.Attribute o m apos) (e::es) [] pos) X.env=(do
   let ov <- eval o X.env
   standAt apos.atName
   let (f,first) <- holding [ov] (getMethod ov m pl)
   callWith pos f first (backTo pos (starEach (e::es) X.env)) (backToKw pos (keywordEach [] X.env))):=by rfl):
  PE X (.Call (.Attribute o m apos) (e::es) [] pos) (UD X.prog X.w X.K X.mg X.base CX k m E ta t):=by
 intro pins s σ H Q I h
 refine PySem.W.methodCall_KW (pl:=pl) (cq (he pins s σ H _ I h) fun u s1 ⟨x,H1,I1,rx,a,C,dx,fs,ps,sp,ex,ea,l,M,q⟩=>?_) ht
 subst ex
 obtain rfl:u=Value.ref a:=rx
 obtain ⟨f,fd,c,hm,F,hb⟩:=M.ex
 refine jm I1 ea c hm l ?_
 refine PySem.W.callWith_K (first:=[.ref a]) (h₀:=X.base) I.ok.mod.SA hm.kp (cq (ha pos pins s1 σ H1 _ I1 q) fun us s2 ⟨vs,H2,I2,r,q2⟩=>⟨I2.ji,?_⟩) LR y_
 exact sN (us:=.ref a::us) (vs:=.ref a::vs) (dvs:=[.cw]) F hr hb (.cons rfl .nil) hx I2 (.cons rfl r) q2
end
theorem vN {κ:Type}[DecidableEq κ]{k:κ}{v:V}:∀{kvs:List (κ×V)},bL kvs k=some v->(k,v)∈kvs
 | p::r,h=>by
  by_cases e:p.1=k
  ·rw [bM e] at h
   cases h
   subst e
   exact aak ..
  ·rw [bE e] at h
   exact aae _ (vN h)
theorem cQ {κ:Type}[DecidableEq κ]{k:κ}:∀{kvs:List (κ×V)},k∉kvs.map (·.1)->bL kvs k=none
 | [],_=>rfl
 | p::r,h=>by
  rw [aah,aaQ,not_or] at h
  rw [bE (fun e=>h.1 e.symm)]
  exact cQ h.2
theorem eR {κ:Type}[DecidableEq κ]{k:κ}:∀{kvs:List (κ×V)},k∈kvs.map (·.1)->∃v,bL kvs k=some v
 | p::r,h=>by
  by_cases e:p.1=k
  ·exact ⟨_,bM e⟩
  ·rw [bE e]
   rw [aah,aaQ] at h
   rcases h with h | h
   ·exact absurd h.symm e
   ·exact eR h
theorem Jp {k n:Nat}(h:k < n):seqIndex? (k:Int) n=some k:=by
 unfold seqIndex?
 simp [h]
 omega
structure CP (K:Frag)(C:Addr):Prop where
 cls:vf K C
 pl:fK K C "pin_places"
 wy:fK K C "pin_ways"
 br:fK K C "bar_ends"
abbrev frF (pP pW pB:Addr):List (Str×V):=[("pin_places",.ref pP),("pin_ways",.ref pW),("bar_ends",.ref pB)]
abbrev Pt:=(Int×Int)×(Int×Int)
abbrev _root_.Η:=List (Str×Pt)
abbrev eL (p:Pt):List Da:=[.t [.v (.int p.1.1),.v (.int p.1.2)],.t [.v (.int p.2.1),.v (.int p.2.2)]]
def bD (H H' :Hp):Prop:=∀b xs,Rd H b (.tup xs)->Rd H' b (.tup xs)
theorem bD.of (s:au H H'):bD H H' :=fun b xs e=>by
 rcases e with e | ⟨o,e⟩
 ·exact .inl (s _ _ e)
 ·exact .inr ⟨o,s _ _ e⟩
theorem bD.trans (a:bD H H1)(b:bD H1 H2):bD H H2:=fun c xs e=>b c xs (a c xs e)
theorem bD.dict (e:H d=some (.dK kvs)):bD H (upd H d o):=fun b xs r=>by
 rcases r with r | ⟨o,r⟩
 ·exact .inl (by rw [ao (fun z=>by rw [z,e] at r;cases r)];exact r)
 ·exact .inr ⟨o,by rw [ao (fun z=>by rw [z,e] at r;cases r)];exact r⟩
theorem bD.list (e:H d=some (.lst xs)):bD H (upd H d o):=fun b xs r=>by
 rcases r with r | ⟨o,r⟩
 ·exact .inl (by rw [ao (fun z=>by rw [z,e] at r;cases r)];exact r)
 ·exact .inr ⟨o,by rw [ao (fun z=>by rw [z,e] at r;cases r)];exact r⟩
theorem bD.bX {K:Frag}(s:bD H H')(q:bT K H p xs):bT K H' p xs:=by
 rcases q with q | q
 ·exact .inl (s _ _ q)
 ·exact .inr q
theorem nC.aU {K:Frag}(h:nC K H v q)(s:bD H H'):nC K H' v q:=by
 obtain ⟨p,e,k⟩:=h
 exact ⟨p,e,s.bX k⟩
def Spot (K:Frag)(H:Hp)(v:V)(p:Pt):Prop:=∃a u1 u2,v=.ref a/\bT K H a [u1,u2]/\nC K H u1 p.1/\nC K H u2 p.2
theorem Spot.aU {K:Frag}(h:Spot K H v p)(s:bD H H'):Spot K H' v p:=by
 obtain ⟨a,u1,u2,e,h1,h2,h3⟩:=h
 exact ⟨a,u1,u2,e,s.bX h1,h2.aU s,h3.aU s⟩
theorem nG {K:Frag}(h:nC K H v q):Is K H (.t [.v (.int q.1),.v (.int q.2)]) v:=by
 obtain ⟨p,rfl,e⟩:=h
 unfold Is
 refine ⟨p,_,rfl,e,?_⟩
 unfold fw
 refine ⟨by unfold Is;exact ⟨rfl,rfl⟩,?_⟩
 unfold fw
 refine ⟨by unfold Is;exact ⟨rfl,rfl⟩,?_⟩
 unfold fw
 trivial
theorem Spot.is {K:Frag}(h:Spot K H v p):Is K H (.t (eL p)) v:=by
 obtain ⟨a,u1,u2,rfl,h1,h2,h3⟩:=h
 unfold Is
 refine ⟨a,_,rfl,h1,?_⟩
 unfold fw
 refine ⟨nG h2,?_⟩
 unfold fw
 refine ⟨nG h3,?_⟩
 unfold fw
 trivial
theorem vO (p q:Pt):cK (eL p) (eL q)=decide (p=q):=by
 have e:cK (eL p) (eL q)=((p.1.1==q.1.1 && (p.1.2==q.1.2 && true)) && ((p.2.1==q.2.1 && (p.2.2==q.2.2 && true)) && true)):=by
  simp only [eL,cK,gc,qv]
 rw [e]
 obtain ⟨⟨a,b⟩,c,d⟩:=p
 obtain ⟨⟨a',b'⟩,c',d'⟩:=q
 by_cases h:a=a' <;> by_cases h1:b=b' <;> by_cases h2:c=c' <;> by_cases h3:d=d' <;> simp [h,h1,h2,h3,ajx]
theorem mh (p q:Pt):df (eL p) (eL q)=true:=by simp [eL,df,alike]
theorem rX (p:Pt):gd (eL p)<=60:=by simp [eL,gd,dep]
structure eC (K:Frag)(H:Hp)(C a dx pP pW pB:Addr)(ps:Η)(bs:υ)(kP kW kB:δ):Prop where
 obj:H a=some (.ins C dx (frF pP pW pB))
 pl:H pP=some (.dK kP)
 wy:H pW=some (.dK kW)
 br:H pB=some (.dK kB)
 ne1:pP≠pW
 ne2:pP≠pB
 ne3:pW≠pB
 rp:Paired (fun (p:Str×Pt) (kv:Key×V)=>kv.1=.inr p.1/\Spot K H kv.2 p.2) ps kP
 rb:Paired (fun (b:Str×Str×Str) (kv:Key×V)=>kv.1=.inr b.1/\∃p,kv.2=.ref p/\Rd H p (.tup [.str b.2.1,.str b.2.2])) bs kB
section
variable {K:Frag}{H H' :Hp}{C a dx pP pW pB:Addr}{ps:Η}{bs:υ}{kP kW kB:δ}
theorem fk {R:(Str×α)->(Key×V)->Prop}:∀{l:List (Str×α)} {kvs:δ},Paired (fun b kv=>kv.1=.inr b.1/\R b kv) l kvs->kvs.map (·.1)=l.map (fun b=>(abD b.1:Key))
 | _,_,.nil=>rfl
 | _,_,.cons h t=>by rw [aah,aah,h.1,fk t]
theorem eD {l:ρ}:(abD x:Key)∈l.map (fun b=>(abD b:Key)) ↔ x∈l:=by
 constructor
 ·intro h
  obtain ⟨y,hy,e⟩:=aab.mp h
  exact abQ e▸hy
 ·exact fun h=>aab.mpr ⟨x,h,rfl⟩
theorem eC.eE (R:eC K H C a dx pP pW pB ps bs kP kW kB)(s:bD H H')(h1:H' a=H a)(h2:H' pP=H pP)(h3:H' pW=H pW)(h4:H' pB=H pB):eC K H' C a dx pP pW pB ps bs kP kW kB:=
 ⟨h1.trans R.obj,h2.trans R.pl,h3.trans R.wy,h4.trans R.br,R.ne1,R.ne2,R.ne3,Paired.bF R.rp fun _ _ h=>⟨h.1,h.2.aU s⟩,Paired.bF R.rb fun _ _ h=>⟨h.1,by obtain ⟨p,e,k⟩:=h.2;exact ⟨p,e,s _ _ k⟩⟩⟩
theorem eC.same (R:eC K H C a dx pP pW pB ps bs kP kW kB)(s:au H H'):eC K H' C a dx pP pW pB ps bs kP kW kB:=
 R.eE (.of s) ((s _ _ R.obj).trans R.obj.symm) ((s _ _ R.pl).trans R.pl.symm) ((s _ _ R.wy).trans R.wy.symm) ((s _ _ R.br).trans R.br.symm)
theorem eC.mi (R:eC K H C a dx pP pW pB ps bs kP kW kB):kB.map (·.1)=(bs.map (·.1)).map (fun b=>(abD b:Key)):=by
 rw [fk R.rb,aaT]
 rfl
theorem eC.vP (R:eC K H C a dx pP pW pB ps bs kP kW kB):kP.map (·.1)=(ps.map (·.1)).map (fun b=>(abD b:Key)):=by
 rw [fk R.rp,aaT]
 rfl
theorem eC.bar (R:eC K H C a dx pP pW pB ps bs kP kW kB)(x:Str):(bL kB (.inr x)).isSome=decide (x∈bs.map (·.1)):=by
 by_cases h:x∈bs.map (·.1)
 ·obtain ⟨v,e⟩:=eR (kvs:=kB) (k:=.inr x) (by rw [R.mi];exact eD.mpr h)
  rw [e,decide_eq_true h]
  rfl
 ·rw [cQ (by rw [R.mi];exact fun z=>h (eD.mp z)),decide_eq_false h]
  rfl
theorem eC.pin (R:eC K H C a dx pP pW pB ps bs kP kW kB)(x:Str):(bL kP (.inr x)).isSome=decide (x∈ps.map (·.1)):=by
 by_cases h:x∈ps.map (·.1)
 ·obtain ⟨v,e⟩:=eR (kvs:=kP) (k:=.inr x) (by rw [R.vP];exact eD.mpr h)
  rw [e,decide_eq_true h]
  rfl
 ·rw [cQ (by rw [R.vP];exact fun z=>h (eD.mp z)),decide_eq_false h]
  rfl
theorem eC.ab (R:eC K H C a dx pP pW pB ps bs kP kW kB):a≠pP/\a≠pW/\a≠pB:=
 ⟨fun z=>(by have h:=R.obj;rw [z,R.pl] at h;cases h),fun z=>(by have h:=R.obj;rw [z,R.wy] at h;cases h),fun z=>(by have h:=R.obj;rw [z,R.br] at h;cases h)⟩
theorem eC.QE (R:eC K H C a dx pP pW pB ps bs kP kW kB)(ht:Rd H t (.tup [.str one,.str other])):
  eC K (upd H pB (.dK (kB++[(.inr x,.ref t)]))) C a dx pP pW pB ps (bs++[(x,one,other)]) kP kW (kB++[(.inr x,.ref t)]):=by
 have s:bD H (upd H pB (.dK (kB++[(.inr x,.ref t)]))):=.dict R.br
 exact ⟨by rw [ao R.ab.2.2];exact R.obj,by rw [ao R.ne2];exact R.pl,by rw [ao R.ne3];exact R.wy,ah,R.ne1,R.ne2,R.ne3,Paired.bF R.rp fun _ _ h=>⟨h.1,h.2.aU s⟩,
  Paired.snoc (Paired.bF R.rb fun _ _ h=>⟨h.1,by obtain ⟨p,e,k⟩:=h.2;exact ⟨p,e,s _ _ k⟩⟩) ⟨rfl,t,rfl,s _ _ ht⟩⟩
theorem f7 {R:(Str×α)->(Key×V)->Prop}(x:Str):∀{l:List (Str×α)} {kvs:δ},Paired (fun b kv=>kv.1=.inr b.1/\R b kv) l kvs->Paired (fun b kv=>kv.1=.inr b.1/\R b kv) (l.filter fun b=>decide (b.1≠x)) (eh kvs (.inr x))
 | _,_,.nil=>.nil
 | b::_,kv::_,.cons h t=>by
  unfold eh
  rw [ab1,ab1]
  have ih:=f7 x t
  unfold eh at ih
  by_cases e:b.1=x
  ·have e' :kv.1=.inr x:=by rw [h.1,e]
   rw [if_neg (by simp [e]),if_neg (by simp [e'])]
   exact ih
  ·have e' :¬ kv.1=.inr x:=fun z=>e (abQ (h.1.symm.trans z))
   rw [if_pos (by simp [e]),if_pos (by simp [e'])]
   exact .cons h ih
theorem eC.Mv (R:eC K H C a dx pP pW pB ps bs kP kW kB)(x:Str):
  eC K (upd H pB (.dK (eh kB (.inr x)))) C a dx pP pW pB ps (bs.filter fun b=>decide (b.1≠x)) kP kW (eh kB (.inr x)):=by
 have s:bD H (upd H pB (.dK (eh kB (.inr x)))):=.dict R.br
 exact ⟨by rw [ao R.ab.2.2];exact R.obj,by rw [ao R.ne2];exact R.pl,by rw [ao R.ne3];exact R.wy,ah,R.ne1,R.ne2,R.ne3,Paired.bF R.rp fun _ _ h=>⟨h.1,h.2.aU s⟩,
  f7 x (Paired.bF R.rb fun _ _ h=>⟨h.1,by obtain ⟨p,e,k⟩:=h.2;exact ⟨p,e,s _ _ k⟩⟩)⟩
theorem b6 :∀{l:List α} {m:List β},Paired R l m->Paired (fun b a=>R a b) m l
 | _,_,.nil=>.nil
 | _,_,.cons h t=>.cons h (b6 t)
theorem eC.QF (R:eC K H C a dx pP pW pB ps bs kP kW kB)(ht:Spot K H (.ref t) p):
  eC K (upd H pP (.dK (kP++[(.inr x,.ref t)]))) C a dx pP pW pB (ps++[(x,p)]) bs (kP++[(.inr x,.ref t)]) kW kB:=by
 have s:bD H (upd H pP (.dK (kP++[(.inr x,.ref t)]))):=.dict R.pl
 exact ⟨by rw [ao R.ab.1];exact R.obj,ah,by rw [ao (aba R.ne1)];exact R.wy,by rw [ao (aba R.ne2)];exact R.br,R.ne1,R.ne2,R.ne3,
  Paired.snoc (Paired.bF R.rp fun _ _ h=>⟨h.1,h.2.aU s⟩) ⟨rfl,ht.aU s⟩,Paired.bF R.rb fun _ _ h=>⟨h.1,by obtain ⟨p,e,k⟩:=h.2;exact ⟨p,e,s _ _ k⟩⟩⟩
theorem eC.tD (R:eC K H C a dx pP pW pB ps bs kP kW kB)(jc :δ):eC K (upd H pW (.dK jc)) C a dx pP pW pB ps bs kP jc kB:=by
 have s:bD H (upd H pW (.dK jc)):=.dict R.wy
 exact ⟨by rw [ao R.ab.2.1];exact R.obj,by rw [ao R.ne1];exact R.pl,ah,by rw [ao (aba R.ne3)];exact R.br,R.ne1,R.ne2,R.ne3,
  Paired.bF R.rp fun _ _ h=>⟨h.1,h.2.aU s⟩,Paired.bF R.rb fun _ _ h=>⟨h.1,by obtain ⟨p,e,k⟩:=h.2;exact ⟨p,e,s _ _ k⟩⟩⟩
end
open Builtin.Int (intBits)
def qr (r:Rat):Int×Int:=(r.num,(r.den:Int))
theorem dH (r:Rat):0 < (qr r).2:=by
 have:=r.den_pos
 show (0:Int) < (r.den:Int)
 omega
theorem oR (r:Rat):aby (qr r).1 (qr r).2=1:=by
 have:=r.reduced
 show aby r.num (r.den:Int)=1
 unfold aby
 simpa [Nat.Coprime] using this
theorem gA (r:Rat):vl (qr r)=r:=by
 show (r.num:Rat) / ((r.den:Int):Rat)=r
 rw [<- aiU]
 exact aiN r
theorem rY (h:0 < q.2)(g:aby q.1 q.2=1):q=qr (vl q):=Qm h (dH _) g (oR _) (gA _).symm
theorem gQ (h:b≠0):low t b=qr ((t:Rat) / (b:Rat)):=by
 rw [<- xJ h]
 exact rY (jH h) (m_ h)
theorem gR (h:qr a=qr b):a=b:=by
 rw [<- gA a, <- gA b,h]
theorem oT (i:Int):qr (i:Rat)=(i,1):=by
 have e:(i,(1:Int))=qr (vl (i,1)):=rY (by show (0:Int) < 1;decide) (by show aby i 1=1;simp)
 have v:vl (i,(1:Int))=(i:Rat):=by
  unfold vl
  show (i:Rat) / ((1:Int):Rat)=i
  have:((1:Int):Rat)=1:=by rfl
  rw [this]
  grind
 rw [e,v]
theorem xP :((qr r).2:Rat)≠0:=cD (abX (dH r))
theorem QG (a b:Rat):low ((qr a).1*(qr b).2+(qr b).1*(qr a).2) ((qr a).2*(qr b).2)=qr (a+b):=by
 have ha:=dH a
 have hb:=dH b
 rw [gQ (abX (acN ha hb))]
 have e1:=gA a
 have e2:=gA b
 have z1:=xP (r:=a)
 have z2:=xP (r:=b)
 unfold vl at e1 e2
 congr 1
 push_cast
 grind
theorem Jq (a b:Rat):low ((qr a).1*(qr b).2 - (qr b).1*(qr a).2) ((qr a).2*(qr b).2)=qr (a - b):=by
 have ha:=dH a
 have hb:=dH b
 rw [gQ (abX (acN ha hb))]
 have e1:=gA a
 have e2:=gA b
 have z1:=xP (r:=a)
 have z2:=xP (r:=b)
 unfold vl at e1 e2
 congr 1
 push_cast
 grind
structure Sz (k:Nat)(r:Rat):Prop where
 top:intBits (qr r).1<=k
 bot:intBits (qr r).2<=k
theorem Sz.up (h:Sz k r)(kl:k<=l):Sz l r:=⟨aaf h.top kl,aaf h.bot kl⟩
theorem CQ (ha:intBits a<=k)(hb:intBits b<=k):intBits (a+b)<=k+1:=by
 rw [intBits_le_iff] at ha hb ⊢
 have:=acJ a b
 rw [adj]
 omega
theorem CS (ha:intBits a<=k)(hb:intBits b<=k):intBits (a - b)<=k+1:=by
 rw [intBits_le_iff] at ha hb ⊢
 have:=Int.natAbs_sub_le a b
 rw [adj]
 omega
theorem Jr (hb:b≠0)(h1:intBits t<=k)(h2:intBits b<=k):Sz k ((t:Rat) / (b:Rat)):=by
 rw [<- xJ hb]
 have e:=rY (jH (t:=t) hb) (m_ hb)
 exact ⟨by rw [<- e];exact intBits_le_of_natAbs (oz hb) h1,by rw [<- e];exact intBits_le_of_natAbs (oA hb) h2⟩
theorem Ox (hb:b≠0)(e:low t b=qr r)(h1:intBits t<=k)(h2:intBits b<=k):Sz k r:=by
 have z:=gQ (t:=t) hb
 rw [z] at e
 have:=gR e
 rw [<- this]
 exact Jr hb h1 h2
theorem Sz.add (ha:Sz k a)(hb:Sz l b):Sz (k+l+1) (a+b):=
 Ox (abX (acN (dH a) (dH b))) (QG a b) (CQ (intBits_mul_le ha.top hb.bot) (by rw [aiu];exact intBits_mul_le hb.top ha.bot)) (aiV (intBits_mul_le ha.bot hb.bot))
theorem Sz.sub (ha:Sz k a)(hb:Sz l b):Sz (k+l+1) (a - b):=
 Ox (abX (acN (dH a) (dH b))) (Jq a b) (CS (intBits_mul_le ha.top hb.bot) (by rw [aiu];exact intBits_mul_le hb.top ha.bot)) (aiV (intBits_mul_le ha.bot hb.bot))
theorem kN {i:Int}(h:i.natAbs < 2^k)(hk:1<=k):Sz k (i:Rat):=by
 refine ⟨?_,?_⟩
 ·rw [oT]
  exact intBits_le_iff.mpr h
 ·rw [oT]
  refine intBits_le_iff.mpr ?_
  show 1 < 2^k
  exact Nat.one_lt_two_pow (by omega)
def ig (K:Frag)(H:Hp)(v:V)(r:Rat):Prop:=nC K H v (qr r)
def ft (K:Frag)(H:Hp)(v:V)(p:Rat×Rat):Prop:=∃a u1 u2,v=.ref a/\bT K H a [u1,u2]/\ig K H u1 p.1/\ig K H u2 p.2
section
variable {K:Frag}{H H' :Hp}{v:V}{r:Rat}{p:Rat×Rat}
theorem ig.aU (h:ig K H v r)(s:bD H H'):ig K H' v r:=nC.aU h s
theorem ig.same (h:ig K H v r)(s:au H H'):ig K H' v r:=nC.same h s
theorem ft.aU (h:ft K H v p)(s:bD H H'):ft K H' v p:=by
 obtain ⟨a,u1,u2,e,h1,h2,h3⟩:=h
 exact ⟨a,u1,u2,e,s.bX h1,h2.aU s,h3.aU s⟩
theorem ft.same (h:ft K H v p)(s:au H H'):ft K H' v p:=h.aU (.of s)
abbrev qz (p:Rat×Rat):Pt:=(qr p.1,qr p.2)
theorem ft.UE (h:ft K H v p):Spot K H v (qz p):=h
def ie (K:Frag)(H:Hp)(us:η)(ps:Λ):Prop:=Paired (ft K H) us ps
theorem ie.aU (h:ie K H us ps)(s:bD H H'):ie K H' us ps:=Paired.bF h fun _ _ z=>z.aU s
theorem ie.same (h:ie K H us ps)(s:au H H'):ie K H' us ps:=h.aU (.of s)
end
section
variable {X:Cx}
theorem zC {σ:L2.St}(I:Inv X pins σ H s)(h1:ft X.K H v p)(h2:ft X.K H v q):p=q:=by
 obtain ⟨a,u1,u2,rfl,t1,⟨b1,rfl,n1⟩,b2,rfl,n2⟩:=h1
 obtain ⟨a',w1,w2,e,t2,⟨c1,rfl,m1⟩,c2,rfl,m2⟩:=h2
 cases e
 cases I.gu t1 t2
 have e1:=I.gu n1 m1
 have e2:=I.gu n2 m2
 simp only [List.cons.injEq,V.int.injEq,and_true] at e1 e2
 exact ade (gR (ade e1.1 e1.2)) (gR (ade e2.1 e2.2))
def UG (K:Frag)(neg:Bool):R2:=fun x y H Q=>∃p l us ps,y=.ref l/\aX K H l us/\ft K H x p/\ie K H us ps/\Q (.bl (if neg then !decide (p∈ps) else decide (p∈ps))) H
theorem UH {σ:L2.St}{its:π}(I:Inv X pins σ H s)(hu:A.units+60 < cLine)(hx:ft X.K H x p)(rx:RelV x v)(hp:ie X.K H us ps)(rv:Vals us its):
  ∃e:Value->Bool,(∀y,y∈its.toArray->SeqAt.EqAt A s y v (e y))/\its.toArray.any e=decide (p∈ps):=by
 have key:∀(j:Nat) (y:Value),its[j]? =some y->∃u q,us[j]? =some u/\ps[j]? =some q/\RelV u y/\ft X.K H u q:=fun j y ey=>by
  obtain ⟨u,eu,ru⟩:=aw (b6 rv) ey
  obtain ⟨q,eq,hq⟩:=aw hp eu
  exact ⟨u,q,eu,eq,ru,hq⟩
 refine ⟨fun y=> @decide (∃u q,RelV u y/\ft X.K H u q/\q=p) (abS _),fun y hy=>?_,?_⟩
 ·obtain ⟨j,hj,ey⟩:=abT.mp (by simpa using hy:y∈its)
  obtain ⟨u,q,eu,eq,ru,hq⟩:=key j y (by rw [gE hj,ey])
  have z:=zk (A:=A) I (.t (eL (qz q))) (.t (eL (qz p))) u x y v hq.UE.is hx.UE.is (by unfold alike;exact mh _ _) ru rx (by have:=rX (qz q);unfold dep;simp only [eL,gd,dep] at this ⊢;omega)
  have e:gc (.t (eL (qz q))) (.t (eL (qz p)))= @decide (∃u q,RelV u y/\ft X.K H u q/\q=p) (abS _):=by
   unfold gc
   rw [vO]
   by_cases c:q=p
   ·subst c
    rw [decide_eq_true rfl]
    symm
    exact @decide_eq_true _ (abS _) ⟨u,q,ru,hq,rfl⟩
   ·rw [decide_eq_false (fun z=>c (ade (gR (congrArg ajl z)) (gR (congrArg ajm z))))]
    symm
    refine @decide_eq_false _ (abS _) fun ⟨u',q',ru',h8,e'⟩=>?_
    obtain ⟨a,_,_,rfl,_⟩:=id hq
    obtain ⟨a',_,_,rfl,_⟩:=id h8
    have r1:y=Value.ref a:=ru
    have r2:y=Value.ref a' :=ru'
    rw [r1] at r2
    cases r2
    exact c ((zC I hq h8).trans e')
  rw [e] at z
  exact z
 ·rw [abr,decide_eq_true_iff]
  simp only [List.any_toArray,ah6]
  constructor
  ·rintro ⟨y,hy,ey⟩
   obtain ⟨j,hj,ej⟩:=abT.mp hy
   obtain ⟨u,q,eu,eq,ru,hq⟩:=key j y (by rw [gE hj,ej])
   obtain ⟨u',q',ru',h8,e'⟩:= @of_decide_eq_true _ (abS _) ey
   obtain ⟨a,_,_,rfl,_⟩:=id hq
   obtain ⟨a',_,_,rfl,_⟩:=id h8
   have r1:y=Value.ref a:=ru
   have r2:y=Value.ref a' :=ru'
   rw [r1] at r2
   cases r2
   rw [<- e', <- zC I hq h8]
   exact ir eq
  ·intro hm
   obtain ⟨j,hj,ej⟩:=abT.mp hm
   have lu:us.length=ps.length:=Paired.length hp
   have li:us.length=its.length:=rv.length
   have ZT :j < its.length:=by omega
   refine ⟨its[j],ab2 ZT,?_⟩
   obtain ⟨u,q,eu,eq,ru,hq⟩:=key j its[j] (gE ZT)
   rw [gE hj,ej] at eq
   cases eq
   exact @decide_eq_true _ (abS _) ⟨u,p,ru,hq,rfl⟩
theorem Mw (hu:X.A.units+64 < cLine):jx X (compareOp .In) (UG X.K false):=by
 intro pins s σ H x y v u Q I rx ry h
 obtain ⟨p,l,us,ps,rfl,hq,hx,hp,q⟩:=h
 cases ry
 obtain ⟨its,rv,pl,hz⟩:=I.list hq
 obtain ⟨e,he,ea⟩:=UH (A:=X.A.in1) I (by rw [in1_units];omega) hx rx hp rv
 refine SeqAt.in_listAt e pl.isList he ⟨.bl _,H,I,rfl,?_⟩
 rw [ea]
 exact q
end
theorem gS {R:(Str×α)->(Key×V)->Prop}:∀{l:List (Str×α)} {kvs:δ},Paired (fun b kv=>kv.1=.inr b.1/\R b kv) l kvs->(l.map (·.1)).Nodup->(x,y)∈l->∃v,bL kvs (.inr x)=some v/\R (x,y) (.inr x,v)
 | _::_,kv::_,.cons h t,nd,m=>by
  rw [aah,aa5] at nd
  rcases aaQ.mp m with e | m
  ·subst e
   have h1:kv.1=.inr x:=h.1
   refine ⟨kv.2,bM h1,?_⟩
   have h2:=h.2
   rw [<- h1]
   exact h2
  ·obtain ⟨v,e,r⟩:=gS t nd.2 m
   refine ⟨v,?_,r⟩
   rw [bE (fun z=>?_)]
   ·exact e
   ·rw [h.1] at z
    exact nd.1 (abQ z▸aab.mpr ⟨_,m,rfl⟩)
def qA (K:Frag)(H:Hp)(pw:Θ)(kW:δ):Prop:=
 Paired (fun (p:Str×List (Rat×Rat)) (kv:Key×V)=>kv.1=.inr p.1/\∃l us,kv.2=.ref l/\H l=some (.lst us)/\ie K H us p.2) pw kW
theorem qA.same {K:Frag}(h:qA K H pw kW)(s:au H H'):qA K H' pw kW:=
 Paired.bF h fun _ _ z=>⟨z.1,by obtain ⟨l,us,e1,e2,e3⟩:=z.2;exact ⟨l,us,e1,s _ _ e2,e3.same s⟩⟩
theorem qA.dict {K:Frag}(h:qA K H pw kW)(e:H d=some (.dK kvs)):qA K (upd H d o) pw kW:=
 Paired.bF h fun _ _ z=>⟨z.1,by
  obtain ⟨l,us,e1,e2,e3⟩:=z.2
  exact ⟨l,us,e1,by rw [ao (fun q=>by rw [q,e] at e2;cases e2)];exact e2,e3.aU (.dict e)⟩⟩
theorem qA.keys {K:Frag}(h:qA K H pw kW):kW.map (·.1)=(pw.map (·.1)).map (fun b=>(abD b:Key)):=by
 rw [fk h,aaT]
 rfl
theorem eC.ends {K:Frag}(R:eC K H C a dx pP pW pB ps bs kP kW kB)(nd:(bs.map (·.1)).Nodup)(m:(x,one,other)∈bs):
  ∃p,bL kB (.inr x)=some (.ref p)/\Rd H p (.tup [.str one,.str other]):=by
 obtain ⟨v,e,p,ep,r⟩:=gS R.rb nd m
 have u6 :v=.ref p:=ep
 exact ⟨p,by rw [e,u6],r⟩
theorem eC.place {K:Frag}(R:eC K H C a dx pP pW pB ps bs kP kW kB)(nd:(ps.map (·.1)).Nodup)(m:(x,p)∈ps):
  ∃v,bL kP (.inr x)=some v/\Spot K H v p:=gS R.rp nd m
end Ty
namespace Ty
open PySem PySem.Spec PyProof.Rows L2
structure aD where
 nm:Str
 sp:Rat×Rat
 ws:List (Rat×Rat)
abbrev _root_.ο:=List aD
structure ba where
 nm:Str
 one:aD
 other:aD
abbrev _root_.ς:=List ba
structure CT (K:Frag)(H:Hp)(C a:Addr)(pins:ο)(bars:ς):Prop where
 ex:∃(dx pP pW pB:Addr) (kP kW kB:δ),eC K H C a dx pP pW pB (pins.map fun p=>(p.nm,qz p.sp)) (bars.map fun b=>(b.nm,b.one.nm,b.other.nm)) kP kW kB/\qA K H (pins.map fun p=>(p.nm,p.ws)) kW
structure fu (pins:ο)(bars:ς):Prop where
 np:(pins.map (·.nm)).Nodup
 nb:(bars.map (·.nm)).Nodup
 ends:∀b∈bars,b.one∈pins/\b.other∈pins/\b.one.nm≠b.other.nm
 sz:∀p∈pins,Sz 44 p.sp.1/\Sz 44 p.sp.2/\∀w∈p.ws,Sz 22 w.1/\Sz 22 w.2
 lp:pins.length<=9
 lb:bars.length<=14
 lw:∀p∈pins,p.ws.length<=2
theorem CT.same {K:Frag}(h:CT K H C a pins bars)(s:au H H'):CT K H' C a pins bars:=by
 obtain ⟨dx,pP,pW,pB,kP,kW,kB,R,W⟩:=h.ex
 exact ⟨dx,pP,pW,pB,kP,kW,kB,R.same s,W.same s⟩
def SQ (K:Frag)(H:Hp)(kvs:δ)(F:Β):Prop:=
 ∀nm,(bL kvs (.inr nm)=none/\F nm=none)\/∃v p,bL kvs (.inr nm)=some v/\F nm=some p/\ft K H v p
section
variable {K:Frag}{H H' :Hp}{kvs:δ}
theorem SQ.same (h:SQ K H kvs F)(s:au H H'):SQ K H' kvs F:=fun nm=>by
 rcases h nm with h | ⟨v,q,h1,h2,h3⟩
 ·exact .inl h
 ·exact .inr ⟨v,q,h1,h2,h3.same s⟩
theorem SQ.abi (h:SQ K H kvs F)(n:ft K H v q):ft K H ((bL kvs (.inr x)).getD v) ((F x).getD q):=by
 rcases h x with ⟨h1,h2⟩ | ⟨u,q',h1,h2,h3⟩
 ·rw [h1,h2]
  exact n
 ·rw [h1,h2]
  exact h3
end
end Ty
namespace Ty
open PySem PySem.Spec PyProof.Rows L2
end Ty
namespace Ty
open PySem PySem.Spec PyProof.Rows L2
theorem QH {α:Type}{nm:α->Str}{l:List α}(nd:(l.map nm).Nodup){b b' :α}(h:b∈l)(h' :b' ∈l)(e:nm b=nm b'):b=b' :=by
 obtain ⟨i,hi,ei⟩:=abT.mp h
 obtain ⟨j,hj,ej⟩:=abT.mp h'
 have q1:(l.map nm)[i]? =some (nm b):=by rw [Wp,gE hi,ei];rfl
 have q2:(l.map nm)[j]? =some (nm b):=by rw [Wp,gE hj,ej,e];rfl
 have ij:=(adm (by rw [aaa];exact hi) nd).mp (q1.trans q2.symm)
 subst ij
 rw [<- ei, <- ej]
theorem jM {α:Type}{nm:α->Str}{l:List α}(nd:(l.map nm).Nodup){b b' :α}(h:l[i]? =some b)(m:b' ∈l.take i):nm b' ≠nm b:=fun e=>by
 have il:=(be.mp h).1
 obtain ⟨j,hj,ej⟩:=abT.mp m
 rw [aiW] at ej
 rw [abb] at hj
 have q1:(l.map nm)[j]? =some (nm b):=by rw [Wp,gE (by omega),ej, <- e];rfl
 have q2:(l.map nm)[i]? =some (nm b):=by rw [Wp,h];rfl
 have:=(adm (by rw [aaa];omega) nd).mp (q1.trans q2.symm)
 omega
theorem take_snoc {α:Type}{l:List α}{b:α}(h:l[i]? =some b):l.take (i+1)=l.take i++[b]:=by rw [aiX,h];rfl
end Ty
namespace Ty
open PySem PySem.Spec PyProof.Rows L2
theorem vQ {κ:Type}[DecidableEq κ]:∀{kvs:List (κ×V)} {t:Nat} {k:κ} {y:V},(kvs.map (·.1)).Nodup->kvs[t]? =some (k,y)->bL kvs k=some y
 | p::r,0,k,y,nd,e=>by
  cases e
  exact bM rfl
 | p::r,t+1,k,y,nd,e=>by
  rw [aah,aa5] at nd
  have e' :r[t]? =some (k,y):=e
  rw [bE (fun z=>nd.1 (z▸aab.mpr ⟨_,ir e',rfl⟩))]
  exact vQ nd.2 e'
theorem CU {xs:ρ}(h:xs.Nodup):(xs.map fun x=>(abD x:Key)).Nodup:=by
 unfold ajn
 rw [adn]
 exact List.Pairwise.imp (fun h e=>h (abQ e)) h
theorem kO (s:au H H')(n:H' p=none):H p=none:=by
 cases e:H p with
 | none=>rfl
 | some o=>rw [s _ _ e] at n;cases n
end Ty
namespace Ty
open PySem PySem.Spec PyProof.Rows L2
section
variable {X:Cx}
end
section
variable {D:Addr}{te:TE}{cap:L2.St}{H1:Hp}{Q:VK}
end
abbrev fQ (h:Heap)(z TI TO:Addr)(f0:Value)(fb:Bool):Prop:=
 h.get? z=some {cls:=.type "zip",dict:=none,data:=.fields #[f0,.bool fb,.bool false,.ref TI,.ref TO],slots:= #[]}
section
variable {prog:Program}{w:World}{A:Around}{E:γ}{s:Shared}
theorem vR (h:s.heap.get? a=some o)(q:Q (some o) s):wpAny (model prog w) A (loadIfAlive a) Q E s:=fun Γ p _=>by
 show Sem.wp _ _ (.loadIfAlive a .pure) _ _ _ _
 rw [Sem.wp_loadIfAlive,h]
 exact q
theorem vS {z TI TO T:Addr}(hz:fQ s.heap z TI TO (rawInt T) fb)(hT:s.heap.get? T=some o)
  (hQ:∀h',fQ h' z TI TO (rawInt T) true->Heap.SameBut z s.heap h' ->Q false {s with heap:=h' }):wpAny (model prog w) A (Builtin.SmallTypes.ownedTupleIsFree (.ref z)) Q E s:=by
 unfold Builtin.SmallTypes.ownedTupleIsFree
 refine wpAny_bind (wpAny_field hz rfl (x:=rawInt T) rfl ?_)
 show wpAny _ _ (loadIfAlive ((T:Int)).toNat >>=_) _ _ _
 refine wpAny_bind (vR (o:=o) (by simpa using hT) ?_)
 simp only [Option.isNone_some,abC,if_false]
 refine wpAny_bind (wpAny_field hz rfl (x:=.bool fb) rfl ?_)
 cases fb with
 | true=>
  show wpAny _ _ (if (Value.bool true !=Value.bool true)=true then _ else _) _ _ _
  rw [if_neg (by decide)]
  exact wpAny_pure (hQ s.heap hz ⟨rfl,fun _ _=>rfl⟩)
 | false=>
  show wpAny _ _ (if (Value.bool false !=Value.bool true)=true then _ else _) _ _ _
  rw [if_pos (by decide)]
  refine wpAny_bind (wpAny_setField_rec hz (by simp) fun h' hz' uY =>wpAny_pure (hQ h' hz' uY))
theorem CV {z TI TO T i1 i2 l1 l2:Addr}{xs ys:Μ}{Q:γ}(D:ZipApart z TI TO i1 i2 l1 l2)
  (hz:fQ s.heap z TI TO (rawInt T) fb) (hT:s.heap.get? T=some o) (jo:IsPair s.heap TI (.ref i1) (.ref i2))
  (h1:s.heap.IsListIter i1 l1 k1) (h2:s.heap.IsListIter i2 l2 k2) (zD:s.heap.IsList l1 xs) (xi:s.heap.IsList l2 ys) (hx:xs[k1]? =some x) (hy:ys[k2]? =some y)
  (hQ:∀h',fQ h' z TI TO (rawInt T) true->h'.IsListIter i1 l1 (k1+1)->h'.IsListIter i2 l2 (k2+1)->IsPair h' s.heap.objs.size x y->h'.objs.size=s.heap.objs.size+1->
   (∀c o,c≠z->c≠i1->c≠i2->s.heap.get? c=some o->h'.get? c=some o)->Q (.ref s.heap.objs.size) {s with heap:=h' }):
  wpAny (model prog w) A (Builtin.«zip.__next__» ⟨[.ref z],[]⟩) (fun fin s' =>∃v,fin=.done (.ret v)/\Q v s') E s:=by
 show wpAny _ _ (field (.ref z) 2 >>=_) _ _ _
 refine wpAny_bind (wpAny_field hz rfl (x:=.bool false) rfl ?_)
 show wpAny _ _ (field (.ref z) 3 >>=_) _ _ _
 refine wpAny_bind (wpAny_field hz rfl (x:=.ref TI) rfl ?_)
 refine wpAny_bind (wpAny_seqItems jo rfl ?_)
 show wpAny _ _ (Builtin.SmallTypes.ownedTupleIsFree (.ref z) >>=_) _ _ _
 refine wpAny_bind (vS hz hT fun h₁ hz₁ nH=>?_)
 simp only [abC,if_false]
 refine wpAny_bind ?_
 show wpAny _ _ (forIn [Value.ref i1,Value.ref i2].toArray _ _) _ _ _
 rw [aiO]
 simp only [ajb,aiF]
 refine wpAny_bind (wpAny_bind (wpAny_holding ?_))
 show wpAny _ _ (Builtin.SmallTypes.nextOf (.ref i1) >>=_) _ _ _
 refine wpAny_bind (wpAny_nextOf_list_item (h1.extBut nH.extBut D.i1z) (zD.extBut nH.extBut D.l1z) hx fun h₂ h1₂ Js=>wpAny_pure ?_)
 refine wpAny_pure ?_
 refine wpAny_bind (wpAny_bind (wpAny_holding ?_))
 show wpAny _ _ (Builtin.SmallTypes.nextOf (.ref i2) >>=_) _ _ _
 refine wpAny_bind (wpAny_nextOf_list_item ((h2.extBut nH.extBut D.i2z).extBut Js.extBut D.i12.symm) ((xi.extBut nH.extBut D.l2z).extBut Js.extBut D.l2i1) hy fun h₄ h2₄ SR=>wpAny_pure ?_)
 refine wpAny_pure (wpAny_pure ?_)
 refine wpAny_bind (wpAny_newTuple (hsz:=(by show 2<=sizeLine;decide)) ?_)
 have hsz:h₄.objs.size=s.heap.objs.size:=by rw [SR.1,Js.1,nH.1]
 refine wpAny_pure ⟨_,rfl,?_⟩
 have hz₄:fQ h₄ z TI TO (rawInt T) true:=SR.extBut _ _ D.i2z.symm (Js.extBut _ _ D.i1z.symm hz₁)
 show Q (.ref h₄.objs.size) _
 rw [hsz]
 refine hQ _ (Heap.get?_push_of_some _ hz₄) ((h1₂.extBut SR.extBut D.i12).at fun o e=>Heap.get?_push_of_some _ e) (h2₄.at fun o e=>Heap.get?_push_of_some _ e) ?_ (by rw [Heap.size_push,hsz]) fun c o c1 c3 c4 e=>Heap.get?_push_of_some _ (SR.extBut _ _ c4 (Js.extBut _ _ c3 (nH.extBut _ _ c1 e)))
 show (h₄.push _).get? _=_
 rw [<- hsz]
 exact Heap.get?_push_size _ rfl
theorem Jt {z TI TO T i1 i2 l1 l2:Addr}{xs ys:Μ}(hh:A.handled=none)(D:ZipApart z TI TO i1 i2 l1 l2)
  (hz:fQ s.heap z TI TO (rawInt T) fb) (hT:s.heap.get? T=some o) (jo:IsPair s.heap TI (.ref i1) (.ref i2))
  (h1:s.heap.IsListIter i1 l1 k1) (h2:s.heap.IsListIter i2 l2 k2) (zD:s.heap.IsList l1 xs) (xi:s.heap.IsList l2 ys) (CW:xs[k1]? =none\/ys[k2]? =none)
  (hE:∀h' e,(∀c o,c≠z->c≠i1->c≠i2->s.heap.get? c=some o->h'.get? c=some o)->(∃o,h'.get? e=some o/\o.cls=.type "StopIteration")->E (.ref e) {s with heap:=h' }):
  wpAny (model prog w) A (Builtin.«zip.__next__» ⟨[.ref z],[]⟩) Q E s:=by
 show wpAny _ _ (field (.ref z) 2 >>=_) _ _ _
 refine wpAny_bind (wpAny_field hz rfl (x:=.bool false) rfl ?_)
 show wpAny _ _ (field (.ref z) 3 >>=_) _ _ _
 refine wpAny_bind (wpAny_field hz rfl (x:=.ref TI) rfl ?_)
 refine wpAny_bind (wpAny_seqItems jo rfl ?_)
 show wpAny _ _ (Builtin.SmallTypes.ownedTupleIsFree (.ref z) >>=_) _ _ _
 refine wpAny_bind (vS hz hT fun h₁ hz₁ nH=>?_)
 simp only [abC,if_false]
 refine wpAny_bind ?_
 show wpAny _ _ (forIn [Value.ref i1,Value.ref i2].toArray _ _) _ _ _
 rw [aiO]
 simp only [ajb,aiF]
 refine wpAny_bind (wpAny_bind (wpAny_holding ?_))
 show wpAny _ _ (Builtin.SmallTypes.nextOf (.ref i1) >>=_) _ _ _
 cases hx:xs[k1]? with
 | none=>
  refine wpAny_bind (wpAny_nextOf_list_end hh (h1.extBut nH.extBut D.i1z) (zD.extBut nH.extBut D.l1z) hx fun h₂ e Js he=>?_)
  exact hE h₂ e (fun c o c1 c3 _ x=>Js _ _ c3 (nH.extBut _ _ c1 x)) he
 | some x=>
  have hy:ys[k2]? =none:=by rcases CW with h | h;rw [hx] at h;cases h;exact h
  refine wpAny_bind (wpAny_nextOf_list_item (h1.extBut nH.extBut D.i1z) (zD.extBut nH.extBut D.l1z) hx fun h₂ h1₂ Js=>wpAny_pure ?_)
  refine wpAny_pure ?_
  refine wpAny_bind (wpAny_bind (wpAny_holding ?_))
  show wpAny _ _ (Builtin.SmallTypes.nextOf (.ref i2) >>=_) _ _ _
  refine wpAny_bind (wpAny_nextOf_list_end hh ((h2.extBut nH.extBut D.i2z).extBut Js.extBut D.i12.symm) ((xi.extBut nH.extBut D.l2z).extBut Js.extBut D.l2i1) hy fun h₄ e SR he=>?_)
  exact hE h₄ e (fun c o c1 c3 c4 x=>SR _ _ c4 (Js.extBut _ _ c3 (nH.extBut _ _ c1 x))) he
theorem xQ {z TI TO T i1 i2 l1 l2:Addr}{xs ys:Μ}{Q:Ε}(D:ZipApart z TI TO i1 i2 l1 l2)
  (hz:fQ s.heap z TI TO (rawInt T) fb) (hT:s.heap.get? T=some o) (jo:IsPair s.heap TI (.ref i1) (.ref i2))
  (h1:s.heap.IsListIter i1 l1 k1) (h2:s.heap.IsListIter i2 l2 k2) (zD:s.heap.IsList l1 xs) (xi:s.heap.IsList l2 ys) (hx:xs[k1]? =some x) (hy:ys[k2]? =some y)
  (hQ:∀h',fQ h' z TI TO (rawInt T) true->h'.IsListIter i1 l1 (k1+1)->h'.IsListIter i2 l2 (k2+1)->IsPair h' s.heap.objs.size x y->h'.objs.size=s.heap.objs.size+1->
   (∀c o,c≠z->c≠i1->c≠i2->s.heap.get? c=some o->h'.get? c=some o)->Q (some (.ref s.heap.objs.size)) {s with heap:=h' }):
  wpAny (model prog w) A (pyNext (.ref z)) Q E s:=by
 have UI :s.TypeIs (.ref z) "zip":=⟨_,hz,rfl⟩
 unfold pyNext
 exact wpAny_bind (wpAny_attempt (wpAny_callSpecial?_slot (name:=Str.ofString "__next__") UI F.slot_zip_next
  (wpAny_call_entry F.slot_zip_next UI F.entry_zip_next
   (CV D hz hT jo h1 h2 zD xi hx hy fun h' a1 a3 a4 a5 a6 a7=>wpAny_pure (hQ h' a1 a3 a4 a5 a6 a7)) (F.args_zip_next_1 _))))
theorem CY {z TI TO T i1 i2 l1 l2:Addr}{xs ys:Μ}{Q:Ε}(hh:A.handled=none)(D:ZipApart z TI TO i1 i2 l1 l2)
  (hz:fQ s.heap z TI TO (rawInt T) fb) (hT:s.heap.get? T=some o) (jo:IsPair s.heap TI (.ref i1) (.ref i2))
  (h1:s.heap.IsListIter i1 l1 k1) (h2:s.heap.IsListIter i2 l2 k2) (zD:s.heap.IsList l1 xs) (xi:s.heap.IsList l2 ys) (CW:xs[k1]? =none\/ys[k2]? =none)
  (hQ:∀h',(∀c o,c≠z->c≠i1->c≠i2->s.heap.get? c=some o->h'.get? c=some o)->Q none {s with heap:=h' }):wpAny (model prog w) A (pyNext (.ref z)) Q E s:=by
 have UI :s.TypeIs (.ref z) "zip":=⟨_,hz,rfl⟩
 unfold pyNext
 refine wpAny_bind (wpAny_attempt (wpAny_callSpecial?_slot (name:=Str.ofString "__next__") UI F.slot_zip_next
  (wpAny_call_entry F.slot_zip_next UI F.entry_zip_next (Jt hh D hz hT jo h1 h2 zD xi CW fun h' e hk he=>?_) (F.args_zip_next_1 _))))
 obtain ⟨o,ho,hc⟩:=he
 refine wpAny_bind (wpAny_isInstance (T:="StopIteration") (b:=true) ⟨o,ho,hc⟩ isSubtype_stop ?_)
 exact wpAny_pure (hQ _ hk)
end
def K7 (h:Heap)(z TI TO i1 i2 a b S:Addr)(i:Nat):Prop:=(fQ h z TI TO .none false\/∃(T:Addr) (o:Obj) (fb:Bool),fQ h z TI TO (rawInt T) fb/\h.get? T=some o/\T≠z/\T≠TO/\T≠i1/\T≠i2/\T≠S)/\IsPair h TI (.ref i1) (.ref i2)/\(∃x y,IsPair h TO x y)/\h.IsListIter i1 a i/\h.IsListIter i2 b i
section
variable {prog:Program}{w:World}{A:Around}{E:γ}{s:Shared}{z TI TO i1 i2 a b S:Addr}{i:Nat}
theorem K7.frame (st:K7 h z TI TO i1 i2 a b S i)(k:∀c o,c≠S->h.get? c=some o->h'.get? c=some o)(nz:z≠S)(n1:TI≠S)(n2:TO≠S)(n3:i1≠S)(n4:i2≠S):K7 h' z TI TO i1 i2 a b S i:=by
 obtain ⟨hz,jo,⟨x,y,rO⟩,h1,h2⟩:=st
 refine ⟨?_,k _ _ n1 jo,⟨x,y,k _ _ n2 rO⟩,h1.at fun o e=>k _ o n3 e,h2.at fun o e=>k _ o n4 e⟩
 rcases hz with hz | ⟨T,o,fb,hz,hT,t1,t2,t3,t4,t5⟩
 ·exact .inl (k _ _ nz hz)
 ·exact .inr ⟨T,o,fb,k _ _ nz hz,k _ _ t5 hT,t1,t2,t3,t4,t5⟩
theorem K7.item {xs ys:Μ}{Q:Ε}(D:ZipApart z TI TO i1 i2 a b)(st:K7 s.heap z TI TO i1 i2 a b S i)(hS:s.heap.get? S=some oS)
  (zD:s.heap.IsList a xs) (xi:s.heap.IsList b ys) (hx:xs[i]? =some x) (hy:ys[i]? =some y)
  (hQ:∀h',K7 h' z TI TO i1 i2 a b S (i+1)->IsPair h' s.heap.objs.size x y->(∀c o,c∉[z,TI,TO,i1,i2]->s.heap.get? c=some o->h'.get? c=some o)->Q (some (.ref s.heap.objs.size)) {s with heap:=h' }):
  wpAny (model prog w) A (pyNext (.ref z)) Q E s:=by
 obtain ⟨hz,jo,⟨x0,y0,rO⟩,h1,h2⟩:=st
 have lt:∀{c o},s.heap.get? c=some o->s.heap.objs.size≠c:=fun e=>aib (Heap.lt_size e)
 have e1:∃o,s.heap.get? i1=some o:=by obtain ⟨o,e,_⟩:=h1;exact ⟨o,e⟩
 have e2:∃o,s.heap.get? i2=some o:=by obtain ⟨o,e,_⟩:=h2;exact ⟨o,e⟩
 obtain ⟨o1,e1⟩:=e1
 obtain ⟨o2,e2⟩:=e2
 have UJ:∀{c:Addr},c∉[z,TI,TO,i1,i2]->c≠z/\c≠TI/\c≠TO/\c≠i1/\c≠i2:=fun h=>by simpa using h
 rcases hz with hz | ⟨T,o,fb,hz,hT,t1,t2,t3,t4,t5⟩
 ·refine wpAny_pyNext_zip_item D hz jo rO h1 h2 zD xi hx hy fun h' a1 a2 a3 a4 a5 a6 a7=>?_
  refine hQ h' ⟨.inr ⟨_,_,false,a1,a5,lt hz,lt rO,lt e1,lt e2,lt hS⟩,a7 _ _ D.TIz D.TITO D.TIi1 D.TIi2 jo,⟨_,_,a2⟩,a3,a4⟩ a5 fun c o hc e=>?_
  obtain ⟨c1,c2,c3,c4,c5⟩:=UJ hc
  exact a7 c o c1 c3 c4 c5 e
 ·refine xQ D hz hT jo h1 h2 zD xi hx hy fun h' a1 a3 a4 a5 a6 a7=>?_
  refine hQ h' ⟨.inr ⟨T,o,true,a1,a7 _ _ t1 t3 t4 hT,t1,t2,t3,t4,t5⟩,a7 _ _ D.TIz D.TIi1 D.TIi2 jo,⟨_,_,a7 _ _ D.TOz D.TOi1 D.TOi2 rO⟩,a3,a4⟩ a5 fun c o hc e=>?_
  obtain ⟨c1,c2,c3,c4,c5⟩:=UJ hc
  exact a7 c o c1 c4 c5 e
theorem K7.fin {xs ys:Μ}{Q:Ε}(hh:A.handled=none)(D:ZipApart z TI TO i1 i2 a b)(st:K7 s.heap z TI TO i1 i2 a b S i)
  (zD:s.heap.IsList a xs) (xi:s.heap.IsList b ys) (CW:xs[i]? =none\/ys[i]? =none)
  (hQ:∀h',(∀c o,c∉[z,TI,TO,i1,i2]->s.heap.get? c=some o->h'.get? c=some o)->Q none {s with heap:=h' }):wpAny (model prog w) A (pyNext (.ref z)) Q E s:=by
 obtain ⟨hz,jo,⟨x0,y0,rO⟩,h1,h2⟩:=st
 have UJ:∀{c:Addr},c∉[z,TI,TO,i1,i2]->c≠z/\c≠TI/\c≠TO/\c≠i1/\c≠i2:=fun h=>by simpa using h
 rcases hz with hz | ⟨T,o,fb,hz,hT,t1,t2,t3,t4,t5⟩
 ·refine wpAny_pyNext_zip_end hh D hz jo rO h1 h2 zD xi CW fun h' kk=>hQ h' fun c o hc e=>?_
  obtain ⟨c1,c2,c3,c4,c5⟩:=UJ hc
  exact kk c o c1 c3 c4 c5 e
 ·refine CY hh D hz hT jo h1 h2 zD xi CW fun h' kk=>hQ h' fun c o hc e=>?_
  obtain ⟨c1,c2,c3,c4,c5⟩:=UJ hc
  exact kk c o c1 c4 c5 e
end
end Ty
namespace Ty
open PySem PySem.Spec PyProof.Rows L2
section
variable {X:Cx}{pins:ε}{σ:L2.St}
theorem CZ (h:H p=none)(o:HO):au H (upd H p o):=fun b u q=>by rw [ao (aq q h)];exact q
theorem boot_list:bootBuiltins "list"=some (.type "list"):=by decide+kernel
end
section
variable {X:Cx}
section
variable {k:Nat}{m:Str}{pos apos:Pos}{e o:Expr}{es:Α}{ta:TE}{t:TA}
end
end
section
variable {P:Program}{w:World}{K:Frag}{mg:ι}{base:Heap}
end
theorem Mx (l:Addr)(its:Μ)(n:Nat)(b:Addr)(dj:Μ)(n2:Nat)(d:Ι)(sl:Κ)(hs0:¬(!its.isEmpty && Builtin.List.listTooLong (its.size+dj.size))=true)(hs1:its.size<=sizeLine)(K5:its.size+dj.size<=sizeLine+1):
  Meets (Builtin.«list.extend» ⟨[.ref l,.ref b],[]⟩) (fun _ R s=>s.heap.get? l=some {cls:=.type "list",dict:=none,data:=.seq its n,slots:= #[]}/\s.heap.get? b=some {cls:=.type "tuple",dict:=d,data:=.seq dj n2,slots:=sl}/\
   R (.ok (.ret Value.none)) {s with heap:=s.heap.update l (Obj.mapSeq fun x=>x++dj),toks:=s.toks}):=
 .of_wp fun prog w A R s h=>by
  obtain ⟨hp,g,dd,tk,os⟩:=s
  obtain ⟨hl,hb,h⟩:=h
  have f1:=AutoSeq1.idx_int
  have f2:=AutoSeq1.sub_tuple_tuple
  have f3:=AutoSeq1.sub_list_list
  have f4:=AutoSeq1.sub_tuple_list
  have f5:=AutoSeq1.sub_list_tuple
  have hz' :(its++dj).size<=sizeLine+1:=by rw [Array.size_append];exact K5
  wp_walk using (wpAny_updateSeq hl rfl (hz:=hs1) (_hz' :=hz')),wpAny_loadPart' hl,wpAny_loadPart' hb
  exact ⟨_,rfl,h⟩
section
variable {X:Cx}
def UK (K:Frag):V->List V->Hp->VK->Prop:=fun x vs H Q=>∃l b xs zs,x=.ref l/\vs=[.ref b]/\H l=some (.lst xs)/\bT K H b zs/\xs.length+zs.length<=1000/\Q .cw (upd H l (.lst (xs++zs)))
theorem My:MtR X "list.extend" (UK X.K):=by
 intro pins s σ H x vs v us Q I rx rv h
 obtain ⟨l,b,xs,zs,rfl,rfl,hH,hB,hz,q⟩:=h
 cases rx
 obtain ⟨u,rfl,ru⟩:=rv.one
 cases ru
 obtain ⟨z,its,n,r,hl,e⟩:=I.jF hH
 obtain ⟨dj,r2,tp,z2⟩:=I.tuple hB
 have xi:=r2.length
 have big:(1000:Nat)<=sizeLine:=by decide
 have hsz:its.toArray.size+dj.toArray.size<=sizeLine:=by rw [aaq,aaq];omega
 have vj:¬ (!its.toArray.isEmpty && Builtin.List.listTooLong (its.toArray.size+dj.toArray.size))=true:=by
  rw [ou hsz,adg]
  exact aam
 obtain ⟨⟨c,d,dt,sl⟩,e2,hc,n2,hd⟩:=tp
 obtain rfl:c=Value.type "tuple":=hc
 obtain rfl:dt=_:=hd
 refine call_meets F.slot_list_extend ⟨_,e,rfl⟩ F.entry_list_extend (F.args_list_extend_2 _ _)
  (Mx l its.toArray n b dj.toArray n2 d sl vj (by rw [aaq];omega) (by omega)) ⟨e,e2,?_⟩
 refine ⟨.cw,_,I.Mc (its' :=its++dj) hH e (by simp) (r.append r2) ?_,rfl,q⟩
 rw [aan]
 omega
end
theorem tE:typeLookup (.type "zip") "__getattr__"=pure none:=by rw [typeLookup_type,builtinLookup_eq_fast];kernel_rfl
theorem C_:typeLookup (.type "zip") "keys"=pure none:=by rw [typeLookup_type,builtinLookup_eq_fast];kernel_rfl
theorem xR:entryFor table "zip.__getattribute__"=some Builtin.«object.__getattribute__»:=
 entryFor_alias (id' :="object.__getattribute__") (by kernel_rfl) (by decide+kernel) (by decide+kernel) (by kernel_rfl)
theorem mj:entryFor table "dict.update.loop"=some Builtin.«dict.update.loop»:=entryFor_of_tree (by kernel_rfl)
theorem f9:plainId "dict.update.loop"=true:=by decide+kernel
theorem Ju (a:Addr)(vs:Μ)(u:Tok):
  Meets (Builtin.«object.__getattribute__» ⟨[.ref a,.str "keys" u],[]⟩) (fun A R s=>s.heap.get? a=some {cls:=.type "zip",dict:=none,data:=.fields vs,slots:= #[]}/\raisesAttr (.ref a) "keys" A R s):=
 Meets.of_wp fun prog w A R s hs=>by
  obtain ⟨hp,g,d,tk,os⟩:=s
  obtain ⟨hx,hs⟩:=hs
  have hT:(⟨hp,g,d,tk,os⟩:Shared).TypeIs (.ref a) "zip":=⟨_,hx,rfl⟩
  have hm:=C_
  unfold Builtin.«object.__getattribute__»
  repeat (any_goals (first | (assumption) | wp_step))
  exact wpAny_raiseAttrError hs.1 hs.2 (attrMsg_fits (by decide+kernel) (by decide+kernel))
section
variable {prog:Program}{w:World}{A:Around}{E:γ}{s:Shared}
theorem vT {vs:Μ}{Q:Ε}(hx:s.heap.get? z=some {cls:=.type "zip",dict:=none,data:=.fields vs,slots:= #[]})(hA:A.handled=none)
  (h:∀h' tk,(∀b o,s.heap.get? b=some o->h'.get? b=some o)->Q none {s with heap:=h',toks:=tk}):wpAny (model prog w) A (getAttr? (.ref z) "keys") Q E s:=by
 obtain ⟨hp,g,d,tk,os⟩:=s
 have hT:∀tk',(⟨hp,g,d,tk',os⟩:Shared).TypeIs (.ref z) "zip":=fun _=>⟨_,hx,rfl⟩
 have f1:=sub_AttributeError
 have f3:=F.slot_zip_getattribute.lookup
 have f4:=F.slot_zip_getattribute.bind (.ref z)
 have f5:=tE
 unfold getAttr? getAttrBy? getAttrBy
 repeat (any_goals (first | (assumption) | exact hT _ | ((with_reducible show wpAny _ _ (call (Value.builtin "zip.__getattribute__") _ _) _ _ _);refine call_meets F.slot_zip_getattribute (hT _) xR (F.args_zip_getattribute_2 _ _) (Ju z vs _) ⟨hx,hA,fun h' tk' e xg =>?_⟩) | wp_step))
 obtain ⟨t',u',he⟩:=xg.there
 show wpAny _ _ (getattributeRaised _ _ _ _ _ _ _) _ _ _
 unfold getattributeRaised
 repeat (any_goals (first | (assumption) | wp_step))
 exact h _ _ xg.keeps
theorem qK {z TI TO:Addr}{Q:γ}(hA:A.in1.in1.handled=none)(hz:IsZip s.heap z TI TO f0)
  (hL:∀(h' :Heap) (tk:Nat) (R:Τ),(∀b o,s.heap.get? b=some o->h'.get? b=some o)->h'.get? s.heap.objs.size=some {cls:=.type "dict",data:=.dict #[]}->
   (∀s',Q (.ref s.heap.objs.size) s' ->R (.ok (.ret .none)) s')->codeAny (model prog w) A.in1 (.builtin "dict.update.loop" ⟨[.ref s.heap.objs.size,.ref z,rawInt 0,.none],[]⟩) R {s with heap:=h',toks:=tk}):
  wpAny (model prog w) A (call (.type "dict") [.ref z]) Q E s:=by
 refine callType_codes (Q₁:=fun obj s₁=>obj=.ref s.heap.objs.size/\s₁={s with heap:=s.heap.push {cls:=.type "dict",data:=.dict #[]}}) F.kt_called_dict (F.kt_typeCall_dict_1 _) F.entry_dict_init (kt_code_dict_new _ ⟨rfl,rfl⟩) ?_
 rintro obj s₁ ⟨rfl,rfl⟩
 have hS:(s.heap.push {cls:=.type "dict",data:=.dict #[]}).get? s.heap.objs.size=some {cls:=.type "dict",data:=.dict #[]}:=Heap.get?_push_size _ rfl
 have k0:∀b o,s.heap.get? b=some o->(s.heap.push {cls:=.type "dict",data:=.dict #[]}).get? b=some o:=fun b o e=>Heap.get?_push_of_some _ e
 generalize hN:s.heap.objs.size=S at hS hL ⊢
 generalize s.heap.push {cls:=.type "dict",data:=.dict #[]}=hp at hS k0 ⊢
 have QI:hp.get? z=_:=k0 _ _ hz
 have hTS:Shared.TypeIs {s with heap:=hp} (.ref S) "dict":=⟨_,hS,rfl⟩
 have hT:Shared.TypeIs {s with heap:=hp} (.ref z) "zip":=⟨_,QI,rfl⟩
 refine ⟨hTS,F.args_dict_init_2 _ _,?_⟩
 unfold Builtin.«dict.__init__»
 refine wpAny_bind ?_
 unfold Builtin.Dict.selfAndRest
 refine wpAny_bind (wpAny_notOrdered_dict hTS ?_)
 refine wpAny_pure ?_
 show wpAny _ _ (Builtin.Dict.updateFrom "dict.__init__" S (.ref z) [] .none) _ _ _
 unfold Builtin.Dict.updateFrom
 refine wpAny_bind (wpAny_typeOf hT ?_)
 rw [if_pos (by decide)]
 refine wpAny_bind (vT (s:={s with heap:=hp}) QI hA fun h' tk k1=>?_)
 rw [if_pos (by rfl)]
 refine wpAny_bind (wpAny_rule ?_)
 have hz3:IsZip h' z TI TO f0:=k1 _ _ QI
 refine wpAny_bind (wpAny_pyIter_zip (s:={s with heap:=h',toks:=tk}) hz3 ?_)
 exact wpAny_pure ⟨plainId_quiet f9 _,hL _ _ _ (fun b o e=>k1 _ _ (k0 _ _ e)) (k1 _ _ hS) fun s' hq=>⟨rfl,hq⟩⟩
end
section
variable {X:Cx}{pins:ε}{σ:L2.St}
theorem vU (kvs more:δ)(kv:Key×V):cn kvs (more++[kv])=putK (cn kvs more) kv.1 kv.2:=by
 unfold cn
 rw [List.foldl_append]
 rfl
theorem QJ {z TI TO i1 i2 a b S:Addr}{R:Τ}{ks:List Key}(hh:A'.in1.handled=none)(D:ZipApart z TI TO i1 i2 a b)(na:a≠S)(nb:b≠S)(hk1:ks.length<=1000):
  ∀(k i:Nat) (s:Shared) (H:Hp),min ks.length ys.length - i=k->i<=min ks.length ys.length->Inv X pins σ H s->(∀c∈[z,TI,TO,i1,i2],kA X pins H c)->K7 s.heap z TI TO i1 i2 a b S i->
  H a=some (.lst (ks.map kV))->H b=some (.lst ys)->H S=some (.dK (cn [] ((ks.zip ys).take i)))->aL S H0 H->
  (∀s' H',Inv X pins σ H' s' ->aL S H0 H' ->H' S=some (.dK (cn [] (ks.zip ys)))->R (.ok (.ret .none)) s')->
  codeAny (model X.prog X.w) A' (.builtin "dict.update.loop" ⟨[.ref S,.ref z,rawInt (i:Int),.none],[]⟩) R s:=by
 have ari:(ks.zip ys).length=min ks.length ys.length:=List.length_zip
 intro k
 induction k with
 | zero=>
  intro i s H hk hi I hf st ha hb hS QK hR
  refine codeAny_builtin mj ?_
  rw [Around.under_plainId f9 _]
  show wpAny _ A'.in1 (pyNext (.ref z) >>=_) _ _ s
  obtain ⟨z1,its,n1,r1,l1,e1⟩:=I.jF ha
  obtain ⟨z2,Up,n2,r2,l2,e2⟩:=I.jF hb
  rw [aaa] at l1
  refine wpAny_bind (st.fin hh D ⟨_,e1,rfl,_,rfl⟩ ⟨_,e2,rfl,_,rfl⟩ ?_ fun h' kk=>?_)
  ·by_cases c:ks.length<=i
   ·exact .inl (by simp;omega)
   ·exact .inr (by simp;omega)
  ·rw [acj (by omega)] at hS
   exact wpAny_bind (wpAny_pure (wpAny_pure (hR _ H (Inv.nj (t' :=s.toks) I kk hf) QK hS)))
 | succ k ih=>
  intro i s H hk hi I hf st ha hb hS QK hR
  refine codeAny_builtin mj ?_
  rw [Around.under_plainId f9 _]
  show wpAny _ A'.in1 (pyNext (.ref z) >>=_) _ _ s
  obtain ⟨z1,its,n1,r1,l1,e1⟩:=I.jF ha
  obtain ⟨z2,Up,n2,r2,l2,e2⟩:=I.jF hb
  have lx:i < ks.length:=by omega
  have ly:i < ys.length:=by omega
  obtain ⟨u,hu,ru⟩:=r1.get (i:=i) (x:=kV ks[i]) (by rw [Wp,gE lx];rfl)
  obtain ⟨v,hv,rv⟩:=r2.get (i:=i) (x:=ys[i]) (gE ly)
  obtain ⟨zS0,arj,vs0,ark,dd0⟩:=oG I.bH hS
  obtain ⟨oS,_,_,eS,_⟩:=id dd0
  refine wpAny_bind (st.item D eS ⟨_,e1,rfl,_,rfl⟩ ⟨_,e2,rfl,_,rfl⟩ (x:=u) (y:=v) (by simpa using hu) (by simpa using hv) fun h' yZ ht kk=>?_)
  have SS:∀c∈[z,TI,TO,i1,i2],c≠S:=fun c hc e=>by
   have:=(hf c hc).1
   rw [e,hS] at this
   cases this
  have I2:Inv X pins σ H {s with heap:=h',toks:=s.toks}:=Inv.nj (t' :=s.toks) I kk hf
  obtain ⟨zS,hdS,vs,rel,dd⟩:=oG I2.bH hS
  have hT:Shared.TypeIs {s with heap:=h',toks:=s.toks} (.ref s.heap.objs.size) "tuple":=⟨_,ht,rfl⟩
  refine wpAny_bind (wpAny_holding ?_)
  refine wpAny_bind (wpAny_tryCatch ?_)
  unfold Builtin.Dict.pairItems
  refine wpAny_bind (wpAny_typeOf hT ?_)
  rw [if_pos (by decide)]
  refine wpAny_bind (wpAny_seqItems ht rfl (wpAny_pure ?_))
  show wpAny _ A'.in1 (holding [u,v] (dictSet S u v)) _ _ _
  refine wpAny_holding ?_
  have hlen:vs.length<=sizeLine:=by rw [<- rel.length];exact zS
  refine wpAny_dictSet_pairs (hsz:=hlen) (jJ ru) dd fun h2 TU sb=>?_
  have he:∃q,h2.get? S=some q:=let ⟨q,_,_,hq,_⟩:=TU;⟨q,hq⟩
  have etk:(ks.zip ys).take (i+1)=(ks.zip ys).take i++[(ks[i],ys[i])]:=by
   rw [aiX]
   have:(ks.zip ys)[i]? =some (ks[i],ys[i]):=by rw [List.getElem?_zip_eq_some];exact ⟨gE lx,gE ly⟩
   rw [this]
   rfl
  have UL:cn [] ((ks.zip ys).take (i+1))=putK (cn [] ((ks.zip ys).take i)) ks[i] ys[i]:=by rw [etk,vU]
  have hl:(putK (cn [] ((ks.zip ys).take i)) ks[i] ys[i]).length<=sizeLine:=by
   rw [<- UL]
   have h1:=gi ((ks.zip ys).take (i+1)) []
   rw [abb,aiB] at h1
   exact aaf (show (cn [] ((ks.zip ys).take (i+1))).length<=1000 by omega) (by decide)
  have I3:Inv X pins σ (upd H S (.dK (putK (cn [] ((ks.zip ys).take i)) ks[i] ys[i]))) {s with heap:=h2,toks:=s.toks+1}:=gP (s:={s with heap:=h',toks:=s.toks}) (t' :=s.toks+1) I2 (by rw [hS];exact True.intro) sb he (kI hl hdS (rel.put ks[i] rv) TU)
  have kS:∀c o,c≠S->h'.get? c=some o->h2.get? c=some o:=fun c o n e=>(sb.2 c n).trans e
  refine wpAny_pure ⟨plainId_quiet f9 _,?_⟩
  have nn:∀{c:Addr} {o:HO},H c=some o->c≠S->(upd H S (.dK (putK (cn [] ((ks.zip ys).take i)) ks[i] ys[i]))) c=some o:=fun {c o} e n=>by rw [ao n];exact e
  refine ih (i+1) _ _ (by omega) (by omega) I3 (fun c hc=>?_) (yZ.frame kS (SS z (by simp)) (SS TI (by simp)) (SS TO (by simp)) (SS i1 (by simp)) (SS i2 (by simp))) (nn ha na) (nn hb nb) (by rw [UL,ah]) (fun c o n e=>nn (QK c o n e) n) hR
  obtain ⟨f0,f1,f2,f3,f4,f5⟩:=hf c hc
  exact ⟨by rw [ao (SS c hc)];exact f0,f1,f2,f3,f4,f5⟩
def QL (ta:TA):TE:=fun σ H Q=>ta σ H fun vs H1=>∃(a b:Addr) (ks:List Key) (ys:η),vs=[.ref a,.ref b]/\H1 a=some (.lst (ks.map kV))/\H1 b=some (.lst ys)/\ks.length<=1000/\
 ∀(l:Addr) (H' :Hp),au H1 H' ->H1 l=none->H' l=some (.dK (cn [] (ks.zip ys)))->Q (.ref l) H'
theorem boot_dict:bootBuiltins "dict"=some (.type "dict"):=by decide+kernel
theorem Jv {p pos p' pos' :Pos}(hc:X.calm=true)(hgl:Gl X "dict")(hml:X.mg "dict"=none)(hg:Gl X "zip")(hm:X.mg "zip"=none)(ha:PA X [e1,e2] ta)(hs:starEach [e1,e2] X.env=[(false,eval e1 X.env),(false,eval e2 X.env)]:=by rfl)(K5:starEach [e2] X.env=[(false,eval e2 X.env)]:=by rfl)
  (ZQ:starEach [(.Call (.Name "zip" p) [e1,e2] [] pos:Expr)] X.env=[(false,eval (.Call (.Name "zip" p) [e1,e2] [] pos) X.env)]:=by rfl):
  PE X (.Call (.Name "dict" p') [.Call (.Name "zip" p) [e1,e2] [] pos] [] pos') (QL ta):=by
 intro pins s σ H Q I h
 refine Call_ (gM I hgl hml boot_dict (PyProof.Rows.callWith_type1 ?_ ZQ rfl))
 rw [ZQ]
 show wpAny _ _ (spliced ((false,eval (.Call (.Name "zip" p) [e1,e2] [] pos) X.env)::[])) _ _ s
 refine Calls.spliced_cons ?_
 refine Call_ (gM I hg hm boot_zip (PyProof.Rows.callWith_type1 (cq (ha pos pins s σ H _ I h) fun us s1 ⟨vs,H1,I1,r1,q1⟩=>?_) (by rw [hs,K5]) (by rw [K5];rfl)))
 obtain ⟨a,b,ks,ys,e,hx,hy,hkl,q⟩:=q1
 subst e
 cases r1 with
 | cons r rr=>
  cases rr with
  | cons r' rr=>
   cases rr
   cases r
   cases r'
   obtain ⟨z1,its,n1,r1,l1,e1⟩:=I1.jF hx
   obtain ⟨z2,Up,n2,r2,l2,e2⟩:=I1.jF hy
   have lt1:a < s1.heap.objs.size:=Heap.lt_size e1
   have lt2:b < s1.heap.objs.size:=Heap.lt_size e2
   refine call_zip_2 ⟨_,e1,rfl,_,rfl⟩ ⟨_,e2,rfl,_,rfl⟩ fun h' hz jo rO Ql Uq hsz hk=>Calls.spliced_nil ?_
   have I2:Inv X pins σ H1 {s1 with heap:=h',toks:=s1.toks}:=I1.kept (t' :=s1.toks) hk
   have hS:=I2.bH.fresh (aac h'.objs.size)
   refine qK (s:={s1 with heap:=h' }) (I1.ok.hd hc) hz fun h2 tk R k2 UM hR=>?_
   have lt' :mainGlobals < h'.objs.size:=(I2.mod.glob.keeps I2.bk).lt
   have ns:(h'.objs.size==sysModules)=false:=beq_eq_false_iff_ne.mpr (aba (aa_ (aiw (by decide) lt')))
   have I3:Inv X pins σ (upd H1 h'.objs.size (.dK [])) {s1 with heap:=h2,toks:=tk}:=I2.laid (t' :=tk) k2 (aac _) ⟨abc _,ns,[],.nil,_,_,_,UM,⟨rfl,rfl,rfl⟩,rfl,fun _ he=>by simp at he,Pairs.nil,acv⟩
   have st:K7 h2 (s1.heap.objs.size+4) (s1.heap.objs.size+2) (s1.heap.objs.size+3) s1.heap.objs.size (s1.heap.objs.size+1) a b h'.objs.size 0:=
    ⟨.inl (k2 _ _ hz),k2 _ _ jo,⟨_,_,k2 _ _ rO⟩,Ql.at fun o e=>k2 _ o e,Uq.at fun o e=>k2 _ o e⟩
   have na:a≠h'.objs.size:=aq hx hS
   have nb:b≠h'.objs.size:=aq hy hS
   have oU:=CZ hS (.dK [])
   refine QJ (A' :=X.A.in1) (H0:=H1) (ks:=ks) (ys:=ys) (I1.ok.hd hc) ?_ na nb hkl (min ks.length ys.length) 0 _ _ (by omega) (abc _) I3 (fun c' uX =>?_) st (oU _ _ hx) (oU _ _ hy) ah (fun b' o n e=>oU _ _ e) fun s' H' I' ks' Qx =>hR s' ⟨.ref h'.objs.size,H',I',rfl,q _ H' (fun b' o e=>ks' b' o (aq e hS) e) hS Qx⟩
   ·constructor <;> (intro z;simp only [Addr] at*;omega)
   ·have P2:c' =s1.heap.objs.size+4\/c' =s1.heap.objs.size+2\/c' =s1.heap.objs.size+3\/c' =s1.heap.objs.size\/c' =s1.heap.objs.size+1:=by simpa using uX
    have hb:s1.heap.objs.size<=c' :=by
     simp only [Addr] at*
     omega
    have hb2:c' ≠h'.objs.size:=by
     rw [hsz]
     simp only [Addr] at*
     omega
    refine I1.mI hb ?_
    rw [ao hb2]
    exact I1.bH.fresh hb
end
theorem fj.snoc {K:Frag}(h:fj K H us qs)(n:nC K H v q):fj K H (us++[v]) (qs++[q]):=by
 refine ⟨by simp [h.1],fun i u q' e1 e2=>?_⟩
 have l:=h.1
 by_cases c:i < us.length
 ·rw [aap c] at e1
  rw [aap (by omega)] at e2
  exact h.2 i u q' e1 e2
 ·rw [aaY (by omega)] at e1 e2
  by_cases z:i - us.length=0
  ·rw [z] at e1
   rw [show i - qs.length=0 by omega] at e2
   cases e1
   cases e2
   exact n
  ·rw [aai (by simp;omega)] at e1
   cases e1
theorem fj.aU {K:Frag}(h:fj K H us qs)(s:bD H H'):fj K H' us qs:=⟨h.1,fun i u q e1 e2=>(h.2 i u q e1 e2).aU s⟩
variable {X:Cx}
section
variable {X:Cx}{pins:ε}{σ:L2.St}{H:Hp}{s:Shared}
theorem xS {K:Frag}(h:X.K=K):jx X (compareOp .In) (rIn K false):=by subst h;exact rH
end
theorem xT {K:Frag}{cap:L2.St}{xs:η}(p:α->Bool)(hp:Paired Rl xs zs)(nD:H1 D=none)(hn:xs.length < sizeLine)(hS:∀H,au H1 H->aX K H a xs)
  (ht:∀x z H (R:Bool->Hp->Prop),Rl x z->z∈zs->au H1 H->(∀H',au H H' ->R (p z) H')->tt (some x::cap) H R)
  (he:∀x z H (R:VK),Rl x z->au H1 H->R x H->te (some x::cap) H R)
  (hd:∀ys H,Paired Rl ys (zs.filter p)->au H1 H->H D=some (.lst ys)->Q (.ref D) H):
  jI D (cF 0) tt te (K3 K a) (none::cap) H1 Q:=by
 have lz:xs.length=zs.length:=Paired.length hp
 have ps:∀{l₁:η} {l₂:List α} {a:V} {b:α},Paired Rl l₁ l₂->Rl a b->Paired Rl (l₁++[a]) (l₂++[b]):=fun {l₁ l₂ a b} h h' =>by
  induction h with
  | nil=>exact .cons h' .nil
  | cons x _ ih=>exact .cons x ih
 refine ⟨fun i m σ ys H=>m=xs.length - i/\i<=xs.length/\(∃o,σ=o::cap)/\au H1 H/\H D=some (.lst ys)/\Paired Rl ys ((zs.take i).filter p)/\ys.length<=i,⟨xs.length,by simp,abc _,⟨none,rfl⟩,fun b o e=>by rw [ao (aq e nD)];exact e,ah,by simpa using Paired.nil,aac _⟩,?_⟩
 rintro i m σ ys H ⟨rfl,hi,⟨o,rfl⟩,s,hD,ey,ly⟩
 by_cases i8:i < xs.length
 ·refine .inr ⟨⟨xs,xs[i],hS H s,gE i8⟩,fun v H' y=>?_⟩
  obtain ⟨rfl,y2⟩:=y
  have q1:=y2 xs (hS _ s)
  obtain ⟨z,ez,hz⟩:=aw hp q1
  have er:(zs.take (i+1)).filter p=(zs.take i).filter p++(if p z=true then [z] else []):=by
   rw [take_snoc ez,acz]
   by_cases c:p z=true
   ·rw [if_pos c,acb c]
    rfl
   ·rw [if_neg c,acd c]
    rfl
  unfold cF
  refine ht v z _ _ hz (ir ez) s fun H2 s2=>?_
  have zE:au H1 H2:=fun b o e=>s2 _ _ (s _ _ e)
  have ZU:=s2 _ _ hD
  by_cases c:p z=true
  ·rw [if_pos c]
   rw [if_pos c] at er
   refine he v z _ _ hz zE ⟨ZU,by omega,xs.length - (i+1),by omega,rfl,by omega,⟨_,rfl⟩,?_,ah,?_,by simp;omega⟩
   ·exact fun b o e=>by
     rw [ao (aq e nD)]
     exact zE _ _ e
   ·rw [er]
    exact ps ey hz
  ·rw [if_neg c]
   rw [if_neg c,ac2] at er
   exact ⟨xs.length - (i+1),by omega,rfl,by omega,⟨_,rfl⟩,zE,ZU,by rw [er];exact ey,by omega⟩
 ·have e:i=xs.length:=by omega
  subst e
  refine .inl ⟨⟨xs,hS _ s,aac _⟩,hd ys H ?_ s hD⟩
  rw [lz,abl] at ey
  exact ey
section
variable {X:Cx}
end
section
variable {D:Addr}{te:TE}{cap:L2.St}{H1:Hp}{Q:VK}
end
section
variable {X:Cx}{o e:Expr}{es:Α}{to:TE}{t:TA}{name:Str}{apos cH:Pos}{T id:String}{r:V->List V->Hp->VK->Prop}
end
section
variable {X:Cx}{K:Frag}
inductive vV (Q:VK)(x:V)(H1:Hp):Prop where
 | mk (d kvs:_) (_:x=.ref d) (_:H1 d=some (.dK kvs)) (_:Q .cw (upd H1 d (.dK []))):vV Q x H1
def Mz (te:TE):TE:=fun σ H Q=>te σ H fun x H1=>vV Q x H1
theorem rZ {apos cH:Pos}(ho:PE X e te)(iz:attributeBase e "clear" X.env (eval e X.env)=eval e X.env:=by rfl)(iA:(apos.endLine==cH.line)=true:=by rfl):
  PE X (.Call (.Attribute e "clear" apos) [] [] cH) (Mz te):=by
 intro pins s σ H Q I h
 refine wpAny_Call_method0_late iz iA (cq (ho pins s σ H _ I h) fun v s1 ⟨x,H1,I1,r1,q1⟩=>?_)
 obtain ⟨d,kvs,rfl,e,q⟩:=q1
 cases r1
 obtain ⟨h1,h2,hd⟩:=oJ I1 (.inl ⟨kvs,.inl e⟩)
 refine ⟨"dict","dict.clear",F.plainAttrs_dict,F.slot_dict_clear,F.type_dict_clear,h1,h2,Calls.callWith_builtin rfl (PySem.evalArgs_none ?_)⟩
 exact Mn I1 e fun s' I3=>⟨.cw,_,I3,rfl,q⟩
end
section
variable {D:Addr}{te:TE}{cap:L2.St}{H1:Hp}{Q:VK}
theorem xU {K:Frag}(J:List V->Hp->Prop)(nD:H1 D=none)(hn:xs.length < sizeLine)(hS:∀H,au H1 H->aX K H a xs)(h0:J [] (upd H1 D (.lst [])))
  (he:∀(i:Nat) x ys H (R:VK),xs[i]? =some x->ys.length=i->J ys H->au H1 H->H D=some (.lst ys)->(∀v H6,au H H6->J (ys++[v]) (upd H6 D (.lst (ys++[v])))->R v H6)->te (some x::cap) H R)
  (hd:∀ys H,ys.length=xs.length->J ys H->au H1 H->H D=some (.lst ys)->Q (.ref D) H):
  jI D (cF 0) jn te (K3 K a) (none::cap) H1 Q:=by
 refine xI xs.length (fun i=>(xs[i]?).getD .cw) (fun i ys H=>ys.length=i/\J ys H/\au H1 H) ⟨rfl,h0,fun b o e=>by rw [ao (aq e nD)];exact e⟩ ?_ ?_ ?_ ?_
 ·rintro i ys H hi ⟨_,_,s⟩
  exact ⟨⟨xs,xs[i],hS H s,gE hi⟩,fun x H' y=>⟨y.1,by rw [y.2 xs (hS H s)];rfl⟩⟩
 ·rintro ys H ⟨_,_,s⟩
  exact ⟨xs,hS H s,aac _⟩
 ·rintro i ys H R hi ⟨l,j,s⟩ hD k
  have e:xs[i]? =some xs[i]:=gE hi
  have k' :=he i _ ys H R e l j s hD fun v H6 s6 jv=>k v H6 (s6 _ _ hD) (by omega) ⟨by simp [l],jv,fun b o e=>by rw [ao (aq e nD)];exact s6 _ _ (s _ _ e)⟩
  rw [<- (show (xs[i]?).getD .cw=xs[i] by rw [e];rfl)] at k'
  exact k'
 ·rintro ys H ⟨l,j,s⟩ hD
  exact hd ys H l j s hD
end
end Ty
set_option maxHeartbeats 4000000
namespace Ty
theorem r6 {α:Type}[DecidableEq α]:∀{l m:List α},l.Nodup->(∀x∈l,x∈m)->l.length<=m.length
 | [],_,_,_=>abc _
 | x::l,m,h,k=>by
  obtain ⟨h1,h2⟩:=aa5.mp h
  have hx:=k x aak
  have:=r6 (l:=l) (m:=m.erase x) h2 fun y hy=>(List.mem_erase_of_ne (fun z:y=x=>h1 (by rw [<- z];exact hy))).mpr (k y (aae _ hy))
  rw [List.length_erase_of_mem hx] at this
  have p:=List.length_pos_of_mem hx
  show l.length+1<=m.length
  omega
def box (B:Nat):Nat->List (List Int)
 | 0=>[[]]
 | n+1=>(box B n).flatMap fun y=>(abJ (B+1)).map fun (a:Nat)=>(a:Int)::y
theorem zF {α:Type}(c:Nat):∀l:List α,(l.map fun _=>c).sum=l.length*c
 | []=>by simp
 | _::l=>by
  rw [aah,aiL,zF c l,abf,acq]
  omega
theorem tF (B:Nat):∀n,(box B n).length=(B+1)^n
 | 0=>rfl
 | n+1=>by
  have ih:=tF B n
  unfold box
  rw [List.length_flatMap]
  have:((box B n).map fun y=>((abJ (B+1)).map fun (a:Nat)=>(a:Int)::y).length)=(box B n).map fun _=>B+1:=abZ fun y _=>by rw [aaa,ad_]
  rw [this,zF,ih,adj]
theorem r8 (B:Nat):∀n,(box B n).Nodup
 | 0=>by simp [box]
 | n+1=>by
  have ih:=r8 B n
  unfold box
  unfold ajn at ih ⊢
  rw [List.pairwise_flatMap]
  refine ⟨fun y _=>?_,ih.imp fun {y1 y2} ne x hx z hz e=>?_⟩
  ·rw [adn]
   exact List.nodup_range.imp fun {a b} ne e=>ne (by injection e with e _;exact Int.ofNat.inj e)
  ·obtain ⟨a,_,rfl⟩:=aab.mp hx
   obtain ⟨b,_,rfl⟩:=aab.mp hz
   injection e with _ e
   exact ne e
theorem iS :∀{n:Nat} {y:ξ},y∈box B n ↔ y.length=n/\∀a∈y,0<=a/\a<=(B:Int)
 | 0,y=>by
  unfold box
  rw [aas]
  constructor
  ·intro e
   rw [e]
   exact ⟨rfl,fun a h=>nomatch h⟩
  ·intro h
   exact ais.mp h.1
 | n+1,y=>by
  unfold box
  rw [abI]
  constructor
  ·rintro ⟨z,hz,hy⟩
   obtain ⟨a,ha,rfl⟩:=aab.mp hy
   obtain ⟨h1,h2⟩:=(iS (n:=n)).mp hz
   have:=abV.mp ha
   refine ⟨by simp [h1],fun b hb=>?_⟩
   rcases aaQ.mp hb with e | e
   ·rw [e]
    omega
   ·exact h2 b e
  ·rintro ⟨h1,h2⟩
   match y,h1 with
   | a::z,h1=>
    have ha:=h2 a aak
    refine ⟨z,(iS (n:=n)).mpr ⟨by simpa using h1,fun b hb=>h2 b (aae _ hb)⟩,aab.mpr ⟨a.toNat,abV.mpr (show a.toNat < B+1 by omega),?_⟩⟩
    rw [show ((a.toNat:Nat):Int)=a by omega]
def gB:List Int->List Int->Int
 | a::e,b::y=>a*b+gB e y
 | _,_=>0
theorem vW:∀(e:ξ) {y z:ξ},y.length=z.length->gB e (ab9 (fun a b=>a - b) y z)=gB e y - gB e z
 | [],y,z,h=>by simp [gB]
 | a::e,[],[],h=>by simp [gB]
 | a::e,b::y,c::z,h=>by
  have ih:=vW e (y:=y) (z:=z) (by simpa using h)
  rw [aix]
  simp only [gB]
  rw [ih,Int.mul_sub]
  omega
theorem zG :∀{e y:ξ},(∀a∈e,a.natAbs<=A)->(∀b∈y,b.natAbs<=B)->(gB e y).natAbs<=e.length*(A*B)
 | [],y,_,_=>by simp [gB]
 | a::e,[],_,_=>by simp [gB]
 | a::e,b::y,h1,h2=>by
  have ih:=zG (e:=e) (y:=y) (fun x hx=>h1 x (aae _ hx)) fun x hx=>h2 x (aae _ hx)
  simp only [gB]
  have m:(a*b).natAbs<=A*B:=by
   rw [abW]
   exact abB (h1 a aak) (h2 b aak)
  have t:=acJ (a*b) (gB e y)
  rw [abf,acq,aiG]
  omega
theorem Jw {eqs:ζ}(hn:eqs.length < n)(hA:1<=A)(he:∀e∈eqs,e.length=n/\∀a∈e,a.natAbs<=A):∃z:List Int,z.length=n/\(∃a∈z,a≠0)/\(∀a∈z,a.natAbs<=(2*n*A)^eqs.length)/\∀e∈eqs,gB e z=0:=by
 generalize hC:2*n*A=C
 generalize hB:C^eqs.length=B
 have c1:1<=C:=by
  rw [<- hC]
  exact abB (show 1<=2*n by omega) hA
 generalize hM:n*(A*B)=M
 have key:¬ ∀y∈box B n,∀z∈box B n,(eqs.map fun e=>gB e y+(M:Int))=(eqs.map fun e=>gB e z+(M:Int))->y=z:=by
  intro inj
  have nd:((box B n).map fun y=>eqs.map fun e=>gB e y+(M:Int)).Nodup:=by
   unfold ajn
   rw [adn]
   refine List.Pairwise.imp_of_mem (fun {y z} hy hz ne e=>ne (inj y hy z hz e)) (r8 B n)
  have le:=r6 nd (m:=box (2*M) eqs.length) fun x hx=>by
   obtain ⟨y,hy,rfl⟩:=aab.mp hx
   obtain ⟨ly,by'⟩:=iS.mp hy
   refine iS.mpr ⟨by simp,fun a ha=>?_⟩
   obtain ⟨e,ZV,rfl⟩:=aab.mp ha
   have b1:=zG (A:=A) (B:=B) (he e ZV).2 (y:=y) fun b hb=>by
    have:=by' b hb
    omega
   rw [(he e ZV).1,hM] at b1
   omega
  rw [aaa,tF,tF] at le
  have e1:2*M+1<=C*(B+1):=by
   have e3:2*M=C*B:=by rw [<- hM, <- hC, <- Nat.mul_assoc, <- Nat.mul_assoc]
   rw [e3,Nat.mul_add]
   omega
  have e2:(2*M+1)^eqs.length<=B*(B+1)^eqs.length:=by
   have:=ah' e1 eqs.length
   rw [Nat.mul_pow,hB] at this
   exact this
  have e4:(B+1)^(eqs.length+1)<=(B+1)^n:=aa7 (by omega) hn
  have e5:B*(B+1)^eqs.length < (B+1)^(eqs.length+1):=by
   rw [adj,aic ((B+1)^eqs.length)]
   exact Nat.mul_lt_mul_of_pos_right (abu B) (Nat.pow_pos (by omega))
  omega
 obtain ⟨y,k1⟩:=aiH.mp key
 obtain ⟨hy,k2⟩:=ain.mp k1
 obtain ⟨z,k3⟩:=aiH.mp k2
 obtain ⟨hz,k4⟩:=ain.mp k3
 obtain ⟨ee,ne⟩:=ain.mp k4
 obtain ⟨ly,by'⟩:=iS.mp hy
 obtain ⟨lz,bz⟩:=iS.mp hz
 have hl:y.length=z.length:=by omega
 refine ⟨ab9 (fun a b=>a - b) y z,by rw [acW];omega,?_,?_,fun e ZV=>?_⟩
 ·apply abw
  intro h
  refine ne (List.ext_getElem hl fun i h1 h2=>?_)
  have h' :∀a∈ab9 (fun a b=>a - b) y z,a=0:=fun a ha=>abw fun q=>h ⟨a,ha,q⟩
  have m:y[i] - z[i]∈ab9 (fun a b=>a - b) y z:=by
   refine ir (i:=i) ?_
   rw [abM,gE h1,gE h2]
  have:=h' _ m
  omega
 ·intro a ha
  obtain ⟨i,ei⟩:=aag ha
  rw [abM] at ei
  have hi:i < y.length:=by
   apply abw
   intro q
   rw [aai (by omega)] at ei
   cases ei
  rw [gE hi,gE (show i < z.length by omega)] at ei
  have ea:y[i] - z[i]=a:=aao ei
  have q1:=by' _ (ab2 hi)
  have q2:=bz _ (ab2 (show i < z.length by omega))
  omega
 ·rw [vW e hl]
  obtain ⟨i,ei⟩:=aag ZV
  have e1:=congrArg (fun l:List Int=>l[i]?) ee
  simp only [Wp,ei,acn,Option.some.injEq] at e1
  omega
def col (l:ξ)(j:Nat):Rat:=((l.getD j 0:Int):Rat)
inductive cL (A:ζ):(Nat->Rat)->Prop
 | zero:cL A (fun _=>0)
 | put {f:Nat->Rat} (c:Rat) {a:ξ} (h:a∈A) (hf:cL A f):cL A (fun j=>f j+c*col a j)
theorem cL.congr (h:cL A f)(e:∀j,f j=g j):cL A g:=(funext e:f=g)▸h
theorem cL.add (hf:cL A f)(hg:cL A g):cL A (fun j=>f j+g j):=by
 induction hg with
 | zero=>exact hf.congr fun j=>by grind
 | put c h _ ih=>exact (cL.put c h ih).congr fun j=>by grind
theorem cL.mul (k:Rat)(hf:cL A f):cL A (fun j=>k*f j):=by
 induction hf with
 | zero=>exact cL.zero.congr fun j=>by grind
 | put c h _ ih=>exact (cL.put (k*c) h ih).congr fun j=>by grind
theorem cL.mem (h:a∈A):cL A (col a):=(cL.put 1 h cL.zero).congr fun j=>by grind
theorem cL.trans (hf:cL A f)(h:∀a∈A,cL B (col a)):cL B f:=by
 induction hf with
 | zero=>exact cL.zero
 | put c ha _ ih=>exact ih.add ((h _ ha).mul c)
theorem cL.mono (hf:cL A f)(h:∀a∈A,a∈B):cL B f:=hf.trans fun a ha=>cL.mem (h a ha)
theorem cL.first {l:ξ}{A:ζ}(hf:cL (l::A) f):∃a:Rat,cL A (fun j=>f j - a*col l j):=by
 induction hf with
 | zero=>exact ⟨0,cL.zero.congr fun j=>by grind⟩
 | put c h _ ih=>
  obtain ⟨a,ha⟩:=ih
  rcases aaQ.mp h with e | e
  ·subst e
   exact ⟨a+c,ha.congr fun j=>by grind⟩
  ·exact ⟨a,(cL.put c e ha).congr fun j=>by grind⟩
theorem cL.last (hf:cL (A++[l]) f):∃a:Rat,cL A (fun j=>f j - a*col l j):=cL.first (hf.mono fun a ha=>by
 rcases aaG.mp ha with z | z
 ·exact aae _ z
 ·rw [aas.mp z]
  exact aak)
theorem cL.van (hf:cL A f)(h:∀a∈A,col a c=0):f c=0:=by
 induction hf with
 | zero=>rfl
 | put k ha _ ih=>
  dsimp only
  rw [ih,h _ ha]
  grind
structure GO (nd:θ):Prop where
 nn:(nd.map (·.1)).Nodup
 here:∀x∈nd,x.2.getD x.1 0≠0
 off:∀x∈nd,∀y∈nd,x.1≠y.1->x.2.getD y.1 0=0
theorem GO.zero:∀{nd:θ} {f:Nat->Rat},GO nd->cL (nd.map (·.2)) f->(∀x∈nd,f x.1=0)->∀j,f j=0
 | [],f,_,hf,_=>fun j=>by
  have:∀{g:Nat->Rat},cL [] g->g j=0:=fun {g} h=>h.van fun a ha=>nomatch ha
  exact this hf
 | x::r,f,P,hf,hz=>by
  obtain ⟨a,ha⟩:=cL.first hf
  have nn:=aa5.mp P.nn
  have v:f x.1 - a*col x.2 x.1=0:=ha.van (c:=x.1) fun b hb=>by
   obtain ⟨y,hy,rfl⟩:=aab.mp hb
   unfold col
   rw [P.off y (aae _ hy) x aak (fun z=>nn.1 (by show x.1∈_;rw [<- z];exact aab.mpr ⟨y,hy,rfl⟩))]
   rfl
  rw [hz x aak] at v
  have uZ:col x.2 x.1≠0:=cD (P.here x aak)
  have a0:a=0:=by grind
  subst a0
  have P' :GO r:=⟨nn.2,fun y hy=>P.here y (aae _ hy),fun y hy z hz=>P.off y (aae _ hy) z (aae _ hz)⟩
  exact GO.zero P' (ha.congr (g:=f) fun j=>by grind) fun y hy=>hz y (aae _ hy)
theorem GO.one (P:GO nd)(hf:cL (nd.map (·.2)) f){x:Χ}(hx:x∈nd)(hz:∀y∈nd,y.1≠x.1->f y.1=0):∃a:Rat,∀j,f j=a*col x.2 j:=by
 have uZ:col x.2 x.1≠0:=cD (P.here x hx)
 refine ⟨f x.1 / col x.2 x.1,fun j=>?_⟩
 have g:cL (nd.map (·.2)) fun j=>f j+ -(f x.1 / col x.2 x.1)*col x.2 j:=cL.put _ (aab.mpr ⟨x,hx,rfl⟩) hf
 have:=P.zero g (fun y hy=>by
  by_cases c:y.1=x.1
  ·rw [c]
   grind
  ·rw [hz y hy c]
   have:col x.2 y.1=0:=by
    unfold col
    rw [P.off x hx y hy (aba c)]
    rfl
   rw [this]
   grind) j
 grind
def jd:List Int->List (List Int)->Nat->Int
 | z::zs,a::A,j=>z*a.getD j 0+jd zs A j
 | _,_,_=>0
theorem jN:∀(zs:ξ) (A:ζ),cL A (fun j=>((jd zs A j:Int):Rat))
 | [],A=>cL.zero.congr fun j=>by simp [jd]
 | _::_,[]=>cL.zero.congr fun j=>by simp [jd]
 | z::zs,a::A=>by
  have ih:=(jN zs A).mono (B:=a::A) fun b hb=>aae _ hb
  refine (cL.put (z:Rat) (aak) ih).congr fun j=>?_
  simp only [jd,col]
  push_cast
  grind
theorem tG (c:Nat):∀(zs:ξ) (A:ζ),gB (A.map fun a=>a.getD c 0) zs=jd zs A c
 | [],A=>by cases A <;> simp [jd,gB]
 | _::_,[]=>by simp [jd,gB]
 | z::zs,a::A=>by
  simp only [aah,gB,jd]
  rw [tG c zs A,acp]
theorem xV (j:Nat):∀{zs:ξ} {A:ζ},(∀z∈zs,z.natAbs<=Z)->(∀a∈A,(a.getD j 0).natAbs<=E)->(jd zs A j).natAbs<=A.length*(Z*E)
 | [],A,_,_=>by simp [jd]
 | _::_,[],_,_=>by simp [jd]
 | z::zs,a::A,h1,h2=>by
  have ih:=xV j (zs:=zs) (A:=A) (fun x hx=>h1 x (aae _ hx)) fun x hx=>h2 x (aae _ hx)
  simp only [jd]
  have m:(z*a.getD j 0).natAbs<=Z*E:=by
   rw [abW]
   exact abB (h1 z aak) (h2 a aak)
  have t:=acJ (z*a.getD j 0) (jd zs A j)
  rw [abf,acq,aiG]
  omega
theorem oV (j:Nat):∀{zs:ξ} {A:ζ} (z:Int) (a:ξ),zs.length=A.length->jd (zs++[z]) (A++[a]) j=jd zs A j+z*a.getD j 0
 | [],[],z,a,_=>by simp [jd]
 | y::zs,b::A,z,a,h=>by
  have ih:=oV j (zs:=zs) (A:=A) z a (by simpa using h)
  simp only [acT,jd]
  rw [ih]
  omega
def UN (l:ξ):Prop:=∀d:Int,(∀j,d ∣ l.getD j 0)->d.natAbs=1
theorem Jx (p:UN l){v:Nat->Int}(ha:a≠0)(h:∀j,((v j:Int):Rat)=a*col l j)(j:Nat):(l.getD j 0).natAbs<=(v j).natAbs:=by
 have e:∀j,v j*(a.den:Int)=a.num*l.getD j 0:=fun j=>by
  have h1:=h j
  have h2:a=(a.num:Rat) / ((a.den:Int):Rat):=by
   rw [<- aiU]
   exact (aiN a).symm
  have hd:((a.den:Int):Rat)≠0:=cD (by have:=a.den_pos;omega)
  rw [h2] at h1
  unfold col at h1
  have h3:((v j*(a.den:Int):Int):Rat)=((a.num*l.getD j 0:Int):Rat):=by
   rw [abP,abP]
   generalize ((a.den:Int):Rat)=D at hd h1
   grind
  exact ac3.mp h3
 have dv:∀j,(a.den:Int) ∣ l.getD j 0:=fun j=>by
  have h1:a.den ∣ a.num.natAbs*(l.getD j 0).natAbs:=by
   rw [<- abW, <- e j,abW]
   exact ⟨(v j).natAbs,by rw [aic];rfl⟩
  have h2:=Nat.Coprime.dvd_of_dvd_mul_left (Nat.Coprime.symm a.reduced) h1
  exact acE.mp (by simpa using h2)
 have d1:a.den=1:=by simpa using p _ dv
 have ej:=e j
 rw [d1] at ej
 have n0:a.num≠0:=fun z=>ha (Rat.num_eq_zero.mp z)
 have:v j=a.num*l.getD j 0:=by simpa using ej
 rw [this,abW]
 exact Nat.le_mul_of_pos_left _ (by omega)
theorem Jy (p:UN l):¬ ∀j,l.getD j 0=0:=fun h=>by
 have:=p 0 fun j=>by rw [h j];exact Int.dvd_refl 0
 simp at this
structure GP (os:ζ)(nd:θ)(lv ps qs:ζ):Prop where
 po:∀p∈ps,p∈os
 qo:∀q∈qs,q∈os
 lp:ps.length=nd.length
 lq:qs.length=lv.length
 s1:∀x∈nd,cL ps (col x.2)
 s2:∀p∈ps,cL (nd.map (·.2)) (col p)
 s3:∀(i:Nat) (l q:ξ),lv[i]? =some l->qs[i]? =some q->cL (ps++[q]) (col l)/\cL (nd.map (·.2)++[l]) (col q)
 ind:∀zs:List Int,zs.length=ps.length->(∀j,jd zs ps j=0)->∀a∈zs,a=0
theorem GP.start (os:ζ):GP os [] os [] os:=by
 refine ⟨by simp,fun q hq=>hq,rfl,rfl,by simp,by simp,fun i l q e1 e2=>?_,fun zs h _ a ha=>?_⟩
 ·rw [e1] at e2
  cases e2
  exact ⟨cL.mem (by simp),cL.mem (by simp)⟩
 ·rw [ais.mp h] at ha
  cases ha
theorem GO.cols (P:GO nd)(hl:cL (nd.map (·.2)) (col l))(hz:∀x∈nd,l.getD x.1 0=0):∀j,l.getD j 0=0:=fun j=>by
 have:=P.zero hl (fun x hx=>by unfold col;rw [hz x hx];rfl) j
 unfold col at this
 exact ac3.mp (this.trans (by rfl))
theorem vX {A:ζ}(hA:∀a∈A,∀j,(a.getD j 0).natAbs<=2^b):(A.map fun a=>a.getD c 0).length=A.length/\∀x∈A.map (fun a=>a.getD c 0),x.natAbs<=2^b:=by
 refine ⟨by simp,fun x hx=>?_⟩
 obtain ⟨a,ha,rfl⟩:=aab.mp hx
 exact hA a ha c
theorem GP.left (O:GP os nd lv ps qs)(P:GO nd){i b:Nat}{l:ξ}(e:lv[i]? =some l)(hz:∀x∈nd,l.getD x.1 0=0)(hb:∀o∈os,∀j,(o.getD j 0).natAbs<=2^b)(pr:UN l)(j:Nat):(l.getD j 0).natAbs<=(nd.length+1)*((2*(nd.length+1)*2^b)^nd.length*2^b):=by
 have hi:i < qs.length:=by
  rw [O.lq]
  exact (be.mp e).1
 obtain ⟨q,eq⟩:∃q,qs[i]? =some q:=⟨_,gE hi⟩
 obtain ⟨t1,t2⟩:=O.s3 i l q e eq
 have hA:∀a∈ps++[q],∀j,(a.getD j 0).natAbs<=2^b:=fun a ha=>by
  rcases aaG.mp ha with z | z
  ·exact hb a (O.po a z)
  ·rw [aas.mp z]
   exact hb q (O.qo q (ir eq))
 have lA:(ps++[q]).length=nd.length+1:=by simp [O.lp]
 obtain ⟨zs,lz,nz,bz,sz⟩:=Jw (n:=nd.length+1) (A:=2^b) (eqs:=nd.map fun x=>(ps++[q]).map fun a=>a.getD x.1 0) (by simp) (aii) fun y hy=>by
  obtain ⟨x,hx,rfl⟩:=aab.mp hy
  rw [<- lA]
  exact vX hA
 rw [aaa] at bz
 have v0:∀x∈nd,jd zs (ps++[q]) x.1=0:=fun x hx=>by
  rw [<- tG]
  exact sz _ (aab.mpr ⟨x,hx,rfl⟩)
 have hv:cL (nd.map (·.2)++[l]) fun j=>((jd zs (ps++[q]) j:Int):Rat):=(jN zs (ps++[q])).trans fun a ha=>by
  rcases aaG.mp ha with z | z
  ·exact (O.s2 a z).mono fun y hy=>abh _ hy
  ·rw [aas.mp z]
   exact t2
 obtain ⟨a,ha⟩:=cL.last hv
 have ez:=P.zero ha fun x hx=>by
  rw [v0 x hx]
  unfold col
  rw [hz x hx]
  show ((0:Int):Rat) - a*((0:Int):Rat)=0
  grind
 by_cases c:a=0
 ·exfalso
  subst c
  have vz:∀j,jd zs (ps++[q]) j=0:=fun j=>by
   have:=ez j
   have h:((jd zs (ps++[q]) j:Int):Rat)=((0:Int):Rat):=by grind
   exact ac3.mp h
  obtain ⟨tH,z,rfl⟩:∃tH z,zs=tH ++[z]:=by
   rcases aiD zs with h | ⟨tH,z,h⟩
   ·rw [h] at lz
    simp at lz
   ·exact ⟨tH,z,by rw [h,aiE]⟩
  have UO :tH.length=ps.length:=by
   rw [O.lp]
   simpa using lz
  have sp:∀j,jd tH ps j+z*q.getD j 0=0:=fun j=>by
   rw [<- oV j z q UO]
   exact vz j
  by_cases z0:z=0
  ·subst z0
   obtain ⟨x,hx,nx⟩:=nz
   have all:=O.ind tH UO fun j=>by simpa using sp j
   rcases aaG.mp hx with h | h
   ·exact nx (all x h)
   ·exact nx (aas.mp h)
  ·have hq:cL ps (col q):=((jN tH ps).mul (-1 / (z:Rat))).congr fun j=>by
    have s' :((jd tH ps j+z*q.getD j 0:Int):Rat)=((0:Int):Rat):=by rw [sp j]
    rw [ajc,abP] at s'
    have zr:(z:Rat)≠0:=cD z0
    unfold col
    grind
   have hl:cL ps (col l):=t1.trans fun a ha=>by
    rcases aaG.mp ha with h | h
    ·exact cL.mem h
    ·rw [aas.mp h]
     exact hq
   exact Jy pr (P.cols (hl.trans O.s2) hz)
 ·have le:=Jx pr c (v:=fun j=>jd zs (ps++[q]) j) (fun j=>by have:=ez j;grind) j
  refine aaf le ?_
  have:=xV j (zs:=zs) (A:=ps++[q]) bz fun a ha=>hA a ha j
  rw [lA] at this
  exact this
theorem GP.need (O:GP os nd lv ps qs)(P:GO nd){x:Χ}(hx:x∈nd)(hb:∀o∈os,∀j,(o.getD j 0).natAbs<=2^b)(pr:UN x.2)(j:Nat):(x.2.getD j 0).natAbs<=(nd.length+1)*((2*(nd.length+1)*2^b)^nd.length*2^b):=by
 have hA:∀a∈ps,∀j,(a.getD j 0).natAbs<=2^b:=fun a ha=>hb a (O.po a ha)
 have lf:(nd.filter fun y=>decide (y.1≠x.1)).length < nd.length:=by
  have h1:(nd.filter fun y=>decide (y.1≠x.1)).length<=nd.length:=ab0 ..
  rcases Nat.lt_or_eq_of_le h1 with h | h
  ·exact h
  ·have:=List.length_filter_eq_length_iff.mp h x hx
   simp at this
 obtain ⟨zs,lz,nz,bz,sz⟩:=Jw (n:=nd.length) (A:=2^b) (eqs:=(nd.filter fun y=>decide (y.1≠x.1)).map fun y=>ps.map fun a=>a.getD y.1 0) (by rw [aaa];exact lf) (aii) fun y hy=>by
  obtain ⟨z,hz,rfl⟩:=aab.mp hy
  rw [<- O.lp]
  exact vX hA
 rw [aaa] at bz
 have v0:∀y∈nd,y.1≠x.1->jd zs ps y.1=0:=fun y hy ne=>by
  rw [<- tG]
  exact sz _ (aab.mpr ⟨y,ace.mpr ⟨hy,by simpa using ne⟩,rfl⟩)
 have hv:cL (nd.map (·.2)) fun j=>((jd zs ps j:Int):Rat):=(jN zs ps).trans O.s2
 obtain ⟨a,ha⟩:=P.one hv hx fun y hy ne=>by
  rw [v0 y hy ne]
  rfl
 have c:a≠0:=fun z=>by
  subst z
  obtain ⟨y,hy,ny⟩:=nz
  refine ny (O.ind zs (by rw [lz,O.lp]) (fun j=>?_) y hy)
  have h:((jd zs ps j:Int):Rat)=((0:Int):Rat):=by
   rw [ha j]
   show 0*col x.2 j=0
   grind
  exact ac3.mp h
 have le:=Jx pr c (v:=fun j=>jd zs ps j) ha j
 refine aaf le ?_
 have:=xV j (zs:=zs) (A:=ps) bz fun a ha=>hA a ha j
 rw [O.lp] at this
 refine aaf this (abB (by omega) (abB ?_ (aac _)))
 refine aaf (ah' (abd _ (show 2*nd.length<=2*(nd.length+1) by omega)) _) ?_
 exact aa7 (Nat.mul_pos (by omega) (ajd _)) (by omega)
theorem QM (hs:s+1<=1024):(s+1)*((2*(s+1)*2^b)^s*2^b)<=2^((s+1)*(b+11)):=by
 have h1:2*(s+1)*2^b<=2^(b+11):=by
  have:2*(s+1)<=2^11:=by
   show 2*(s+1)<=2048
   omega
  rw [ada,aic (2^b)]
  exact abd _ this
 have h2:(2*(s+1)*2^b)^s<=2^((b+11)*s):=by
  rw [Nat.pow_mul]
  exact ah' h1 s
 have h3:s+1<=2^11:=by
  show s+1<=2048
  omega
 have e:(s+1)*(b+11)=11+((b+11)*s+b):=by
  rw [acq,aiG,aic s]
  omega
 rw [e,ada,ada]
 exact abB h3 (abd _ h2)
theorem zH (k:qw line lead new c)(h1:cL B (col line))(h2:cL B (col lead)):cL B (col new):=by
 obtain ⟨s,t,u,hs,ht,e⟩:=k.iQ
 have zs:=cD hs
 refine ((h1.mul ((t:Rat) / s)).add (h2.mul (-(u:Rat) / s))).congr fun j=>?_
 have ej:((s*new.getD j 0:Int):Rat)=((t*line.getD j 0 - u*lead.getD j 0:Int):Rat):=by rw [e j]
 rw [abP,aje,abP,abP] at ej
 unfold col
 grind
theorem zI (k:qw line lead new c)(h1:cL B (col new))(h2:cL B (col lead)):cL B (col line):=by
 obtain ⟨s,t,u,hs,ht,e⟩:=k.iQ
 have zt:=cD ht
 refine ((h1.mul ((s:Rat) / t)).add (h2.mul ((u:Rat) / t))).congr fun j=>?_
 have ej:((s*new.getD j 0:Int):Rat)=((t*line.getD j 0 - u*lead.getD j 0:Int):Rat):=by rw [e j]
 rw [abP,aje,abP,abP] at ej
 unfold col
 grind
theorem GP.step {nd i0 :θ}{lv xW ps qs:ζ}{lead:ξ}{j c:Nat}(O:GP os nd lv ps qs)(P:GO nd)(ej:lv[j]? =some lead)(hz:∀x∈nd,lead.getD x.1 0=0)(hc:lead.getD c 0≠0)
  (lL:xW.length=(lv.eraseIdx j).length) (ML:∀(i:Nat) (x:ξ),(lv.eraseIdx j)[i]? =some x->∃y,xW[i]? =some y/\qw x lead y c) (lN:i0.length=nd.length) (MN:∀(i:Nat) (x:ξ),(nd.map (·.2))[i]? =some x->∃y,(i0.map (·.2))[i]? =some y/\qw x lead y c):∃ps' MA,GP os (i0 ++[(c,lead)]) xW ps' MA :=by
 have hj:j < lv.length:=(be.mp ej).1
 obtain ⟨q,eq⟩:∃q,qs[j]? =some q:=⟨_,gE (by rw [O.lq];exact hj)⟩
 obtain ⟨t1,t2⟩:=O.s3 j lead q ej eq
 have ml:lead∈(i0 ++[(c,lead)]).map (·.2):=by simp
 have old:∀x∈nd.map (·.2),cL ((i0 ++[(c,lead)]).map (·.2)) (col x):=fun x hx=>by
  obtain ⟨i,ei⟩:=aag hx
  obtain ⟨y,ey,k⟩:=MN i x ei
  refine zI k (cL.mem ?_) (cL.mem ml)
  rw [aa3]
  exact abh _ (ir ey)
 have abm:∀y∈i0.map (·.2),∃x∈nd.map (·.2),qw x lead y c:=fun y hy=>by
  obtain ⟨i,ei⟩:=aag hy
  have hi:=(be.mp ei).1
  rw [aaa] at hi
  obtain ⟨x,ex⟩:∃x,(nd.map (·.2))[i]? =some x:=⟨_,gE (by rw [aaa];omega)⟩
  obtain ⟨y',zJ,k⟩:=MN i x ex
  rw [ei] at zJ
  cases zJ
  exact ⟨x,ir ex,k⟩
 have up:∀{f:Nat->Rat},cL ps f->cL (ps++[q]) f:=fun h=>h.mono fun a ha=>abh _ ha
 refine ⟨ps++[q],qs.eraseIdx j,fun p hp=>?_,fun p hp=>O.qo p (acr hp),by simp [O.lp,lN],?_,fun x hx=>?_,fun p hp=>?_,fun i l' q' e1 e2=>?_,fun zs lz hzs a ha=>?_⟩
 ·rcases aaG.mp hp with z | z
  ·exact O.po p z
  ·rw [aas.mp z]
   exact O.qo q (ir eq)
 ·rw [lL,aca,aca,O.lq]
 ·rcases aaG.mp hx with z | z
  ·obtain ⟨y,hy,k⟩:=abm x.2 (aab.mpr ⟨x,z,rfl⟩)
   obtain ⟨x0,ZW,rfl⟩:=aab.mp hy
   exact zH k (up (O.s1 x0 ZW)) t1
  ·rw [aas.mp z]
   exact t1
 ·rcases aaG.mp hp with z | z
  ·exact (O.s2 p z).trans old
  ·rw [aas.mp z]
   refine t2.trans fun a ha=>?_
   rcases aaG.mp ha with h | h
   ·exact old a h
   ·rw [aas.mp h]
    exact cL.mem ml
 ·have hi:=(be.mp e1).1
  obtain ⟨x,ex⟩:∃x,(lv.eraseIdx j)[i]? =some x:=⟨_,gE (by omega)⟩
  obtain ⟨y',zJ,k⟩:=ML i x ex
  rw [e1] at zJ
  cases zJ
  obtain ⟨i',f1,f2⟩:∃i',lv[i']? =some x/\qs[i']? =some q' :=by
   rw [abY] at ex e2
   by_cases h:i < j
   ·rw [if_pos h] at ex e2
    exact ⟨_,ex,e2⟩
   ·rw [if_neg h] at ex e2
    exact ⟨_,ex,e2⟩
  obtain ⟨u1,u2⟩:=O.s3 i' x q' f1 f2
  constructor
  ·refine zH k (u1.mono fun a ha=>?_) (t1.mono fun a ha=>abh _ ha)
   rcases aaG.mp ha with h | h
   ·exact abh _ (abh _ h)
   ·exact abk _ h
  ·refine u2.trans fun a ha=>?_
   rcases aaG.mp ha with h | h
   ·exact (old a h).mono fun b hb=>abh _ hb
   ·rw [aas.mp h]
    exact zI k (cL.mem (by simp)) (cL.mem (abh _ ml))
 ·obtain ⟨tH,z,rfl⟩:∃tH z,zs=tH ++[z]:=by
   rcases aiD zs with h | ⟨tH,z,h⟩
   ·rw [h] at lz
    simp at lz
   ·exact ⟨tH,z,by rw [h,aiE]⟩
  have UO :tH.length=ps.length:=by simpa using lz
  have sp:∀j,jd tH ps j+z*q.getD j 0=0:=fun j=>by
   rw [<- oV j z q UO]
   exact hzs j
  have z0:z=0:=by
   apply abw
   intro z0
   have hq:cL ps (col q):=((jN tH ps).mul (-1 / (z:Rat))).congr fun j=>by
    have s' :((jd tH ps j+z*q.getD j 0:Int):Rat)=((0:Int):Rat):=by rw [sp j]
    rw [ajc,abP] at s'
    have zr:(z:Rat)≠0:=cD z0
    unfold col
    grind
   have hl:cL ps (col lead):=t1.trans fun a ha=>by
    rcases aaG.mp ha with h | h
    ·exact cL.mem h
    ·rw [aas.mp h]
     exact hq
   exact hc (P.cols (hl.trans O.s2) hz c)
  rcases aaG.mp ha with h | h
  ·exact O.ind tH UO (fun j=>by have:=sp j;rw [z0] at this;simpa using this) a h
  ·rw [aas.mp h]
   exact z0
end Ty
set_option maxHeartbeats 4000000
namespace Ty
open PySem PySem.Spec PyProof.Rows L2
section
variable {prog:Program}{w:World}{A:Around}{E:γ}{s:Shared}
theorem r9 {es:Δ}{Q:Ε}(hit:s.heap.IsKeyIter it d i es.size ep)(qJ:s.heap.get? d=some o)(mn:o.data=.dict es ep)(hx:es[i]? =some e)
  (hQ:∀h',h'.IsKeyIter it d (i+1) es.size ep->Heap.SameBut it s.heap h' ->Q (some e.key) {s with heap:=h' }):
  wpAny (model prog w) A (pyNext (.ref it)) Q E s:=by
 obtain ⟨hp,g,dr,tk,os⟩:=s
 obtain ⟨⟨oc,od,UP,mK⟩,GQ,Oy,Jz⟩:=id hit
 have JA :oc=.type "dict_keyiterator":=Oy
 have JB :UP=.fields #[.ref d,.int (i:Int) 0,.int (es.size:Int) 0,.int (ep:Int) 0]:=Jz
 subst JA JB
 have hT:Shared.TypeIs ⟨hp,g,dr,tk,os⟩ (.ref it) "dict_keyiterator":=⟨_,GQ,Oy⟩
 unfold pyNext
 refine wpAny_bind (wpAny_attempt (wpAny_callSpecial?_slot (name:=Str.ofString "__next__") hT PySem.F.slot_dict_keyiterator_next
  (wpAny_call_entry PySem.F.slot_dict_keyiterator_next hT PySem.F.entry_dict_keyiterator_next ?_ (PySem.F.args_dict_keyiterator_next_1 _))))
 refine wpAny_bind (wpAny_pure ?_)
 refine wpAny_bind ?_
 refine wpAny_bind ?_
 first | refine wpAny_bind (wpAny_typeNameOfWhole_keyiter hT (wpAny_pure ?_)) | refine wpAny_bind (wpAny_typeNameOf_keyiter hT (wpAny_pure ?_))
 refine wpAny_bind (wpAny_fieldsOf GQ Jz ?_)
 have tI:Builtin.Dict_items.ownsTuple "dict_keyiterator"=false:=by decide
 simp only [tI,abC,if_false]
 show wpAny _ _ (if (Value.ref d==Value.none)=true then _ else _) _ _ _
 rw [if_neg (show ¬ ((Value.ref d==Value.none)=true) from aam)]
 refine wpAny_bind (wpAny_pure ?_)
 refine wpAny_bind (wpAny_dictEntries qJ mn ?_)
 rw [if_neg (by simp)]
 refine wpAny_bind (wpAny_pure ?_)
 refine wpAny_bind (wpAny_dictEpoch qJ mn ?_)
 rw [if_neg (by simp)]
 refine wpAny_pure ?_
 simp only [show ¬ ((i:Int) < 0) from by omega,if_false,acG,hx]
 refine wpAny_bind ?_
 first | refine wpAny_bind (wpAny_typeNameOfWhole_keyiter hT (wpAny_pure ?_)) | refine wpAny_bind (wpAny_typeNameOf_keyiter hT (wpAny_pure ?_))
 refine wpAny_bind (wpAny_isOneOf_keyiter hT ?_)
 show wpAny _ _ (setField (.ref it) 1 (rawInt ((i:Int)+1)) >>=_) _ _ ⟨hp,g,dr,tk,os⟩
 refine wpAny_bind (wpAny_setField GQ Jz (by simp) ?_)
 have nH:Heap.SameBut it hp (hp.update it (Obj.mapFields fun xX=>xX.setIfInBounds 1 (rawInt ((i:Int)+1)))):=by
  exact Heap.SameBut.update _ _ _
 have he₁:(hp.update it (Obj.mapFields fun xX=>xX.setIfInBounds 1 (rawInt ((i:Int)+1)))).IsKeyIter it d (i+1) es.size ep:=by
  exact ⟨_,Heap.get?_update_self (Obj.mapFields fun xX=>xX.setIfInBounds 1 (rawInt ((i:Int)+1))) GQ rfl,rfl,rfl⟩
 generalize (hp.update it (Obj.mapFields fun xX=>xX.setIfInBounds 1 (rawInt ((i:Int)+1))))=h₁ at nH he₁ ⊢
 have hT₁:Shared.TypeIs ⟨h₁,g,dr,tk,os⟩ (.ref it) "dict_keyiterator":=by
  obtain ⟨o1,a1,a2,_⟩:=he₁
  exact ⟨_,a1,a2⟩
 refine wpAny_bind (wpAny_holding ?_)
 refine wpAny_bind (wpAny_isOneOf_keyiter hT₁ ?_)
 rw [if_pos (by decide)]
 exact wpAny_pure (wpAny_pure ⟨_,rfl,wpAny_pure (hQ h₁ he₁ nH)⟩)
theorem vY {es:Δ}{Q:Ε}(hA:A.handled=none)(hit:s.heap.IsKeyIter it d i es.size ep)(qJ:s.heap.get? d=some o)(mn:o.data=.dict es ep)(hx:es[i]? =none)
  (hQ:∀h',Heap.ExtBut it s.heap h' ->Q none {s with heap:=h' }):
  wpAny (model prog w) A (pyNext (.ref it)) Q E s:=by
 obtain ⟨hp,g,dr,tk,os⟩:=s
 obtain ⟨⟨oc,od,UP,mK⟩,GQ,Oy,Jz⟩:=id hit
 have JA :oc=.type "dict_keyiterator":=Oy
 have JB :UP=.fields #[.ref d,.int (i:Int) 0,.int (es.size:Int) 0,.int (ep:Int) 0]:=Jz
 subst JA JB
 have hT:Shared.TypeIs ⟨hp,g,dr,tk,os⟩ (.ref it) "dict_keyiterator":=⟨_,GQ,Oy⟩
 unfold pyNext
 refine wpAny_bind (wpAny_attempt (wpAny_callSpecial?_slot (name:=Str.ofString "__next__") hT PySem.F.slot_dict_keyiterator_next
  (wpAny_call_entry PySem.F.slot_dict_keyiterator_next hT PySem.F.entry_dict_keyiterator_next ?_ (PySem.F.args_dict_keyiterator_next_1 _))))
 refine wpAny_bind (wpAny_pure ?_)
 refine wpAny_bind ?_
 refine wpAny_bind ?_
 first | refine wpAny_bind (wpAny_typeNameOfWhole_keyiter hT (wpAny_pure ?_)) | refine wpAny_bind (wpAny_typeNameOf_keyiter hT (wpAny_pure ?_))
 refine wpAny_bind (wpAny_fieldsOf GQ Jz ?_)
 have tI:Builtin.Dict_items.ownsTuple "dict_keyiterator"=false:=by decide
 simp only [tI,abC,if_false]
 show wpAny _ _ (if (Value.ref d==Value.none)=true then _ else _) _ _ _
 rw [if_neg (show ¬ ((Value.ref d==Value.none)=true) from aam)]
 refine wpAny_bind (wpAny_pure ?_)
 refine wpAny_bind (wpAny_dictEntries qJ mn ?_)
 rw [if_neg (by simp)]
 refine wpAny_bind (wpAny_pure ?_)
 refine wpAny_bind (wpAny_dictEpoch qJ mn ?_)
 rw [if_neg (by simp)]
 refine wpAny_pure ?_
 simp only [show ¬ ((i:Int) < 0) from by omega,if_false,acG,hx]
 refine wpAny_bind ?_
 first | refine wpAny_bind (wpAny_typeNameOfWhole_keyiter hT (wpAny_pure ?_)) | refine wpAny_bind (wpAny_typeNameOf_keyiter hT (wpAny_pure ?_))
 show wpAny _ _ (setField (.ref it) 0 Value.none >>=_) _ _ ⟨hp,g,dr,tk,os⟩
 refine wpAny_bind (wpAny_setField GQ Jz (by simp) ?_)
 have nH:Heap.SameBut it hp (hp.update it (Obj.mapFields fun xX=>xX.setIfInBounds 0 Value.none)):=Heap.SameBut.update _ _ _
 generalize (hp.update it (Obj.mapFields fun xX=>xX.setIfInBounds 0 Value.none))=h₁ at nH ⊢
 unfold newExc
 refine wpAny_bind (wpAny_bind (wpAny_newTuple ?_))
 refine wpAny_bind ?_
 unfold firstArgMember
 refine wpAny_bind (wpAny_pure (wpAny_pure ?_))
 have hv:∀b:Bool,(if b=true then ([]:List Value).headD Value.none else Value.none)=Value.none:=fun b=>by cases b <;> rfl
 rw [hv]
 first
 | refine wpAny_alloc ?_
 | wp_step
 have own:ownMembersOf (Value.type "StopIteration") []= #[]:=by first | rfl | decide+kernel
 rw [own]
 rw [if_neg (by show ¬ (6 > sizeLine+2);decide)]
 show wpAny _ _ (newObjAsIs (Value.type "StopIteration") _) _ _ _
 wp_step
 refine wpAny_bind (wpAny_alloc ?_)
 refine wpAny_pure ?_
 refine wpAny_raiseNew_none (A:=A.in1) hA ?_
 refine wpAny_bind (wpAny_isInstance (T:="StopIteration") (b:=true) ⟨_,Heap.get?_push_size _ rfl,rfl⟩ isSubtype_stop ?_)
 exact wpAny_pure (hQ _ fun c o1 n x=>Heap.get?_push_of_some _ (Heap.get?_push_of_some _ (nH.extBut c o1 n x)))
end
section
variable {X:Cx}
theorem zK {Jf:Δ}(ok:iZ P w H h)(e:H d=some (.cV o (.dT kvs)))(he:o.data=.dict Jf ep):
  h.get? d=some o/\∃xs,KT H kvs xs/\Jf.toList=xs.map (entryOfKey (tupleKind (bw P w)))/\Jf.size=kvs.length:=by
 obtain ⟨h1,z,hd,xs,rel,o',es,u6,ho,hx,dw,hk,hn⟩:=ok d _ e
 rw [h1] at ho
 cases ho
 rw [he] at dw
 cases dw
 refine ⟨h1,xs,rel,hk,?_⟩
 have l1:=congrArg abR hk
 rw [aaa,acg] at l1
 rw [l1]
 exact (Paired.length rel).symm
def C' (d:Addr)(o:Obj)(kvs:ν):It:=
 ⟨fun i H=>H d=some (.cV o (.dT kvs))/\i < kvs.length,
  fun i H v H' =>H' =H/\∃k x b,kvs[i]? =some (k,x)/\v=.ref b/\H b=some (.tup (k.map kV)),
  fun i H=>H d=some (.cV o (.dT kvs))/\kvs.length<=i⟩
theorem xY {K:Frag}(d it:Addr)(o:Obj)(kvs:ν){Jf:Δ}(he:o.data=.dict Jf ep):
  Turn P w K tg (C' d o kvs) [it] it (fun i h=>h.IsKeyIter it d i kvs.length ep) where
 mem:=by simp
 obj:=fun i h st b hb=>by
  have e:b=it:=by simpa using hb
  subst e
  obtain ⟨o,e,c,d⟩:=st
  exact ⟨o,e,fun v z=>by rw [d] at z;cases z⟩
 keep:=fun i h h' st k=>st.at fun o e=>k it (by simp) o e
 item:=by
  intro X hP hw hK hc i pins s σ H E I hf st hg
  subst hP hw hK
  obtain ⟨fz,hi⟩:=hg
  obtain ⟨h1,xs,rel,hk,hsz⟩:=zK I.bH fz he
  have ek:kvs[i]? =some kvs[i]:=gE hi
  obtain ⟨x,ex,e1,hb,ru⟩:=aw rel ek
  rw [<- hsz] at st
  have ee:Jf[i]? =some (entryOfKey (tupleKind (bw X.prog X.w)) x):=by
   rw [<- acD,hk,Wp,ex]
   rfl
  obtain ⟨f0,f1,f2,f3,f4,f5⟩:=hf it (by simp)
  refine r9 st h1 he ee fun h' yZ sb=>?_
  have I1:L2.Inv X pins σ H {s with heap:=h' }:=I.turned (t' :=s.toks) (fun b o hb e=>(sb.2 b hb).trans e) f0 f1 f3 f4 f5
  rw [hsz] at yZ
  obtain ⟨o',e',c',d'⟩:=id yZ
  exact ⟨_,rfl,yY (s:={s with heap:=h' }) e' c' d' (by decide) ⟨.ref x.2.1,H,I1,rfl,⟨rfl,kvs[i].1,kvs[i].2,x.2.1,ek,rfl,hb⟩,yZ,fun b hb=>(hf b hb).1⟩⟩
 done:=by
  intro X hP hw hK hc i pins s σ H E I hf st hg
  subst hP hw hK
  obtain ⟨fz,hi⟩:=hg
  obtain ⟨h1,xs,rel,hk,hsz⟩:=zK I.bH fz he
  rw [<- hsz] at st
  obtain ⟨f0,f1,f2,f3,f4,f5⟩:=hf it (by simp)
  exact vY (I.ok.hd hc) st h1 he (Array.getElem?_eq_none (by omega)) fun h' eb=>⟨rfl,I.turned (t' :=s.toks) (fun b o hb e=>eb b o hb e) f0 f1 f3 f4 f5⟩
 self:=fun _ _ _ _ _ st h=>wpAny_pyIter_keyiter st h
theorem Inv.MD {σ:L2.St}(I:L2.Inv X pins σ H s)(e:H d=some (.dT kvs))(ho:s.heap.get? d=some o):L2.Inv X pins σ (upd H d (.cV o (.dT kvs))) s:=by
 have nx:∀b u,H b=some u->b≠d->upd H d (.cV o (.dT kvs)) b=some u:=fun b u q n=>by rw [ao n];exact q
 refine I.step (g' :=s.gens) (t' :=s.toks) (d' :=s.drawn) (ch:=[]) (fun _ z=>nomatch z) (fun b o _ _ _ e _=>e) (fun b o _ _ _ e _=>⟨o.slots,e⟩) (fun b o _ _ n=>by rw [ao (fun z=>by rw [z,e] at n;cases n)];exact n) (fun b o _ e=>⟨o,e⟩)
  (fun b xs q=>nx b _ q fun z=>by rw [z,e] at q;cases q) (fun b o' u q=>nx b _ q fun z=>by rw [z,e] at q;cases q) (fun b ps q=>⟨#[],by rw [nx b _ q fun z=>by rw [z,e] at q;cases q];simp⟩) (fun m hm=>hm) (fun b u q=>?_) I.bare
 have st:∀{u'},cg X.prog X.w H s.heap b u' ->cg X.prog X.w (upd H d (.cV o (.dT kvs))) s.heap b u' :=fun {u'} k=>k.qB (fun _ _ _ k=>k) (fun c k=>nx c _ k fun z=>by rw [z,e] at k;cases k) fun c xs k=>nx c _ k fun z=>by rw [z,e] at k;cases k
 by_cases hb:b=d
 ·subst hb
  rw [ah] at q
  cases q
  exact ⟨ho,st (I.bH b _ e)⟩
 ·rw [ao hb] at q
  exact st (I.bH b u q)
def QN (H0:Hp)(t:TS):TS:=fun D σ H=>t {D with nx:=fun σ' H' =>∃d o kvs,H' d=some (.cV o (.dT kvs))/\(∀o' u',H0 d≠some (.cV o' u'))/\D.nx σ' (upd H' d (.dT kvs))} σ H
theorem JC {st:Stmt}(h:PS X st t):PS X st (QN X.H₀ t):=by
 intro pins s σ H D I q
 refine wpAny_mono (h pins s σ H _ I q) (fun f s' z=>?_) fun _ _ z=>z
 cases f with
 | next=>
  obtain ⟨σ',H',I',d,o,kvs,e,n,k⟩:=z
  exact ⟨σ',_,Inv.Jm I' e n (fun _ z=>nomatch z),k⟩
 | brk=>exact z
 | cont=>exact z
 | ret u=>exact z
theorem DA {g:TG}{tb:TS}{D:Ends}(Pv:Nat->L2.St->Hp->Prop)(h0:Pv 0 σ H)(hl:∀i σ H,i<=kvs.length->Pv i σ H->H d=some (.cV o (.dT kvs)))
  (hs:∀i k x b σ H,kvs[i]? =some (k,x)->H b=some (.tup (k.map kV))->Pv i σ H->g (.ref b) σ H fun σ2 H2=>tb {D with nx:=Pv (i+1),ct:=Pv (i+1),bk:=D.nx} σ2 H2) (hd:∀σ H,Pv kvs.length σ H->D.nx σ H):
  ∃W:Nat->Nat->L2.St->Hp->Prop,(∃m,W 0 m σ H)/\∀i m σ H,W i m σ H->
   ((C' d o kvs).stop i H/\D.nx σ H)\/((C' d o kvs).go i H/\∃N:L2.St->Hp->Prop,(∀σ' H',N σ' H' ->∃m',m' < m/\W (i+1) m' σ' H')/\∀x H',(C' d o kvs).GN i H x H' ->g x σ H' fun σ2 H2=>tb {D with nx:=N,ct:=N,bk:=D.nx} σ2 H2):=by
 refine ⟨fun i m σ H=>m=kvs.length - i/\i<=kvs.length/\Pv i σ H,⟨kvs.length,by simp,abc _,h0⟩,?_⟩
 rintro i m σ H ⟨rfl,hi,p⟩
 have q:=hl i σ H hi p
 by_cases i8:i < kvs.length
 ·refine .inr ⟨⟨q,i8⟩,Pv (i+1),fun σ' H' z=>⟨kvs.length - (i+1),by omega,rfl,by omega,z⟩,fun x H' y=>?_⟩
  obtain ⟨rfl,k,x',b,ek,rfl,hb⟩:=y
  exact hs i k x' b σ _ ek hb p
 ·have e:i=kvs.length:=by omega
  subst e
  exact .inl ⟨⟨q,aac _⟩,hd σ H p⟩
theorem oW {E:γ}{es:Δ}{Q:γ}(abo:(d==sysModules)=false)(qJ:s.heap.get? d=some o)(hx:o.ExactDict)(mn:o.data=.dict es ep)
  (hQ:Q (.ref s.heap.objs.size) {s with heap:=s.heap.push {cls:=.type "dict_keyiterator",data:=.fields #[.ref d,.int 0 0,.int (es.size:Int) 0,.int (ep:Int) 0]}}):wpAny (model prog w) A (pyIter (.ref d)) Q E s:=by
 have hT:s.TypeIs (.ref d) "dict":=⟨_,qJ,hx.1⟩
 refine wpAny_pyIter_slot hT F.slot_dict_iter (wpAny_call_entry F.slot_dict_iter hT F.entry_dict_iter ?_ (F.args_dict_iter_1 _))
 unfold Builtin.«dict.__iter__»
 have G' :(d==sysModules)=false:=abo
 refine wpAny_bind ?_
 unfold Builtin.Dict.dictSlotNone
 repeat (any_goals (first | (assumption) | exact hT | wp_step))
 rw [if_neg (by rw [hx.1];simp)]
 refine wpAny_pure ?_
 refine wpAny_bind ?_
 unfold slotArgs
 repeat (any_goals (first | (assumption) | exact hT | wp_step))
 rw [mn]
 refine wpAny_pure ?_
 refine wpAny_bind (wpAny_dictEpoch qJ mn ?_)
 refine wpAny_bind ?_
 unfold newFields
 repeat (any_goals (first | (assumption) | exact hT | wp_step))
 exact ⟨_,rfl,"dict_keyiterator",_,⟨_,Heap.get?_push_size _ rfl,rfl⟩,F.slot_dict_keyiterator_next.lookup,hQ⟩
inductive zL (R:(It->Hp->Prop))(x:V)(H1:Hp):Prop where
 | mk (d kvs:_) (_:x=.ref d) (_:H1 d=some (.dT kvs)) (_:∀o,R (C' d o kvs) (upd H1 d (.cV o (.dT kvs)))):zL R x H1
def QO (te:TE):TI:=fun σ H R=>te σ H fun x H1=>zL R x H1
theorem vZ (ho:PE X e te):PI X tg e (QO te):=by
 intro pins s σ H R I h
 refine cq (ho pins s σ H _ I h) fun v s1 ⟨x,H1,I1,r1,q1⟩=>?_
 obtain ⟨d,kvs,rfl,e,q⟩:=q1
 cases r1
 obtain ⟨z,hd,xs,rel,o,SN,ep,xk,hx,dw,hk,hn⟩:=(show cg X.prog X.w H1 s1.heap d (.dT kvs) from I1.bH d _ e)
 have lv:SN.size=kvs.length:=by
  have l1:=congrArg abR hk
  rw [aaa,acg] at l1
  rw [l1]
  exact (Paired.length rel).symm
 have I2:=Inv.MD I1 e xk
 refine oW hd xk hx dw ?_
 have I3:L2.Inv X pins σ (upd H1 d (.cV o (.dT kvs))) {s1 with heap:=s1.heap.push {cls:=.type "dict_keyiterator",data:=.fields #[.ref d,.int 0 0,.int (SN.size:Int) 0,.int (ep:Int) 0]}}:=I2.kept (t' :=s1.toks) fun b o e=>Heap.get?_push_of_some _ e
 refine ⟨s1.heap.objs.size,[s1.heap.objs.size],_,_,_,rfl,I3,xY d _ o kvs dw,(show Heap.IsKeyIter _ _ d 0 kvs.length ep from ⟨_,Heap.get?_push_size _ rfl,rfl,by rw [lv];rfl⟩),fun b hb=>?_,q o⟩
 have eb:b=s1.heap.objs.size:=by simpa using hb
 have le:s1.heap.objs.size<=b:=by rw [eb];exact aac _
 exact I2.mI le (I2.bH.fresh le)
end
theorem xZ {cap:L2.St}(Rel:Nat->V->Hp->Prop)(nD:H1 D=none)(hn:kvs.length < sizeLine)(hX:H1 d=some (.cV o (.dT kvs)))
  (hR:∀i v H H' ys,H D=some (.lst ys)->aL D H H' ->Rel i v H->Rel i v H')
  (he:∀i k y b H (R:VK),kvs[i]? =some (k,y)->H b=some (.tup (k.map kV))->au H1 H->(∃zs,H D=some (.lst zs))->(∀v H6,au H H6->Rel i v H6->R v H6)->te (some (.ref b)::cap) H R)
  (hd:∀zs H,zs.length=kvs.length->(∀i v,zs[i]? =some v->Rel i v H)->au H1 H->H D=some (.lst zs)->Q (.ref D) H):
  jI D (cF 0) jn te (C' d o kvs) (none::cap) H1 Q:=by
 refine ⟨fun i m σ zs H=>m=kvs.length - i/\i<=kvs.length/\(∃o,σ=o::cap)/\(zs.length=i/\(∀i v,zs[i]? =some v->Rel i v H)/\au H1 H)/\H D=some (.lst zs),⟨kvs.length,by simp,abc _,⟨none,rfl⟩,⟨rfl,fun i v e=>by simp at e,fun b o e=>by rw [ao (aq e nD)];exact e⟩,ah⟩,?_⟩
 rintro i m σ zs H ⟨rfl,hi,⟨o1,rfl⟩,⟨l,r,s⟩,hD⟩
 by_cases i8:i < kvs.length
 ·refine .inr ⟨⟨s _ _ hX,i8⟩,fun v H' y=>?_⟩
  obtain ⟨rfl,k,x,b0,q1,rfl,hb0⟩:=y
  unfold cF jn
  dsimp only
  rw [if_pos rfl]
  refine he i k x b0 _ _ q1 hb0 s ⟨zs,hD⟩ fun v H6 s6 rv=>⟨s6 _ _ hD,by omega,kvs.length - (i+1),by omega,rfl,by omega,⟨_,rfl⟩,⟨by simp [l],fun j u e=>?_,fun b o e=>?_⟩,ah⟩
  ·by_cases c:j < zs.length
   ·rw [aap c] at e
    have ru:=hR j u H' H6 zs hD (aL.of fun b o q=>s6 _ _ q) (r j u e)
    exact hR j u H6 _ zs (s6 _ _ hD) aL.upd ru
   ·rw [aaY (by omega)] at e
    have ej:j=i:=by
     by_cases z:j - zs.length=0
     ·omega
     ·rw [aai (by simp;omega)] at e
      cases e
    subst ej
    have:v=u:=by
     rw [show j - zs.length=0 by omega] at e
     exact aao e
    subst this
    exact hR j v H6 _ zs (s6 _ _ hD) aL.upd rv
  ·rw [ao (aq e nD)]
   exact s6 _ _ (s _ _ e)
 ·have e:i=kvs.length:=by omega
  subst e
  exact .inl ⟨⟨s _ _ hX,aac _⟩,hd zs H l r s hD⟩
section
variable {prog:Program}{w:World}{A:Around}{E:γ}{s:Shared}
theorem v3 (hh:A.handled=none)(I d:Addr)(uZ:d≠I)(o:Obj)(es:Δ)(ep:Nat)(mn:o.data=.dict es ep):
  Walks prog w A I [I,d] [I] es.size (fun i v=>∃e,es[i]? =some e/\v=e.key) (fun i h=>h.IsKeyIter I d i es.size ep/\h.get? d=some o) where
 sub:=fun b hb=>by simp at hb;simp [hb]
 frame:=fun _ _ _ st hk=>⟨st.1.at fun o e=>hk I (by simp) o e,hk d (by simp) _ st.2⟩
 item:=fun i s Q E hi st hQ=>by
  have hx:es[i]? =some es[i]:=by simp [hi]
  refine r9 st.1 st.2 mn hx fun h' x3 uY =>?_
  exact hQ _ h' s.toks ⟨_,hx,rfl⟩ ⟨x3,uY.extBut d o uZ st.2⟩ fun b o hb e=>uY.extBut b o (fun h=>hb (by simp [h])) e
 done:=fun s Q E st hQ=>vY hh st.1 st.2 mn (by simp) fun h' he' =>hQ h' s.toks fun b o hb e=>he' b o (fun h=>hb (by simp [h])) e
 self:=fun _ _ _ _ st hQ=>wpAny_pyIter_keyiter st.1 hQ
theorem DB {es:Δ}(lo:(d==sysModules)=false)(hx:o.ExactDict)(mn:o.data=.dict es ep):PySem.W.KdlSrc prog w "dict" d d es.size (fun i v=>∃e,es[i]? =some e/\v=e.key) (fun h=>h.get? d=some o) where
 type:=fun _ hm=>⟨o,hm,hx.1⟩
 there:=fun _ hm=>⟨Heap.lt_size hm,Heap.lt_size hm⟩
 keep:=fun _ _ hm hk=>hk d (.inl rfl) o hm
 notList:=by decide
 notTuple:=by decide
 hint:=fun _ _ _ _ hm hq=>PySem.W.kdl_hint_dict ⟨o,hm,hx.1⟩ hq
 iter:=fun _ _ hh hm=>⟨_,_,(fun _ _ hq=>oW lo hm hx mn hq),v3 hh _ d (aa_ (Heap.lt_size hm)) o es ep mn,⟨⟨_,Heap.get?_push_size _ rfl,rfl,rfl⟩,Heap.get?_push_of_some _ hm⟩⟩
theorem DC {es:Δ}{Q:Ε}(hit:s.heap.IsValIter it d i es.size ep)(qJ:s.heap.get? d=some od)(mn:od.data=.dict es ep)(hx:es[i]? =some e)
  (hQ:∀h',h'.IsValIter it d (i+1) es.size ep->Heap.SameBut it s.heap h' ->Q (some e.val) {s with heap:=h' }):
  wpAny (model prog w) A (pyNext (.ref it)) Q E s:=by
 obtain ⟨o,ho,hc,hd⟩:=id hit
 unfold pyNext
 refine wpAny_bind (wpAny_attempt (wpAny_callSpecial?_slot (name:=Str.ofString "__next__") hit.typeIs F.slot_dict_valueiterator_next
  (wpAny_call_entry F.slot_dict_valueiterator_next hit.typeIs F.entry_dict_valueiterator_next ?_ (F.args_dict_valueiterator_next_1 _))))
 refine wpAny_bind (wpAny_pure ?_)
 refine wpAny_bind ?_
 refine wpAny_bind ?_
 first | refine wpAny_bind (wpAny_typeNameOfWhole_valiter hit.typeIs (wpAny_pure ?_)) | refine wpAny_bind (wpAny_typeNameOf_valiter hit.typeIs (wpAny_pure ?_))
 refine wpAny_bind (wpAny_fieldsOf ho hd ?_)
 have tI:Builtin.Dict_items.ownsTuple "dict_valueiterator"=false:=by decide
 simp only [tI,abC,if_false]
 show wpAny _ _ (if (Value.ref d==Value.none)=true then _ else _) _ _ s
 rw [if_neg (show ¬ ((Value.ref d==Value.none)=true) from aam)]
 refine wpAny_bind (wpAny_pure ?_)
 refine wpAny_bind (wpAny_dictEntries qJ mn ?_)
 rw [if_neg (by simp)]
 refine wpAny_bind (wpAny_pure ?_)
 refine wpAny_bind (wpAny_dictEpoch qJ mn ?_)
 rw [if_neg (by simp)]
 refine wpAny_pure ?_
 simp only [show ¬ ((i:Int) < 0) from by omega,if_false,acG,hx]
 refine wpAny_bind ?_
 first | refine wpAny_bind (wpAny_typeNameOfWhole_valiter hit.typeIs (wpAny_pure ?_)) | refine wpAny_bind (wpAny_typeNameOf_valiter hit.typeIs (wpAny_pure ?_))
 refine wpAny_bind (wpAny_isOneOf_valiter hit.typeIs ?_)
 show wpAny _ _ (setField (.ref it) 1 (rawInt ((i:Int)+1)) >>=_) _ _ s
 refine wpAny_bind (wpAny_setField ho hd (by simp) ?_)
 have x3 :(s.heap.update it (Obj.mapFields (·.setIfInBounds 1 (rawInt ((i:Int)+1))))).IsValIter it d (i+1) es.size ep:=
  ⟨_,Heap.get?_update_self _ ho (Obj.isFreed_of_fields (Obj.data_mapFields hd _)),(Obj.cls_mapFields ..).trans hc,by rw [Obj.data_mapFields hd];simp [rawInt]⟩
 refine wpAny_bind (wpAny_holding ?_)
 refine wpAny_bind (wpAny_isOneOf_valiter (s:={s with heap:=s.heap.update it (Obj.mapFields (·.setIfInBounds 1 (rawInt ((i:Int)+1))))}) x3.typeIs ?_)
 refine wpAny_bind (wpAny_isOneOf_valiter (s:={s with heap:=s.heap.update it (Obj.mapFields (·.setIfInBounds 1 (rawInt ((i:Int)+1))))}) x3.typeIs ?_)
 show wpAny _ _ (pure e.val) _ _ _
 exact wpAny_pure (wpAny_pure ⟨_,rfl,wpAny_pure (hQ _ x3 (Heap.SameBut.update ..))⟩)
theorem JD {es:Δ}{Q:Ε}(hh:A.handled=none)(hit:s.heap.IsValIter it d i es.size ep)(qJ:s.heap.get? d=some od)(mn:od.data=.dict es ep)(hx:es[i]? =none)
  (hQ:∀h',Heap.ExtBut it s.heap h' ->Q none {s with heap:=h' }):wpAny (model prog w) A (pyNext (.ref it)) Q E s:=by
 obtain ⟨hp,g,dr,tk,os⟩:=s
 obtain ⟨⟨oc,odd,UP,mK⟩,GQ,Oy,Jz⟩:=id hit
 have JA :oc=.type "dict_valueiterator":=Oy
 have JB :UP=.fields #[.ref d,.int (i:Int) 0,.int (es.size:Int) 0,.int (ep:Int) 0]:=Jz
 subst JA JB
 have hT:Shared.TypeIs ⟨hp,g,dr,tk,os⟩ (.ref it) "dict_valueiterator":=⟨_,GQ,Oy⟩
 unfold pyNext
 refine wpAny_bind (wpAny_attempt (wpAny_callSpecial?_slot (name:=Str.ofString "__next__") hT F.slot_dict_valueiterator_next
  (wpAny_call_entry F.slot_dict_valueiterator_next hT F.entry_dict_valueiterator_next ?_ (F.args_dict_valueiterator_next_1 _))))
 refine wpAny_bind (wpAny_pure ?_)
 refine wpAny_bind ?_
 refine wpAny_bind ?_
 first | refine wpAny_bind (wpAny_typeNameOfWhole_valiter hT (wpAny_pure ?_)) | refine wpAny_bind (wpAny_typeNameOf_valiter hT (wpAny_pure ?_))
 refine wpAny_bind (wpAny_fieldsOf GQ Jz ?_)
 have tI:Builtin.Dict_items.ownsTuple "dict_valueiterator"=false:=by decide
 simp only [tI,abC,if_false]
 show wpAny _ _ (if (Value.ref d==Value.none)=true then _ else _) _ _ _
 rw [if_neg (show ¬ ((Value.ref d==Value.none)=true) from aam)]
 refine wpAny_bind (wpAny_pure ?_)
 refine wpAny_bind (wpAny_dictEntries qJ mn ?_)
 rw [if_neg (by simp)]
 refine wpAny_bind (wpAny_pure ?_)
 refine wpAny_bind (wpAny_dictEpoch qJ mn ?_)
 rw [if_neg (by simp)]
 refine wpAny_pure ?_
 simp only [show ¬ ((i:Int) < 0) from by omega,if_false,acG,hx]
 refine wpAny_bind ?_
 first | refine wpAny_bind (wpAny_typeNameOfWhole_valiter hT (wpAny_pure ?_)) | refine wpAny_bind (wpAny_typeNameOf_valiter hT (wpAny_pure ?_))
 show wpAny _ _ (setField (.ref it) 0 Value.none >>=_) _ _ ⟨hp,g,dr,tk,os⟩
 refine wpAny_bind (wpAny_setField GQ Jz (by simp) ?_)
 have nH:Heap.SameBut it hp (hp.update it (Obj.mapFields fun xX=>xX.setIfInBounds 0 Value.none)):=Heap.SameBut.update _ _ _
 generalize (hp.update it (Obj.mapFields fun xX=>xX.setIfInBounds 0 Value.none))=h₁ at nH ⊢
 unfold newExc
 refine wpAny_bind (wpAny_bind (wpAny_newTuple ?_))
 refine wpAny_bind ?_
 unfold firstArgMember
 refine wpAny_bind (wpAny_pure (wpAny_pure ?_))
 have hv:∀b:Bool,(if b=true then ([]:List Value).headD Value.none else Value.none)=Value.none:=fun b=>by cases b <;> rfl
 rw [hv]
 first
 | refine wpAny_alloc ?_
 | wp_step
 have own:ownMembersOf (Value.type "StopIteration") []= #[]:=by first | rfl | decide+kernel
 rw [own]
 rw [if_neg (by show ¬ (6 > sizeLine+2);decide)]
 show wpAny _ _ (newObjAsIs (Value.type "StopIteration") _) _ _ _
 wp_step
 refine wpAny_bind (wpAny_alloc ?_)
 refine wpAny_pure ?_
 refine wpAny_raiseNew_none (A:=A.in1) hh ?_
 refine wpAny_bind (wpAny_isInstance (T:="StopIteration") (b:=true) ⟨_,Heap.get?_push_size _ rfl,rfl⟩ isSubtype_stop ?_)
 exact wpAny_pure (hQ _ fun c o1 n x=>Heap.get?_push_of_some _ (Heap.get?_push_of_some _ (nH.extBut c o1 n x)))
theorem x4 {es:Δ}{Q:γ}(hv:s.heap.IsValuesView v d)(ho:s.heap.get? d=some o)(dw:o.data=.dict es ep)
  (hQ:Q (.ref s.heap.objs.size) {s with heap:=s.heap.push {cls:=.type "dict_valueiterator",data:=.fields #[.ref d,.int 0 0,.int (es.size:Int) 0,.int (ep:Int) 0]}}):
  wpAny (model prog w) A (pyIter (.ref v)) Q E s:=by
 obtain ⟨ov,hov,hcv,hdv⟩:=id hv
 refine wpAny_pyIter_slot hv.typeIs F.slot_dict_values_iter (wpAny_call_entry F.slot_dict_values_iter hv.typeIs F.entry_dict_values_iter ?_ (F.args_dict_values_iter_1 _))
 unfold Builtin.«dict_values.__iter__»
 refine wpAny_bind (wpAny_pure ?_)
 refine wpAny_bind ?_
 unfold Builtin.Dict_items.dictOf
 refine wpAny_bind (wpAny_field hov hdv (x:=.ref d) rfl (wpAny_pure ?_))
 refine wpAny_bind ?_
 unfold Builtin.Dict_items.newIterator
 refine wpAny_bind (wpAny_dictEntries ho dw ?_)
 refine wpAny_bind (wpAny_dictEpoch ho dw ?_)
 have tI:Builtin.Dict_items.ownsTuple "dict_valueiterator"=false:=by decide
 simp only [tI,abC,if_false]
 refine wpAny_newObj_type (wpAny_pure ⟨_,rfl,"dict_valueiterator",_,⟨_,Heap.get?_push_size _ rfl,rfl⟩,F.slot_dict_valueiterator_next.lookup,?_⟩)
 simpa [rawInt] using hQ
theorem v7 (hh:A.handled=none)(I d:Addr)(uZ:d≠I)(o:Obj)(es:Δ)(ep:Nat)(mn:o.data=.dict es ep):
  Walks prog w A I [I,d] [I] es.size (fun i v=>∃e,es[i]? =some e/\v=e.val) (fun i h=>h.IsValIter I d i es.size ep/\h.get? d=some o) where
 sub:=fun b hb=>by simp at hb;simp [hb]
 frame:=fun _ _ _ st hk=>⟨st.1.at fun o e=>hk I (by simp) o e,hk d (by simp) _ st.2⟩
 item:=fun i s Q E hi st hQ=>by
  have hx:es[i]? =some es[i]:=by simp [hi]
  refine DC st.1 st.2 mn hx fun h' x3 uY =>?_
  exact hQ _ h' s.toks ⟨_,hx,rfl⟩ ⟨x3,uY.extBut d o uZ st.2⟩ fun b o hb e=>uY.extBut b o (fun h=>hb (by simp [h])) e
 done:=fun s Q E st hQ=>JD hh st.1 st.2 mn (by simp) fun h' he' =>hQ h' s.toks fun b o hb e=>he' b o (fun h=>hb (by simp [h])) e
 self:=fun _ _ _ _ st hQ=>wpAny_pyIter_valiter st.1 hQ
theorem DE {es:Δ}(mn:o.data=.dict es ep):PySem.W.KdlSrc prog w "dict_values" r d es.size (fun i v=>∃e,es[i]? =some e/\v=e.val) (fun h=>h.IsValuesView r d/\h.get? d=some o) where
 type:=fun _ hm=>hm.1.typeIs
 there:=fun _ hm=>⟨let ⟨_,ho,_⟩:=hm.1;Heap.lt_size ho,Heap.lt_size hm.2⟩
 keep:=fun _ _ hm hk=>⟨let ⟨o,ho,x⟩:=hm.1;⟨o,hk r (.inl rfl) o ho,x⟩,hk d (.inr rfl) o hm.2⟩
 notList:=by decide
 notTuple:=by decide
 hint:=fun _ _ _ _ hm hq=>PySem.W.kdl_hint_values hm.1.typeIs hq
 iter:=fun _ _ hh hm=>⟨_,_,(fun _ _ hq=>x4 hm.1 hm.2 mn hq),v7 hh _ d (aa_ (Heap.lt_size hm.2)) o es ep mn,⟨⟨_,Heap.get?_push_size _ rfl,rfl,rfl⟩,Heap.get?_push_of_some _ hm.2⟩⟩
theorem v8 (d:Addr)(hd:(d==sysModules)=false):
  MeetsIn prog w (Builtin.«dict.values» ⟨[.ref d],[]⟩) (fun _ R s=>s.TypeIs (.ref d) "dict"/\
   R (.ok (.ret (.ref s.heap.objs.size))) {s with heap:=s.heap.push {cls:=.type "dict_values",data:=.fields #[.ref d]}}):=
 .of_wp fun A R s ⟨hT,h⟩=>by
  refine wpAny_bind ?_
  unfold Builtin.Dict.noArgs
  refine wpAny_bind (wpAny_notOrdered_dict hT ?_)
  show wpAny _ _ (pure d) _ _ s
  refine wpAny_pure ?_
  show wpAny _ _ (Builtin.Dict.showsAll d >>=_) _ _ s
  unfold Builtin.Dict.showsAll
  rw [if_neg (by rw [hd];exact aam)]
  refine wpAny_bind (wpAny_pure ?_)
  exact wpAny_bind (wpAny_newObj_type (wpAny_pure ⟨_,rfl,h⟩))
end
section
variable {X:Cx}
inductive zM (xs:η)(H:Hp)(Q:VK):Prop where
 | mk (p:Addr) (kvs:ν) (_:xs=[.ref p]) (_:Rd H p (.dT kvs)) (_:∀l us,H l=none->Paired (fun u (kv:Φ)=>∃b,u=.ref b/\H b=some (.tup (kv.1.map kV))) us kvs->Q (.ref l) (upd H l (.lst us))):zM xs H Q
theorem iD (hc:X.calm=true):fe X (.type "list") zM:=by
 intro pins s σ H xs us Q I r h
 obtain ⟨p,kvs,rfl,hq,q⟩:=h
 obtain ⟨u,rfl,r1⟩:=vals1 r
 cases r1
 obtain ⟨z,hd,ks,rel,o,es,ep,ho,hx,dw,hk,_,hn⟩:=mf I.bH hq
 have hl:kvs.length=ks.length:=Paired.length rel
 have he:es.size=ks.length:=by
  have:=congrArg abR hk
  simpa using this
 refine PySem.W.kdl_call (DB hd hx dw) (I.ok.hd hc) ho (by omega) fun h' tk fC c' kk hS jK=>?_
 have PD :=I.bH.fresh (aac s.heap.objs.size)
 have la:fC.toList.length=kvs.length:=by rw [acg,jK.1];omega
 have at' :∀(i:Nat) (v:Value) (kv:Φ),fC.toList[i]? =some v->kvs[i]? =some kv->∃b,v=.ref b/\H b=some (.tup (kv.1.map kV)):=fun i v kv e1 e2=>by
  obtain ⟨x,ex,e3,hb,_⟩:=aw rel e2
  obtain ⟨e,ee,rfl⟩:=jK.2 i v (by simpa using e1)
  have e5:es[i]? =some (entryOfKey (tupleKind (bw X.prog X.w)) x):=by
   rw [<- acD,hk,Wp,ex]
   rfl
  rw [e5] at ee
  cases ee
  exact ⟨x.2.1,rfl,hb⟩
 have vs:∀(l:π) (m:ν),l.length=m.length->(∀(i:Nat) (v:Value) (kv:Φ),l[i]? =some v->m[i]? =some kv->∃b,v=.ref b/\H b=some (.tup (kv.1.map kV)))->∃us:List V,Vals us l/\Paired (fun u (kv:Φ)=>∃b,u=.ref b/\H b=some (.tup (kv.1.map kV))) us m:=by
  intro l
  induction l with
  | nil=>
   intro m hm _
   cases m with
   | nil=>exact ⟨[],.nil,.nil⟩
   | cons _ _=>simp at hm
  | cons v l ih=>
   intro m hm hv
   cases m with
   | nil=>simp at hm
   | cons kv m=>
    obtain ⟨us,h1,h2⟩:=ih m (by simpa using hm) fun i v kv e1 e2=>hv (i+1) v kv (by simpa using e1) (by simpa using e2)
    obtain ⟨b,rfl,hb⟩:=hv 0 v kv rfl rfl
    exact ⟨.ref b::us,.cons rfl h1,.cons ⟨b,rfl,hb⟩ h2⟩
 obtain ⟨us,rv,pu⟩:=vs _ _ la at'
 have lu:us.length=kvs.length:=Paired.length pu
 have I2:L2.Inv X pins σ (upd H s.heap.objs.size (.lst us)) {s with heap:=h',toks:=tk}:=I.laid (t' :=tk) kk (aac _) ⟨by rw [lu];exact z,fC.toList,c',rv,by simpa using hS⟩
 exact ⟨.ref _,_,I2,rfl,q _ us PD pu⟩
inductive v9 (Q:VK)(x:V)(H1:Hp):Prop where
 | mk (d kvs:_) (_:x=.ref d) (_:H1 d=some (.dT kvs)) (_:∀l,H1 l=none->Q (.ref l) (upd H1 l (.lst (kvs.map fun kv=>kv.2)))):v9 Q x H1
def MF (te:TE):TE:=fun σ H Q=>te σ H fun x H1=>v9 Q x H1
theorem DF {apos cH p pos:Pos}(hc:X.calm=true)(hg:Gl X "list")(hm:X.mg "list"=none)(ho:PE X e te)(iz:attributeBase e "values" X.env (eval e X.env)=eval e X.env:=by rfl)(iA:(apos.endLine==cH.line)=true:=by rfl)
  (hs:starEach [(.Call (.Attribute e "values" apos) [] [] cH:Expr)] X.env=[(false,eval (.Call (.Attribute e "values" apos) [] [] cH) X.env)]:=by rfl):
  PE X (.Call (.Name "list" p) [.Call (.Attribute e "values" apos) [] [] cH] [] pos) (MF te):=by
 intro pins s σ H Q I h
 refine Call_ (gM I hg hm boot_list (PyProof.Rows.callWith_type1 ?_ hs rfl))
 rw [hs]
 show wpAny _ _ (spliced ((false,eval (.Call (.Attribute e "values" apos) [] [] cH) X.env)::[])) _ _ s
 refine Calls.spliced_cons ?_
 refine wpAny_Call_method0_late iz iA (cq (ho pins s σ H _ I h) fun v s1 ⟨x,H1,I1,r1,q1⟩=>?_)
 obtain ⟨d,kvs,rfl,e,q⟩:=q1
 cases r1
 obtain ⟨h1,h2,hd⟩:=oJ I1 (.inr ⟨kvs,.inl e⟩)
 obtain ⟨z,G',ks,rel,o,es,ep,xk,hx,dw,hk,_,hn⟩:=IX I1.bH e
 have hl:kvs.length=ks.length:=Paired.length rel
 have he:es.size=ks.length:=by
  have:=congrArg abR hk
  simpa using this
 refine ⟨"dict","dict.values",F.plainAttrs_dict,F.slot_dict_values,F.type_dict_values,h1,h2,Calls.callWith_builtin rfl (PySem.evalArgs_none ?_)⟩
 refine call_meetsIn F.slot_dict_values h1 F.entry_dict_values (F.args_dict_values_1 _) (v8 d hd) ⟨h1,Calls.spliced_nil ?_⟩
 have I2:L2.Inv X pins σ H1 {s1 with heap:=s1.heap.push {cls:=.type "dict_values",data:=.fields #[.ref d]},toks:=s1.toks}:=I1.kept (t' :=s1.toks) fun b o e=>Heap.get?_push_of_some _ e
 refine PySem.W.kdl_call (s:={s1 with heap:=s1.heap.push {cls:=.type "dict_values",data:=.fields #[.ref d]}}) (DE (r:=s1.heap.objs.size) dw) (I1.ok.hd hc) ⟨⟨_,Heap.get?_push_size _ rfl,rfl,rfl⟩,Heap.get?_push_of_some _ xk⟩ (by omega) fun h' tk fC c' kk hS jK=>?_
 have PD :=I2.bH.fresh (aac (s1.heap.push {cls:=.type "dict_values",data:=.fields #[.ref d]}).objs.size)
 have rv:Vals (kvs.map fun kv=>kv.2) fC.toList:=dy (by have:=jK.1;simp;omega) fun i a b e1 e2=>by
  rw [Wp] at e1
  obtain ⟨kv,ek,rfl⟩:=aal.mp e1
  obtain ⟨x,ex,e3,_,ru⟩:=aw rel ek
  obtain ⟨en,ee,rfl⟩:=jK.2 i b (by simpa using e2)
  have e5:es[i]? =some (entryOfKey (tupleKind (bw X.prog X.w)) x):=by
   rw [<- acD,hk,Wp,ex]
   rfl
  rw [e5] at ee
  cases ee
  exact ru
 have I3:=I2.laid (t' :=tk) (o:=.lst (kvs.map fun kv=>kv.2)) kk (aac _) ⟨by rw [aaa];exact z,fC.toList,c',rv,by simpa using hS⟩
 exact ⟨.ref _,_,I3,rfl,q _ PD⟩
theorem MG {K:Frag}(h:X.K=K):TY X (P6 K):=by subst h;exact xE
theorem JE {vy:Pos}(hN:X.N.Nodup)(Ui:X.N[i]? =some y)(hx:Loc X.env.scope y)
  (hc:X.calm=true) (B:Qp X scope yc fr caps) (hi:PI X target iter wi)
  (hg:∀C s H fp,PG (Qo X (tn++fr) scope yc (bG X.env fr) C s H fp) target g) (ht:∀C s H fp,PF (Qo X (tn++fr) scope yc (bG X.env fr) C s H fp) ifs tt) (he:∀C s H fp,PE (Qo X (tn++fr) scope yc (bG X.env fr) C s H fp) elt te)
  (CB:swapsWith (.ListComp elt [⟨target,iter,ifs,0⟩] scope pos) (some (.Name y py)) vy.line X.env=pure true:=by rfl)
  (hs:∀x,foldedSetIterable iter X.env x=pure x:=by intro _;rfl) (hf:X.fn y=true\/X.env.scope.names.lookup y=some .local:=by first | exact .inl rfl | exact .inr rfl | assumption):
  PS X (.Assign [.Name y py] (.ListComp elt [⟨target,iter,ifs,0⟩] scope pos) vy) (HE (vw tn.length caps wi g tt te) (cF i)):=
 vx hN Ui hx hc B.g hi hg ht he CB hs hf
end
def QP (H0:Hp)(t:TS):TS:=fun D σ H=>t {D with rt:=fun v H' =>∃d o kvs,H' d=some (.cV o (.dT kvs))/\(∀o' u',H0 d≠some (.cV o' u'))/\D.rt v (upd H' d (.dT kvs))} σ H
theorem JF {st:Stmt}(h:PS X st t):PS X st (QP X.H₀ t):=by
 intro pins s σ H D I q
 refine wpAny_mono (h pins s σ H _ I q) (fun f s' z=>?_) fun _ _ z=>z
 cases f with
 | next=>exact z
 | brk=>exact z
 | cont=>exact z
 | ret u=>
  obtain ⟨v,σ',H',I',r,d,o,kvs,e,n,k⟩:=z
  exact ⟨v,σ',_,Inv.Jm I' e n (fun _ z=>nomatch z),r,k⟩
theorem v_ {cap:L2.St}(p:Nat->Bool)(nD:H1 D=none)(hn:n < sizeLine)
  (ht:∀i H (R:Bool->Hp->Prop),i < n->au H1 H->(∀H',au H H' ->R (p i) H')->tt (some (.int (i:Int))::cap) H R)
  (he:∀i H (R:VK),R (.int (i:Int)) H->te (some (.int (i:Int))::cap) H R)
  (hd:∀H,au H1 H->H D=some (.lst (((abJ n).filter p).map fun i:Nat=>V.int (i:Int)))->Q (.ref D) H):
  jI D (cF 0) tt te (PR 0 n) (none::cap) H1 Q:=by
 refine ⟨fun i m σ ys H=>m=n - i/\i<=n/\(∃o,σ=o::cap)/\au H1 H/\H D=some (.lst ys)/\ys=((abJ i).filter p).map fun i:Nat=>V.int (i:Int),⟨n,by simp,abc _,⟨none,rfl⟩,fun b o e=>by rw [ao (aq e nD)];exact e,ah,rfl⟩,?_⟩
 rintro i m σ ys H ⟨rfl,hi,⟨o,rfl⟩,s,hD,ey⟩
 by_cases i8:i < n
 ·refine .inr ⟨i8,fun v H' y=>?_⟩
  obtain ⟨rfl,rfl⟩:=y
  rw [abn]
  unfold cF
  refine ht i _ _ i8 s fun H2 s2=>?_
  have zE:au H1 H2:=fun b o e=>s2 _ _ (s _ _ e)
  have ly:ys.length<=i:=by
   rw [ey,aaa]
   have:=ab0 p (abJ i)
   rw [ad_] at this
   exact this
  by_cases c:p i=true
  ·rw [if_pos c]
   refine he i _ _ ⟨s2 _ _ hD,by omega,n - (i+1),by omega,rfl,by omega,⟨_,rfl⟩,?_,ah,?_⟩
   ·exact fun b o e=>by
     rw [ao (aq e nD)]
     exact zE _ _ e
   ·rw [ah9,acz,acb c,ey,aa3]
    rfl
  ·rw [if_neg c]
   refine ⟨n - (i+1),by omega,rfl,by omega,⟨_,rfl⟩,zE,s2 _ _ hD,?_⟩
   rw [ah9,acz,acd c,ey,List.filter_nil,ac2]
 ·have e:i=n:=by omega
  subst e
  rw [ey] at hD
  exact .inl ⟨aac _,hd H s hD⟩
section
variable {prog:Program}{w:World}{K:Type}[DecidableEq K]
theorem tJ (knd:KeyKind prog w K)(d:Addr):MeetsIn prog w (Builtin.«dict.clear» ⟨[.ref d],[]⟩) (fun _ R s=>∃(o:Obj) (es:Δ) (ep:Nat),s.TypeIs (.ref d) "dict"/\s.heap.get? d=some o/\o.ExactDict/\o.data=.dict es ep/\es.size<=sizeLine/\
   ∀h',h'.DictOf knd d []->Heap.SameBut d s.heap h' ->R (.ok (.ret .none)) {s with heap:=h' }):=
 .of_wp fun A R s ⟨o,es,ep,hT,ho,hc,dw,ZX,h⟩=>by
  unfold Builtin.«dict.clear»
  refine wpAny_bind ?_
  unfold Builtin.Dict.noArgs
  refine wpAny_bind (wpAny_notOrdered_dict hT ?_)
  show wpAny _ _ (pure d) _ _ s
  refine wpAny_pure ?_
  refine wpAny_bind (wpAny_dictEntries ho dw ?_)
  refine wpAny_bind ?_
  unfold bearsInstanceDictMark
  refine wpAny_bind (wpAny_load ho (wpAny_pure ?_))
  refine wpAny_bind (wpAny_updateDictKeys (hz:=ZX) ho dw ?_)
  have Md:(s.heap.update d (Obj.mapDictKeys fun _=> #[])).DictOf knd d []:=
   ⟨_,_,ep+1,Heap.get?_update_self _ ho (Obj.isFreed_of_dict (Obj.data_mapDictKeys dw _)),hc.mapDictKeys _,Obj.data_mapDictKeys dw _,fun _ he=>by simp at he,Pairs.nil,acv⟩
  split
  ·exact wpAny_bind (wpAny_letGo (wpAny_pure ⟨.none,rfl,h _ Md (Heap.SameBut.update ..)⟩))
  ·exact wpAny_bind (wpAny_pure (wpAny_pure ⟨.none,rfl,h _ Md (Heap.SameBut.update ..)⟩))
end
section
variable {X:Cx}
inductive wc (Q:VK)(x:V)(H1:Hp):Prop where
 | mk (d kvs:_) (_:x=.ref d) (_:H1 d=some (.dT kvs)) (_:Q .cw (upd H1 d (.dK []))):wc Q x H1
def MI (te:TE):TE:=fun σ H Q=>te σ H fun x H1=>wc Q x H1
theorem DG {apos cH:Pos}(ho:PE X e te)(iz:attributeBase e "clear" X.env (eval e X.env)=eval e X.env:=by rfl)(iA:(apos.endLine==cH.line)=true:=by rfl):
  PE X (.Call (.Attribute e "clear" apos) [] [] cH) (MI te):=by
 intro pins s σ H Q I h
 refine wpAny_Call_method0_late iz iA (cq (ho pins s σ H _ I h) fun v s1 ⟨x,H1,I1,r1,q1⟩=>?_)
 obtain ⟨d,kvs,rfl,e,q⟩:=q1
 cases r1
 obtain ⟨h1,h2,hd⟩:=oJ I1 (.inr ⟨kvs,.inl e⟩)
 obtain ⟨z,G',ks,rel,o,es,ep,xk,hx,dw,hk,_,hn⟩:=IX I1.bH e
 have hl:kvs.length=ks.length:=Paired.length rel
 have he:es.size=ks.length:=by
  have:=congrArg abR hk
  simpa using this
 refine ⟨"dict","dict.clear",F.plainAttrs_dict,F.slot_dict_clear,F.type_dict_clear,h1,h2,Calls.callWith_builtin rfl (PySem.evalArgs_none ?_)⟩
 refine call_meetsIn F.slot_dict_clear h1 F.entry_dict_clear (F.args_dict_clear_1 _) (tJ (bw X.prog X.w) d) ⟨o,es,ep,h1,xk,hx,dw,by omega,fun h' xj hs=>?_⟩
 have he:∃q,h'.get? d=some q:=let ⟨q,_,_,hq,_⟩:=xj;⟨q,hq⟩
 exact ⟨.cw,_,gP (t' :=s1.toks) I1 (by rw [e];exact True.intro) hs he (kI (abc _) hd .nil xj),rfl,q⟩
end
end Ty
set_option maxHeartbeats 4000000
namespace T_k44
open PySem PySem.Spec PyProof.Rows L2 Ty
open Builtin.Int (intBits)
seal L2.PE L2.PS L2.PSs L2.PA
abbrev zaa:List Str:=["_law_pins_here","_law_bars_here","_law_pulls","_law_pushes"]
abbrev zab:List Str:=["_law_cell","_law_prime","_law_many"]
abbrev zac:List Str:=["_law_frame_here","_law_pins_here","_law_name_here","_law_spot_here","_law_ways_here"]
abbrev zad:List Str:=["_law_one_here","_law_other"]
abbrev zae:List Str:=["one","other"]
abbrev zaf:List Str:=["_law_frame_here","_law_pins_here","_law_bars_here","_law_cell"]
abbrev zag:List Str:=["self"]
abbrev zah:List Str:=["_law_frame_here","_law_pins_here","_law_gone","_law_cell"]
abbrev zai:List Str:=["_law_pins_here","_law_bars_here","_law_told","_law_pair"]
abbrev zaj:List Str:=["_law_found","_law_k","_law_axis","_law_draw"]
abbrev zak:List Str:=["self","name","one","other"]
abbrev zal:List Str:=["self","pin"]
abbrev zam:List Str:=["_law_pins_here","_law_bar","_law_axis"]
abbrev zan:List Str:=["F","one","other"]
abbrev zao:List Str:=["_law_pins_here","_law_bars_here","_law_told"]
abbrev zap:List Str:=["self","name","x","y","hold"]
abbrev zaq:List Str:=["_law_pins_here","_law_told","_law_free"]
abbrev zar:List Str:=["_law_top","_law_bottom"]
abbrev zas:List Str:=["_law_script","_law_k"]
abbrev zat:List Str:=["_law_pins_here","_law_bars_here"]
abbrev zau:List Str:=["_law_one_here"]
abbrev zav:List Str:=["_law_script","_law_pins_here"]
abbrev zaw:List Str:=["line","lead","column"]
abbrev zax:List Str:=["F","numbers"]
abbrev zay:List Str:=["rows","many"]
abbrev zaz:List Str:=["self","x","y"]
abbrev zaA:List Str:=["_law_cell","_law_k"]
abbrev zaB:List Str:=["self","name"]
abbrev zaC:List Str:=["needed","column","many"]
abbrev zaD:List Str:=["_law_cell","_law_kind"]
abbrev zaE:List Str:=["top","bottom"]
abbrev zaF:List Str:=["F"]
abbrev zaG:List Str:=["_law_cell","_law_k","_law_style","_law_at"]
abbrev zaH:List Str:=["_law_script"]
abbrev zaI:List Str:=["_law_pin"]
abbrev zaJ:List Str:=["lines","many"]
abbrev zaK:List Str:=["lines","column"]
abbrev zaL:List Str:=["share","whole","line","column"]
abbrev zaM:List Str:=["F","draws"]
abbrev zaN:List Str:=["_law_cell"]
abbrev zaO:List Str:=["whole","other","times","less"]
abbrev zaP:List Str:=["row"]
abbrev zaQ:List Str:=["_law_bar"]
abbrev zaR:List Str:=["self","bar"]
abbrev zaS:List Str:=["at","many"]
theorem sq {N P:ρ}{sc:Scope}(a:sc.kind=.function:=by exact rfl)(b:sc.isCoroutine=false:=by exact rfl)(c:sc.isGenerator=false:=by exact rfl)(d:N.Nodup:=by decide+kernel)(e:N.take P.length=P:=by exact rfl)(f:∀x∈P,sc.names.lookup x=some .local\/sc.names.lookup x=some .cell:=by decide+kernel)(g:∀y∈sc.names,y.2≠.free:=by decide+kernel):aE N P sc:=⟨a,b,c,d,e,f,g⟩
theorem pY (P:Program)(w:World){X:Cx}:Passes (a_ P w) X.yX E0:=vv a_.mM
theorem pX {X:Cx}:Passes (a_ P w) X.yX E0:=vv a_.mM
theorem _root_.L2.cC.mo (r:L2.cC k A)(h:j<=k:=by decide):L2.cC j A:=r.mono h
theorem aR (h:PE X a ta):PE X (.Subscript a (.Constant (.int i) j p1) p2) (PV (HU X.K) ta (tC (.int i))):=bo om h ak (fun _ _=>rfl)
theorem zN (h:PE X a ta):PE X (.Subscript a (.Constant (.int i) j p1) p2) (PV (Ma X.K) ta (tC (.int i))):=bo aY h ak (fun _ _=>rfl)
theorem bl1{P:List Value->Prop}(h:∀a:Value,P [a]):∀us:List Value,us.length=1->P us|[_],_=>h _
theorem blS{P:List Value->Prop}{n:Nat}(h:∀a us,us.length=n->P (a::us)):∀us:List Value,us.length=n+1->P us|a::us,e=>h a us (Nat.succ.inj e)
theorem bl2{P:List Value->Prop}(h:∀a b:Value,P [a,b]):∀us:List Value,us.length=2->P us:=blS fun a=>bl1 (h a)
theorem bl3{P:List Value->Prop}(h:∀a b c:Value,P [a,b,c]):∀us:List Value,us.length=3->P us:=blS fun a=>bl2 (h a)
theorem bl4{P:List Value->Prop}(h:∀a b c d:Value,P [a,b,c,d]):∀us:List Value,us.length=4->P us:=blS fun a=>bl3 (h a)
theorem bl5{P:List Value->Prop}(h:∀a b c d e:Value,P [a,b,c,d,e]):∀us:List Value,us.length=5->P us:=blS fun a=>bl4 (h a)
theorem bl6{P:List Value->Prop}(h:∀a b c d e f:Value,P [a,b,c,d,e,f]):∀us:List Value,us.length=6->P us:=blS fun a=>bl5 (h a)
theorem bl7{P:List Value->Prop}(h:∀a b c d e f g:Value,P [a,b,c,d,e,f,g]):∀us:List Value,us.length=7->P us:=blS fun a=>bl6 (h a)
theorem _root_.L2.m8.x6 {K:Frag}{st:Stmt}(F:L2.m8 K x qual st f fd)
 (h:∀(kV doc pm:Value) (an:Ι) (bJ ct:Value) (us:π),us.length=ps.length->bindArgs (fnOf x qual (aA st) (ay st) (ag st) .none kV doc pm an bJ ct) ⟨us,[]⟩=pure (ps.zip us):=by first | exact fun _ _ _ _ _ _=>bl1 fun _=>rfl | exact fun _ _ _ _ _ _=>bl2 fun _ _=>rfl | exact fun _ _ _ _ _ _=>bl3 fun _ _ _=>rfl | exact fun _ _ _ _ _ _=>bl4 fun _ _ _ _=>rfl | exact fun _ _ _ _ _ _=>bl5 fun _ _ _ _ _=>rfl):Binds K fd ps []:=F.binds h
inductive HXx (K:Frag)(x:Str)(st:Stmt):Prop|mk{f:Addr}{oc:Value}{od an:Ι}{mK:Κ}{kV doc pm bJ ct:Value}(a:nsIn K mainGlobals x=some (some (.ref f)))(l:K.lookup f=some ⟨oc,od,.func (fnOf x x (aA st) (ay st) (ag st) .none kV doc pm an bJ ct),mK⟩)(c:codeIn K bJ x=true)(k:keepIn K (.ref f)=true):HXx K x st
inductive HXy (K:Frag)(C:Addr)(x q:Str)(st:Stmt):Prop|mk{f:Addr}{oc:Value}{od an:Ι}{mK:Κ}{kV doc pm bJ ct:Value}(a:PySem.W.findIn K (.ref C) x=some (some (.ref f)))(i:PySem.W.isFn K (.ref f)=true)(l:K.lookup f=some ⟨oc,od,.func (fnOf x q (aA st) (ay st) (ag st) .none kV doc pm an bJ ct),mK⟩)(c:codeIn K bJ q=true)(k:keepIn K (.ref f)=true):HXy K C x q st
theorem fW {K:Frag}{mg:ι}{st:Stmt}(X:K.In h)(G:h.Ns mainGlobals mg)(H:HXx K x st)
 (b:∀(kV doc pm:Value) (an:Ι) (bJ ct:Value) (us:π),us.length=ps.length->bindArgs (fnOf x x (aA st) (ay st) (ag st) .none kV doc pm an bJ ct) ⟨us,[]⟩=pure (ps.zip us):=by first | exact fun _ _ _ _ _ _=>bl1 fun _=>rfl | exact fun _ _ _ _ _ _=>bl2 fun _ _=>rfl | exact fun _ _ _ _ _ _=>bl3 fun _ _ _=>rfl | exact fun _ _ _ _ _ _=>bl4 fun _ _ _ _=>rfl | exact fun _ _ _ _ _ _=>bl5 fun _ _ _ _ _=>rfl | exact fun _ _ _ _ _ _=>bl6 fun _ _ _ _ _ _=>rfl | exact fun _ _ _ _ _ _=>bl7 fun _ _ _ _ _ _ _=>rfl):Def K mg x st ps:=have ⟨a,l,c,k⟩:=H;Def.of (cX l c k) ((cX l c k).binds b) (mg_of X G a)
def top (i:Nat):Stmt:=PySem.Challenge.pw_trussyard_k44_pairs_that_stay.main.body.getD i (.Pass ⟨0,0,0,0⟩)
abbrev x8:Stmt:=top 14
abbrev wd:Stmt:=top 15
abbrev DH:Stmt:=top 16
abbrev DI:Stmt:=top 19
abbrev x9:Stmt:=top 20
abbrev eT:Stmt:=top 22
abbrev DJ:Stmt:=top 23
abbrev DK:Stmt:=top 24
abbrev DL:Stmt:=top 25
abbrev DM:Stmt:=top 26
abbrev DN:Stmt:=top 27
abbrev cv:Stmt:=top 29
abbrev dz:Stmt:=top 30
abbrev b_:Stmt:=top 31
abbrev DO:Stmt:=top 32
abbrev d3:Stmt:=top 33
abbrev DP:Stmt:=top 34
abbrev DQ:Stmt:=top 35
abbrev DR:Stmt:=top 36
abbrev DS:Stmt:=top 37
abbrev dA:Stmt:=top 39
abbrev eU:Stmt:=top 40
abbrev DT:Stmt:=top 50
abbrev DU:Stmt:=top 51
abbrev DV:Stmt:=top 52
abbrev DW:Stmt:=top 53
abbrev DX:Stmt:=top 54
abbrev DY:Stmt:=top 55
abbrev x_:Stmt:=top 56
abbrev DZ:Stmt:=top 57
abbrev D_:Stmt:=top 58
abbrev D':Stmt:=top 59
abbrev EA:Stmt:=top 60
abbrev EB:Stmt:=top 61
abbrev EC:Stmt:=top 62
abbrev ED:Stmt:=top 63
abbrev EE:Stmt:=top 64
abbrev EF:Stmt:=top 65
abbrev EG:Stmt:=top 66
abbrev fH:Stmt:=top 67
abbrev EH:Stmt:=top 68
abbrev dB:Stmt:=top 69
abbrev cR:Stmt:=top 70
abbrev cS:Stmt:=top 71
abbrev dC:Stmt:=top 72
abbrev jO:Stmt:=top 73
abbrev EI:Stmt:=inClass (top 44) 0
abbrev mO:Stmt:=inClass (top 44) 1
abbrev EJ:Stmt:=inClass (top 44) 2
abbrev EK:Stmt:=inClass (top 44) 3
abbrev EL:Stmt:=inClass (top 44) 4
abbrev EM:Stmt:=inClass (top 44) 5
abbrev cb:Stmt:=inClass (top 44) 6
abbrev EN:Stmt:=inClass (top 44) 7
abbrev EO:Stmt:=inClass (top 44) 8
abbrev ER:Stmt:=inClass (top 44) 9
abbrev ES:Stmt:=inClass (top 44) 10
abbrev ET:Stmt:=inClass (top 44) 11
abbrev MJ:Stmt:=inClass (top 46) 0
abbrev EU:Stmt:=inClass (top 47) 0
abbrev EV:Stmt:=inClass (top 47) 1
abbrev EW:Stmt:=inClass (top 48) 0
section
variable {P:Program}{w:World}{K:Frag}{mg:ι}{base:Heap}{CX:ku}
def Nm (H:Hp)(v:V)(q:Int×Int):Prop:=∃p,v=.ref p/\H p=some (.tup [.int q.1,.int q.2])
structure UQ (k:Nat)(q:Int×Int):Prop where
 pos:0 < q.2
 top:intBits q.1<=k
 bot:intBits q.2<=k
theorem aF (h:H p=none)(o:HO):au H (upd H p o):=fun b u q=>by rw [ao (aq q h)];exact q
theorem nw (n:H l=none)(e:upd H l o=H'):au H H' /\H' l=some o:=by subst e;exact ⟨aF n o,ah⟩
def gives (H:Hp)(Q:VK)(q:Int×Int):Prop:=∀(p:Addr) (H' :Hp),au H H' ->H' p=some (.tup [.int q.1,.int q.2])->Q (.ref p) H'
inductive gC (vs:η)(H:Hp)(Q:VK)(E_:XK):Prop where
 | mk (a b:Int) (_:vs=[.int a,.int b]) (_:Q (.int (gz a b)) H):gC vs H Q E_
def subQ (x y:Int×Int):Int×Int:=low (x.1*y.2 - y.1*x.2) (x.2*y.2)
theorem MK (hx:UQ k x)(hy:UQ l y):x.2*y.2≠0:=abX (acN hx.pos hy.pos)
theorem iE {a b:V}:gO [a,b] 0=some a:=rfl
theorem h_ {a b:V}:gO [a,b] 1=some b:=rfl
theorem Nm.kept (h:Nm H v q)(hD:H D=some (.lst ys))(k:aL D H H'):Nm H' v q:=by
 obtain ⟨p,e,z⟩:=h
 exact ⟨p,e,k p _ (fun e=>by rw [e,hD] at z;cases z) z⟩
inductive Ln (H:Hp)(v:V)(l:ξ):Prop where
 | mk (p:_) (_:v=.ref p) (_:H p=some (.lst (l.map V.int))):Ln H v l
theorem Ln.same (h:Ln H v l)(s:au H H'):Ln H' v l:=by
 obtain ⟨p,e,k⟩:=h
 exact ⟨p,e,s _ _ k⟩
def qL (H:Hp)(us:η)(ls:ζ):Prop:=us.length=ls.length/\∀(i:Nat) (u:V) (l:ξ),us[i]? =some u->ls[i]? =some l->Ln H u l
theorem qL.same (h:qL H us ls)(s:au H H'):qL H' us ls:=⟨h.1,fun i u l e1 e2=>(h.2 i u l e1 e2).same s⟩
theorem r_ {l:ξ}(h:j < l.length):gO (l.map V.int) (j:Int)=some (.int (l.getD j 0)):=bS (by rw [Wp,gE h,aau,gE h];rfl)
theorem getD_mem {l:ξ}(e:l[j]? =some x):l.getD j 0=x:=by rw [aau,e];rfl
def Bd (b:Nat)(l:ξ):Prop:=∀j,(l.getD j 0).natAbs<=2^b
theorem Bd.mem (h:Bd b l)(hx:x∈l):x.natAbs<=2^b:=by
 obtain ⟨i,hi⟩:=aag hx
 rw [<- getD_mem hi]
 exact h i
theorem Bd.up (h:Bd b l)(hc:b<=c):Bd c l:=fun j=>Oq (h j) hc
theorem zO:aE ["one","other","left"] zae (ag DH):=sq
theorem UR (D:Def K mg "greatest_shared" DH zae)(se:mg "abs"=none):Fn P w K mg base CX 1 "greatest_shared" zae gC:=by
 refine D.ok zO (fun vs H Q E h=>?_) (fun f bJ A outer s H vs Q E hr h=>?_)
 ·obtain ⟨a,b,rfl,_⟩:=h
  rfl
 obtain ⟨a,b,rfl,q⟩:=h
 refine ⟨_,(ae (og PassesOwn.never (aS i9 (pv 1) ak (aZ _)) (ae (aG (i:=2) zO.nd rfl (aad rfl) (aT fY (pv 0) (pv 1)))
   (ae (aG (i:=0) zO.nd rfl (aad rfl) (pv 1))
   (aj (aG (i:=1) zO.nd rfl (aad rfl) (pv 2))))))
  (aj (aH (aJ ve rfl se Oi (ar (pv 0) aa))))),?_⟩
 refine vb (fun σ H' =>∃(x y:Int) (l:χ),σ=[some (.int x),some (.int y),l]/\H' =H/\aby x y=aby a b) (fun σ _=>match σ with | [_,some (.int y),_]=>y.natAbs | _=>0) ⟨a,b,none,rfl,rfl,rfl⟩ ?_ ?_
 ·rintro σ H' ⟨x,y,l,rfl,rfl,g⟩
  refine ⟨_,rfl,rfl,_,rfl,?_⟩
  refine bq (fun c=>?_) (fun c=>?_)
  ·have hy:y≠0:=by
    intro z
    subst z
    simp at c
   refine ⟨_,rfl,_,rfl,_,_,rfl,rfl,hy,?_⟩
   refine ⟨_,rfl,_,rfl,?_⟩
   exact ⟨⟨_,_,_,rfl,rfl,by rw [vm];exact g⟩,rL hy⟩
  ·have hy:y=0:=by
    have:=ae_.mpr c
    simp at this
    exact this
   subst hy
   refine ⟨_,rfl,x,rfl,?_⟩
   have e:(if x < 0 then -x else x)=gz a b:=by
    rw [aiP] at g
    unfold gz
    rw [<- g]
    split <;> omega
   rw [e]
   exact q
 ·rintro σ H' Q1 Q2 h ⟨v,e1,e2,k,ek,z⟩
  exact ⟨v,e1,e2,k,ek,h _ _ z⟩
inductive gD (vs:η)(H:Hp)(Q:VK)(E_:XK):Prop where
 | mk (t b:Int) (_:vs=[.int t,.int b]) (_:b≠0) (_:gives H Q (low t b)):gD vs H Q E_
theorem JG:aE ["top","bottom","shared"] zaE (ag wd):=sq
theorem US (ht:P.given.tree=none)(D:Def K mg "lowest_terms" wd zaE)(ya:Fn P w K mg base (a_ P w) 1 "greatest_shared" zae gC):Fn P w K mg base (a_ P w) 33 "lowest_terms" zaE gD:=by
 refine D.ok JG (fun vs H Q E h=>?_) (fun f bJ A outer s H vs Q E hr h=>?_)
 ·obtain ⟨t,b,rfl,_⟩:=h
  rfl
 obtain ⟨t,b,rfl,hb,q⟩:=h
 have UT:∃tt,PSs (mJ (a_ P w) P w K mg base ["top","bottom","shared"] "lowest_terms" (ag wd) f bJ A outer s H E).yX ((ay wd).drop 2) tt/\∀g:Int,g=sg t b->tt {nx:=fun _ H' =>Q .cw H',rt:=Q} [some (.int t),some (.int b),some (.int g)] H:=by
  refine ⟨_,(aj (aH (aV (ar (aT (fO ht (Ty.cC.py hr (by decide)) rfl rfl rfl rfl rfl) (pv 0) (pv 2)) (ar (aT (fO ht (Ty.cC.py hr (by decide)) rfl rfl rfl rfl rfl) (pv 1) (pv 2)) aa))))),?_⟩
  rintro g rfl
  have c:=oy (t:=t) hb
  refine ⟨_,rfl,_,rfl,_,_,rfl,rfl,c,_,rfl,_,rfl,_,_,rfl,rfl,c,(by show 2<=sizeLine;decide),fun p hp=>?_⟩
  exact q p _ (aF hp _) ah
 obtain ⟨t2,p2,q2⟩:=UT
 refine ⟨_,(ae (aG (i:=2) JG.nd rfl (aad rfl) (aC ya hr.mo pX (ar (pv 0) (ar (pv 1) aa)))) (ae (bu (aS vc (pv 1) ak (aZ _)) (aj (aG (i:=2) JG.nd rfl (aad rfl) (N8 HJ (pv 2)))) aK) p2)),?_⟩
 refine ⟨_,rfl,_,rfl,t,b,rfl,?_⟩
 refine ⟨_,rfl,_,_,rfl,rfl,_,rfl,?_⟩
 refine bq (fun c=>?_) (fun c=>?_)
 ·refine ⟨_,rfl,_,rfl,q2 _ ?_⟩
  have c' :b < 0:=of_decide_eq_true c
  unfold sg
  rw [if_pos c']
 ·refine q2 _ ?_
  have c' :¬ b < 0:=of_decide_eq_false (ae_.mpr c)
  unfold sg
  rw [if_neg c']
inductive MM (K:Frag)(vs:η)(H:Hp)(Q:VK)(E_:XK):Prop where
 | mk (a:Addr) (qs:τ) (T B:Nat) (_:vs=[.ref a]) (_:abg K H a qs) (_:(∀q∈qs,Sm T B q)) (_:T<=20000) (_:B*qs.length<=100000) (_:B<=8000) (_:qs.length<=1000) (_:∀(p l:Addr) (ts:ξ) (b:Int) (H' :Hp),au H H' ->H l=none->H' p=some (.tup [.ref l,.int b])->H' l=some (.lst (ts.map V.int))->0 < b->b.natAbs<=2^(B*qs.length)->rP ts qs b->(∀t∈ts,t.natAbs<=2^(T+B*qs.length))->Q (.ref p) H'):MM K vs H Q E_
theorem zP:aE ["row","bottom","number"] zaP (ag DO):=sq
theorem UU (D:Def K mg "whole_row" DO zaP)(ya:Fn P w K mg base (a_ P w) 1 "greatest_shared" zae gC):Fn P w K mg base (a_ P w) 2 "whole_row" zaP (MM K):=by
 refine D.ok zP (fun vs H Q E h=>?_) (fun f bJ A outer s H vs Q E hr h=>?_)
 ·obtain ⟨a,qs,T,B,rfl,_⟩:=h
  rfl
 obtain ⟨a,qs,T,B,rfl,⟨us,hS,hN⟩,sm,hT,hB,ZY,hl,q⟩:=h
 refine ⟨_,(ae (aG (i:=1) zP.nd rfl (abj rfl) ak)
  (ae (bB PassesOwn.never rfl (bx (pv 0)) (av (i:=2) zP.nd rfl (aad rfl)) (aj (aG (i:=1) zP.nd rfl (abj rfl) (aT c9 (aT vo (pv 1) (aC ya hr.mo pX (ar (pv 1) (ar (aR (pv 2)) aa)))) (aR (pv 2))))))
  (aj (aH (aV (ar (cO (tn:=["number"]) (fr:=["bottom"]) (caps:=[1]) rfl ⟨rfl,by decide+kernel,rfl,by decide+kernel,by decide+kernel,rfl,⟨(by first | exact aad rfl | exact abj rfl),trivial⟩,⟨(by first | exact aad rfl | exact abj rfl),trivial⟩⟩ (bx (pv 0)) (fun _ _ _ _=>(av (i:=0) (show (["number","bottom"]:List Str).Nodup from by decide+kernel) rfl (aad rfl))) (fun _ _ _ _=>cY) (fun _ _ _ _=>(aT c9 (bo (dq (K:=K) rfl) (pv 0) ak (fun _ _=>rfl)) (aT vo (pv 1) (bo (dq (K:=K) rfl) (pv 0) ak (fun _ _=>rfl)))))) (ar (pv 1) aa))))))),?_⟩
 have hlu:=hN.1
 have qat:∀{i:Nat} {u:V},us[i]? =some u->∃q,qs[i]? =some q/\nC K H u q/\Sm T B q:=fun {i u} e=>by
  have hi:i < us.length:=(be.mp e).1
  have e2:qs[i]? =some (qs[i]'(by omega)):=gE (by omega)
  exact ⟨_,e2,hN.2 i u _ e e2,sm _ (ab2 _)⟩
 refine ⟨_,rfl,a,rfl,⟨_,hS⟩,bW (K:=K) (a:=a) (xs:=us) (fun i σ H' =>∃(b:Int) (o:χ),σ=[some (.ref a),some (.int b),o]/\H' =H/\0 < b/\b.natAbs<=2^(B*i)/\∀j,j < i->∀q,qs[j]? =some q->q.2 ∣ b) ⟨1,none,rfl,rfl,by decide,by simp,fun j h=>absurd h (acf _)⟩ (fun i σ H' _ ⟨b,o,_,e,_⟩=>by rw [e];exact hS) ?_ ?_⟩
 ·rintro i u σ H' hu ⟨b,o,rfl,rfl,hb,hs,hd⟩
  obtain ⟨n,en,⟨p,rfl,hp⟩,sn⟩:=qat hu
  have hi:i < qs.length:=(be.mp en).1
  have nb:n.2.natAbs<=2^B:=sn.bot
  obtain ⟨l1,l2,l3,l4⟩:=IU hb sn.pos
  have gp:=sU (t:=b) (b:=n.2) (by have:=sn.pos;omega)
  have gl:=T9 (t:=b) (b:=n.2) (by have:=sn.pos;omega)
  have sz:(b.fdiv (gz b n.2)*n.2).natAbs<=2^(B*(i+1)):=by
   refine aaf l4 ?_
   rw [Nat.mul_succ,ada]
   exact abB hs nb
  have bi:B*i<=100000:=aaf (Nat.mul_le_mul_left B (by omega)) hB
  have g1:gz b n.2 ∣ b:=acs ..
  refine ⟨_,rfl,_,rfl,_,rfl,p,_,_,_,rfl,rfl,hp,h_,b,n.2,rfl,?_⟩
  refine ⟨_,_,rfl,rfl,⟨by omega,aaf (iO (aaf gl nb) (abu B)) (by omega)⟩,?_⟩
  refine ⟨_,rfl,p,_,_,_,rfl,rfl,hp,h_,_,_,rfl,rfl,nq (aaf (gv (by omega) g1) hs) nb (by omega) (by omega),?_⟩
  refine ⟨_,_,rfl,rfl,l1,sz,fun j hj q' e' =>?_⟩
  rcases ab_.mp hj with z | z
  ·exact Int.dvd_trans (hd j z q' e') l2
  ·subst z
   rw [en] at e'
   cases e'
   exact l3
 ·rintro σ H' ⟨b,o,rfl,rfl,hb,hs,hd⟩
  rw [hlu] at hs hd
  refine ⟨_,rfl,a,rfl,⟨_,hS⟩,fun D nD=>?_⟩
  refine dk (cap:=[some (.int b)]) (K:=K) (a:=a) (xs:=us) (fun i v _=>∃q,qs[i]? =some q/\v=.int (q.1*b.fdiv q.2)) nD (by rw [hlu];exact aaj hl (by decide)) (fun H2 s2=>s2.seq hS) (fun _ _ _ _ _ _ _ h=>h) ?_ ?_
  ·intro i u H2 R hu s2 k
   obtain ⟨n,en,⟨p,rfl,hp⟩,sn⟩:=qat hu
   have Us:=Ty.au.bX s2 hp
   have dv:=hd i (be.mp en).1 n en
   have n0:n.2≠0:=by have:=sn.pos;omega
   refine ⟨_,rfl,p,_,_,_,rfl,rfl,Us,iE,?_⟩
   refine ⟨_,rfl,_,rfl,p,_,_,_,rfl,rfl,Us,h_,_,_,rfl,rfl,⟨n0,aaf (iO sn.bot (abu B)) (by omega)⟩,?_⟩
   exact ⟨_,_,rfl,rfl,nq sn.top (aaf (gv n0 dv) hs) (by omega) (by omega),k _ _ (au.refl _) ⟨n,en,rfl⟩⟩
  ·intro ys H2 hy gj s2 hD
   have ey:ys=(qs.map fun n=>n.1*b.fdiv n.2).map V.int:=by
    refine abL fun i=>?_
    by_cases hi:i < ys.length
    ·have e1:ys[i]? =some ys[i]:=gE hi
     obtain ⟨n,en,ev⟩:=gj i _ e1
     rw [e1,ev,Wp,Wp,en]
     rfl
    ·rw [aai (by omega),aai (by simp;omega)]
   refine ⟨_,rfl,(by show 2<=sizeLine;decide),fun p np=>?_⟩
   have s3:=aF np (.tup [.ref D,.int b])
   refine q p D (qs.map fun n=>n.1*b.fdiv n.2) b _ (s2.trans s3) nD ah (s3 _ _ (by rw [hD,ey])) hb hs ⟨by simp,fun i t n e1 e2=>?_⟩ (fun t ht=>?_)
   ·rw [Wp,e2] at e1
    have B_ :n.1*b.fdiv n.2=t:=aao e1
    rw [<- B_]
    exact CH (sm n (ir e2)).pos (hd i (be.mp e2).1 n e2)
   ·obtain ⟨n,hn,rfl⟩:=aab.mp ht
    obtain ⟨i,hi⟩:=aag hn
    have n0:n.2≠0:=by have:=(sm n hn).pos;omega
    exact xK (sm n hn).top (aaf (gv n0 (hd i (be.mp hi).1 n hi)) hs)
structure Dv (l l' :ξ):Prop where
 len:l'.length=l.length
 ZZ:∃g:Int,g≠0/\∀j,g*l'.getD j 0=l.getD j 0
def QQ (l:ξ):Prop:=UN l\/∀j,l.getD j 0=0
theorem we {l:ξ}(h:∀j,d ∣ l.getD j 0){i:Nat}(e:l[i]? =some x):d ∣ x:=by
 rw [<- getD_mem e]
 exact h i
inductive kQ (vs:η)(H:Hp)(Q:VK)(E_:XK):Prop where
 | mk (v:V) (l:ξ) (_:vs=[v]) (_:Ln H v l) (_:l.length<=1000) (_:∀v' l' H',au H H' ->Ln H' v' l' ->Dv l l' ->QQ l' ->(v' =v\/∃p,v' =.ref p/\H p=none)->Q v' H'):kQ vs H Q E_
theorem MO (l:ξ):Dv l l:=⟨rfl,1,by decide,fun j=>Int.one_mul _⟩
theorem zQ:aE ["line","shared","whole"] ["line"] (ag DS):=sq
theorem UW (ht:P.given.tree=none)(D:Def K mg "divided" DS ["line"])(ya:Fn P w K mg base (a_ P w) 1 "greatest_shared" zae gC):Fn P w K mg base (a_ P w) 33 "divided" ["line"] kQ:=by
 refine D.ok zQ (fun vs H Q E h=>?_) (fun f bJ A outer s H vs Q E hr h=>?_)
 ·obtain ⟨v,l,rfl,_⟩:=h
  rfl
 obtain ⟨v,l,rfl,⟨a,rfl,ha⟩,hn,q⟩:=h
 have same:QQ l->Q (.ref a) H:=fun pz=>q _ l H (au.refl H) ⟨a,rfl,ha⟩ (MO l) pz (.inl rfl)
 refine ⟨_,(ae (aG (i:=1) zQ.nd rfl (abj rfl) ak)
  (ae (bB PassesOwn.never rfl (bx (pv 0)) (av (i:=2) zQ.nd rfl (aad rfl)) (ae (aG (i:=1) zQ.nd rfl (abj rfl) (aC ya hr.mo pX (ar (pv 2) (ar (pv 1) aa))))
   (aj (bu (aS eK (pv 1) ak (aZ _)) (aj (aH (pv 0))) aK))))
  (aj (aH (u9 (aS vd (pv 1) ak (aZ _)) (cO (tn:=["whole"]) (fr:=["shared"]) (caps:=[1]) rfl ⟨rfl,by decide+kernel,rfl,by decide+kernel,by decide+kernel,rfl,⟨(by first | exact aad rfl | exact abj rfl),trivial⟩,⟨(by first | exact aad rfl | exact abj rfl),trivial⟩⟩ (bx (pv 0)) (fun _ _ _ _=>(av (i:=0) (show (["whole","shared"]:List Str).Nodup from by decide+kernel) rfl (aad rfl))) (fun _ _ _ _=>cY) (fun _ _ _ _=>(aT (fO ht (Ty.cC.py hr (by decide)) rfl rfl rfl rfl rfl) (pv 0) (pv 1)))) (pv 0)))))),?_⟩
 refine ⟨_,rfl,a,rfl,⟨_,aX.of ha⟩,bW (K:=K) (a:=a) (xs:=l.map V.int) (fun i σ H' =>∃(g:Int) (o:χ),σ=[some (.ref a),some (.int g),o]/\H' =H/\0<=g/\(∀j,j < i->∀x,l[j]? =some x->g ∣ x)/\(∀d:Int,(∀j,j < i->∀x,l[j]? =some x->d ∣ x)->d ∣ g)/\(0 < i->g≠1)) ⟨0,none,rfl,rfl,by decide,(fun j h=>absurd h (acf _)),(fun d _=>Int.dvd_zero d),fun h=>absurd h (abU _)⟩ (fun i σ H' _ ⟨g,o,_,e,_⟩=>by rw [e];exact aX.of ha) ?_ ?_⟩
 ·rintro i u σ H' hu ⟨g,o,rfl,rfl,g0,hg,hd,_⟩
  rw [Wp] at hu
  obtain ⟨x,ex,rfl⟩:=aal.mp hu
  have d1:gz x g ∣ x:=acs ..
  have d2:gz x g ∣ g:=aco ..
  have p0:0<=gz x g:=Int.natCast_nonneg _
  refine ⟨_,rfl,_,rfl,x,g,rfl,?_⟩
  refine ⟨_,rfl,rfl,_,rfl,?_⟩
  refine bq (fun z=>⟨_,rfl,same (.inl fun d G' =>?_)⟩) (fun z=>?_)
  ·have z' :gz x g=1:=by simpa using of_decide_eq_true z
   have h1:d ∣ gz x g:=ajf (we G' ex) (hd d fun j _ y ey=>we G' ey)
   rw [z'] at h1
   have:=acE.mpr h1
   simpa using this
  refine ⟨_,_,rfl,rfl,p0,fun j hj y ey=>?_,fun d h=>?_,fun _ e=>z (by rw [e];rfl)⟩
  ·rcases ab_.mp hj with z | z
   ·exact Int.dvd_trans d2 (hg j z y ey)
   ·subst z
    rw [ex] at ey
    cases ey
    exact d1
  ·exact ajf (h i (abu _) x ex) (hd d fun j hj y ey=>h j (acK hj) y ey)
 ·rintro σ H' ⟨g,o,rfl,rfl,g0,hg,hd,hg1⟩
  rw [aaa] at hg hd hg1
  refine ⟨_,rfl,_,_,rfl,rfl,_,rfl,?_⟩
  refine bq (fun c=>?_) (fun c=>⟨_,rfl,same (.inr fun j=>?_)⟩)
  rotate_left
  ·have c' :¬ (1:Int) < g:=fun z=>c (decide_eq_true z)
   by_cases hj:j < l.length
   ·have gz:g=0:=by
     have:=hg1 (by omega)
     omega
    have ej:l[j]? =some l[j]:=gE hj
    have:=hg j hj _ ej
    rw [gz] at this
    rw [getD_mem ej]
    exact Int.zero_dvd.mp this
   ·rw [aau,aai (by omega)]
    rfl
  have g1:(1:Int) < g:=of_decide_eq_true c
  have gn:g≠0:=by omega
  refine ⟨_,rfl,a,rfl,⟨_,aX.of ha⟩,fun D nD=>?_⟩
  refine dk (cap:=[some (.int g)]) (K:=K) (a:=a) (xs:=l.map V.int) (fun i v _=>∃x,l[i]? =some x/\v=.int (x.fdiv g)) nD (by rw [aaa];exact aaj hn (by decide)) (fun H2 s2=>aX.of (s2 _ _ ha)) (fun _ _ _ _ _ _ _ h=>h) ?_ ?_
  ·intro i u H2 R hu s2 k
   rw [Wp] at hu
   obtain ⟨x,ex,rfl⟩:=aal.mp hu
   exact ⟨_,rfl,_,rfl,_,_,rfl,rfl,gn,k _ _ (au.refl _) ⟨x,ex,rfl⟩⟩
  ·intro ys H2 hy gj s2 hD
   rw [aaa] at hy
   have ey:ys=(l.map fun x=>x.fdiv g).map V.int:=by
    refine abL fun i=>?_
    by_cases hi:i < ys.length
    ·have e1:ys[i]? =some ys[i]:=gE hi
     obtain ⟨x,ex,ev⟩:=gj i _ e1
     rw [e1,ev,Wp,Wp,ex]
     rfl
    ·rw [aai (by omega),aai (by simp;omega)]
   have ZZ:∀j,g*(l.map fun x=>x.fdiv g).getD j 0=l.getD j 0:=fun j=>by
    by_cases hj:j < l.length
    ·have ej:l[j]? =some l[j]:=gE hj
     rw [getD_mem (l:=l.map fun x=>x.fdiv g) (x:=l[j].fdiv g) (by rw [Wp,ej];rfl),getD_mem ej]
     exact (cy gn (hg j hj _ ej)).symm
    ·rw [aau,aau,aai (by simp;omega),aai (by omega)]
     simp
   refine q _ (l.map fun x=>x.fdiv g) H2 s2 ⟨D,rfl,by rw [hD,ey]⟩ ⟨by simp,g,gn,ZZ⟩ (.inl fun d G' =>?_) (.inr ⟨D,rfl,nD⟩)
   have h1:d*g ∣ g:=hd (d*g) fun j hj x ex=>by
    rw [<- getD_mem ex, <- ZZ j,acp]
    exact Int.mul_dvd_mul_left g (G' j)
   obtain ⟨k,hk⟩:=h1
   have h2:g*(d*k)=g*1:=by
    rw [Int.mul_one]
    rw [<- ah8,acp g d]
    exact hk.symm
   have h3:=Int.eq_of_mul_eq_mul_left gn h2
   have h4:d ∣ 1:=⟨k,h3.symm⟩
   simpa using acE.mpr h4
inductive kR (vs:η)(H:Hp)(Q:VK)(E_:XK):Prop where
 | mk (u v:V) (l m:ξ) (c b1 b2:Nat) (_:vs=[u,v,.int (c:Int)]) (_:Ln H u l) (_:Ln H v m) (_:m.length=l.length) (_:c < l.length) (_:l.length<=1000) (_:m.getD c 0≠0) (_:Bd b1 l) (_:Bd b2 m) (_:b1<=29000000) (_:b2<=29000000) (_:∀v' l' H',au H H' ->Ln H' v' l' ->qw l m l' c->Bd (b1+b2+1) l' ->(l' =l\/QQ l')->(v' =u\/∃p,v' =.ref p/\H p=none)->Q v' H'):kR vs H Q E_
theorem MQ (ha:a≠0):a=gz a b*a.fdiv (gz a b)/\b=gz a b*b.fdiv (gz a b)/\gz a b≠0/\a.fdiv (gz a b)≠0/\(a.fdiv (gz a b)).natAbs<=a.natAbs/\(b.fdiv (gz a b)).natAbs<=b.natAbs:=by
 have gn:gz a b≠0:=by
  intro z
  have z' :((aby a b:Nat):Int)=0:=z
  have:aby a b=0:=by omega
  exact ha (Int.gcd_eq_zero_iff.mp this).1
 have d1:gz a b ∣ a:=acs ..
 have d2:gz a b ∣ b:=aco ..
 have e1:=cy gn d1
 refine ⟨e1,cy gn d2,gn,fun z=>?_,gv gn d1,gv gn d2⟩
 rw [z,adi] at e1
 exact ha e1
theorem MR {l m:ξ}{ys:η}(hl:m.length=l.length)(hy:ys.length=l.length)(h:∀(i:Nat) (v:V),ys[i]? =some v->∃x y,l[i]? =some x/\m[i]? =some y/\v=.int (t*x - u*y)):ys=(ab9 (fun x y=>t*x - u*y) l m).map V.int:=by
 refine abL fun i=>?_
 by_cases hi:i < ys.length
 ·have e1:ys[i]? =some ys[i]:=gE hi
  obtain ⟨x,y,ex,ey,ev⟩:=h i _ e1
  rw [e1,ev,Wp,abM,ex,ey]
  rfl
 ·rw [aai (by omega),aai (by simp;omega)]
theorem JH {l m:ξ}(hl:m.length=l.length)(j:Nat):(ab9 (fun x y=>t*x - u*y) l m).getD j 0=t*l.getD j 0 - u*m.getD j 0:=by
 by_cases hj:j < l.length
 ·have e1:l[j]? =some l[j]:=gE hj
  have e2:m[j]? =some (m[j]'(by omega)):=gE (by omega)
  rw [getD_mem e1,getD_mem e2]
  exact getD_mem (by rw [abM,e1,e2])
 ·rw [aau,aau,aau,aai (by simp;omega),aai (by omega),aai (by omega)]
  simp
theorem zR:aE ["line","lead","column","shared","times","less"] zaw (ag DR):=sq
theorem UX (ht:P.given.tree=none)(D:Def K mg "cleared" DR zaw)(jP:mg "zip"=none)(ya:Fn P w K mg base (a_ P w) 1 "greatest_shared" zae gC)(abq:Fn P w K mg base (a_ P w) 33 "divided" ["line"] kQ):Fn P w K mg base (a_ P w) 34 "cleared" zaw kR:=by
 refine D.ok zR (fun vs H Q E h=>?_) (fun f bJ A outer s H vs Q E hr h=>?_)
 ·obtain ⟨u,v,l,m,c,b1,b2,rfl,_⟩:=h
  rfl
 obtain ⟨u,v,l,m,c,b1,b2,rfl,⟨a,rfl,ha⟩,⟨a',rfl,Z0⟩,hl,hc,hn,hm,B1,B2,UY,hb2,q⟩:=h
 refine ⟨_,(ae (bu (aS eK (bo aY (pv 0) (pv 2) (fun _ _=>rfl)) ak (aZ _)) (aj (aH (pv 0))) aK)
  (ae (aG (i:=3) zR.nd rfl (aad rfl) (aC ya hr.mo pX (ar (bo aY (pv 1) (pv 2) (fun _ _=>rfl)) (ar (bo aY (pv 0) (pv 2) (fun _ _=>rfl)) aa))))
  (ae (aG (i:=4) zR.nd rfl (abj rfl) (aT (fO ht (Ty.cC.py hr (by decide)) rfl rfl rfl rfl rfl) (bo aY (pv 1) (pv 2) (fun _ _=>rfl)) (pv 3)))
  (ae (aG (i:=5) zR.nd rfl (abj rfl) (aT (fO ht (Ty.cC.py hr (by decide)) rfl rfl rfl rfl rfl) (bo aY (pv 0) (pv 2) (fun _ _=>rfl)) (pv 3)))
  (aj (aH (aC abq hr.mo pX (ar (cO (tn:=["whole","other"]) (fr:=["times","less"]) (caps:=[4,5]) rfl ⟨rfl,by decide+kernel,rfl,by decide+kernel,by decide+kernel,rfl,⟨(by first | exact aad rfl | exact abj rfl),⟨(by first | exact aad rfl | exact abj rfl),trivial⟩⟩,⟨(by first | exact aad rfl | exact abj rfl),⟨(by first | exact aad rfl | exact abj rfl),trivial⟩⟩⟩ (IQ rfl jP (ar (pv 0) (ar (pv 1) aa))) (fun _ _ _ _=>(tj (K:=K) (n:=2) rfl rfl (aQ (av (i:=0) (show (zaO:List Str).Nodup from by decide+kernel) rfl (aad rfl)) (aQ (av (i:=1) (show (zaO:List Str).Nodup from by decide+kernel) rfl (aad rfl)) cu)))) (fun _ _ _ _=>cY) (fun _ _ _ _=>(aT eM (aT c9 (pv 2) (pv 0)) (aT c9 (pv 3) (pv 1))))) aa)))))))),?_⟩
 have ea:=r_ (l:=l) hc
 have em:=r_ (l:=m) (j:=c) (by omega)
 refine ⟨_,rfl,_,rfl,a,_,_,_,rfl,rfl,aX.of ha,ea,rfl,_,rfl,?_⟩
 refine bq (fun z=>?_) (fun z=>?_)
 ·have z' :l.getD c 0=0:=by simpa using of_decide_eq_true z
  exact ⟨_,rfl,q _ l H (au.refl H) ⟨a,rfl,ha⟩ ⟨rfl,z',1,1,0,by decide,by decide,fun j=>by omega⟩ (B1.up (by omega)) (.inl rfl) (.inl rfl)⟩
 ·obtain ⟨f1,f2,f3,f4,f5,f6⟩:=MQ (a:=m.getD c 0) (b:=l.getD c 0) hm
  refine ⟨_,rfl,_,rfl,a',_,_,_,rfl,rfl,aX.of Z0,em,_,rfl,_,rfl,a,_,_,_,rfl,rfl,aX.of ha,ea,_,_,rfl,?_⟩
  refine ⟨_,rfl,_,rfl,a',_,_,_,rfl,rfl,aX.of Z0,em,_,rfl,_,_,rfl,rfl,f3,?_⟩
  refine ⟨_,rfl,_,rfl,a,_,_,_,rfl,rfl,aX.of ha,ea,_,rfl,_,_,rfl,rfl,f3,?_⟩
  refine ⟨_,rfl,_,rfl,a,a',rfl,⟨_,aX.of ha⟩,⟨_,aX.of Z0⟩,fun D1 n1=>?_⟩
  have st:((m.getD c 0).fdiv (gz (m.getD c 0) (l.getD c 0))).natAbs<=2^b2:=aaf f5 (B2 c)
  have su:((l.getD c 0).fdiv (gz (m.getD c 0) (l.getD c 0))).natAbs<=2^b1:=aaf f6 (B1 c)
  refine vA (cap:=[some (.int ((m.getD c 0).fdiv (gz (m.getD c 0) (l.getD c 0)))),some (.int ((l.getD c 0).fdiv (gz (m.getD c 0) (l.getD c 0))))]) (K:=K) (xs:=l.map V.int) (ys:=m.map V.int) (fun i v _=>∃x y,l[i]? =some x/\m[i]? =some y/\v=.int ((m.getD c 0).fdiv (gz (m.getD c 0) (l.getD c 0))*x - (l.getD c 0).fdiv (gz (m.getD c 0) (l.getD c 0))*y)) n1 (by rw [aaa];exact aaj hn (by decide)) (by simpa using hl) (fun H2 s2=>aX.of (s2 _ _ ha)) (fun H2 s2=>aX.of (s2 _ _ Z0)) (fun _ _ _ _ _ _ _ h=>h) ?_ ?_
  ·intro i x y H2 R ex ey s2 k
   rw [Wp] at ex ey
   obtain ⟨x',Px,rfl⟩:=aal.mp ex
   obtain ⟨y',zJ,rfl⟩:=aal.mp ey
   refine ⟨_,rfl,_,rfl,_,_,rfl,rfl,nq st (B1.mem (ir Px)) (by omega) (by omega),?_⟩
   exact ⟨_,rfl,_,rfl,_,_,rfl,rfl,nq su (B2.mem (ir zJ)) (by omega) (by omega),_,_,rfl,rfl,k _ _ (au.refl _) ⟨x',y',Px,zJ,rfl⟩⟩
  ·intro ys H2 hy gj s2 hD
   rw [aaa] at hy
   have ey:=MR hl hy gj
   refine ⟨_,_,rfl,⟨D1,rfl,by rw [hD,ey]⟩,by simp;omega,fun v' l' H3 s3 L3 dv pz fr=>?_⟩
   obtain ⟨g,gn,hg⟩:=dv.ZZ
   have iQ:∀j,g*l'.getD j 0=(m.getD c 0).fdiv (gz (m.getD c 0) (l.getD c 0))*l.getD j 0 - (l.getD c 0).fdiv (gz (m.getD c 0) (l.getD c 0))*m.getD j 0:=fun j=>by rw [hg j,JH hl]
   refine q v' l' H3 (s2.trans s3) L3 ⟨by rw [dv.len];simp [hl],?_,g,_,_,gn,f4,iQ⟩ (fun j=>?_) (.inr pz) ?_
   ·have e:=iQ c
    have z2:(m.getD c 0).fdiv (gz (m.getD c 0) (l.getD c 0))*l.getD c 0 - (l.getD c 0).fdiv (gz (m.getD c 0) (l.getD c 0))*m.getD c 0=0:=by
     generalize gz (m.getD c 0) (l.getD c 0)=G at*
     generalize (m.getD c 0).fdiv G=t at*
     generalize (l.getD c 0).fdiv G=u at*
     rw [f1,f2]
     grind
    rw [z2] at e
    rcases aiC.mp e with y | y
    ·exact absurd y gn
    ·exact y
   ·have b:(g*l'.getD j 0).natAbs<=2^(b1+b2+1):=by
     rw [iQ j,Int.sub_eq_add_neg]
     refine Qn (Oq (xK st (B1 j)) (by omega)) ?_
     rw [ajk]
     exact xK su (B2 j)
    exact aaf (dO gn) b
   ·rcases fr with z | ⟨p,e,n⟩
    ·exact .inr ⟨D1,z,n1⟩
    ·exact .inr ⟨p,e,s2.free n⟩
inductive tK (K:Frag)(vs:η)(H:Hp)(Q:VK)(E_:XK):Prop where
 | mk (a:Addr) (us:η) (ls:List (List Int:_)) (c:Nat) (_:vs=[.ref a,.int (c:Int)]) (_:aX K H a us) (_:qL H us ls) (_:(∀l∈ls,c < l.length)) (_:(∀(i:Nat) (l:ξ) (H' :Hp),au H H' ->ls[i]? =some l->l.getD c 0≠0->Q (.int (i:Int)) H')) (_:((∀l∈ls,l.getD c 0=0)->∀H',au H H' ->Q .cw H')):tK K vs H Q E_
theorem qL.at (h:qL H us ls){i:Nat}(e:us[i]? =some u):∃l,ls[i]? =some l/\Ln H u l:=by
 have hi:i < us.length:=(be.mp e).1
 have hl:=h.1
 have e2:ls[i]? =some (ls[i]'(by omega)):=gE (by omega)
 exact ⟨_,e2,h.2 i u _ e e2⟩
theorem qL.at' (h:qL H us ls){i:Nat}{l:ξ}(e:ls[i]? =some l):∃u,us[i]? =some u/\Ln H u l:=by
 have hi:i < ls.length:=(be.mp e).1
 have hl:=h.1
 have e2:us[i]? =some (us[i]'(by omega)):=gE (by omega)
 exact ⟨_,e2,h.2 i _ l e2 e⟩
theorem JI:aE ["lines","column","at","line"] zaK (ag DQ):=sq
theorem UZ (D:Def K mg "first_not_nought" DQ zaK)(cz:mg "enumerate"=none):Fn P w K mg base (a_ P w) 1 "first_not_nought" zaK (tK K):=by
 refine D.ok JI (fun vs H Q E h=>?_) (fun f bJ A outer s H vs Q E hr h=>?_)
 ·obtain ⟨a,us,ls,c,rfl,_⟩:=h
  rfl
 obtain ⟨a,us,ls,c,rfl,hS,L,hc,q1,q2⟩:=h
 have lu:=L.1
 refine ⟨_,(ae (bB PassesOwn.never rfl (tu rfl cz (ar (pv 0) aa)) (dG rfl (aQ (av (i:=2) JI.nd rfl (aad rfl)) (aQ (av (i:=3) JI.nd rfl (aad rfl)) cu))) (aj (bu (aS i9 (bo aY (pv 3) (pv 1) (fun _ _=>rfl)) ak (aZ _)) (aj (aH (pv 2))) aK)))
  (aj (aH n_))),?_⟩
 refine ⟨_,rfl,a,rfl,⟨_,hS⟩,vL (K:=K) (a:=a) (xs:=us) (fun i σ H' =>∃o1 o2:Option V,σ=[some (.ref a),some (.int (c:Int)),o1,o2]/\au H H' /\∀j,j < i->∀l,ls[j]? =some l->l.getD c 0=0) ⟨none,none,rfl,au.refl H,fun j h=>absurd h (acf _)⟩ (fun i σ H' _ ⟨o1,o2,_,s1,_⟩=>s1.seq hS) ?_ ?_⟩
 ·rintro i u σ H' p hu ⟨o1,o2,rfl,s1,z⟩ np
  obtain ⟨l,el,b,rfl,hb⟩:=L.at hu
  have s2:=s1.trans (aF np (.tup [.int (i:Int),.ref b]))
  have hcl:=hc l (ir el)
  refine ⟨p,_,rfl,bT.of ah,rfl,_,_,rfl,_,_,rfl,rfl,?_⟩
  refine ⟨_,rfl,_,rfl,b,_,_,_,rfl,rfl,aX.of (s2 _ _ hb),r_ hcl,rfl,_,rfl,?_⟩
  refine bq (fun y=>?_) (fun y=>?_)
  ·have y' :l.getD c 0≠0:=by simpa using y
   exact ⟨_,rfl,q1 i l _ s2 el y'⟩
  ·have y' :l.getD c 0=0:=by simpa using y
   refine ⟨_,_,rfl,s2,fun j hj l' e' =>?_⟩
   rcases ab_.mp hj with w | w
   ·exact z j w l' e'
   ·subst w
    rw [el] at e'
    cases e'
    exact y'
 ·rintro σ H' ⟨o1,o2,rfl,s1,z⟩
  refine q2 (fun l hl=>?_) H' s1
  obtain ⟨j,hj⟩:=aag hl
  exact z j (by have:=(be.mp hj).1;omega) l hj
structure Red (os:ζ)(L c b:Nat)(nd:θ)(lv:ζ):Prop where
 mP:∀x∈nd,x.2.length=L
 mQ:∀l∈lv,l.length=L
 cols:∀x∈nd,x.1 < c
 asc:(nd.map (·.1)).Pairwise (· < ·)
 here:∀x∈nd,x.2.getD x.1 0≠0
 off:∀x∈nd,∀y∈nd,x.1≠y.1->x.2.getD y.1 0=0
 low:∀x∈nd,∀j,j < x.1->x.2.getD j 0=0
 zero:∀l∈lv,∀j,j < c->l.getD j 0=0
 sf:∀x∈nd,tq os x.2
 mw:∀l∈lv,tq os l
 sol:∀z,((∀x∈nd,ev x.2 z=0)/\(∀l∈lv,ev l z=0)) ↔ ∀o∈os,ev o z=0
 JJ:∀x∈nd,Bd b x.2
 JK:∀l∈lv,Bd b l
 cnt:nd.length+lv.length=os.length
theorem Red.start {os:ζ}(hL:∀o∈os,o.length=L)(hb:∀o∈os,Bd b o):Red os L 0 b [] os where
 mP:=by simp
 mQ:=hL
 cols:=by simp
 asc:=by simp
 here:=by simp
 off:=by simp
 low:=by simp
 zero:=fun _ _ j h=>absurd h (acf _)
 sf:=by simp
 mw:=fun l h=>vK h
 sol:=fun z=>by simp
 JJ:=by simp
 JK:=hb
 cnt:=by simp
theorem Red.skip {os:ζ}(h:Red os L c b nd lv)(hz:∀l∈lv,l.getD c 0=0):Red os L (c+1) b nd lv where
 mP:=h.mP
 mQ:=h.mQ
 cols:=fun x hx=>acK (h.cols x hx)
 asc:=h.asc
 here:=h.here
 off:=h.off
 low:=h.low
 zero:=fun l hl j hj=>by
  rcases ab_.mp hj with z | z
  ·exact h.zero l hl j z
  ·subst z
   exact hz l hl
 sf:=h.sf
 mw:=h.mw
 sol:=h.sol
 JJ:=h.JJ
 JK:=h.JK
 cnt:=h.cnt
structure Made (os:ζ)(lead:ξ)(c b:Nat)(xs ys:ζ):Prop where
 len:ys.length=xs.length
 to:∀(i:Nat) (x:ξ),xs[i]? =some x->∃y,ys[i]? =some y/\qw x lead y c/\Bd b y
theorem Made.ex {os:ζ}(h:Made os lead c b xs ys){y:ξ}(hy:y∈ys):∃x∈xs,qw x lead y c/\Bd b y:=by
 obtain ⟨i,hi⟩:=aag hy
 have hl:=h.len
 have i8:i < ys.length:=(be.mp hi).1
 have e:xs[i]? =some (xs[i]'(by omega)):=gE (by omega)
 obtain ⟨y',e',r⟩:=h.to i _ e
 rw [hi] at e'
 cases e'
 exact ⟨_,ir e,r⟩
theorem Made.all {os:ζ}(h:Made os lead c b xs ys){x:ξ}(hx:x∈xs):∃y∈ys,qw x lead y c/\Bd b y:=by
 obtain ⟨i,hi⟩:=aag hx
 obtain ⟨y,e,r⟩:=h.to i x hi
 exact ⟨y,ir e,r⟩
theorem Red.step {os:ζ}{lv xW rest:ζ}{lead:ξ}(h:Red os L c b nd lv)(fS:lead∈lv)(wg:∀l∈rest,l∈lv)(HZ:∀l∈lv,l=lead\/l∈rest)(hlen:rest.length+1=lv.length)
  (hc:lead.getD c 0≠0) (ML:Made os lead c (2*b+1) rest xW) (hk:i0.map (·.1)=nd.map (·.1)) (MN:Made os lead c (2*b+1) (nd.map (·.2)) (i0.map (·.2))):Red os L (c+1) (2*b+1) (i0 ++[(c,lead)]) xW :=by
 have ll:=h.mQ lead fS
 have lz:=h.zero lead fS
 have hl' :i0.length=nd.length:=by simpa using congrArg abR hk
 have pairs:∀x' ∈i0,∃x∈nd,x.1=x'.1/\qw x.2 lead x'.2 c/\Bd (2*b+1) x'.2:=by
  intro x' xg
  obtain ⟨i,hi⟩:=aag xg
  have i8:i < i0.length:=(be.mp hi).1
  have e:nd[i]? =some (nd[i]'(by omega)):=gE (by omega)
  have e1:(i0.map (·.1))[i]? =(nd.map (·.1))[i]? :=by rw [hk]
  rw [Wp,Wp,hi,e] at e1
  obtain ⟨y,e2,r⟩:=MN.to i (nd[i]'(by omega)).2 (by rw [Wp,e];rfl)
  rw [Wp,hi] at e2
  simp at e1 e2
  subst e2
  exact ⟨_,ir e,e1.symm,r⟩
 have back:∀x∈nd,∃x' ∈i0,x'.1=x.1/\qw x.2 lead x'.2 c:=by
  intro x hx
  obtain ⟨i,hi⟩:=aag hx
  have i8:i < nd.length:=(be.mp hi).1
  have e:i0[i]? =some (i0[i]'(by omega)):=gE (by omega)
  have e1:(i0.map (·.1))[i]? =(nd.map (·.1))[i]? :=by rw [hk]
  rw [Wp,Wp,hi,e] at e1
  obtain ⟨y,e2,r⟩:=MN.to i x.2 (by rw [Wp,hi];rfl)
  rw [Wp,e] at e2
  simp at e1 e2
  exact ⟨_,ir e,e1,by rw [e2];exact r.1⟩
 have MS:∀x∈i0 ++[(c,lead)],x∈i0 \/x=(c,lead):=fun x hx=>by simpa using hx
 exact {
  mP:=fun x hx=>by
   rcases MS x hx with z | z
   ·obtain ⟨y,hy,_,k,_⟩:=pairs x z
    rw [k.len]
    exact h.mP y hy
   ·subst z
    exact ll
  mQ:=fun l hl=>by
   obtain ⟨x,hx,k,_⟩:=ML.ex hl
   rw [k.len]
   exact h.mQ x (wg x hx)
  cols:=fun x hx=>by
   rcases MS x hx with z | z
   ·obtain ⟨y,hy,e,_⟩:=pairs x z
    rw [<- e]
    exact acK (h.cols y hy)
   ·subst z
    exact abu _
  asc:=by
   rw [aa3,hk,List.pairwise_append]
   refine ⟨h.asc,by simp,fun a ha b' gh =>?_⟩
   obtain ⟨x,hx,rfl⟩:=aab.mp ha
   have:b' =c:=by simpa using gh
   subst this
   exact h.cols x hx
  here:=fun x hx=>by
   rcases MS x hx with z | z
   ·obtain ⟨y,hy,e,k,_⟩:=pairs x z
    rw [<- e]
    exact k.at (lz _ (h.cols y hy)) (h.here y hy)
   ·subst z
    exact hc
  off:=fun x hx y hy ne=>by
   rcases MS x hx with z | z <;> rcases MS y hy with u | u
   ·obtain ⟨x0,ZW,e0,k0,_⟩:=pairs x z
    obtain ⟨y0,JL,e1,_⟩:=pairs y u
    rw [<- e1]
    exact k0.zero (h.off x0 ZW y0 JL (by rw [e0,e1];exact ne)) (lz _ (h.cols y0 JL))
   ·subst u
    obtain ⟨x0,ZW,e0,k0,_⟩:=pairs x z
    exact k0.Jj
   ·subst z
    obtain ⟨y0,JL,e1,_⟩:=pairs y u
    rw [<- e1]
    exact lz _ (h.cols y0 JL)
   ·subst z
    subst u
    exact absurd rfl ne
  low:=fun x hx j hj=>by
   rcases MS x hx with z | z
   ·obtain ⟨y,hy,e,k,_⟩:=pairs x z
    rw [<- e] at hj
    exact k.zero (h.low y hy j hj) (lz j (aiw hj (h.cols y hy)))
   ·subst z
    exact lz j hj
  zero:=fun l hl j hj=>by
   obtain ⟨x,hx,k,_⟩:=ML.ex hl
   rcases ab_.mp hj with z | z
   ·exact k.zero (h.zero x (wg x hx) j z) (lz j z)
   ·subst z
    exact k.Jj
  sf:=fun x hx=>by
   rcases MS x hx with z | z
   ·obtain ⟨y,hy,_,k,_⟩:=pairs x z
    exact k.comb (h.sf y hy) (h.mw lead fS)
   ·subst z
    exact h.mw lead fS
  mw:=fun l hl=>by
   obtain ⟨x,hx,k,_⟩:=ML.ex hl
   exact k.comb (h.mw x (wg x hx)) (h.mw lead fS)
  sol:=fun z=>by
   rw [<- h.sol z]
   constructor
   ·rintro ⟨a1,a2⟩
    have az:ev lead z=0:=a1 (c,lead) (by simp)
    refine ⟨fun x hx=>?_,fun l hl=>?_⟩
    ·obtain ⟨x',xg,_,k⟩:=back x hx
     exact (k.ev (by rw [ll,h.mP x hx]) az).mp (a1 x' (by simp [xg]))
    ·rcases HZ l hl with u | u
     ·rw [u]
      exact az
     ·obtain ⟨y,hy,k,_⟩:=ML.all u
      exact (k.ev (by rw [ll,h.mQ l hl]) az).mp (a2 y hy)
   ·rintro ⟨a1,a2⟩
    have az:=a2 lead fS
    refine ⟨fun x hx=>?_,fun l hl=>?_⟩
    ·rcases MS x hx with u | u
     ·obtain ⟨y,hy,_,k,_⟩:=pairs x u
      exact (k.ev (by rw [ll,h.mP y hy]) az).mpr (a1 y hy)
     ·subst u
      exact az
    ·obtain ⟨x,hx,k,_⟩:=ML.ex hl
     exact (k.ev (by rw [ll,h.mQ x (wg x hx)]) az).mpr (a2 x (wg x hx))
  JJ:=fun x hx=>by
   rcases MS x hx with z | z
   ·obtain ⟨y,hy,_,_,k⟩:=pairs x z
    exact k
   ·subst z
    exact (h.JK lead fS).up (by omega)
  JK:=fun l hl=>by
   obtain ⟨x,hx,_,k⟩:=ML.ex hl
   exact k
  cnt:=by
   have a:=ML.len
   have b:=h.cnt
   rw [aan,hl']
   simp
   omega}
def nI (H:Hp)(kvs:δ)(nd:θ):Prop:=kvs.length=nd.length/\∀(i:Nat) (kv:Key×V) (x:Χ),kvs[i]? =some kv->nd[i]? =some x->kv.1=.inl (x.1:Int)/\Ln H kv.2 x.2
theorem nI.same (h:nI H kvs nd)(s:au H H'):nI H' kvs nd:=⟨h.1,fun i kv x e1 e2=>⟨(h.2 i kv x e1 e2).1,(h.2 i kv x e1 e2).2.same s⟩⟩
theorem Ln.put (h:Ln H v l)(e:H d=some (.dK kvs)):Ln (upd H d o) v l:=by
 obtain ⟨p,e1,k⟩:=h
 exact ⟨p,e1,by rw [ao (fun z=>by rw [z,e] at k;cases k)];exact k⟩
theorem qL.put (h:qL H us ls)(e:H d=some (.dK kvs)):qL (upd H d o) us ls:=⟨h.1,fun i u l e1 e2=>(h.2 i u l e1 e2).put e⟩
theorem nI.put (h:nI H kvs nd)(e:H d=some (.dK U0)):nI (upd H d o) kvs nd:=⟨h.1,fun i kv x e1 e2=>⟨(h.2 i kv x e1 e2).1,(h.2 i kv x e1 e2).2.put e⟩⟩
theorem fT (s:au H H')(n:H d=none):au H (upd H' d o):=fun b o' e=>by
 rw [ao (fun z=>by rw [z,n] at e;cases e)]
 exact s _ _ e
theorem nI.at (h:nI H kvs nd){i:Nat}{x:Χ}(e:nd[i]? =some x):∃v,kvs[i]? =some (.inl (x.1:Int),v)/\Ln H v x.2:=by
 have hi:i < nd.length:=(be.mp e).1
 have hl:=h.1
 have e2:kvs[i]? =some (kvs[i]'(by omega)):=gE (by omega)
 obtain ⟨a,b⟩:=h.2 i _ x e2 e
 exact ⟨(kvs[i]'(by omega)).2,by rw [e2, <- a],b⟩
theorem nI.keys (h:nI H kvs nd):kvs.map (·.1)=nd.map (fun x=>(aia (x.1:Int):Key)):=by
 refine abL fun i=>?_
 have hl:=h.1
 rw [Wp,Wp]
 by_cases hi:i < nd.length
 ·have e:nd[i]? =some nd[i]:=gE hi
  obtain ⟨v,e2,_⟩:=h.at e
  rw [e,e2]
  rfl
 ·rw [aai (by omega),aai (by omega)]
  rfl
theorem nJ :∀{kvs:δ} {i:Nat},(kvs.map (·.1)).Nodup->kvs[i]? =some (k,v)->bL kvs k=some v
 | [],_,_,e=>by simp at e
 | p::r,0,_,e=>by
  cases e
  exact bM (p:=(k,v)) rfl
 | p::r,i+1,n,e=>by
  rw [aah,aa5] at n
  have e' :r[i]? =some (k,v):=by simpa using e
  have ne:¬ p.1=k:=fun z=>n.1 (by rw [z];exact aab.mpr ⟨(k,v),ir e',rfl⟩)
  rw [bE ne]
  exact nJ n.2 e'
theorem jQ :∀{kvs:δ},k∉kvs.map (·.1)->bL kvs k=none
 | [],_=>rfl
 | p::r,h=>by
  have h' :k≠p.1/\k∉r.map (·.1):=by simpa using h
  rw [bE (fun z=>h'.1 z.symm)]
  exact jQ h'.2
theorem map_put :∀{kvs:δ} {i:Nat},(kvs.map (·.1)).Nodup->kvs[i]? =some (k,v)->kvs.map (fun kv=>if kv.1=k then (kv.1,v') else kv)=kvs.set i (k,v')
 | [],_,_,e=>by simp at e
 | p::r,0,n,e=>by
  rw [aah,aa5] at n
  cases e
  have hr:r.map (fun kv=>if kv.1=k then (kv.1,v') else kv)=r:=by
   refine (abZ (fun q hq=>?_)).trans (List.map_id r)
   have ne:¬ q.1=k:=fun z=>n.1 (by show k∈_;rw [<- z];exact aab.mpr ⟨q,hq,rfl⟩)
   rw [if_neg ne]
   rfl
  rw [aah,hr,if_pos rfl,List.set_cons_zero]
 | p::r,i+1,n,e=>by
  rw [aah,aa5] at n
  have e' :r[i]? =some (k,v):=by simpa using e
  have ne:¬ p.1=k:=fun z=>n.1 (by rw [z];exact aab.mpr ⟨(k,v),ir e',rfl⟩)
  rw [aah,if_neg ne,map_put n.2 e',List.set_cons_succ]
theorem MT {kvs:δ}(n:(kvs.map (·.1)).Nodup)(e:kvs[i]? =some (k,v)):putK kvs k v' =kvs.set i (k,v'):=by
 unfold putK
 rw [gw,nJ n e]
 exact map_put n e
theorem nI.set (h:nI H kvs nd){i c:Nat}(hv:Ln H v l):nI H (kvs.set i (.inl (c:Int),v)) (nd.set i (c,l)):=by
 have hl:=h.1
 refine ⟨by simp [hl],fun j kv x e1 e2=>?_⟩
 rw [acL] at e1 e2
 by_cases z:i=j
 ·subst z
  rw [if_pos rfl] at e1 e2
  by_cases hi:i < kvs.length
  ·rw [if_pos hi] at e1
   rw [if_pos (by omega)] at e2
   cases e1
   cases e2
   exact ⟨rfl,hv⟩
  ·rw [if_neg hi] at e1
   cases e1
 ·rw [if_neg z] at e1 e2
  exact h.2 j kv x e1 e2
theorem nI.snoc (h:nI H kvs nd){c:Nat}(hv:Ln H v l):nI H (kvs++[(.inl (c:Int),v)]) (nd++[(c,l)]):=by
 have hl:=h.1
 refine ⟨by simp [hl],fun j kv x e1 e2=>?_⟩
 by_cases z:j < kvs.length
 ·rw [aap z] at e1
  rw [aap (by omega)] at e2
  exact h.2 j kv x e1 e2
 ·rw [aaY (by omega)] at e1 e2
  rw [<- hl] at e2
  by_cases y:j - kvs.length=0
  ·rw [y] at e1 e2
   cases e1
   cases e2
   exact ⟨rfl,hv⟩
  ·rw [aai (by simp;omega)] at e1
   cases e1
theorem keys_nodup:∀{nd:θ},(nd.map (·.1)).Pairwise (· < ·)->(nd.map (fun x=>(aia (x.1:Int):Key))).Nodup
 | [],_=>by simp
 | x::r,h=>by
  rw [aah,ac7] at h
  rw [aah,aa5]
  refine ⟨fun z=>?_,keys_nodup h.2⟩
  obtain ⟨y,hy,e⟩:=aab.mp z
  have e' :(y.1:Int)=x.1:=ac9 e
  have:=h.1 y.1 (aab.mpr ⟨y,hy,rfl⟩)
  omega
def bb (b k:Nat):Nat:=(k+1)*(b+11)
theorem tL (b k:Nat):b<=bb b k:=by
 unfold bb
 rw [acq,aiG]
 omega
theorem Red.piv {os:ζ}(R:Red os L c b nd lv):GO nd:=⟨R.asc.imp fun h e=>by omega,R.here,R.off⟩
def Pr (os:ζ)(l:ξ):Prop:=l∈os\/QQ l
theorem Red.small {os:ζ}(R:Red os L c b nd lv)(O:GP os nd lv ps qs)(hb:∀o∈os,Bd b0 o)(hk:nd.length<=k)(SU:k<=1000)(pN:∀x∈nd,Pr os x.2)(pL:∀l∈lv,Pr os l):Red os L c (bb b0 k) nd lv:=by
 have le:∀{n:Nat},n<=(nd.length+1)*((2*(nd.length+1)*2^b0)^nd.length*2^b0)->n<=2^bb b0 k:=fun {n} h=>aaf h (aaf (QM (by omega)) (aa7 (by decide) (abd _ (by omega))))
 have z:∀{n:Nat},n=0->n<=2^bb b0 k:=fun {n} h=>by rw [h];exact abc _
 refine {R with JJ:=fun x hx j=>?_,JK:=fun l hl j=>?_}
 ·rcases pN x hx with h | h | h
  ·exact aaf (hb _ h j) (aa7 (by decide) (tL _ _))
  ·exact le (O.need R.piv hx hb h j)
  ·exact z (by rw [h j];rfl)
 ·rcases pL l hl with h | h | h
  ·exact aaf (hb _ h j) (aa7 (by decide) (tL _ _))
  ·obtain ⟨i,ei⟩:=aag hl
   exact le (O.left R.piv ei (fun x hx=>R.zero l hl x.1 (R.cols x hx)) hb h j)
  ·exact z (by rw [h j];rfl)
theorem MU {i:Nat}(h:i<=xs.length):fL xs none (some (i:Int))=xs.take i:=by
 unfold fL
 rw [HT.m7,HT.vi,ah_ h]
 rfl
theorem kX {i:Nat}(h:i<=xs.length):fL xs (some (i:Int)) none=xs.drop i:=by
 unfold fL
 rw [HT.m7,HT.vi,ah_ h]
 exact acj (by simp)
theorem Red.up {os:ζ}(h:Red os L c b nd lv)(hb:b<=b'):Red os L c b' nd lv:={h with JJ:=fun x hx=>(h.JJ x hx).up hb,JK:=fun x hx=>(h.JK x hx).up hb}
theorem qL.erase (h:qL H us ls)(j:Nat):qL H (us.eraseIdx j) (ls.eraseIdx j):=by
 have hl:=h.1
 refine ⟨by rw [aca,aca,hl],fun i u l e1 e2=>?_⟩
 rw [abY] at e1 e2
 by_cases z:i < j
 ·rw [if_pos z] at e1 e2
  exact h.2 _ _ _ e1 e2
 ·rw [if_neg z] at e1 e2
  exact h.2 _ _ _ e1 e2
theorem gF {α β:Type}{P:Nat->α->β->Prop}:∀(xs:List α),(∀i x,xs[i]? =some x->∃y,P i x y)->∃ys:List β,ys.length=xs.length/\∀i x y,xs[i]? =some x->ys[i]? =some y->P i x y
 | [],_=>⟨[],rfl,fun i x y e=>by simp at e⟩
 | x::xs,h=>by
  obtain ⟨y,hy⟩:=h 0 x rfl
  obtain ⟨ys,hl,hp⟩:=gF (P:=fun i=>P (i+1)) xs (fun i x e=>h (i+1) x (by simpa using e))
  refine ⟨y::ys,by simp [hl],fun i x' y' e1 e2=>?_⟩
  cases i with
  | zero=>
   cases e1
   cases e2
   exact hy
  | succ i=>exact hp i x' y' (by simpa using e1) (by simpa using e2)
inductive iT (K:Frag)(vs:η)(H:Hp)(Q:VK)(E_:XK):Prop where
 | mk (a:Addr) (us:η) (os:List (List Int:_)) (L m b:Nat) (_:vs=[.ref a,.int (m:Int)]) (_:aX K H a us) (_:qL H us os) (_:(∀o∈os,o.length=L)) (_:m<=L) (_:L<=1000) (_:os.length<=1000) (_:(∀o∈os,Bd b o)) (_:bb b (min m os.length)<=29000000) (_:∀(p d a' :Addr) (kvs:δ) (i5 :η) (nd:θ) (lv:ζ) (H' :Hp),au H H' ->H d=none->H p=none->H' p=some (.tup [.ref d,.ref a'])->H' d=some (.dK kvs)->aX K H' a' i5 ->nI H' kvs nd->qL H' i5 lv->Red os L m (bb b (min m os.length)) nd lv->Q (.ref p) H'):iT K vs H Q E_
theorem mz:aE ["lines","many","needed","left","column","at","lead","place"] zaJ (ag DP):=sq
theorem U1 (D:Def K mg "reduced" DP zaJ)(bC:mg "range"=none)(bQ:mg "list"=none)(abv:Fn P w K mg base (a_ P w) 1 "first_not_nought" zaK (tK K))(U2:Fn P w K mg base (a_ P w) 34 "cleared" zaw kR):Fn P w K mg base (a_ P w) 35 "reduced" zaJ (iT K):=by
 refine D.ok mz (fun vs H Q E h=>?_) (fun f bJ A outer s H vs Q E hr h=>?_)
 ·obtain ⟨a,us,os,L,m,b,rfl,_⟩:=h
  rfl
 obtain ⟨a,us,os,L,m,b,rfl,hS,hL,hlen,hm,SV,ho,hB,hb,q⟩:=h
 refine ⟨_,(ae (aG (i:=2) mz.nd rfl (aad rfl) fh)
  (ae (aG (i:=3) mz.nd rfl (aad rfl) (pv 0))
  (ae (bB PassesOwn.never rfl (bV rfl bC (ar (pv 1) aa)) (av (i:=4) mz.nd rfl (abj rfl)) (ae (aG (i:=5) mz.nd rfl (aad rfl) (aC abv hr.mo pX (ar (pv 3) (ar (pv 4) aa))))
   (ae (bu (aS xt (pv 5) n_ (aZ _)) (aj u_) aK)
   (ae (aG (i:=6) mz.nd rfl (abj rfl) (bo aY (pv 3) (pv 5) (fun _ _=>rfl)))
   (ae (nh (i:=3) mz.nd rfl (aad rfl) (tn:=["line"]) (fr:=["lead","column"]) (caps:=[6,4]) rfl ⟨rfl,by decide+kernel,rfl,by decide+kernel,by decide+kernel,rfl,⟨(by first | exact aad rfl | exact abj rfl),⟨(by first | exact aad rfl | exact abj rfl),trivial⟩⟩,⟨(by first | exact aad rfl | exact abj rfl),⟨(by first | exact aad rfl | exact abj rfl),trivial⟩⟩⟩ (bx (aT xG (eg jE (pv 3) iN (dW (pv 5))) (eg jE (pv 3) (dW (aT cG (pv 5) ak)) iN))) (fun _ _ _ _=>(av (i:=0) (show (zaw:List Str).Nodup from by decide+kernel) rfl (aad rfl))) (fun _ _ _ _=>cY) (fun _ _ _ _=>(aC U2 hr.mo (me (by first | assumption | exact a_.mM) rfl) (ar (pv 0) (ar (pv 1) (ar (pv 2) aa))))))
   (ae (bB PassesOwn.never rfl (bx (b9 (fP rfl) rfl bQ fN (ar (pv 2) aa))) (av (i:=7) mz.nd rfl (aad rfl)) (aj (eA (bU hr) (pv 2) (pv 7) (aC U2 hr.mo pX (ar (du (bU hr) (pv 2) (pv 7) (fun _ _=>rfl)) (ar (pv 6) (ar (pv 4) aa)))) rfl)))
   (aj (eA (bU hr) (pv 2) (pv 4) (pv 6) rfl))))))))
  (aj (aH (aV (ar (pv 2) (ar (pv 3) aa)))))))),?_⟩
 refine fun d xm=>?_
 have s0:au H (upd H d (.dK [])):=aF xm _
 refine ⟨_,rfl,_,rfl,_,rfl,by omega,by omega,?_⟩
 refine b8 (lo:=0) (n:=m) (fun i σ H' =>∃(al:Addr) (oX:η) (kvs:δ) (nd:θ) (lv:ζ) (o4 o5 o6 o7:χ),σ=[some (.ref a),some (.int (m:Int)),some (.ref d),some (.ref al),o4,o5,o6,o7]/\au H H' /\H' d=some (.dK kvs)/\aX K H' al oX/\qL H' oX lv/\nI H' kvs nd/\nd.length<=i/\Red os L i (bb b (min m os.length)) nd lv/\(∃ps qs,GP os nd lv ps qs)/\(∀x∈nd,Pr os x.2)/\∀l∈lv,Pr os l)
  ⟨a,us,[],[],os,none,none,none,none,rfl,s0,ah,s0.seq hS,hL.same s0,⟨rfl,by simp⟩,aac _,(Red.start hlen hB).up (tL _ _),⟨[],os,GP.start os⟩,(by simp),fun l hl=>.inl hl⟩ ?_ ?_
 ·rintro i σ H1 hi ⟨al,oX,kvs,nd,lv,o4,o5,o6,o7,rfl,s1,hd,QR,EX,hN,hni,R,⟨ps,qs,O⟩,pN,pL⟩
  refine ⟨_,rfl,_,rfl,al,oX,lv,i,by rw [abn];rfl,QR,EX,fun l hl=>by rw [R.mQ l hl];omega,fun j lead H2 s2 ej hj=>?_,fun hz H2 s2=>?_⟩
  ·have hjl:j < lv.length:=(be.mp ej).1
   have hul:=EX.1
   have cnt:=R.cnt
   have Z1:=hb
   have hd2:=s2 _ _ hd
   have UM:=s2.seq QR
   have Oz:=EX.same s2
   have hN2:=hN.same s2
   obtain ⟨u,eu,hu⟩:=Oz.at' ej
   have fS:lead∈lv:=ir ej
   refine ⟨_,rfl,rfl,_,rfl,?_⟩
   refine bq (fun z=>by simp at z) (fun _=>?_)
   refine ⟨_,rfl,_,rfl,al,_,_,_,rfl,rfl,UM,bS eu,?_⟩
   refine ⟨_,rfl,_,rfl,_,rfl,al,oX,rfl,UM,fun p1 n1=>?_⟩
   have t1:=aF n1 (.lst (fL oX none (some (j:Int))))
   refine ⟨_,rfl,_,rfl,_,_,rfl,rfl,_,rfl,al,oX,rfl,t1.seq UM,fun p2 n2=>?_⟩
   have t2:=aF n2 (.lst (fL oX (some ((j:Int)+1)) none))
   have U3:fL oX none (some (j:Int))++fL oX (some ((j:Int)+1)) none=oX.eraseIdx j:=by
    rw [MU (by omega),show ((j:Int)+1)=((j+1:Nat):Int) from by omega,kX (by omega),List.eraseIdx_eq_take_drop_succ]
   have abx:(fL oX none (some (j:Int))).length+(fL oX (some ((j:Int)+1)) none).length<=sizeLine:=by
    rw [<- aan,U3]
    exact aaf (aaf (acw ..) (show oX.length<=1000 by omega)) (by decide)
   refine ⟨p1,p2,_,_,rfl,rfl,t2 _ _ ah,ah,abx,fun p3 n3=>?_⟩
   have t3:=aF n3 (.lst (fL oX none (some (j:Int))++fL oX (some ((j:Int)+1)) none))
   refine ⟨p3,rfl,⟨_,aX.of ah⟩,fun D nD=>?_⟩
   have tt:=(t1.trans t2).trans t3
   have hE:=(Oz.same tt).erase j
   have Z2:=hu.same tt
   have er:(oX.eraseIdx j).length<=1000:=aaf (acw ..) (show oX.length<=1000 by omega)
   refine jq (cap:=[some u,some (.int ((0:Int)+i))]) (K:=K) (a:=p3) (xs:=oX.eraseIdx j) (fun k v H=>∃x y p,(lv.eraseIdx j)[k]? =some x/\v=.ref p/\p≠D/\H p=some (.lst (y.map V.int))/\qw x lead y i/\Bd (2*bb b (min m os.length)+1) y/\(y=x\/QQ y)) nD (aaj er (by decide)) (fun H3 s3=>aX.of (s3 _ _ (by rw [ah,U3]))) ?_ ?_ ?_
   ·rintro k v H3 H4 ys hD3 ks ⟨x,y,p,e1,e2,e3,e4,e5⟩
    exact ⟨x,y,p,e1,e2,e3,ks _ _ e3 e4,e5⟩
   ·rintro k x H3 RR ex s3 ⟨ys0,abz⟩ kk
    obtain ⟨l,el,hl⟩:=hE.at ex
    have CM:l∈lv:=acr (ir el)
    have hll:=R.mQ l CM
    have hld:=R.mQ lead fS
    refine ⟨_,rfl,_,rfl,_,rfl,x,u,l,lead,i,bb b (min m os.length),bb b (min m os.length),by rw [abn];rfl,hl.same s3,Z2.same s3,by rw [hll,hld],by omega,by omega,hj,R.JK l CM,R.JK lead fS,Z1,Z1,fun v' l' H4 s4 L4 cl bd pz fr=>?_⟩
    obtain ⟨p,e1,e2⟩:=L4
    refine kk v' H4 s4 ⟨l,l',p,el,e1,?_,e2,cl,by rw [Nat.two_mul];exact bd,pz⟩
    rcases fr with z | ⟨p',z,n⟩
    ·obtain ⟨px',z1,z2⟩:=hl
     rw [z1,e1] at z
     cases z
     exact aq z2 nD
    ·rw [e1] at z
     cases z
     exact fun y=>by rw [y,abz] at n;cases n
   ·intro ys H3 hy gj s3 hD
    obtain ⟨xW,hl',hp⟩:=gF (P:=fun k v y=>∃x p,(lv.eraseIdx j)[k]? =some x/\v=.ref p/\p≠D/\H3 p=some (.lst (y.map V.int))/\qw x lead y i/\Bd (2*bb b (min m os.length)+1) y/\(y=x\/QQ y)) ys (fun k v e=>by
     obtain ⟨x,y,p,r⟩:=gj k v e
     exact ⟨y,x,p,r⟩)
    have hLn:qL H3 ys xW :=⟨hl'.symm,fun k v y e1 e2=>by
     obtain ⟨x,p,_,e,_,r,_⟩:=hp k v y e1 e2
     exact ⟨p,e,r⟩⟩
    have les:(oX.eraseIdx j).length=(lv.eraseIdx j).length:=hE.1
    have ML:Made os lead i (2*bb b (min m os.length)+1) (lv.eraseIdx j) xW :=⟨by omega,fun k x e=>by
     have hk:k < (lv.eraseIdx j).length:=(be.mp e).1
     have e1:ys[k]? =some (ys[k]'(by omega)):=gE (by omega)
     have e2:xW[k]? =some (xW[k]'(by omega)):=gE (by omega)
     obtain ⟨x',p,r1,_,_,_,r2,r3,_⟩:=hp k _ _ e1 e2
     rw [e] at r1
     cases r1
     exact ⟨_,e2,r2,r3⟩⟩
    have PL:∀l∈xW,Pr os l:=fun l hl=>by
     obtain ⟨k,ek⟩:=aag hl
     have hk:k < xW.length:=(be.mp ek).1
     have e1:ys[k]? =some (ys[k]'(by omega)):=gE (by omega)
     obtain ⟨x',p,r1,_,_,_,_,_,r4⟩:=hp k _ _ e1 ek
     rcases r4 with z | z
     ·rw [z]
      exact pL x' (acr (ir r1))
     ·exact .inr z
    have oU:=tt.trans s3
    have hd3:=oU _ _ hd2
    have hN3:=hN2.same oU
    have hu4:=Z2.same s3
    refine ⟨_,rfl,d,kvs,rfl,Rd.of hd3,fun l3 n3=>?_⟩
    have t4:=aF n3 (.lst (kvs.map fun kv=>kV kv.1))
    refine ⟨l3,rfl,⟨_,aX.of ah⟩,?_⟩
    have dl:d≠l3:=aq hd3 n3
    refine bW (K:=K) (a:=l3) (xs:=kvs.map fun kv=>kV kv.1) (fun t σ H' =>∃(o7:χ) (tM :δ) (i0 :θ),σ=[some (.ref a),some (.int (m:Int)),some (.ref d),some (.ref D),some (.int ((0:Int)+i)),some (.int (j:Int)),some u,o7]/\au H H' /\H' d=some (.dK tM)/\H' l3=some (.lst (kvs.map fun kv=>kV kv.1))/\H' D=some (.lst ys)/\qL H' ys xW /\Ln H' u lead/\nI H' tM i0 /\i0.map (·.1)=nd.map (·.1)/\
      ∀(k:Nat) (x:Χ),nd[k]? =some x->∃y,i0[k]? =some (x.1,y)/\(t<=k->y=x.2)/\(k < t->(qw x.2 lead y i/\Bd (2*bb b (min m os.length)+1) y)/\(y=x.2\/QQ y)))
     ⟨_,kvs,nd,rfl,((s1.trans s2).trans oU).trans t4,t4 _ _ hd3,ah,t4 _ _ hD,hLn.same t4,hu4.same t4,hN3.same t4,rfl,fun k x e=>⟨x.2,e,fun _=>rfl,fun z=>absurd z (acf _)⟩⟩ (fun t σ H' _ h=>by
      obtain ⟨_,_,_,_,_,_,h,_⟩:=h
      exact aX.of h) ?_ ?_
    ·rintro t u7 σ H4 hu7 ⟨o7,tM,i0,rfl,s4,K8,hl4,U4,hL4,Z3,OA,QS,SW⟩
     rw [Wp] at hu7
     obtain ⟨kv,si,rfl⟩:=aal.mp hu7
     have htl:t < kvs.length:=(be.mp si).1
     have hnl:=hN.1
     have ex:nd[t]? =some (nd[t]'(by omega)):=gE (by omega)
     obtain ⟨x,hx⟩:∃x,nd[t]? =some x:=⟨_,ex⟩
     obtain ⟨kx,hxm⟩:kv.1=.inl (x.1:Int)/\x∈nd:=⟨(hN3.2 t kv x si hx).1,ir hx⟩
     obtain ⟨y,ey,y1,_⟩:=SW t x hx
     have y2:=y1 (aac _)
     subst y2
     obtain ⟨v,ev,hv⟩:=OA.at ey
     have nk:(tM.map (·.1)).Nodup:=by
      rw [OA.keys]
      exact keys_nodup (by rw [QS];exact R.asc)
     have vat:=nJ nk ev
     have hxl:=R.mP x hxm
     have hld:=R.mQ lead fS
     have dg:c7 H4 d (kV kv.1) (some v):=by
      rw [kx, <- vat]
      exact c7.k K8
     refine ⟨_,rfl,_,rfl,d,v,rfl,dg,_,rfl,_,rfl,v,u,x.2,lead,i,bb b (min m os.length),bb b (min m os.length),by rw [abn];rfl,hv,Z3,by rw [hxl,hld],by omega,by omega,hj,R.JJ x hxm,R.JK lead fS,Z1,Z1,fun v' l' H5 s5 L5 cl bd pz fr=>?_⟩
     have Z4:=s5 _ _ K8
     have l4' :=OA.1
     have l5' :i0.length=nd.length:=by simpa using congrArg abR QS
     refine ⟨_,rfl,_,rfl,d,_,rfl,ib.k Z4 (aaj (show tM.length<=1000 by omega) (by decide)),?_⟩
     rw [kx,MT nk ev]
     have dn:d≠D:=fun z=>by rw [z,U4] at K8;cases K8
     refine ⟨_,tM.set t (.inl (x.1:Int),v'),i0.set t (x.1,l'),rfl,fT (s4.trans s5) xm,ah,by rw [ao (aba dl)];exact s5 _ _ hl4,by rw [ao (aba dn)];exact s5 _ _ U4,(hL4.same s5).put Z4,(Z3.same s5).put Z4,((OA.same s5).set L5).put Z4,?_,fun k x' ek=>?_⟩
     ·rw [List.map_set,QS]
      refine abL fun k=>?_
      rw [acL]
      by_cases z:t=k
      ·subst z
       rw [if_pos rfl,if_pos (by simp;omega),Wp,hx]
       rfl
      ·rw [if_neg z]
     ·obtain ⟨y',zJ,a1,a2⟩:=SW k x' ek
      by_cases z:t=k
      ·subst z
       rw [hx] at ek
       cases ek
       refine ⟨l',by rw [acL,if_pos rfl,if_pos (by omega)],fun w=>by omega,fun _=>⟨⟨cl,by rw [Nat.two_mul];exact bd⟩,pz⟩⟩
      ·exact ⟨y',by rw [acL,if_neg z];exact zJ,fun w=>a1 (by omega),fun w=>a2 (by omega)⟩
    ·rintro σ H4 ⟨o7,tM,i0,rfl,s4,K8,hl4,U4,hL4,Z3,OA,QS,SW⟩
     have l4' :=OA.1
     have l5' :i0.length=nd.length:=by simpa using congrArg abR QS
     have hnl:=hN.1
     rw [aaa] at SW
     have MN:Made os lead i (2*bb b (min m os.length)+1) (nd.map (·.2)) (i0.map (·.2)):=⟨by simp [l5'],fun k x e=>by
      rw [Wp] at e
      obtain ⟨x0,e0,rfl⟩:=aal.mp e
      have hk:k < nd.length:=(be.mp e0).1
      obtain ⟨y,ey,_,a2⟩:=SW k x0 e0
      exact ⟨y,by rw [Wp,ey];rfl,(a2 (by omega)).1⟩⟩
     have P5:bL tM (.inl ((0:Int)+i))=none:=jQ (fun z=>by
      rw [OA.keys] at z
      obtain ⟨x',xg,e⟩:=aab.mp z
      have e1:(x'.1:Int)=0+i:=ac9 e
      have:x'.1∈nd.map (·.1):=by rw [<- QS];exact aab.mpr ⟨x',xg,rfl⟩
      obtain ⟨x,hx,e2⟩:=aab.mp this
      have:=R.cols x hx
      omega)
     refine ⟨_,rfl,_,rfl,_,rfl,d,_,rfl,ib.k (k:=.inl ((0:Int)+i)) K8 (aaj (show tM.length<=1000 by omega) (by decide)),?_⟩
     rw [di u P5]
     have dn:d≠D:=fun z=>by rw [z,U4] at K8;cases K8
     have abF:∀l∈lv.eraseIdx j,l∈lv:=fun l h=>acr h
     have abG:∀l∈lv,l=lead\/l∈lv.eraseIdx j:=fun l h=>by
      obtain ⟨k,ek⟩:=aag h
      rcases Nat.lt_trichotomy k j with z | z | z
      ·exact .inr (ir (i:=k) (by rw [abY,if_pos z];exact ek))
      ·subst z
       rw [ej] at ek
       cases ek
       exact .inl rfl
      ·exact .inr (ir (i:=k - 1) (by rw [abY,if_neg (by omega),show k - 1+1=k by omega];exact ek))
     have abH:(lv.eraseIdx j).length+1=lv.length:=by rw [aca,if_pos hjl];omega
     have R2:=R.step fS abF abG abH hj ML QS MN
     obtain ⟨ps',MA,O2⟩:=O.step R.piv ej (fun x hx=>R.zero lead fS x.1 (R.cols x hx)) hj ML.len (fun k x e=>by
      obtain ⟨y,ey,k1,_⟩:=ML.to k x e
      exact ⟨y,ey,k1⟩) l5' fun k x e=>by
      obtain ⟨y,ey,k1,_⟩:=MN.to k x e
      exact ⟨y,ey,k1⟩
     have PN:∀x∈i0 ++[(i,lead)],Pr os x.2:=fun x hx=>by
      rcases aaG.mp hx with z | z
      ·obtain ⟨k,ek⟩:=aag z
       have hk:k < i0.length:=(be.mp ek).1
       obtain ⟨x0,e0⟩:∃x0,nd[k]? =some x0:=⟨_,gE (by omega)⟩
       obtain ⟨y,ey,_,a2⟩:=SW k x0 e0
       rw [ek] at ey
       cases ey
       rcases (a2 (by omega)).2 with u | u
       ·show Pr os y
        rw [u]
        exact pN x0 (ir e0)
       ·exact .inr u
      ·rw [aas.mp z]
       exact pL lead fS
     have U5:=R2.cnt
     have R3:=R2.small O2 hB (k:=min m os.length) (by rw [aan] at U5 ⊢;simp at U5 ⊢;omega) (by omega) PN PL
     refine ⟨D,ys,_,i0 ++[(i,lead)],xW,_,_,_,_,rfl,fT s4 xm,ah,aX.of (by rw [ao (aba dn)];exact U4),hL4.put K8,(by rw [abn];exact (OA.snoc Z3).put K8),by simp;omega,R3,⟨ps',MA,O2⟩,PN,PL⟩
  ·refine ⟨_,rfl,rfl,_,rfl,?_⟩
   refine bq (fun _=>?_) (fun z=>by simp at z)
   exact ⟨al,oX,kvs,nd,lv,_,_,_,_,rfl,s1.trans s2,s2 _ _ hd,s2.seq QR,EX.same s2,hN.same s2,by omega,R.skip hz,⟨ps,qs,O⟩,pN,pL⟩
 ·rintro σ H1 ⟨al,oX,kvs,nd,lv,o4,o5,o6,o7,rfl,s1,hd,QR,EX,hN,hni,R,⟨ps,qs,O⟩,pN,pL⟩
  refine ⟨_,rfl,_,rfl,(by show 2<=sizeLine;decide),fun p np=>?_⟩
  have sp:=aF np (.tup [.ref d,.ref al])
  have cnt:=R.cnt
  exact q p d al kvs oX nd lv _ (s1.trans sp) xm (s1.free np) ah (sp _ _ hd) (sp.seq QR) (hN.same sp) (EX.same sp) R
theorem MV (hb:b≠0)(h1:t.natAbs<=2^T)(h2:b.natAbs<=2^B):Sm T B (low t b):=⟨jH hb,m_ hb,aaf (oz hb) h1,aaf (oA hb) h2⟩
theorem JM {l:ξ}(h:l.length<=j):l.getD j 0=0:=by
 rw [aau,aai h]
 rfl
theorem tO (h:j < n):HS n (j:Int)=some j:=by
 unfold HS
 simp
 omega
def EY (H:Hp)(r:Addr)(ls:ω)(dI:Ν):Prop:=H r=some (.lst (ls.map V.ref))/\ls.length=dI.length/\∀(i:Nat) (l:Addr) (vs:η),ls[i]? =some l->dI[i]? =some vs->H l=some (.lst vs)
theorem EY.same (h:EY H r ls dI)(s:au H H'):EY H' r ls dI:=⟨s _ _ h.1,h.2.1,fun i l vs e1 e2=>s _ _ (h.2.2 i l vs e1 e2)⟩
def Shape (T B m:Nat)(cf:ψ):Prop:=∀qs∈cf,qs.length=m/\∀q∈qs,Sm T B q
def iF (K:Frag)(H:Hp)(dI:Ν)(cf:ψ):Prop:=dI.length=cf.length/\∀(i:Nat) (vs:η) (qs:τ),dI[i]? =some vs->cf[i]? =some qs->fj K H vs qs
theorem iF.same (h:iF K H dI cf)(s:au H H'):iF K H' dI cf:=⟨h.1,fun i vs qs e1 e2=>(h.2 i vs qs e1 e2).same s⟩
def yd (cf:ψ)(j:Nat):List (Int×Int):=cf.map fun qs=>qs.getD j (0,1)
theorem Bd.of (h:∀t∈l,t.natAbs<=2^b):Bd b l:=fun j=>by
 by_cases hj:j < l.length
 ·have e:l[j]? =some l[j]:=gE hj
  rw [getD_mem e]
  exact h _ (ab2 hj)
 ·rw [JM (by omega)]
  exact abc _
abbrev Wl:=List Int×Int×Addr×Addr
theorem wj (j:Nat):∀{ws:List Wl} {ss ys:τ} {cs:τ},ss.length=ws.length->ys.length=ws.length->cs.length=ws.length->
  (∀(i:Nat) (w:Wl) (s y:Int×Int),ws[i]? =some w->ss[i]? =some s->ys[i]? =some y->vl y=vl s*w.2.1)->(∀(i:Nat) (w:Wl) (c:Int×Int),ws[i]? =some w->cs[i]? =some c->((w.1.getD j 0:Int):Rat)=vl c*w.2.1)->mN ys cs=eQ (ss.map vl) (ws.map (·.1)) j
 | [],[],[],[],_,_,_,_,_=>by simp [mN,eQ]
 | w::ws,s::ss,y::ys,c::cs,h1,h2,h3,h4,h5=>by
  have ih:=wj j (ws:=ws) (ss:=ss) (ys:=ys) (cs:=cs) (by simpa using h1) (by simpa using h2) (by simpa using h3) (fun i w s y e1 e2 e3=>h4 (i+1) w s y (by simpa using e1) (by simpa using e2) (by simpa using e3)) (fun i w c e1 e2=>h5 (i+1) w c (by simpa using e1) (by simpa using e2))
  have a:=h4 0 w s y rfl rfl rfl
  have b:=h5 0 w c rfl rfl
  have ed:mN (y::ys) (c::cs)=vl y*vl c+mN ys cs:=by simp [mN]
  simp only [aah,eQ]
  rw [ed,ih,a,b]
  grind
 | [],_::_,_,_,h,_,_,_,_=>by simp at h
 | [],[],_::_,_,_,h,_,_,_=>by simp at h
 | [],[],[],_::_,_,_,h,_,_=>by simp at h
 | _::_,[],_,_,h,_,_,_,_=>by simp at h
 | _::_,_::_,[],_,_,h,_,_,_=>by simp at h
 | _::_,_::_,_::_,[],_,_,h,_,_=>by simp at h
inductive ye (K:Frag)(f:Int×Int->Int×Int->Int×Int)(vs:η)(H:Hp)(Q:VK)(E_:XK):Prop where
 | mk (u v:V) (x y:Int×Int) (_:vs=[u,v]) (_:nC K H u x) (_:nC K H v y) (_:UQ 100000 x) (_:UQ 100000 y) (_:gives H Q (f x y)):ye K f vs H Q E_
theorem U6:aE zae zae (ag x8):=sq
theorem U7 (hM:vt CX)(D:Def K mg "difference_of" x8 zae)(JN:Fn P w K mg base CX 33 "lowest_terms" zaE gD):Fn P w K mg base CX 34 "difference_of" zae (ye K subQ):=by
 refine D.ok U6 (fun vs H Q E h=>?_) (fun f bJ A outer s H vs Q E hr h=>?_)
 ·obtain ⟨u,v,x,y,rfl,_⟩:=h
  rfl
 obtain ⟨u,v,x,y,rfl,⟨p1,rfl,h1⟩,⟨p2,rfl,h2⟩,k1,k2,q⟩:=h
 have px:=vv (X:=mJ CX P w K mg base zae "difference_of" (ag x8) f bJ A outer s H E) hM
 refine ⟨_,(aj (aH (aC JN hr.mo px (ar (aT eM (aT c9 (aR (pv 0)) (aR (pv 1))) (aT c9 (aR (pv 1)) (aR (pv 0)))) (ar (aT c9 (aR (pv 0)) (aR (pv 1))) aa))))),?_⟩
 have b1:=k1.top
 have b2:=k1.bot
 have b3:=k2.top
 have b4:=k2.bot
 have c:∀{i j:Int},intBits i<=100000->intBits j<=100000->zi i j:=fun a b=>⟨aaf a (by decide),aaf b (by decide)⟩
 refine ⟨_,rfl,p1,_,_,_,rfl,rfl,h1,iE,_,rfl,p2,_,_,_,rfl,rfl,h2,h_,_,_,rfl,rfl,c b1 b4,?_⟩
 refine ⟨_,rfl,p2,_,_,_,rfl,rfl,h2,iE,_,rfl,p1,_,_,_,rfl,rfl,h1,h_,_,_,rfl,rfl,c b3 b2,?_⟩
 refine ⟨_,_,rfl,rfl,?_⟩
 refine ⟨_,rfl,p1,_,_,_,rfl,rfl,h1,h_,_,rfl,p2,_,_,_,rfl,rfl,h2,h_,_,_,rfl,rfl,c b2 b4,?_⟩
 exact ⟨_,_,rfl,MK k1 k2,q⟩
inductive yf (K:Frag)(f:Rat->Rat->Rat)(vs:η)(H:Hp)(Q:VK)(E_:XK):Prop where
 | mk (u v:V) (x y:Rat) (_:vs=[u,v]) (_:ig K H u x) (_:ig K H v y) (_:Sz 100000 x) (_:Sz 100000 y) (_:gives H Q (qr (f x y))):yf K f vs H Q E_
theorem JO (h:Sz k r):UQ k (qr r):=⟨dH r,h.top,h.bot⟩
theorem QT (F:Fn P w K mg base CX k x ps (ye K subQ)):Fn P w K mg base CX k x ps (yf K fun a b=>a - b):=by
 obtain ⟨f,fd,G,r⟩:=F.ex
 refine ⟨f,fd,G.imp fun vs H Q E h=>?_,r⟩
 obtain ⟨u,v,a,b,e,h1,h2,k1,k2,q⟩:=h
 refine ⟨u,v,qr a,qr b,e,h1,h2,JO k1,JO k2,?_⟩
 unfold subQ
 rw [Jq]
 exact q
def JP (K:Frag)(H:Hp)(Q:VK)(p:Rat×Rat):Prop:=∀(v:V) (H' :Hp),au H H' ->ft K H' v p->Q v H'
inductive yg (K:Frag)(f:Rat->Rat->Rat)(vs:η)(H:Hp)(Q:VK)(E_:XK):Prop where
 | mk (u v:V) (x y:Rat×Rat) (_:vs=[u,v]) (_:ft K H u x) (_:ft K H v y) (_:Sz 100000 x.1) (_:Sz 100000 x.2) (_:Sz 100000 y.1) (_:Sz 100000 y.2) (_:JP K H Q (f x.1 y.1,f x.2 y.2)):yg K f vs H Q E_
theorem U8:aE zae zae (ag x9):=sq
theorem U9 (hM:vt CX)(D:Def K mg "pair_difference" x9 zae)(U_:Fn P w K mg base CX 34 "difference_of" zae (yf K fun a b=>a - b)):Fn P w K mg base CX 35 "pair_difference" zae (yg K fun a b=>a - b):=by
 refine D.ok U8 (fun vs H Q E h=>?_) (fun f bJ A outer s H vs Q E hr h=>?_)
 ·obtain ⟨u,v,x,y,rfl,_⟩:=h
  rfl
 obtain ⟨u,v,x,y,rfl,⟨p1,a1,a2,rfl,h1,n1,n2⟩,⟨p2,b1,b2,rfl,h2,m1,m2⟩,k1,k2,l1,l2,q⟩:=h
 have px:=vv (X:=(mJ (a_ P w) P w K mg base zae "pair_difference" (ag x9) f bJ A outer s H E)) hM
 refine ⟨_,(aj (aH (aV (ar (aC U_ hr.mo px (ar (aR (pv 0)) (ar (aR (pv 1)) aa))) (ar (aC U_ hr.mo px (ar (aR (pv 0)) (ar (aR (pv 1)) aa))) aa))))),?_⟩
 refine ⟨_,rfl,p1,_,_,_,rfl,rfl,h1,iE,_,rfl,p2,_,_,_,rfl,rfl,h2,iE,a1,b1,_,_,rfl,n1,m1,k1,l1,fun c1 H1 s1 e1=>?_⟩
 refine ⟨_,rfl,p1,_,_,_,rfl,rfl,Ty.au.bX s1 h1,h_,_,rfl,p2,_,_,_,rfl,rfl,Ty.au.bX s1 h2,h_,a2,b2,_,_,rfl,n2.same s1,m2.same s1,k2,l2,fun c2 H2 s2 e2=>?_⟩
 refine ⟨(by show 2<=sizeLine;decide),fun c3 n3=>?_⟩
 have s3:=aF n3 (.tup [.ref c1,.ref c2])
 exact q (.ref c3) _ (fun b o z=>s3 _ _ (s2 _ _ (s1 _ _ z))) ⟨c3,_,_,rfl,bT.of ah,⟨c1,rfl,bT.of (s3 _ _ (s2 _ _ e1))⟩,⟨c2,rfl,bT.of (s3 _ _ e2)⟩⟩
inductive tP (K:Frag)(C:Addr)(vs:η)(H:Hp)(Q:VK)(E_:XK):Prop where
 | mk (a dx:Addr) (_:vs=[.ref a]) (_:H a=some (.ins C dx [])) (_:∀(pP pW pB:Addr) (H' :Hp),aL a H H' ->H pP=none->H pW=none->H pB=none->eC K H' C a dx pP pW pB [] [] [] [] []->Q .cw H'):tP K C vs H Q E_
theorem MX :d6 "pin_places" x []=([("pin_places",x)]:List (Str×V)):=rfl
theorem MY :d6 "pin_ways" y [("pin_places",x)]=([("pin_places",x),("pin_ways",y)]:List (Str×V)):=by
 simp only [d6]
 rw [if_neg (by decide)]
theorem MZ :d6 "bar_ends" z [("pin_places",x),("pin_ways",y)]=([("pin_places",x),("pin_ways",y),("bar_ends",z)]:List (Str×V)):=by
 simp only [d6]
 rw [if_neg (by decide),if_neg (by decide)]
theorem Va:aE zag zag (ag EI):=sq
theorem Vb (F:m8 K "__init__" "Frame.__init__" EI f fd)(fc:CP K C):cJ P w K mg base (a_ P w) 1 f fd zag (tP K C):=by
 refine c_ F Va (fun vs H Q E h=>?_) (fun bJ A outer s H vs Q E hr h=>?_)
 ·obtain ⟨a,dx,rfl,_⟩:=h
  rfl
 obtain ⟨a,dx,rfl,ha,q⟩:=h
 refine ⟨_,(ae (sM (pv 0) fh rfl)
  (ae (sM (pv 0) fh rfl)
  (aj (sM (pv 0) fh rfl)))),?_⟩
 intro pP nP
 have aP:a≠pP:=aq ha nP
 refine ⟨_,rfl,a,C,dx,_,rfl,(by rw [ao aP];exact ha),fc.cls,fc.pl,(by show 0 < 1000;decide),?_⟩
 rw [MX]
 generalize e1:upd (upd H pP (.dK [])) a (.ins C dx [("pin_places",.ref pP)])=H1
 have o1:H1 a=some (.ins C dx [("pin_places",.ref pP)]):=by rw [<- e1,ah]
 have p1:H1 pP=some (.dK []):=by rw [<- e1,ao (aba aP),ah]
 have k1:∀b o,b≠a->H b=some o->H1 b=some o:=fun b o n e=>by rw [<- e1,ao n,ao (aq e nP)];exact e
 intro pW nW
 have aW:a≠pW:=aq o1 nW
 refine ⟨_,rfl,a,C,dx,_,rfl,(by rw [ao aW];exact o1),fc.cls,fc.wy,(by show 1 < 1000;decide),?_⟩
 rw [MY]
 generalize e2:upd (upd H1 pW (.dK [])) a (.ins C dx [("pin_places",.ref pP),("pin_ways",.ref pW)])=H2
 have PW:pP≠pW:=aq p1 nW
 have o2:H2 a=some (.ins C dx [("pin_places",.ref pP),("pin_ways",.ref pW)]):=by rw [<- e2,ah]
 have w2:H2 pW=some (.dK []):=by rw [<- e2,ao (aba aW),ah]
 have k2:∀b o,b≠a->H1 b=some o->H2 b=some o:=fun b o n e=>by rw [<- e2,ao n,ao (aq e nW)];exact e
 intro pB nB
 have aB:a≠pB:=aq o2 nB
 have p2:=k2 _ _ (aba aP) p1
 refine ⟨_,rfl,a,C,dx,_,rfl,(by rw [ao aB];exact o2),fc.cls,fc.br,(by show 2 < 1000;decide),?_⟩
 rw [MZ]
 have PB:pP≠pB:=aq p2 nB
 have WB:pW≠pB:=aq w2 nB
 have k3:∀b o,b≠a->H2 b=some o->(upd (upd H2 pB (.dK [])) a (.ins C dx [("pin_places",.ref pP),("pin_ways",.ref pW),("bar_ends",.ref pB)])) b=some o:=fun b o n e=>by rw [ao n,ao (aq e nB)];exact e
 have f1:∀b,b≠a->H1 b=none->H b=none:=fun b n e=>by
  cases z:H b with
  | none=>rfl
  | some o=>rw [k1 b o n z] at e;cases e
 have f2:∀b,b≠a->H2 b=none->H b=none:=fun b n e=>by
  cases z:H b with
  | none=>rfl
  | some o=>rw [k2 b o n (k1 b o n z)] at e;cases e
 refine q pP pW pB _ (fun b o n e=>k3 b o n (k2 b o n (k1 b o n e))) nP (f1 _ (aba aW) nW) (f2 _ (aba aB) nB) ⟨ah,k3 _ _ (aba aP) p2,k3 _ _ (aba aW) w2,?_,PW,PB,WB,.nil,.nil⟩
 rw [ao (aba aB),ah]
inductive oY (K:Frag)(C:Addr)(vs:η)(H:Hp)(Q:VK)(E_:XK):Prop where
 | mk (a dx pP pW pB:Addr) (ps:Η) (bs:υ) (kP kW kB:δ) (_:vs=[.ref a]) (_:eC K H C a dx pP pW pB ps bs kP kW kB) (_:∀(l:Addr) (H' :Hp),au H H' ->H l=none->H' l=some (.lst ((bs.map (·.1)).map V.str))->Q (.ref l) H'):oY K C vs H Q E_
theorem Vc:aE zag zag (ag EO):=sq
theorem Vd (F:m8 K "bars" "Frame.bars" EO f fd)(fc:CP K C)(bQ:mg "list"=none):cJ P w K mg base (a_ P w) 1 f fd zag (oY K C):=by
 refine c_ F Vc (fun vs H Q E h=>?_) (fun bJ A outer s H vs Q E hr h=>?_)
 ·obtain ⟨a,dx,pP,pW,pB,ps,bs,kP,kW,kB,rfl,_⟩:=h
  rfl
 obtain ⟨a,dx,pP,pW,pB,ps,bs,kP,kW,kB,rfl,R,q⟩:=h
 refine ⟨_,(aj (aH (b9 (fP rfl) rfl bQ fN (ar (cB (pv 0) rfl) aa)))),?_⟩
 refine ⟨_,rfl,a,C,dx,_,_,rfl,R.obj,fc.cls,fc.br,rfl,pB,kB,rfl,.inl R.br,fun l nl=>?_⟩
 refine q l _ (aF nl _) nl ?_
 rw [ah]
 have e:kB.map (fun kv=>kV kv.1)=(bs.map (·.1)).map V.str:=by
  have z:kB.map (fun kv=>kV kv.1)=(kB.map (·.1)).map kV:=by rw [aaT];rfl
  rw [z,R.mi,aaT]
  rfl
 rw [e]
inductive iG (K:Frag)(C:Addr)(vs:η)(H:Hp)(Q:VK)(E_:XK):Prop where
 | mk (a dx pP pW pB:Addr) (ps:Η) (bs:υ) (kP kW kB:δ) (_:vs=[.ref a]) (_:eC K H C a dx pP pW pB ps bs kP kW kB) (_:∀(l:Addr) (H' :Hp),au H H' ->H l=none->H' l=some (.lst ((ps.map (·.1)).map V.str))->Q (.ref l) H'):iG K C vs H Q E_
theorem Ve:aE zag zag (ag EN):=sq
theorem Vf (F:m8 K "pins" "Frame.pins" EN f fd)(fc:CP K C)(bQ:mg "list"=none):cJ P w K mg base (a_ P w) 1 f fd zag (iG K C):=by
 refine c_ F Ve (fun vs H Q E h=>?_) (fun bJ A outer s H vs Q E hr h=>?_)
 ·obtain ⟨a,dx,pP,pW,pB,ps,bs,kP,kW,kB,rfl,_⟩:=h
  rfl
 obtain ⟨a,dx,pP,pW,pB,ps,bs,kP,kW,kB,rfl,R,q⟩:=h
 refine ⟨_,(aj (aH (b9 (fP rfl) rfl bQ fN (ar (cB (pv 0) rfl) aa)))),?_⟩
 refine ⟨_,rfl,a,C,dx,_,_,rfl,R.obj,fc.cls,fc.pl,rfl,pP,kP,rfl,.inl R.pl,fun l nl=>?_⟩
 refine q l _ (aF nl _) nl ?_
 rw [ah]
 have e:kP.map (fun kv=>kV kv.1)=(ps.map (·.1)).map V.str:=by
  have z:kP.map (fun kv=>kV kv.1)=(kP.map (·.1)).map kV:=by rw [aaT];rfl
  rw [z,R.vP,aaT]
  rfl
 rw [e]
inductive dX (K:Frag)(C:Addr)(vs:η)(H:Hp)(Q:VK)(E_:XK):Prop where
 | mk (a dx pP pW pB:Addr) (ps:Η) (bs:υ) (kP kW kB:δ) (x:Str) (_:vs=[.ref a,.str x]) (_:eC K H C a dx pP pW pB ps bs kP kW kB) (_:x∈ps.map (·.1)) (_:Q .cw H):dX K C vs H Q E_
theorem Vg:aE zal zal (ag EL):=sq
theorem Vh (F:m8 K "check_pin" "Frame.check_pin" EL f fd)(fc:CP K C):cJ P w K mg base (a_ P w) 1 f fd zal (dX K C):=by
 refine c_ F Vg (fun vs H Q E h=>?_) (fun bJ A outer s H vs Q E hr h=>?_)
 ·obtain ⟨a,dx,pP,pW,pB,ps,bs,kP,kW,kB,x,rfl,_⟩:=h
  rfl
 obtain ⟨a,dx,pP,pW,pB,ps,bs,kP,kW,kB,x,rfl,R,hx,q⟩:=h
 refine ⟨_,(aj (bu (iq (iP (bU hr) (pv 1) (cB (pv 0) rfl))) (aj (de)) aK)),?_⟩
 refine ⟨_,rfl,_,rfl,a,C,dx,_,_,rfl,R.obj,fc.cls,fc.pl,rfl,pP,_,rfl,c7.k (k:=.inr x) R.pl,_,rfl,?_⟩
 rw [R.pin x,decide_eq_true hx]
 exact q
inductive nK (K:Frag)(C:Addr)(vs:η)(H:Hp)(Q:VK)(E_:XK):Prop where
 | mk (a dx pP pW pB:Addr) (ps:Η) (bs:υ) (kP kW kB:δ) (x:Str) (p:Pt) (_:vs=[.ref a,.str x]) (_:eC K H C a dx pP pW pB ps bs kP kW kB) (_:(ps.map (·.1)).Nodup) (_:(x,p)∈ps) (_:∀v,Spot K H v p->Q v H):nK K C vs H Q E_
theorem Vi:aE zal zal (ag ER):=sq
theorem Vj (F:m8 K "place" "Frame.place" ER f fd)(fc:CP K C)(MC:bI P w K mg base (a_ P w) 1 C "check_pin" zal (dX K C)):cJ P w K mg base (a_ P w) 2 f fd zal (nK K C):=by
 refine c_ F Vi (fun vs H Q E h=>?_) (fun bJ A outer s H vs Q E hr h=>?_)
 ·obtain ⟨a,dx,pP,pW,pB,ps,bs,kP,kW,kB,x,p,rfl,_⟩:=h
  rfl
 obtain ⟨a,dx,pP,pW,pB,ps,bs,kP,kW,kB,x,p,rfl,R,nd,hx,q⟩:=h
 refine ⟨_,(ae (bg (cZ (k:=1) (pv 0) hr.mo (pY P w) (ar (pv 1) aa)))
  (aj (aH (du (bU hr) (cB (pv 0) rfl) (pv 1) (fun _ _=>rfl))))),?_⟩
 refine ⟨_,rfl,a,C,dx,_,_,_,rfl,R.obj,rfl,MC,_,rfl,a,dx,pP,pW,pB,ps,bs,kP,kW,kB,x,rfl,R,aab.mpr ⟨_,hx,rfl⟩,?_⟩
 obtain ⟨v,ev,hv⟩:=R.place nd hx
 exact ⟨_,rfl,a,C,dx,_,_,rfl,R.obj,fc.cls,fc.pl,rfl,_,rfl,pP,v,rfl,(by rw [<- ev];exact c7.k (k:=.inr x) R.pl),q v hv⟩
inductive tQ (K:Frag)(C:Addr)(vs:η)(H:Hp)(Q:VK)(E_:XK):Prop where
 | mk (a dx pP pW pB:Addr) (ps:Η) (bs:υ) (kP kW kB:δ) (x one other:Str) (_:vs=[.ref a,.str x]) (_:eC K H C a dx pP pW pB ps bs kP kW kB) (_:(bs.map (·.1)).Nodup) (_:(x,one,other)∈bs) (_:∀p,Rd H p (.tup [.str one,.str other])->Q (.ref p) H):tQ K C vs H Q E_
theorem Vk:aE zaR zaR (ag ET):=sq
theorem Vl (F:m8 K "ends" "Frame.ends" ET f fd)(fc:CP K C):cJ P w K mg base (a_ P w) 1 f fd zaR (tQ K C):=by
 refine c_ F Vk (fun vs H Q E h=>?_) (fun bJ A outer s H vs Q E hr h=>?_)
 ·obtain ⟨a,dx,pP,pW,pB,ps,bs,kP,kW,kB,x,one,other,rfl,_⟩:=h
  rfl
 obtain ⟨a,dx,pP,pW,pB,ps,bs,kP,kW,kB,x,one,other,rfl,R,nd,hx,q⟩:=h
 refine ⟨_,(ae (bu (iq (iP (bU hr) (pv 1) (cB (pv 0) rfl))) (aj (de)) aK)
  (aj (aH (du (bU hr) (cB (pv 0) rfl) (pv 1) (fun _ _=>rfl))))),?_⟩
 have hm:x∈bs.map (·.1):=aab.mpr ⟨_,hx,rfl⟩
 refine ⟨_,rfl,_,rfl,a,C,dx,_,_,rfl,R.obj,fc.cls,fc.br,rfl,pB,_,rfl,c7.k (k:=.inr x) R.br,_,rfl,?_⟩
 rw [R.bar x,decide_eq_true hm]
 obtain ⟨p,ev,hv⟩:=R.ends nd hx
 exact ⟨_,rfl,a,C,dx,_,_,rfl,R.obj,fc.cls,fc.br,rfl,_,rfl,pB,.ref p,rfl,(by rw [<- ev];exact c7.k (k:=.inr x) R.br),q p hv⟩
inductive oZ (K:Frag)(C:Addr)(vs:η)(H:Hp)(Q:VK)(E_:XK):Prop where
 | mk (a dx pP pW pB:Addr) (ps:Η) (bs:υ) (kP kW kB:δ) (pw:Θ) (x:Str) (ws:Λ) (_:vs=[.ref a,.str x]) (_:eC K H C a dx pP pW pB ps bs kP kW kB) (_:qA K H pw kW) (_:(pw.map (·.1)).Nodup) (_:(x,ws)∈pw) (_:x∈ps.map (·.1)) (_:∀(l:Addr) (us:η) (H' :Hp),au H H' ->H l=none->H' l=some (.lst us)->ie K H' us ws->Q (.ref l) H'):oZ K C vs H Q E_
theorem Vm:aE zal zal (ag ES):=sq
theorem Vn (F:m8 K "ways" "Frame.ways" ES f fd)(fc:CP K C)(bQ:mg "list"=none)(MC:bI P w K mg base (a_ P w) 1 C "check_pin" zal (dX K C)):cJ P w K mg base (a_ P w) 2 f fd zal (oZ K C):=by
 refine c_ F Vm (fun vs H Q E h=>?_) (fun bJ A outer s H vs Q E hr h=>?_)
 ·obtain ⟨a,dx,pP,pW,pB,ps,bs,kP,kW,kB,pw,x,ws,rfl,_⟩:=h
  rfl
 obtain ⟨a,dx,pP,pW,pB,ps,bs,kP,kW,kB,pw,x,ws,rfl,R,W,nd,hx,hp,q⟩:=h
 refine ⟨_,(ae (bg (cZ (k:=1) (pv 0) hr.mo (pY P w) (ar (pv 1) aa)))
  (aj (aH (b9 oF rfl bQ fN (ar (du (bU hr) (cB (pv 0) rfl) (pv 1) (fun _ _=>rfl)) aa))))),?_⟩
 refine ⟨_,rfl,a,C,dx,_,_,_,rfl,R.obj,rfl,MC,_,rfl,a,dx,pP,pW,pB,ps,bs,kP,kW,kB,x,rfl,R,hp,?_⟩
 obtain ⟨v,ev,l,us,el,hl,pt⟩:=gS W nd hx
 have el' :v=.ref l:=el
 subst el'
 refine ⟨_,rfl,a,C,dx,_,_,rfl,R.obj,fc.cls,fc.wy,rfl,_,rfl,pW,.ref l,rfl,(by rw [<- ev];exact c7.k (k:=.inr x) R.wy),?_⟩
 exact ⟨l,us,rfl,aX.of hl,fun l2 n2=>q l2 us _ (aF n2 _) n2 ah (pt.same (aF n2 _))⟩
def QU (K:Frag)(H:Hp)(Q:VK)(ws:Λ):Prop:=∀(l:Addr) (us:η) (H' :Hp),au H H' ->H l=none->H' l=some (.lst us)->ie K H' us ws->Q (.ref l) H'
theorem tR (h:(qr x).1=0):x=0:=by
 have:=gA x
 unfold vl at this
 rw [h] at this
 have z:=xP (r:=x)
 have e:((0:Int):Rat)=0:=by rfl
 rw [e] at this
 grind
inductive nL (K:Frag)(C:Addr)(vs:η)(H:Hp)(Q:VK)(E_:XK):Prop where
 | mk (a dx:Addr) (ux uy:V) (x y:Rat) (_:vs=[.ref a,ux,uy]) (_:H a=some (.ins C dx [])) (_:ig K H ux x) (_:ig K H uy y) (_:¬ (x=0/\y=0)) (_:∀p,H p=none->Q .cw (upd (upd H p (.tup [ux,uy])) a (.ins C dx [("way",.ref p)]))):nL K C vs H Q E_
theorem Vo:aE zaz zaz (ag EU):=sq
theorem Vp (F:m8 K "__init__" "Roller.__init__" EU f fd)(cl:vf K C)(nw:fK K C "way"):cJ P w K mg base (a_ P w) 1 f fd zaz (nL K C):=by
 refine c_ F Vo (fun vs H Q E h=>?_) (fun bJ A outer s H vs Q E hr h=>?_)
 ·obtain ⟨a,dx,ux,uy,x,y,rfl,_⟩:=h
  rfl
 obtain ⟨a,dx,ux,uy,x,y,rfl,ha,⟨p1,rfl,h1⟩,⟨p2,rfl,h2⟩,nz,q⟩:=h
 have sz:(2:Nat)<=sizeLine:=by decide
 refine ⟨_,(ae (bu (PW.pt (xp (aS eK (aR (pv 1)) ak (aZ _)) (sI (aS eK (aR (pv 2)) ak (aZ _))))) (aj (de)) aK)
  (aj (sM (pv 0) (aV (ar (pv 1) (ar (pv 2) aa))) rfl))),?_⟩
 refine ⟨_,rfl,p1,_,_,_,rfl,rfl,h1,iE,rfl,_,rfl,?_⟩
 refine bq (fun c1=>?_) (fun c1=>?_)
 ·have e1:(qr x).1=0:=by simpa using of_decide_eq_true c1
  refine ⟨_,rfl,p2,_,_,_,rfl,rfl,h2,iE,rfl,_,rfl,?_⟩
  refine bq (fun c2=>?_) (fun c2=>?_)
  ·have e2:(qr y).1=0:=by simpa using of_decide_eq_true c2
   exact absurd ⟨tR e1,tR e2⟩ nz
  ·exact ⟨_,rfl,_,rfl,sz,fun p hp=>⟨_,rfl,a,C,dx,[],rfl,(by rw [ao (aq ha hp)];exact ha),cl,nw,(by show 0 < 1000;decide),q p hp⟩⟩
 ·refine Qb ?_
  exact ⟨_,rfl,_,rfl,sz,fun p hp=>⟨_,rfl,a,C,dx,[],rfl,(by rw [ao (aq ha hp)];exact ha),cl,nw,(by show 0 < 1000;decide),q p hp⟩⟩
inductive gT (K:Frag)(C:Addr)(vs:η)(H:Hp)(Q:VK)(E_:XK):Prop where
 | mk (a dx p:Addr) (w:Rat×Rat) (_:vs=[.ref a]) (_:H a=some (.ins C dx [("way",.ref p)])) (_:ft K H (.ref p) w) (_:QU K H Q [w]):gT K C vs H Q E_
theorem Vq:aE zag zag (ag EV):=sq
theorem Vr (F:m8 K "ways" "Roller.ways" EV f fd)(cl:vf K C)(nw:fK K C "way"):cJ P w K mg base (a_ P w) 1 f fd zag (gT K C):=by
 refine c_ F Vq (fun vs H Q E h=>?_) (fun bJ A outer s H vs Q E hr h=>?_)
 ·obtain ⟨a,dx,p,w,rfl,_⟩:=h
  rfl
 obtain ⟨a,dx,p,w,rfl,ha,hw,q⟩:=h
 refine ⟨_,(aj (aH (cN (ar (cB (pv 0) rfl) aa)))),?_⟩
 refine ⟨_,rfl,a,C,dx,_,.ref p,rfl,ha,cl,nw,(by simp),(by show 1<=sizeLine;decide),fun l hl=>?_⟩
 exact q l [.ref p] _ (aF hl _) hl ah (.cons (hw.same (aF hl _)) .nil)
inductive gU (K:Frag)(vs:η)(H:Hp)(Q:VK)(E_:XK):Prop where
 | mk (a:Addr) (_:vs=[.ref a]) (_:QU K H Q [(1,0),(0,1)]):gU K vs H Q E_
theorem tS:qr 1=(1,1):=by
 have:=oT 1
 simpa using this
theorem d5:qr 0=(0,1):=by
 have:=oT 0
 simpa using this
theorem zV (ea:qr a=x)(eb:qr b=y)(h:H p=some (.tup [.ref p1,.ref p2]))(h1:H p1=some (.tup [.int x.1,.int x.2]))(h2:H p2=some (.tup [.int y.1,.int y.2])):ft K H (.ref p) (a,b):=
 ⟨p,.ref p1,.ref p2,rfl,bT.of h,⟨p1,rfl,by rw [ea];exact bT.of h1⟩,⟨p2,rfl,by rw [eb];exact bT.of h2⟩⟩
theorem Vs:aE zag zag (ag EW):=sq
theorem Vt (F:m8 K "ways" "Fixed.ways" EW f fd):cJ P w K mg base (a_ P w) 1 f fd zag (gU K):=by
 refine c_ F Vs (fun vs H Q E h=>?_) (fun bJ A outer s H vs Q E hr h=>?_)
 ·obtain ⟨a,rfl,_⟩:=h
  rfl
 obtain ⟨a,rfl,q⟩:=h
 have sz:(2:Nat)<=sizeLine:=by decide
 refine ⟨_,(aj (aH (cN (ar (aV (ar (aV (ar ak (ar ak aa))) (ar (aV (ar ak (ar ak aa))) aa))) (ar (aV (ar (aV (ar ak (ar ak aa))) (ar (aV (ar ak (ar ak aa))) aa))) aa))))),?_⟩
 refine ⟨sz,fun p1 n1=>?_⟩
 have s1:=aF n1 (.tup [.int 1,.int 1])
 have e1:upd H p1 (.tup [.int 1,.int 1]) p1=some (.tup [.int 1,.int 1]):=ah
 generalize upd H p1 (.tup [.int 1,.int 1])=H1 at s1 e1 ⊢
 refine ⟨sz,fun p2 n2=>?_⟩
 have s2:=aF n2 (.tup [.int 0,.int 1])
 have e2:upd H1 p2 (.tup [.int 0,.int 1]) p2=some (.tup [.int 0,.int 1]):=ah
 generalize upd H1 p2 (.tup [.int 0,.int 1])=H2 at s2 e2 ⊢
 refine ⟨sz,fun p3 n3=>?_⟩
 have s3:=aF n3 (.tup [.ref p1,.ref p2])
 have e3:upd H2 p3 (.tup [.ref p1,.ref p2]) p3=some (.tup [.ref p1,.ref p2]):=ah
 generalize upd H2 p3 (.tup [.ref p1,.ref p2])=H3 at s3 e3 ⊢
 refine ⟨sz,fun p4 n4=>?_⟩
 have s4:=aF n4 (.tup [.int 0,.int 1])
 have e4:upd H3 p4 (.tup [.int 0,.int 1]) p4=some (.tup [.int 0,.int 1]):=ah
 generalize upd H3 p4 (.tup [.int 0,.int 1])=H4 at s4 e4 ⊢
 refine ⟨sz,fun p5 n5=>?_⟩
 have s5:=aF n5 (.tup [.int 1,.int 1])
 have e5:upd H4 p5 (.tup [.int 1,.int 1]) p5=some (.tup [.int 1,.int 1]):=ah
 generalize upd H4 p5 (.tup [.int 1,.int 1])=H5 at s5 e5 ⊢
 refine ⟨sz,fun p6 n6=>?_⟩
 have s6:=aF n6 (.tup [.ref p4,.ref p5])
 have e6:upd H5 p6 (.tup [.ref p4,.ref p5]) p6=some (.tup [.ref p4,.ref p5]):=ah
 generalize upd H5 p6 (.tup [.ref p4,.ref p5])=H6 at s6 e6 ⊢
 refine ⟨sz,fun l nl=>?_⟩
 have s7:=aF nl (.lst [.ref p3,.ref p6])
 have e7:upd H6 l (.lst [.ref p3,.ref p6]) l=some (.lst [.ref p3,.ref p6]):=ah
 generalize upd H6 l (.lst [.ref p3,.ref p6])=H7 at s7 e7 ⊢
 have s16:=s1.trans (s2.trans (s3.trans (s4.trans (s5.trans s6))))
 have w1:ft K H7 (.ref p3) (1,0):=zV tS d5 (s7 _ _ (s6 _ _ (s5 _ _ (s4 _ _ e3)))) (s7 _ _ (s6 _ _ (s5 _ _ (s4 _ _ (s3 _ _ (s2 _ _ e1)))))) (s7 _ _ (s6 _ _ (s5 _ _ (s4 _ _ (s3 _ _ e2)))))
 have w2:ft K H7 (.ref p6) (0,1):=zV d5 tS (s7 _ _ e6) (s7 _ _ (s6 _ _ (s5 _ _ e4))) (s7 _ _ (s6 _ _ e5))
 exact q l [.ref p3,.ref p6] H7 (s16.trans s7) (s16.free nl) e7 (.cons w1 (.cons w2 .nil))
def JQ (P:Program)(w:World)(K:Frag)(mg:ι)(base:Heap)(H:Hp)(hv:V)(ws:Λ):Prop:=(hv=.cw/\ws=[])\/∃(h Ch Vu:Addr) (SX:List (Str×V)) (psh:ρ) (Z5:Sp),hv=.ref h/\H h=some (.ins Ch Vu SX)/\SX.lookup ("ways":Str)=none/\bI P w K mg base (a_ P w) 2 Ch "ways" psh Z5/\(∀H1,H1 h=some (.ins Ch Vu SX)->bD H H1->∀Q',QU K H1 Q' ws->Z5 [.ref h] H1 Q' E0)
inductive cT (P:Program)(w:World)(K:Frag)(mg:ι)(base:Heap)(C:Addr)(vs:η)(H:Hp)(Q:VK)(E_:XK):Prop where
 | mk (a dx pP pW pB:Addr) (ps:Η) (bs:υ) (kP kW kB:δ) (pw:Θ) (x:Str) (u v hv:V) (p:Pt) (ws:Λ) (_:vs=[.ref a,.str x,u,v,hv]) (_:eC K H C a dx pP pW pB ps bs kP kW kB) (_:qA K H pw kW) (_:pw.map (·.1)=ps.map (·.1)) (_:nC K H u p.1) (_:nC K H v p.2) (_:x∉ps.map (·.1)) (_:(∀z∈ps,z.2≠p)) (_:ps.length < 24) (_:JQ P w K mg base H hv ws) (_:∀(H' :Hp) (qM jc :δ),(∀b o,b≠pP->b≠pW->H b=some o->H' b=some o)->eC K H' C a dx pP pW pB (ps++[(x,p)]) bs qM jc kB->qA K H' (pw++[(x,ws)]) jc ->(∃l,jc =kW++[(.inr x,.ref l)]/\H l=none)->Q .cw H'):cT P w K mg base C vs H Q E_
theorem JR:aE ["self","name","x","y","hold","pin","spot"] zap (ag mO):=sq
theorem Vv (F:QD K "put_pin" "Frame.put_pin" mO f fd)(fc:CP K C)(QV:mg "MOST_PINS"=some (.int 24 tkP))(a8:mg "len"=none)(bQ:mg "list"=none):cJ P w K mg base (a_ P w) 3 f fd zap (cT P w K mg base C):=by
 refine Jn F JR (fun vs H Q E h=>?_) (fun bJ A outer s H vs Q E hr h=>?_)
 ·obtain ⟨a,dx,pP,pW,pB,ps,bs,kP,kW,kB,pw,x,u,v,hv,p,ws,rfl,_⟩:=h
  rfl
 obtain ⟨a,dx,pP,pW,pB,ps,bs,kP,kW,kB,pw,x,u,v,hvv,p,ws,rfl,R,W,ew,hu,hv,hx,hs,hl,hH,q⟩:=h
 refine ⟨_,(ae (bu (iq (kJ (bU hr) (pv 1) (cB (pv 0) rfl))) (aj (de)) aK)
  (ae (nE (bB PassesOwn.never rfl (jL (cB (pv 0) rfl)) (dG rfl (aQ (av (i:=5) JR.nd rfl (aad rfl)) (aQ (av (i:=6) JR.nd rfl (aad rfl)) cu))) (aj (bu (aS (nc hr.units) (pv 6) (aV (ar (pv 2) (ar (pv 3) aa))) (aZ _)) (aj (de)) aK))))
  (ae (bu (aS N9 (aJ rW rfl a8 bZ (ar (cB (pv 0) rfl) aa)) (jA (v:=.int 24) rfl QV ⟨_,rfl⟩) (aZ _)) (aj (de)) aK)
  (ae (eA (bU hr) (cB (pv 0) rfl) (pv 1) (aV (ar (pv 2) (ar (pv 3) aa))) rfl)
  (aj (eA (bU hr) (cB (pv 0) rfl) (pv 1) (u9 (aS xt (pv 4) n_ (aZ _)) (cN aa) (b9 oF rfl bQ fN (ar (fZ (k:=2) (pv 4) hr.mo (pY P w)) aa))) rfl)))))),?_⟩
 refine ⟨_,rfl,_,rfl,a,C,dx,_,_,rfl,R.obj,fc.cls,fc.pl,rfl,pP,_,rfl,c7.k (k:=.inr x) R.pl,_,rfl,?_⟩
 rw [R.pin x,decide_eq_false hx]
 have lk:kP.length=ps.length:=(Paired.length R.rp).symm
 refine ⟨_,rfl,a,C,dx,_,_,rfl,R.obj,fc.cls,fc.pl,rfl,pP,kP,rfl,R.pl,fun o=>?_⟩
 have k0:aL pP H (upd H pP (.cV o (.dK kP))):=fun b o' n e=>by rw [ao n];exact e
 refine fG (d:=pP) (o:=o) (kvs:=kP) (fun t σ H' =>∃(o2 o3:χ),σ=[some (.ref a),some (.str x),some u,some v,some hvv,o2,o3]/\aL pP H H' /\H' pP=some (.cV o (.dK kP))) ⟨none,none,rfl,k0,ah⟩ (fun t σ H' _ h=>by
   obtain ⟨_,_,_,_,h⟩:=h
   exact h) ?_ ?_
 ·rintro t k y σ H6 p7 si ⟨o2,o3,rfl,k6,GS⟩ n7
  obtain ⟨z,ez,hz1,QI⟩:=aw (b6 R.rp) si
  have QW :k=.inr z.1:=hz1
  subst QW
  have s6:bD H H6:=fun b xs r=>by
   rcases r with r | ⟨o',r⟩
   ·exact .inl (k6 _ _ (fun e=>by rw [e,R.pl] at r;cases r) r)
   ·exact .inr ⟨o',k6 _ _ (fun e=>by rw [e,R.pl] at r;cases r) r⟩
  have s7:=aF n7 (.tup [kV (.inr z.1),y])
  have s67:bD H (upd H6 p7 (.tup [kV (.inr z.1),y])):=s6.trans (.of s7)
  refine ⟨p7,_,rfl,bT.of ah,rfl,_,_,rfl,_,_,rfl,rfl,?_⟩
  refine ⟨_,rfl,_,rfl,_,rfl,(by show 2<=sizeLine;decide),fun t8 n8=>?_⟩
  have s8:=aF n8 (.tup [u,v])
  have JS:bD H (upd (upd H6 p7 (.tup [kV (.inr z.1),y])) t8 (.tup [u,v])):=s67.trans (.of s8)
  refine ⟨eL z.2,eL p,.inl ⟨(Spot.aU QI JS).is,(Spot.is (p:=p) ⟨t8,u,v,rfl,bT.of ah,hu.aU JS,hv.aU JS⟩)⟩,mh _ _,rX _,?_⟩
  rw [vO]
  refine ⟨_,rfl,?_⟩
  refine bq (fun c=>absurd (of_decide_eq_true c) (hs z (ir ez))) (fun _=>?_)
  exact ⟨_,_,rfl,fun b o' n e=>s8 _ _ (s7 _ _ (k6 b o' n e)),s8 _ _ (s7 _ _ GS)⟩
 ·rintro σ H1 ⟨o2,o3,rfl,k1,hd1⟩
  refine ⟨pP,o,kP,hd1,fun o' u' z=>(by have z' :H pP=some (.cV o' u'):=z;rw [R.pl] at z';cases z'),?_⟩
  have s2:au H (upd H1 pP (.dK kP)):=fun b o' e=>by
   by_cases n:b=pP
   ·subst n
    rw [R.pl] at e
    rw [ah]
    exact e
   ·rw [ao n]
    exact k1 b o' n e
  generalize upd H1 pP (.dK kP)=H2 at s2 ⊢
  have R2:=R.same s2
  refine ⟨_,rfl,a,C,dx,_,_,rfl,R2.obj,fc.cls,fc.pl,rfl,pP,kP,rfl,.inl R2.pl,_,_,rfl,rfl,_,rfl,?_⟩
  refine bq (fun c=>?_) (fun _=>?_)
  ·have c' :(24:Int)<=(kP.length:Int):=of_decide_eq_true c
   omega
  refine ⟨_,rfl,_,rfl,(by show 2<=sizeLine;decide),fun t nt=>?_⟩
  have s3:=aF nt (.tup [u,v])
  have R3:=R2.same s3
  have Z2:=(hu.same s2).same s3
  have hv3:=(hv.same s2).same s3
  refine ⟨_,rfl,a,C,dx,_,_,rfl,R3.obj,fc.cls,fc.pl,rfl,_,rfl,pP,_,rfl,ib.k (k:=.inr x) R3.pl (aaj (show kP.length<=1000 by omega) (by decide)),?_⟩
  have e:putK kP (.inr x) (.ref t)=kP++[(.inr x,.ref t)]:=di _ (cQ (by rw [R.vP];exact fun z=>hx (eD.mp z)))
  rw [e]
  have R4:=R3.QF (x:=x) (p:=p) (t:=t) ⟨t,u,v,rfl,bT.of ah,Z2,hv3⟩
  have k4:∀b o,b≠pP->H b=some o->(upd (upd H2 t (.tup [u,v])) pP (.dK (kP++[(.inr x,.ref t)]))) b=some o:=fun b o n e=>by rw [ao n];exact s3 _ _ (s2 _ _ e)
  generalize upd (upd H2 t (.tup [u,v])) pP (.dK (kP++[(.inr x,.ref t)]))=H4 at R4 k4 ⊢
  have lw:kW.length=ps.length:=by
   have e1:kW.length=pw.length:=(Paired.length W).symm
   have e2:=congrArg abR ew
   rw [aaa,aaa] at e2
   omega
  have t4:bD H H4:=fun b xs r=>by
   rcases r with r | ⟨o',r⟩
   ·exact .inl (k4 _ _ (fun e=>by rw [e,R.pl] at r;cases r) r)
   ·exact .inr ⟨o',k4 _ _ (fun e=>by rw [e,R.pl] at r;cases r) r⟩
  have W4:qA K H4 pw kW:=Paired.bF W fun _ _ z=>⟨z.1,by
   obtain ⟨l,us,e1,e2,e3⟩:=z.2
   exact ⟨l,us,e1,k4 _ _ (fun e=>by rw [e,R.pl] at e2;cases e2) e2,e3.aU t4⟩⟩
  have nb:∀l2,H4 l2=none->H l2=none:=fun l2 n=>by
   cases hq:H l2 with
   | none=>rfl
   | some o=>
    have:=k4 l2 o (fun z=>by have h:=R4.pl;rw [<- z,n] at h;cases h) hq
    rw [n] at this
    cases this
  refine ⟨_,rfl,rfl,_,rfl,?_⟩
  rcases hH with ⟨rfl,rfl⟩ | ⟨h,Ch,Vu,SX,psh,Z5,rfl,hh,hlk,MH,qF⟩
  ·refine bq (fun _=>?_) (fun c=>absurd (by decide) c)
   refine ⟨by show 0<=sizeLine;decide,fun l2 n6=>?_⟩
   have s6:=aF n6 (.lst [])
   have R6:=R4.same s6
   have W6:=W4.same s6
   refine ⟨_,rfl,a,C,dx,_,_,rfl,R6.obj,fc.cls,fc.wy,rfl,_,rfl,pW,_,rfl,ib.k (k:=.inr x) R6.wy (aaj (show kW.length<=1000 by omega) (by decide)),?_⟩
   have ek:putK kW (.inr x) (.ref l2)=kW++[(.inr x,.ref l2)]:=di _ (cQ (by rw [W.keys,ew];exact fun z=>hx (eD.mp z)))
   rw [ek]
   have ne6:l2≠pW:=fun z=>by have h:=R6.wy;rw [<- z,ah] at h;cases h
   exact q _ _ _ (fun b o n1 n2 e=>by rw [ao n2];exact s6 _ _ (k4 b o n1 e)) (R6.tD _) (Paired.snoc (W6.dict R6.wy) ⟨rfl,l2,[],rfl,by rw [ao ne6,ah],.nil⟩) ⟨l2,rfl,nb l2 n6⟩
  have h4:H4 h=some (.ins Ch Vu SX):=k4 _ _ (fun e=>by rw [e,R.pl] at hh;cases hh) hh
  refine bq (fun c=>absurd (of_decide_eq_true c) (fun z=>nomatch z)) (fun _=>?_)
  refine ⟨_,rfl,h,Ch,Vu,SX,psh,Z5,rfl,h4,hlk,MH,qF H4 h4 t4 _ fun l1 us H5 s5 n5 e5 p5=>?_⟩
  refine ⟨l1,us,rfl,aX.of e5,fun l2 n6=>?_⟩
  have s6:=aF n6 (.lst us)
  have R6:=(R4.same s5).same s6
  have W6:=(W4.same s5).same s6
  refine ⟨_,rfl,a,C,dx,_,_,rfl,R6.obj,fc.cls,fc.wy,rfl,_,rfl,pW,_,rfl,ib.k (k:=.inr x) R6.wy (aaj (show kW.length<=1000 by omega) (by decide)),?_⟩
  have ek:putK kW (.inr x) (.ref l2)=kW++[(.inr x,.ref l2)]:=di _ (cQ (by rw [W.keys,ew];exact fun z=>hx (eD.mp z)))
  rw [ek]
  have SY:au H4 (upd H5 l2 (.lst us)):=fun b o z=>s6 _ _ (s5 _ _ z)
  refine q _ _ _ (fun b o n1 n2 e=>by rw [ao n2];exact SY _ _ (k4 b o n1 e)) (R6.tD _) ?_ ⟨l2,rfl,nb l2 (s5.free n6)⟩
  have ne6:l2≠pW:=fun z=>by have h:=R6.wy;rw [<- z,ah] at h;cases h
  exact Paired.snoc (W6.dict R6.wy) ⟨rfl,l2,us,rfl,by rw [ao ne6,ah],(p5.same s6).aU (.dict R6.wy)⟩
inductive gW (K:Frag)(C:Addr)(vs:η)(H:Hp)(Q:VK)(E_:XK):Prop where
 | mk (a dx pP pW pB:Addr) (ps:Η) (bs:υ) (kP kW kB:δ) (x one other:Str) (_:vs=[.ref a,.str x,.str one,.str other]) (_:eC K H C a dx pP pW pB ps bs kP kW kB) (_:x∉bs.map (·.1)) (_:one∈ps.map (·.1)) (_:other∈ps.map (·.1)) (_:one≠other) (_:bs.length < 60) (_:Q .cw H):gW K C vs H Q E_
theorem Vw:aE zak zak (ag EK):=sq
theorem Vx (F:m8 K "check_bar" "Frame.check_bar" EK f fd)(fc:CP K C)(QX:mg "MOST_BARS"=some (.int 60 tkB))(a8:mg "len"=none)
  (MC:bI P w K mg base (a_ P w) 1 C "check_pin" zal (dX K C)):cJ P w K mg base (a_ P w) 2 f fd zak (gW K C):=by
 refine c_ F Vw (fun vs H Q E h=>?_) (fun bJ A outer s H vs Q E hr h=>?_)
 ·obtain ⟨a,dx,pP,pW,pB,ps,bs,kP,kW,kB,x,one,other,rfl,_⟩:=h
  rfl
 obtain ⟨a,dx,pP,pW,pB,ps,bs,kP,kW,kB,x,one,other,rfl,R,hx,h1,h2,ne,hl,q⟩:=h
 refine ⟨_,(ae (bu (iq (kJ (bU hr) (pv 1) (cB (pv 0) rfl))) (aj (de)) aK)
  (ae (bg (cZ (k:=1) (pv 0) hr.mo (pY P w) (ar (pv 2) aa)))
  (ae (bg (cZ (k:=1) (pv 0) hr.mo (pY P w) (ar (pv 3) aa)))
  (ae (bu (aS eK (pv 2) (pv 3) (aZ _)) (aj (de)) aK)
  (aj (bu (aS N9 (aJ rW rfl a8 bZ (ar (cB (pv 0) rfl) aa)) (jA (v:=.int 60) rfl QX ⟨_,rfl⟩) (aZ _)) (aj (de)) aK)))))),?_⟩
 refine ⟨_,rfl,_,rfl,a,C,dx,_,_,rfl,R.obj,fc.cls,fc.br,rfl,pB,_,rfl,c7.k (k:=.inr x) R.br,_,rfl,?_⟩
 rw [R.bar x,decide_eq_false hx]
 refine ⟨_,rfl,a,C,dx,_,_,_,rfl,R.obj,rfl,MC,_,rfl,a,dx,pP,pW,pB,ps,bs,kP,kW,kB,one,rfl,R,h1,?_⟩
 refine ⟨_,rfl,a,C,dx,_,_,_,rfl,R.obj,rfl,MC,_,rfl,a,dx,pP,pW,pB,ps,bs,kP,kW,kB,other,rfl,R,h2,?_⟩
 refine ⟨_,rfl,_,rfl,rfl,_,rfl,?_⟩
 refine bq (fun c=>absurd (by simpa [qv] using c) ne) (fun _=>?_)
 have lk:kB.length=bs.length:=(Paired.length R.rb).symm
 refine ⟨_,rfl,a,C,dx,_,_,rfl,R.obj,fc.cls,fc.br,rfl,pB,kB,rfl,.inl R.br,_,_,rfl,rfl,_,rfl,?_⟩
 refine bq (fun c=>?_) (fun _=>q)
 have c' :(60:Int)<=(kB.length:Int):=of_decide_eq_true c
 omega
inductive jR (K:Frag)(C:Addr)(vs:η)(H:Hp)(Q:VK)(E_:XK):Prop where
 | mk (a dx pP pW pB:Addr) (ps:Η) (bs:υ) (kP kW kB:δ) (x one other:Str) (_:vs=[.ref a,.str x,.str one,.str other]) (_:eC K H C a dx pP pW pB ps bs kP kW kB) (_:x∉bs.map (·.1)) (_:one∈ps.map (·.1)) (_:other∈ps.map (·.1)) (_:one≠other) (_:bs.length < 60) (_:∀(H' :Hp) (OB :δ),aL pB H H' ->eC K H' C a dx pP pW pB ps (bs++[(x,one,other)]) kP kW OB ->Q .cw H'):jR K C vs H Q E_
theorem Vy:aE zak zak (ag EJ):=sq
theorem Vz (F:m8 K "put_bar" "Frame.put_bar" EJ f fd)(fc:CP K C)
  (MC:bI P w K mg base (a_ P w) 2 C "check_bar" zak (gW K C)):cJ P w K mg base (a_ P w) 3 f fd zak (jR K C):=by
 refine c_ F Vy (fun vs H Q E h=>?_) (fun bJ A outer s H vs Q E hr h=>?_)
 ·obtain ⟨a,dx,pP,pW,pB,ps,bs,kP,kW,kB,x,one,other,rfl,_⟩:=h
  rfl
 obtain ⟨a,dx,pP,pW,pB,ps,bs,kP,kW,kB,x,one,other,rfl,R,hx,h1,h2,ne,hl,q⟩:=h
 refine ⟨_,(ae (bg (cZ (k:=2) (pv 0) hr.mo (pY P w) (ar (pv 1) (ar (pv 2) (ar (pv 3) aa)))))
  (aj (eA (bU hr) (cB (pv 0) rfl) (pv 1) (aV (ar (pv 2) (ar (pv 3) aa))) rfl))),?_⟩
 refine ⟨_,rfl,a,C,dx,_,_,_,rfl,R.obj,rfl,MC,_,rfl,_,rfl,_,rfl,a,dx,pP,pW,pB,ps,bs,kP,kW,kB,x,one,other,rfl,R,hx,h1,h2,ne,hl,?_⟩
 refine ⟨_,rfl,_,rfl,(by show 2<=sizeLine;decide),fun t nt=>?_⟩
 have s:=aF nt (.tup [.str one,.str other])
 have R' :=R.same s
 have lk:kB.length=bs.length:=(Paired.length R.rb).symm
 refine ⟨_,rfl,a,C,dx,_,_,rfl,R'.obj,fc.cls,fc.br,rfl,_,rfl,pB,_,rfl,ib.k (k:=.inr x) R'.br (aaj (show kB.length<=1000 by omega) (by decide)),?_⟩
 have e:putK kB (.inr x) (.ref t)=kB++[(.inr x,.ref t)]:=di _ (cQ (by rw [R.mi];exact fun z=>hx (eD.mp z)))
 rw [e]
 refine q _ _ (fun b o n z=>?_) (R'.QE (.inl ah))
 rw [ao n]
 exact s _ _ z
inductive iU (K:Frag)(C:Addr)(vs:η)(H:Hp)(Q:VK)(E_:XK):Prop where
 | mk (a dx pP pW pB:Addr) (ps:Η) (bs:υ) (kP kW kB:δ) (x:Str) (_:vs=[.ref a,.str x]) (_:eC K H C a dx pP pW pB ps bs kP kW kB) (_:x∈bs.map (·.1)) (_:∀(H' :Hp) (OB :δ),aL pB H H' ->eC K H' C a dx pP pW pB ps (bs.filter fun b=>decide (b.1≠x)) kP kW OB ->Q .cw H'):iU K C vs H Q E_
theorem VA:aE zaB zaB (ag EM):=sq
theorem VB (F:m8 K "take_bar" "Frame.take_bar" EM f fd)(fc:CP K C):cJ P w K mg base (a_ P w) 1 f fd zaB (iU K C):=by
 refine c_ F VA (fun vs H Q E h=>?_) (fun bJ A outer s H vs Q E hr h=>?_)
 ·obtain ⟨a,dx,pP,pW,pB,ps,bs,kP,kW,kB,x,rfl,_⟩:=h
  rfl
 obtain ⟨a,dx,pP,pW,pB,ps,bs,kP,kW,kB,x,rfl,R,hx,q⟩:=h
 refine ⟨_,(ae (bu (iq (iP (bU hr) (pv 1) (cB (pv 0) rfl))) (aj (de)) aK)
  (aj (bg (oK (cB (pv 0) rfl) (pv 1) ⟨rfl,rfl,rfl,rfl⟩)))),?_⟩
 refine ⟨_,rfl,_,rfl,a,C,dx,_,_,rfl,R.obj,fc.cls,fc.br,rfl,pB,_,rfl,c7.k (k:=.inr x) R.br,_,rfl,?_⟩
 rw [R.bar x,decide_eq_true hx]
 obtain ⟨v,ev⟩:=eR (kvs:=kB) (k:=.inr x) (by rw [R.mi];exact eD.mpr hx)
 refine ⟨_,rfl,a,C,dx,_,_,rfl,R.obj,fc.cls,fc.br,rfl,pB,rfl,.inl ⟨_,.inl R.br⟩,_,rfl,kB,.inr x,v,R.br,rfl,ev,?_⟩
 exact q _ _ (fun b o n z=>by rw [ao n];exact z) (R.Mv x)
theorem EZ (R:eC K H C a dx pP pW pB ps bs kP kW kB)(x:Str):
  eC K (upd H pP (.dK (eh kP (.inr x)))) C a dx pP pW pB (ps.filter fun b=>decide (b.1≠x)) bs (eh kP (.inr x)) kW kB:=by
 have s:bD H (upd H pP (.dK (eh kP (.inr x)))):=.dict R.pl
 exact ⟨by rw [ao R.ab.1];exact R.obj,ah,by rw [ao (aba R.ne1)];exact R.wy,by rw [ao (aba R.ne2)];exact R.br,R.ne1,R.ne2,R.ne3,f7 x (Paired.bF R.rp fun _ _ h=>⟨h.1,h.2.aU s⟩),
  Paired.bF R.rb fun _ _ h=>⟨h.1,by obtain ⟨p,e,k⟩:=h.2;exact ⟨p,e,s _ _ k⟩⟩⟩
inductive gX (K:Frag)(C:Addr)(vs:η)(H:Hp)(Q:VK)(E:XK):Prop where
 | mk (a dx pP pW pB:Addr) (ps:Η) (bs:υ) (kP kW kB:δ) (pw:Θ) (x:Str) (_:vs=[.ref a,.str x]) (_:eC K H C a dx pP pW pB ps bs kP kW kB) (_:qA K H pw kW) (_:pw.map (·.1)=ps.map (·.1)) (_:x∈ps.map (·.1)) (_:(∀b∈bs,x≠b.2.1/\x≠b.2.2)) (_:∀(H' :Hp) (qM jc :δ),(∀b o,b≠pP->b≠pW->H b=some o->H' b=some o)->eC K H' C a dx pP pW pB (ps.filter fun b=>decide (b.1≠x)) bs qM jc kB->qA K H' (pw.filter fun b=>decide (b.1≠x)) jc ->(∀kv∈jc,kv∈kW)->Q .cw H'):gX K C vs H Q E
theorem eG:aE ["self","name","bar","two"] zaB (ag cb):=sq
theorem jS (F:m8 K "take_pin" "Frame.take_pin" cb f fd)(fc:CP K C)(MC:bI P w K mg base (a_ P w) 1 C "check_pin" zal (dX K C)):cJ P w K mg base (a_ P w) 2 f fd zaB (gX K C):=by
 refine c_ F eG (fun vs H Q E h=>?_) (fun bJ A outer s H vs Q E hr h=>?_)
 ·obtain ⟨a,dx,pP,pW,pB,ps,bs,kP,kW,kB,pw,x,rfl,_⟩:=h
  rfl
 obtain ⟨a,dx,pP,pW,pB,ps,bs,kP,kW,kB,pw,x,rfl,R,W,ew,hx,hb,q⟩:=h
 refine ⟨_,(ae (bg (cZ (k:=1) (pv 0) hr.mo (pY P w) (ar (pv 1) aa)))
  (ae (nE (bB PassesOwn.never rfl (jL (cB (pv 0) rfl)) (dG rfl (aQ (av (i:=2) eG.nd rfl (aad rfl)) (aQ (av (i:=3) eG.nd rfl (aad rfl)) cu))) (aj (bu (aS rH (pv 1) (pv 3) rfl) (aj (de)) aK))))
  (ae (bg (oK (cB (pv 0) rfl) (pv 1) ⟨rfl,rfl,rfl,rfl⟩))
  (aj (bg (oK (cB (pv 0) rfl) (pv 1) ⟨rfl,rfl,rfl,rfl⟩)))))),?_⟩
 refine ⟨_,rfl,a,C,dx,_,_,_,rfl,R.obj,rfl,MC,_,rfl,a,dx,pP,pW,pB,ps,bs,kP,kW,kB,x,rfl,R,hx,?_⟩
 have lk:kB.length=bs.length:=(Paired.length R.rb).symm
 refine ⟨_,rfl,a,C,dx,_,_,rfl,R.obj,fc.cls,fc.br,rfl,pB,kB,rfl,R.br,fun o=>?_⟩
 have k0:aL pB H (upd H pB (.cV o (.dK kB))):=fun b o' n e=>by rw [ao n];exact e
 refine fG (d:=pB) (o:=o) (kvs:=kB) (fun t σ H' =>∃(o2 o3:χ),σ=[some (.ref a),some (.str x),o2,o3]/\aL pB H H' /\H' pB=some (.cV o (.dK kB))) ⟨none,none,rfl,k0,ah⟩ (fun t σ H' _ h=>by
   obtain ⟨_,_,_,_,h⟩:=h
   exact h) ?_ ?_
 ·rintro t k y σ H6 p7 si ⟨o2,o3,rfl,k6,GS⟩ n7
  obtain ⟨z,ez,hz1,p,ep,QI⟩:=aw (b6 R.rb) si
  have QW :k=.inr z.1:=hz1
  subst QW
  have u6 :y=.ref p:=ep
  subst u6
  have s6:bD H H6:=fun b xs r=>by
   rcases r with r | ⟨o',r⟩
   ·exact .inl (k6 _ _ (fun e=>by rw [e,R.br] at r;cases r) r)
   ·exact .inr ⟨o',k6 _ _ (fun e=>by rw [e,R.br] at r;cases r) r⟩
  have s7:=aF n7 (.tup [kV (.inr z.1),.ref p])
  have s67:bD H (upd H6 p7 (.tup [kV (.inr z.1),.ref p])):=s6.trans (.of s7)
  obtain ⟨n1,n2⟩:=hb z (ir ez)
  refine ⟨p7,_,rfl,bT.of ah,rfl,_,_,rfl,_,_,rfl,rfl,?_⟩
  refine ⟨_,rfl,_,rfl,p,[.str z.2.1,.str z.2.2],rfl,.inr (s67.bX (.inl QI)),rfl,rfl,_,rfl,?_⟩
  refine bq (fun c=>?_) (fun _=>⟨_,_,rfl,fun b o' n e=>s7 _ _ (k6 b o' n e),s7 _ _ GS⟩)
  exfalso
  have c' :SG (.str x) [.str z.2.1,.str z.2.2]=true:=c
  simp [SG,qv] at c'
  rcases c' with c' | c'
  ·exact n1 c'.symm
  ·exact n2 c'.symm
 ·rintro σ H1 ⟨o2,o3,rfl,k1,hd1⟩
  refine ⟨pB,o,kB,hd1,fun o' u' z=>(by have z' :H pB=some (.cV o' u'):=z;rw [R.br] at z';cases z'),?_⟩
  have s2:au H (upd H1 pB (.dK kB)):=fun b o' e=>by
   by_cases n:b=pB
   ·subst n
    rw [R.br] at e
    rw [ah]
    exact e
   ·rw [ao n]
    exact k1 b o' n e
  generalize upd H1 pB (.dK kB)=H2 at s2 ⊢
  have R2:=R.same s2
  obtain ⟨v,ev⟩:=eR (kvs:=kP) (k:=.inr x) (by rw [R.vP];exact eD.mpr hx)
  have kk:kW.map (·.1)=(ps.map (·.1)).map (fun b=>(abD b:Key)):=by rw [fk W, <- ew,aaT];rfl
  obtain ⟨v2,ev2⟩:=eR (kvs:=kW) (k:=.inr x) (by rw [kk];exact eD.mpr hx)
  refine ⟨_,rfl,a,C,dx,_,_,rfl,R2.obj,fc.cls,fc.pl,rfl,pP,rfl,.inl ⟨_,.inl R2.pl⟩,_,rfl,kP,.inr x,v,R2.pl,rfl,ev,?_⟩
  have R3:=EZ R2 x
  have k3:∀b o,b≠pP->H b=some o->(upd H2 pP (.dK (eh kP (.inr x)))) b=some o:=fun b o n e=>by rw [ao n];exact s2 _ _ e
  have k2:aL pP H2 (upd H2 pP (.dK (eh kP (.inr x)))):=fun b o n e=>by rw [ao n];exact e
  generalize upd H2 pP (.dK (eh kP (.inr x)))=H3 at R3 k3 k2 ⊢
  refine ⟨_,rfl,a,C,dx,_,_,rfl,R3.obj,fc.cls,fc.wy,rfl,pW,rfl,.inl ⟨_,.inl R3.wy⟩,_,rfl,kW,.inr x,v2,R3.wy,rfl,ev2,?_⟩
  have t3:bD H2 H3:=fun b xs r=>by
   rcases r with r | ⟨o',r⟩
   ·exact .inl (k2 _ _ (fun e=>by rw [e,R2.pl] at r;cases r) r)
   ·exact .inr ⟨o',k2 _ _ (fun e=>by rw [e,R2.pl] at r;cases r) r⟩
  have t4:bD H3 (upd H3 pW (.dK (eh kW (.inr x)))):=.dict R3.wy
  refine q _ _ _ (fun b o n1 n2 e=>by rw [ao n2];exact k3 b o n1 e) (R3.tD _) (f7 x (Paired.bF (W.same s2) fun _ _ z=>⟨z.1,?_⟩)) (fun kv h=>by unfold eh at h;exact (ace.mp h).1)
  obtain ⟨l,us,z1,z2,z3⟩:=z.2
  exact ⟨l,us,z1,by rw [ao (fun e=>by rw [e,R2.wy] at z2;cases z2)];exact k2 _ _ (fun e=>by rw [e,R2.pl] at z2;cases z2) z2,(z3.aU t3).aU t4⟩
def tW (p q:aD):Rat×Rat:=(q.sp.1 - p.sp.1,q.sp.2 - p.sp.2)
inductive JT (K:Frag)(C:Addr)(vs:η)(H:Hp)(Q:VK)(E_:XK):Prop where
 | mk (a:Addr) (pins:ο) (bars:ς) (p q:aD) (_:vs=[.ref a,.str p.nm,.str q.nm]) (_:CT K H C a pins bars) (_:fu pins bars) (_:p∈pins) (_:q∈pins) (_:JP K H Q (tW p q)):JT K C vs H Q E_
theorem OC {pins:ο}(h:(pins.map (·.nm)).Nodup):((pins.map fun p=>(p.nm,qz p.sp)).map (·.1)).Nodup:=by
 rw [aaT]
 exact h
theorem OD {pins:ο}(h:(pins.map (·.nm)).Nodup):((pins.map fun p=>(p.nm,p.ws)).map (·.1)).Nodup:=by
 rw [aaT]
 exact h
theorem VC {bars:ς}(h:(bars.map (·.nm)).Nodup):((bars.map fun b=>(b.nm,b.one.nm,b.other.nm)).map (·.1)).Nodup:=by
 rw [aaT]
 exact h
theorem VD:aE zan zan (ag DI):=sq
theorem VE (D:Def K mg "arm_between" DI zan)(MP:bI P w K mg base (a_ P w) 2 C "place" zal (nK K C))(abN:Fn P w K mg base (a_ P w) 35 "pair_difference" zae (yg K fun a b=>a - b)):Fn P w K mg base (a_ P w) 36 "arm_between" zan (JT K C):=by
 refine D.ok VD (fun vs H Q E h=>?_) (fun f bJ A outer s H vs Q E hr h=>?_)
 ·obtain ⟨a,pins,bars,p,q,rfl,_⟩:=h
  rfl
 obtain ⟨a,pins,bars,p,q,rfl,R,g,hp,hq,k⟩:=h
 obtain ⟨dx,pP,pW,pB,kP,kW,kB,R,W⟩:=R.ex
 refine ⟨_,(aj (aH (aC abN hr.mo (pY P w) (ar (cZ (k:=2) (pv 0) hr.mo (pY P w) (ar (pv 2) aa)) (ar (cZ (k:=2) (pv 0) hr.mo (pY P w) (ar (pv 1) aa)) aa))))),?_⟩
 refine ⟨_,rfl,a,C,dx,_,_,_,rfl,R.obj,rfl,MP,_,rfl,a,dx,pP,pW,pB,_,_,kP,kW,kB,q.nm,qz q.sp,rfl,R,OC g.np,aab.mpr ⟨q,hq,rfl⟩,fun v1 h1=>?_⟩
 refine ⟨_,rfl,a,C,dx,_,_,_,rfl,R.obj,rfl,MP,_,rfl,a,dx,pP,pW,pB,_,_,kP,kW,kB,p.nm,qz p.sp,rfl,R,OC g.np,aab.mpr ⟨p,hp,rfl⟩,fun v2 h2=>?_⟩
 have z1:=g.sz q hq
 have z2:=g.sz p hp
 exact ⟨v1,v2,q.sp,p.sp,rfl,h1,h2,z1.1.up (by decide),z1.2.1.up (by decide),z2.1.up (by decide),z2.2.1.up (by decide),k⟩
def mv (M:Β)(x:Str):Rat×Rat:=(M x).getD (0,0)
def fX (F:Β)(pins:ο):List (Int×Int):=pins.flatMap fun p=>[qr (mv F p.nm).1,qr (mv F p.nm).2]
theorem jT (F:Β):∀pins:List aD,(fX F pins).length=2*pins.length
 | []=>rfl
 | p::ps=>by
  have:=jT F ps
  unfold fX at this ⊢
  rw [aa4,aan,this]
  simp
  omega
theorem FA (F:Β)(ps:ο)(p:aD):fX F (ps++[p])=fX F ps++[qr (mv F p.nm).1,qr (mv F p.nm).2]:=by
 unfold fX
 rw [abp]
 simp
def gY (x:Str)(w:Rat×Rat):Str->Option (Rat×Rat):=fun y=>if y=x then some w else none
def gG (b:ba):Str->Option (Rat×Rat):=fun y=>if y=b.one.nm then some (tW b.one b.other) else if y=b.other.nm then some (tW b.other b.one) else none
def qN (pins:ο)(p:aD):List (List (Int×Int)):=p.ws.map fun w=>fX (gY p.nm w) pins
def b7 (pins:ο)(bars:ς):List (List (Int×Int)):=(pins.flatMap fun p=>qN pins p)++bars.map fun b=>fX (gG b) pins
structure iH (K:Frag)(H:Hp)(r:Addr)(ls:ω)(dI:Ν)(cf:ψ):Prop where
 u0:EY H r ls dI
 num:iF K H dI cf
 nr:r∉ls
theorem iH.same (h:iH K H r ls dI cf)(s:au H H'):iH K H' r ls dI cf:=⟨h.u0.same s,h.num.same s,h.nr⟩
theorem yh (h:iF K H dI cf)(n:fj K H us qs):iF K H (dI++[us]) (cf++[qs]):=by
 refine ⟨by simp [h.1],fun i u q' e1 e2=>?_⟩
 have l:=h.1
 by_cases c:i < dI.length
 ·rw [aap c] at e1
  rw [aap (by omega)] at e2
  exact h.2 i u q' e1 e2
 ·rw [aaY (by omega)] at e1 e2
  by_cases z:i - dI.length=0
  ·rw [z] at e1
   rw [show i - cf.length=0 by omega] at e2
   cases e1
   cases e2
   exact n
  ·rw [aai (by simp;omega)] at e1
   cases e1
theorem M0 {H:Hp}{ls:ω}{dI:Ν}(hl:ls.length=dI.length)(h:∀(i:Nat) (l:Addr) (vs:η),ls[i]? =some l->dI[i]? =some vs->H l=some (.lst vs))(e:H l=some (.lst us)):
  ∀(i:Nat) (l' :Addr) (vs:η),(ls++[l])[i]? =some l' ->(dI++[us])[i]? =some vs->H l' =some (.lst vs):=fun i l' vs e1 e2=>by
 by_cases c:i < ls.length
 ·rw [aap c] at e1
  rw [aap (by omega)] at e2
  exact h i l' vs e1 e2
 ·rw [aaY (by omega)] at e1 e2
  by_cases z:i - ls.length=0
  ·rw [z] at e1
   rw [show i - dI.length=0 by omega] at e2
   cases e1
   cases e2
   exact e
  ·rw [aai (by simp;omega)] at e1
   cases e1
theorem iH.push (h:iH K H r ls dI cf)(e:H l=some (.lst us))(ne:l≠r)(n:fj K H us qs):
  iH K (upd H r (.lst (ls.map V.ref++[.ref l]))) r (ls++[l]) (dI++[us]) (cf++[qs]):=by
 have st:bD H (upd H r (.lst (ls.map V.ref++[.ref l]))):=.list h.u0.1
 have hm:∀(i:Nat) (l' :Addr) (vs:η),ls[i]? =some l' ->dI[i]? =some vs->(upd H r (.lst (ls.map V.ref++[.ref l]))) l' =some (.lst vs):=fun i l' vs e1 e2=>by
  rw [ao (fun z:l' =r=>h.nr (by rw [<- z];exact ir e1))]
  exact h.u0.2.2 i l' vs e1 e2
 refine ⟨⟨by rw [ah,aa3];rfl,by simp [h.u0.2.1],M0 h.u0.2.1 hm (by rw [ao ne];exact e)⟩,?_,?_⟩
 ·exact yh ⟨h.num.1,fun i vs qs e1 e2=>(h.num.2 i vs qs e1 e2).aU st⟩ (n.aU st)
 ·intro z
  rcases aaG.mp z with z | z
  ·exact h.nr z
  ·exact ne (aas.mp z).symm
inductive iV (K:Frag)(C:Addr)(vs:η)(H:Hp)(Q:VK)(E_:XK):Prop where
 | mk (a d:Addr) (pins:ο) (bars:ς) (kvs:δ) (F:Β) (_:vs=[.ref a,.ref d]) (_:CT K H C a pins bars) (_:pins.length<=100) (_:H d=some (.dK kvs)) (_:SQ K H kvs F) (_:∀(l:Addr) (us:η) (H' :Hp),au H H' ->H l=none->H' l=some (.lst us)->fj K H' us (fX F pins)->Q (.ref l) H'):iV K C vs H Q E_
theorem gZ (pins:ο):((pins.map fun p=>(p.nm,qz p.sp)).map (·.1))=pins.map (·.nm):=by rw [aaT];rfl
theorem JU:aE ["F","draws","row","pin"] zaM (ag DJ):=sq
theorem VF (hM:∀H:Hp,ft K H (.ref aM) (0,0))(QY:mg "NO_MOVE"=some (.ref aM))(D:Def K mg "pair_row" DJ zaM)(MP:bI P w K mg base (a_ P w) 1 C "pins" zag (iG K C)):Fn P w K mg base (a_ P w) 2 "pair_row" zaM (iV K C):=by
 refine D.ok JU (fun vs H Q E h=>?_) (fun f bJ A outer s H vs Q E hr h=>?_)
 ·obtain ⟨a,d,pins,bars,kvs,F,rfl,_⟩:=h
  rfl
 obtain ⟨a,d,pins,bars,kvs,F,rfl,R,lp,hd,hP,q⟩:=h
 refine ⟨_,(ae (aG (i:=2) JU.nd rfl (aad rfl) (cN aa))
  (ae (bB PassesOwn.never rfl (bx (fZ (k:=1) (pv 0) hr.mo (pY P w))) (av (i:=3) JU.nd rfl (aad rfl)) (aj (bg (ja PySem.F.plainAttrs_list PySem.F.slot_list_extend PySem.F.type_list_extend My (pv 2) (ar (Jc (bU hr) (pv 1) (pv 3) (jA (v:=.ref aM) rfl QY rfl) ⟨rfl,rfl,rfl,rfl⟩) aa)))))
  (aj (aH (pv 2))))),?_⟩
 refine ⟨(by show 0<=sizeLine;decide),?_⟩
 intro l nl;generalize eX:upd _ l _=H1;have ⟨s1,el⟩:=nw nl eX;clear eX
 have R1:=R.same s1
 obtain ⟨dx,pP,pW,pB,kP,kW,kB,F1,W1⟩:=R1.ex
 refine ⟨_,rfl,a,C,dx,_,_,_,rfl,F1.obj,rfl,MP,a,dx,pP,pW,pB,_,_,kP,kW,kB,rfl,F1,fun lp H2 s2 wm tX=>?_⟩
 rw [gZ] at tX
 have nM:=s1.trans s2
 have M3:lp≠l:=fun z=>by rw [z,el] at wm;cases wm
 refine ⟨lp,rfl,⟨_,aX.of tX⟩,bW (K:=K) (a:=lp) (xs:=(pins.map (·.nm)).map V.str) (fun i σ H' =>∃(o3:χ) (us:η),σ=[some (.ref a),some (.ref d),some (.ref l),o3]/\au H H' /\H' lp=some (.lst ((pins.map (·.nm)).map V.str))/\H' l=some (.lst us)/\fj K H' us (fX F (pins.take i))) ⟨none,[],rfl,nM,tX,s2 _ _ el,⟨rfl,fun i u q e=>by simp at e⟩⟩ (fun i σ H' _ h=>by
   obtain ⟨_,_,_,_,h,_⟩:=h
   exact aX.of h) ?_ ?_⟩
 ·rintro i z σ H4 hi ⟨o3,us,rfl,s4,l4,e4,n4⟩
  rw [Wp,Wp] at hi
  obtain ⟨x,hx,rfl⟩:=aal.mp hi
  obtain ⟨p,hp,rfl⟩:=aal.mp hx
  have il:i < pins.length:=(be.mp hp).1
  have d4:=s4 _ _ hd
  have g1:ft K H4 ((bL kvs (.inr p.nm)).getD (.ref aM)) (mv F p.nm):=(hP.same s4).abi (hM H4)
  obtain ⟨b,u1,u2,eb,hb,h1,h2⟩:=g1
  have lu:us.length<=200:=by
   have:=n4.1
   rw [jT,abb] at this
   omega
  refine ⟨_,rfl,.inl ⟨rfl,_,aX.of e4⟩,_,rfl,d,rfl,.inl ⟨_,.inl d4⟩,_,rfl,_,c7.k (k:=.inr p.nm) d4,l,b,us,[u1,u2],rfl,by rw [eb],e4,hb,by simp;omega,?_⟩
  have st:bD H4 (upd H4 l (.lst (us++[u1,u2]))):=.list e4
  refine ⟨_,us++[u1,u2],rfl,fun c o z=>?_,?_,ah,?_⟩
  ·rw [ao (aq z nl)]
   exact s4 _ _ z
  ·rw [ao M3]
   exact l4
  ·rw [take_snoc hp,FA]
   have a1:=fj.snoc (K:=K) (n4.aU st) (ig.aU h1 st)
   have a2:=fj.snoc (K:=K) a1 (ig.aU h2 st)
   simpa using a2
 ·rintro σ H4 ⟨o3,us,rfl,s4,l4,e4,n4⟩
  rw [aaa,aaa,abl] at n4
  exact ⟨_,rfl,q l us H4 s4 nl e4 n4⟩
inductive o_ (K:Frag)(C:Addr)(vs:η)(H:Hp)(Q:VK)(E_:XK):Prop where
 | mk (a:Addr) (pins:ο) (bars:ς) (b:ba) (_:vs=[.ref a,.str b.one.nm,.str b.other.nm]) (_:CT K H C a pins bars) (_:fu pins bars) (_:b.one∈pins) (_:b.other∈pins) (_:b.one.nm≠b.other.nm) (_:∀(l:Addr) (us:η) (H' :Hp),au H H' ->H l=none->H' l=some (.lst us)->fj K H' us (fX (gG b) pins)->Q (.ref l) H'):o_ K C vs H Q E_
theorem QZ (k:Key)(v:V):cn [] [(k,v)]=[(k,v)]:=rfl
theorem Q0 (v u:V)(h:k≠j):cn [] [(k,v),(j,u)]=[(k,v),(j,u)]:=by
 show putK [(k,v)] j u=_
 rw [di]
 ·rfl
 ·rw [bE h]
  rfl
theorem VG:aE zan zan (ag DK):=sq
theorem VH (D:Def K mg "bar_row" DK zan)(VI:Fn P w K mg base (a_ P w) 36 "arm_between" zan (JT K C))(Q3:Fn P w K mg base (a_ P w) 2 "pair_row" zaM (iV K C)):Fn P w K mg base (a_ P w) 37 "bar_row" zan (o_ K C):=by
 refine D.ok VG (fun vs H Q E h=>?_) (fun f bJ A outer s H vs Q E hr h=>?_)
 ·obtain ⟨a,pins,bars,b,rfl,_⟩:=h
  rfl
 obtain ⟨a,pins,bars,b,rfl,R,g,m1,m2,ne,q⟩:=h
 refine ⟨_,(aj (aH (aC Q3 hr.mo pX (ar (pv 0) (ar (zu (oH (pv 1) (aC VI hr.mo pX (ar (pv 0) (ar (pv 1) (ar (pv 2) aa)))) (oH (pv 2) (aC VI hr.mo pX (ar (pv 0) (ar (pv 2) (ar (pv 1) aa)))) zq)) rfl rfl (ai7 _ _) (by decide)) aa))))),?_⟩
 refine ⟨_,rfl,fun d nd=>?_⟩
 have s1:=aF nd (.dK [])
 have e1:(upd H d (.dK [])) d=some (.dK []):=ah
 generalize upd H d (.dK [])=H1 at s1 e1 ⊢
 refine ⟨_,rfl,_,rfl,_,rfl,_,rfl,a,pins,bars,b.one,b.other,rfl,R.same s1,g,m1,m2,fun v1 H2 s2 h2=>?_⟩
 refine ⟨_,rfl,_,rfl,_,rfl,_,rfl,a,pins,bars,b.other,b.one,rfl,(R.same s1).same s2,g,m2,m1,fun v2 H3 s3 h3=>?_⟩
 have e3:=s3 _ _ (s2 _ _ e1)
 refine ⟨e3,[(.inr b.one.nm,v1),(.inr b.other.nm,v2)],rfl,(by show 2<=15;decide),?_⟩
 rw [Q0 _ _ (fun z=>ne (abQ z))]
 have st:bD H3 (upd H3 d (.dK [(.inr b.one.nm,v1),(.inr b.other.nm,v2)])):=.dict e3
 have e4:(upd H3 d (.dK [(.inr b.one.nm,v1),(.inr b.other.nm,v2)])) d=some (.dK [(.inr b.one.nm,v1),(.inr b.other.nm,v2)]):=ah
 have s4:au H (upd H3 d (.dK [(.inr b.one.nm,v1),(.inr b.other.nm,v2)])):=fun c o z=>by
  rw [ao (aq z nd)]
  exact s3 _ _ (s2 _ _ (s1 _ _ z))
 generalize upd H3 d (.dK [(.inr b.one.nm,v1),(.inr b.other.nm,v2)])=H4 at st e4 s4 ⊢
 refine ⟨a,d,pins,bars,_,gG b,rfl,R.same s4,aaf g.lp (by decide),e4,fun x=>?_,fun l us H5 s5 n5 e5 nm=>q l us H5 (s4.trans s5) (s4.free n5) e5 nm⟩
 by_cases c1:x=b.one.nm
 ·subst c1
  exact .inr ⟨v1,tW b.one b.other,bM rfl,by unfold gG;rw [if_pos rfl],(h2.same s3).aU st⟩
 ·by_cases c2:x=b.other.nm
  ·subst c2
   exact .inr ⟨v2,tW b.other b.one,by rw [bE (fun z=>c1 (abQ z).symm),bM rfl],by unfold gG;rw [if_neg c1,if_pos rfl],h3.aU st⟩
  ·exact .inl ⟨by rw [bE (fun z=>c1 (abQ z).symm),bE (fun z=>c2 (abQ z).symm)];rfl,by unfold gG;rw [if_neg c1,if_neg c2]⟩
inductive g6 (K:Frag)(C:Addr)(vs:η)(H:Hp)(Q:VK)(E_:XK):Prop where
 | mk (a:Addr) (pins:ο) (bars:ς) (_:vs=[.ref a]) (_:CT K H C a pins bars) (_:fu pins bars) (_:∀(r:Addr) (ls:ω) (dI:Ν) (H' :Hp),au H H' ->H r=none->iH K H' r ls dI (b7 pins bars)->Q (.ref r) H'):g6 K C vs H Q E_
theorem zW (bars:ς):((bars.map fun b=>(b.nm,b.one.nm,b.other.nm)).map (·.1))=bars.map (·.nm):=by rw [aaT];rfl
theorem jU (pins:ο)(h:∀p∈pins,p.ws.length<=2):(pins.flatMap fun p=>p.ws).length<=2*pins.length:=by
 induction pins with
 | nil=>simp
 | cons p ps ih=>
  have h1:=h p aak
  have h2:=ih fun q hq=>h q (aae _ hq)
  rw [aa4,aan,abf]
  omega
theorem pd (all pins:ο):(pins.flatMap fun p=>qN all p).length=(pins.flatMap fun p=>p.ws).length:=by
 induction pins with
 | nil=>rfl
 | cons p ps ih=>
  rw [aa4,aa4,aan,aan,ih]
  unfold qN
  rw [aaa]
theorem sj (pins:ο)(bars:ς):(b7 pins bars).length=(pins.flatMap fun p=>p.ws).length+bars.length:=by
 unfold b7
 rw [aan,pd,aaa]
theorem sk:aE ["F","rows","pin","way","bar","two"] zaF (ag DL):=sq
theorem VJ (D:Def K mg "draw_rows" DL zaF)(MP:bI P w K mg base (a_ P w) 1 C "pins" zag (iG K C))(MW:bI P w K mg base (a_ P w) 2 C "ways" zal (oZ K C))(MB:bI P w K mg base (a_ P w) 1 C "bars" zag (oY K C))(ME:bI P w K mg base (a_ P w) 1 C "ends" zaR (tQ K C))
  (Q3:Fn P w K mg base (a_ P w) 2 "pair_row" zaM (iV K C)) (abO:Fn P w K mg base (a_ P w) 37 "bar_row" zan (o_ K C)):Fn P w K mg base (a_ P w) 38 "draw_rows" zaF (g6 K C):=by
 refine D.ok sk (fun vs H Q E h=>?_) (fun f bJ A outer s H vs Q E hr h=>?_)
 ·obtain ⟨a,pins,bars,rfl,_⟩:=h
  rfl
 obtain ⟨a,pins,bars,rfl,R,g,q⟩:=h
 refine ⟨_,(ae (aG (i:=1) sk.nd rfl (aad rfl) (cN aa))
  (ae (bB PassesOwn.never rfl (bx (fZ (k:=1) (pv 0) hr.mo (pY P w))) (av (i:=2) sk.nd rfl (aad rfl)) (aj (bB PassesOwn.never rfl (bx (cZ (k:=2) (pv 0) hr.mo (pY P w) (ar (pv 2) aa))) (av (i:=3) sk.nd rfl (aad rfl)) (aj (bg (ja PySem.F.plainAttrs_list PySem.F.slot_list_append PySem.F.type_list_append eO (pv 1) (ar (aC Q3 hr.mo (pY P w) (ar (pv 0) (ar (zu (oH (pv 2) (pv 3) zq) rfl rfl (ai7 _ _) (by decide)) aa))) aa)))))))
  (ae (bB PassesOwn.never rfl (bx (fZ (k:=1) (pv 0) hr.mo (pY P w))) (av (i:=4) sk.nd rfl (aad rfl)) (ae (aG (i:=5) sk.nd rfl (aad rfl) (cZ (k:=1) (pv 0) hr.mo (pY P w) (ar (pv 4) aa)))
   (aj (bg (ja PySem.F.plainAttrs_list PySem.F.slot_list_append PySem.F.type_list_append eO (pv 1) (ar (aC abO hr.mo (pY P w) (ar (pv 0) (ar (aR (pv 5)) (ar (aR (pv 5)) aa)))) aa))))))
  (aj (aH (pv 1)))))),?_⟩
 refine ⟨(by show 0<=sizeLine;decide),?_⟩
 intro r nr;generalize eX:upd _ r _=H1;have ⟨s1,er⟩:=nw nr eX;clear eX
 have big:(40:Nat)<=sizeLine:=by decide
 have wl:=jU pins g.lw
 have gl:=g.lp
 have R0:iH K H1 r [] [] []:=⟨⟨er,rfl,fun i l vs e=>by simp at e⟩,⟨rfl,fun i vs qs e=>by simp at e⟩,by simp⟩
 have R1:=R.same s1
 obtain ⟨dx,pP,pW,pB,kP,kW,kB,F1,W1⟩:=R1.ex
 refine ⟨_,rfl,a,C,dx,_,_,_,rfl,F1.obj,rfl,MP,a,dx,pP,pW,pB,_,_,kP,kW,kB,rfl,F1,fun lp H2 s2 wm tX=>?_⟩
 rw [gZ] at tX
 have nM:=s1.trans s2
 have M3:lp≠r:=fun z=>by rw [z,er] at wm;cases wm
 refine ⟨lp,rfl,⟨_,aX.of tX⟩,bW (K:=K) (a:=lp) (xs:=(pins.map (·.nm)).map V.str) (fun i σ H' =>∃(o2 o3:χ) (ls:ω) (dI:Ν),σ=[some (.ref a),some (.ref r),o2,o3,none,none]/\au H H' /\H' lp=some (.lst ((pins.map (·.nm)).map V.str))/\iH K H' r ls dI ((pins.take i).flatMap fun p=>qN pins p)) ⟨none,none,[],[],rfl,nM,tX,R0.same s2⟩ (fun i σ H' _ h=>by
   obtain ⟨_,_,_,_,_,_,h,_⟩:=h
   exact aX.of h) ?_ ?_⟩
 ·rintro i z σ H4 hi ⟨o2,o3,ls,dI,rfl,s4,l4,RR⟩
  rw [Wp,Wp] at hi
  obtain ⟨x,hx,rfl⟩:=aal.mp hi
  obtain ⟨p,hp,rfl⟩:=aal.mp hx
  have mp:p∈pins:=ir hp
  have R4:=R.same s4
  obtain ⟨dx,pP,pW,pB,kP,kW,kB,F4,W4⟩:=R4.ex
  have mpn:p.nm∈(pins.map fun p=>(p.nm,qz p.sp)).map (·.1):=by rw [gZ];exact aab.mpr ⟨p,mp,rfl⟩
  refine ⟨_,rfl,a,C,dx,_,_,_,rfl,F4.obj,rfl,MW,_,rfl,a,dx,pP,pW,pB,_,_,kP,kW,kB,_,p.nm,p.ws,rfl,F4,W4,OD g.np,aab.mpr ⟨p,mp,rfl⟩,mpn,fun m us H5 s5 n5 e5 p5=>?_⟩
  have lu:us.length=p.ws.length:=Paired.length p5
  have mR:=s4.trans s5
  have mr:m≠r:=fun z=>by rw [z,RR.u0.1] at n5;cases n5
  refine ⟨m,rfl,⟨_,aX.of e5⟩,bW (K:=K) (a:=m) (xs:=us) (fun j σ H' =>∃(o3:χ) (ls:ω) (dI:Ν),σ=[some (.ref a),some (.ref r),some (.str p.nm),o3,none,none]/\au H H' /\H' lp=some (.lst ((pins.map (·.nm)).map V.str))/\H' m=some (.lst us)/\ie K H' us p.ws/\iH K H' r ls dI (((pins.take i).flatMap fun p=>qN pins p)++(p.ws.take j).map fun w=>fX (gY p.nm w) pins)) ⟨o3,ls,dI,rfl,mR,s5 _ _ l4,e5,p5,by simpa using RR.same s5⟩ (fun j σ H' _ h=>by
    obtain ⟨_,_,_,_,_,_,h,_⟩:=h
    exact aX.of h) ?_ ?_⟩
  ·rintro j u σ H6 hu ⟨o3,ls,dI,rfl,s6,l6,e6,p6,wo⟩
   obtain ⟨w,ew,hw⟩:=aw p6 hu
   have jl:=(be.mp hu).1
   refine ⟨_,rfl,.inl ⟨rfl,_,aX.of wo.u0.1⟩,_,rfl,fun d nd=>?_⟩
   have t1:=aF nd (.dK [])
   have d1:(upd H6 d (.dK [])) d=some (.dK []):=ah
   generalize upd H6 d (.dK [])=H7 at t1 d1 ⊢
   refine ⟨_,rfl,_,rfl,d1,[(.inr p.nm,u)],rfl,(by show 1<=15;decide),?_⟩
   rw [QZ]
   have st:bD H7 (upd H7 d (.dK [(.inr p.nm,u)])):=.dict d1
   have d8:(upd H7 d (.dK [(.inr p.nm,u)])) d=some (.dK [(.inr p.nm,u)]):=ah
   have t8:au H6 (upd H7 d (.dK [(.inr p.nm,u)])):=fun c o z=>by
    rw [ao (aq z nd)]
    exact t1 _ _ z
   have Z6:=(hw.same t1).aU st
   generalize upd H7 d (.dK [(.inr p.nm,u)])=H8 at d8 t8 Z6 ⊢
   have s8:=s6.trans t8
   refine ⟨a,d,pins,bars,_,gY p.nm w,rfl,R.same s8,aaf g.lp (by decide),d8,fun x=>?_,fun l i5 H9 t9 n9 e9 nm=>?_⟩
   ·by_cases c1:x=p.nm
    ·subst c1
     exact .inr ⟨u,w,bM rfl,by unfold gY;rw [if_pos rfl],Z6⟩
    ·exact .inl ⟨by rw [bE (fun z=>c1 (abQ z).symm)];rfl,by unfold gY;rw [if_neg c1]⟩
   have t69:=t8.trans t9
   have S0:=wo.same t69
   have lr:l≠r:=fun z=>by rw [z,t8 _ _ wo.u0.1] at n9;cases n9
   have lss:ls.length<=18:=by
    have h1:=wo.u0.2.1
    have h2:=wo.num.1
    rw [aan,aaa,abb,pd] at h2
    have h3:((pins.take i).flatMap fun p=>p.ws).length+p.ws.length<=(pins.flatMap fun p=>p.ws).length:=by
     have e:pins=pins.take i++p::pins.drop (i+1):=by
      have lt:=(be.mp hp).1
      have e2:=(be.mp hp).2
      rw [<- e2,aiy,ag_]
     have e3:=congrArg (fun l:List aD=>(l.flatMap fun p=>p.ws).length) e
     simp only [abp,aa4,aan] at e3
     omega
    omega
   refine ⟨r,_,_,rfl,rfl,S0.u0.1,(by rw [aaa];omega),?_⟩
   have RN:=S0.push e9 lr nm
   have tr:bD H9 (upd H9 r (.lst (ls.map V.ref++[.ref l]))):=.list S0.u0.1
   have kk:∀b o,b≠r->H6 b=some o->(upd H9 r (.lst (ls.map V.ref++[.ref l]))) b=some o:=fun b o n e=>by rw [ao n];exact t69 _ _ e
   refine ⟨_,ls++[l],dI++[i5],rfl,fun b o e=>?_,kk _ _ M3 l6,kk _ _ mr e6,(p6.same t69).aU tr,?_⟩
   ·exact kk _ _ (aq e nr) (s6 _ _ e)
   ·rw [take_snoc ew,aa3, <- abK]
    exact RN
  ·rintro σ H6 ⟨o3,ls,dI,rfl,s6,l6,e6,p6,wo⟩
   refine ⟨_,_,ls,dI,rfl,s6,l6,?_⟩
   rw [lu,abl] at wo
   rw [take_snoc hp,abp]
   simpa [qN] using wo
 ·rintro σ H4 ⟨o2,o3,ls,dI,rfl,s4,l4,RR⟩
  rw [aaa,aaa,abl] at RR
  have R4:=R.same s4
  obtain ⟨dx,pP,pW,pB,kP,kW,kB,F4,W4⟩:=R4.ex
  refine ⟨_,rfl,a,C,dx,_,_,_,rfl,F4.obj,rfl,MB,a,dx,pP,pW,pB,_,_,kP,kW,kB,rfl,F4,fun lb H5 s5 nlb Q4=>?_⟩
  rw [zW] at Q4
  have bne:lb≠r:=fun z=>by rw [z,RR.u0.1] at nlb;cases nlb
  refine ⟨lb,rfl,⟨_,aX.of Q4⟩,bW (K:=K) (a:=lb) (xs:=(bars.map (·.nm)).map V.str) (fun i σ H' =>∃(o4 o5:χ) (ls:ω) (dI:Ν),σ=[some (.ref a),some (.ref r),o2,o3,o4,o5]/\au H H' /\H' lb=some (.lst ((bars.map (·.nm)).map V.str))/\iH K H' r ls dI ((pins.flatMap fun p=>qN pins p)++(bars.take i).map fun b=>fX (gG b) pins)) ⟨none,none,ls,dI,rfl,s4.trans s5,Q4,by simpa using RR.same s5⟩ (fun i σ H' _ h=>by
    obtain ⟨_,_,_,_,_,_,h,_⟩:=h
    exact aX.of h) ?_ ?_⟩
  ·rintro i z σ H6 hi ⟨o4,o5,ls,dI,rfl,s6,l6,wo⟩
   rw [Wp,Wp] at hi
   obtain ⟨x,hx,rfl⟩:=aal.mp hi
   obtain ⟨b,hb,rfl⟩:=aal.mp hx
   have mb:b∈bars:=ir hb
   have il:=(be.mp hb).1
   have R6:=R.same s6
   obtain ⟨dx,pP,pW,pB,kP,kW,kB,F6,W6⟩:=R6.ex
   refine ⟨_,rfl,a,C,dx,_,_,_,rfl,F6.obj,rfl,ME,_,rfl,a,dx,pP,pW,pB,_,_,kP,kW,kB,b.nm,b.one.nm,b.other.nm,rfl,F6,VC g.nb,aab.mpr ⟨b,mb,rfl⟩,fun p rd=>?_⟩
   have tp:bT K H6 p [.str b.one.nm,.str b.other.nm]:=.inl rd
   obtain ⟨m1,m2,m3⟩:=g.ends b mb
   refine ⟨_,rfl,.inl ⟨rfl,_,aX.of wo.u0.1⟩,_,rfl,_,rfl,p,_,_,_,rfl,rfl,tp,iE,_,rfl,p,_,_,_,rfl,rfl,tp,h_,?_⟩
   refine ⟨a,pins,bars,b,rfl,R6,g,m1,m2,m3,fun l i5 H9 t9 n9 e9 nm=>?_⟩
   have S0:=wo.same t9
   have lr:l≠r:=fun z=>by rw [z,wo.u0.1] at n9;cases n9
   have lss:ls.length<=32:=by
    have h1:=wo.u0.2.1
    have h2:=wo.num.1
    rw [aan,aaa,abb,pd] at h2
    have:=g.lb
    omega
   refine ⟨r,_,_,rfl,rfl,S0.u0.1,(by rw [aaa];omega),?_⟩
   have RN:=S0.push e9 lr nm
   have kk:∀c o,c≠r->H6 c=some o->(upd H9 r (.lst (ls.map V.ref++[.ref l]))) c=some o:=fun c o n e=>by rw [ao n];exact t9 _ _ e
   refine ⟨_,_,ls++[l],dI++[i5],rfl,fun c o e=>kk _ _ (aq e nr) (s6 _ _ e),kk _ _ bne l6,?_⟩
   rw [take_snoc hb,aa3, <- abK]
   exact RN
  ·rintro σ H6 ⟨o4,o5,ls,dI,rfl,s6,l6,wo⟩
   rw [aaa,aaa,abl] at wo
   exact ⟨_,rfl,q r ls dI H6 s6 nr wo⟩
theorem JV {i j:Nat}(h:i<=j)(hj:j<=xs.length):fL xs (some (i:Int)) (some (j:Int))=(xs.drop i).take (j - i):=by
 unfold fL
 rw [HT.m7,HT.m7,ah_ hj,ah_ (show i<=xs.length by omega)]
theorem g7 :∀{l:List α} {m:List β} (n:Nat),Paired R l m->Paired R (l.drop n) (m.drop n)
 | _,_,0,h=>h
 | _,_,_+1,.nil=>.nil
 | _,_,n+1,.cons _ t=>g7 n t
theorem jV :∀{l:List α} {m:List β} (n:Nat),Paired R l m->Paired R (l.take n) (m.take n)
 | _,_,0,_=>.nil
 | _,_,_+1,.nil=>.nil
 | _,_,n+1,.cons h t=>.cons h (jV n t)
theorem jW:∀(more kvs:δ),((kvs++more).map (·.1)).Nodup->cn kvs more=kvs++more
 | [],kvs,_=>by simp [cn]
 | p::r,kvs,h=>by
  have e:cn kvs (p::r)=cn (putK kvs p.1 p.2) r:=rfl
  have hn:p.1∉kvs.map (·.1):=fun z=>by
   rw [aa3,aah,abA] at h
   exact h.2.2 p.1 z p.1 aak rfl
  rw [e,di _ (cQ hn),jW r (kvs++[(p.1,p.2)]) (by rw [abK];exact h),abK]
  rfl
theorem zX :∀{bars:ς} {ys:η} {rs:List Rat},(bars.map (·.nm)).Nodup->bars.length=rs.length->Paired R ys rs->
  ∃T:Str->Rat,bars.map (fun b=>T b.nm)=rs/\(((bars.map fun b=>(abD b.nm:Key)).zip ys).map (·.1))=bars.map (fun b=>(abD b.nm:Key))/\∀b∈bars,∃v,bL ((bars.map fun b=>(abD b.nm:Key)).zip ys) (.inr b.nm)=some v/\R v (T b.nm)
 | [],_,[],_,_,.nil=>⟨fun _=>0,rfl,rfl,by simp⟩
 | _::_,[],_,_,hl,.nil=>by simp at hl
 | b::bs,y::ys,r::rs,nd,hl,.cons h t=>by
  rw [aah,aa5] at nd
  obtain ⟨T,h1,h2,h3⟩:=zX nd.2 (by simpa using hl) t
  have ne:∀c∈bs,c.nm≠b.nm:=fun c hc z=>nd.1 (z▸aab.mpr ⟨c,hc,rfl⟩)
  obtain ⟨T',t1,t2⟩:∃T' :Str->Rat,T' b.nm=r/\∀x,x≠b.nm->T' x=T x:=⟨fun x=>if x=b.nm then r else T x,if_pos rfl,fun x h=>if_neg h⟩
  refine ⟨T',?_,?_,fun c hc=>?_⟩
  ·have em:bs.map (fun c=>T' c.nm)=rs:=by
    rw [<- h1]
    exact abZ fun c hc=>t2 _ (ne c hc)
   rw [aah,t1,em]
  ·rw [aah,aiQ,aah,h2]
  ·rw [aah,aiQ]
   rcases aaQ.mp hc with e | hc
   ·subst e
    exact ⟨y,bM rfl,by rw [t1];exact h⟩
   ·obtain ⟨v,e1,e2⟩:=h3 c hc
    refine ⟨v,?_,by rw [t2 _ (ne c hc)];exact e2⟩
    rw [bE (fun z=>ne c hc (abQ z).symm)]
    exact e1
def cI (pins:ο):Nat:=(pins.flatMap fun p=>p.ws).length
theorem pf (ps:ο)(p:aD):cI (ps++[p])=cI ps+p.ws.length:=by
 unfold cI
 rw [abp,aan]
 simp
theorem yk (h:pins[i]? =some p):cI (pins.take i)+p.ws.length<=cI pins:=by
 have e:pins=pins.take i++p::pins.drop (i+1):=by
  have lt:=(be.mp h).1
  have e2:=(be.mp h).2
  rw [<- e2,aiy,ag_]
 have e3:=congrArg (fun l:List aD=>(l.flatMap fun p=>p.ws).length) e
 simp only [abp,aa4,aan] at e3
 unfold cI
 omega
structure PPR (K:Frag)(H H' :Hp)(pins:ο)(bars:ς)(dT dU:Addr)(kT kU:δ)(T:Ψ)(U:Ζ)(L:Str->Addr):Prop where
 nT:H dT=none
 nU:H dU=none
 ne:dT≠dU
 hT:H' dT=some (.dK kT)
 hU:H' dU=some (.dK kU)
 JW:kT.map (·.1)=bars.map (fun b=>(abD b.nm:Key))
 JX:kU.map (·.1)=pins.map (fun p=>(abD p.nm:Key))
 tT:∀b∈bars,∃v,bL kT (.inr b.nm)=some v/\ig K H' v (T b.nm)
 tU:∀p∈pins,∃vs,bL kU (.inr p.nm)=some (.ref (L p.nm))/\H (L p.nm)=none/\H' (L p.nm)=some (.lst vs)/\Paired (ig K H') vs (U p.nm)
 lU:∀p∈pins,(U p.nm).length=p.ws.length
 inj:∀p∈pins,∀q∈pins,L p.nm=L q.nm->p.nm=q.nm
inductive Q6 (K:Frag)(C:Addr)(vs:η)(H:Hp)(Q:VK)(E_:XK):Prop where
 | mk (a nl:Addr) (pins:ο) (bars:ς) (us:η) (rs:List Rat) (_:vs=[.ref a,.ref nl]) (_:CT K H C a pins bars) (_:fu pins bars) (_:H nl=some (.lst us)) (_:Paired (ig K H) us rs) (_:rs.length=cI pins+bars.length) (_:∀(T:Ψ) (U:Ζ) (L:Str->Addr) (p dT dU:Addr) (kT kU:δ) (H' :Hp),au H H' ->rs=(pins.flatMap fun p=>U p.nm)++bars.map (fun b=>T b.nm)->H' p=some (.tup [.ref dT,.ref dU])->PPR K H H' pins bars dT dU kT kU T U L->Q (.ref p) H'):Q6 K C vs H Q E_
theorem yl {ps:ο}{U W:Ζ}(h:∀p∈ps,U p.nm=W p.nm):(ps.flatMap fun p=>U p.nm)=ps.flatMap fun p=>W p.nm:=by
 induction ps with
 | nil=>rfl
 | cons p ps ih=>
  rw [aa4,aa4,h p aak,ih fun q hq=>h q (aae _ hq)]
theorem ph:aE ["F","numbers","pushes","at","pin","behind","pulls"] zax (ag DM):=sq
theorem VL (D:Def K mg "pulls_and_pushes" DM zax)(a8:mg "len"=none)(gk:mg "dict"=none)(jP:mg "zip"=none)(MP:bI P w K mg base (a_ P w) 1 C "pins" zag (iG K C))(MW:bI P w K mg base (a_ P w) 2 C "ways" zal (oZ K C))(MB:bI P w K mg base (a_ P w) 1 C "bars" zag (oY K C)):
  Fn P w K mg base (a_ P w) 3 "pulls_and_pushes" zax (Q6 K C):=by
 refine D.ok ph (fun vs H Q E h=>?_) (fun f bJ A outer s H vs Q E hr h=>?_)
 ·obtain ⟨a,nl,pins,bars,us,rs,rfl,_⟩:=h
  rfl
 obtain ⟨a,nl,pins,bars,us,rs,rfl,R,g,hn,hu,hl,q⟩:=h
 have lu:us.length=rs.length:=Paired.length hu
 have wl:cI pins<=2*pins.length:=jU pins g.lw
 have gl:=g.lp
 have gb:=g.lb
 refine ⟨_,(ae (aG (i:=2) ph.nd rfl (aad rfl) fh)
  (ae (aG (i:=3) ph.nd rfl (aad rfl) ak)
  (ae (bB PassesOwn.never rfl (bx (fZ (k:=1) (pv 0) hr.mo (pY P w))) (av (i:=4) ph.nd rfl (aad rfl)) (ae (aG (i:=5) ph.nd rfl (aad rfl) (aT cG (pv 3) (aJ aI rfl a8 bZ (ar (cZ (k:=2) (pv 0) hr.mo (pY P w) (ar (pv 4) aa)) aa))))
   (ae (eA (bU hr) (pv 2) (pv 4) (eg jE (pv 1) (dW (pv 3)) (dW (pv 5))) rfl)
   (aj (aG (i:=3) ph.nd rfl (aad rfl) (pv 5))))))
  (ae (aG (i:=6) ph.nd rfl (aad rfl) (Jv rfl rfl gk rfl jP (ar (fZ (k:=1) (pv 0) hr.mo (pY P w)) (ar (eg jE (pv 1) (dW (pv 3)) iN) aa))))
  (aj (aH (aV (ar (pv 6) (ar (pv 2) aa))))))))),?_⟩
 intro dU nU
 have s1:=aF nU (.dK [])
 have e1:(upd H dU (.dK [])) dU=some (.dK []):=ah
 generalize upd H dU (.dK [])=H1 at s1 e1 ⊢
 have R1:=R.same s1
 obtain ⟨dx,pP,pW,pB,kP,kW,kB,F1,W1⟩:=R1.ex
 refine ⟨_,rfl,a,C,dx,_,_,_,rfl,F1.obj,rfl,MP,a,dx,pP,pW,pB,_,_,kP,kW,kB,rfl,F1,fun lp H2 s2 wm tX=>?_⟩
 rw [gZ] at tX
 have nM:=s1.trans s2
 have M3:lp≠dU:=fun z=>by rw [z,e1] at wm;cases wm
 refine ⟨lp,rfl,⟨_,aX.of tX⟩,bW (K:=K) (a:=lp) (xs:=(pins.map (·.nm)).map V.str) (fun i σ H' =>∃(o4 o5:χ) (kU:δ) (U:Ζ) (L:Str->Addr),σ=[some (.ref a),some (.ref nl),some (.ref dU),some (.int (cI (pins.take i):Int)),o4,o5,none]/\au H H' /\H' lp=some (.lst ((pins.map (·.nm)).map V.str))/\H' dU=some (.dK kU)/\kU.map (·.1)=(pins.take i).map (fun p=>(abD p.nm:Key))/\((pins.take i).flatMap fun p=>U p.nm)=rs.take (cI (pins.take i))/\
   (∀p∈pins.take i,∃vs,bL kU (.inr p.nm)=some (.ref (L p.nm))/\H (L p.nm)=none/\H' (L p.nm)=some (.lst vs)/\Paired (ig K H') vs (U p.nm))/\(∀p∈pins.take i,(U p.nm).length=p.ws.length)/\(∀p∈pins.take i,∀q∈pins.take i,L p.nm=L q.nm->p.nm=q.nm))
   ⟨none,none,[],fun _=>[],fun _=>0,rfl,nM,tX,s2 _ _ e1,rfl,rfl,by simp,by simp,by simp⟩ (fun i σ H' _ h=>by
   obtain ⟨_,_,_,_,_,_,_,h,_⟩:=h
   exact aX.of h) ?_ ?_⟩
 ·rintro i z σ H4 hi ⟨o4,o5,kU,U,L,rfl,s4,l4,e4,ks,fl,tU,lU,inj⟩
  rw [Wp,Wp] at hi
  obtain ⟨x,hx,rfl⟩:=aal.mp hi
  obtain ⟨p,hp,rfl⟩:=aal.mp hx
  have mp:p∈pins:=ir hp
  have il:i < pins.length:=(be.mp hp).1
  have R4:=R.same s4
  obtain ⟨dx,pP,pW,pB,kP,kW,kB,F4,W4⟩:=R4.ex
  have mpn:p.nm∈(pins.map fun p=>(p.nm,qz p.sp)).map (·.1):=by rw [gZ];exact aab.mpr ⟨p,mp,rfl⟩
  refine ⟨_,rfl,_,rfl,a,C,dx,_,_,_,rfl,F4.obj,rfl,MW,_,rfl,a,dx,pP,pW,pB,_,_,kP,kW,kB,_,p.nm,p.ws,rfl,F4,W4,OD g.np,aab.mpr ⟨p,mp,rfl⟩,mpn,fun m vs H5 s5 n5 e5 p5=>?_⟩
  have lv:vs.length=p.ws.length:=Paired.length p5
  refine ⟨m,_,rfl,.inl (aX.of e5),_,_,rfl,rfl,?_⟩
  have tk:=take_snoc hp
  have wn:cI (pins.take (i+1))=cI (pins.take i)+p.ws.length:=by rw [tk,pf]
  have wt:=yk hp
  have eb:(cI (pins.take i):Int)+((vs.length:Nat):Int)=((cI (pins.take (i+1)):Nat):Int):=by rw [wn,lv];omega
  have Q7:=s4.trans s5
  have Z7:=Q7 _ _ hn
  dsimp only
  rw [eb]
  refine ⟨_,rfl,_,rfl,_,rfl,_,rfl,_,rfl,nl,_,rfl,aX.of Z7,?_⟩
  rw [JV (by omega) (by omega)]
  intro m2 n6;generalize eX:upd _ m2 _=H6;have ⟨s6,e6⟩:=nw n6 eX;clear eX
  have Z8:=s6 _ _ (s5 _ _ e4)
  have lk:kU.length<=9:=by
   have z:=congrArg abR ks
   rw [aaa,aaa,abb] at z
   omega
  refine ⟨_,rfl,_,rfl,dU,_,rfl,ib.k (k:=.inr p.nm) Z8 (aaj (show kU.length<=1000 by omega) (by decide)),?_⟩
  have fresh:(abD p.nm:Key)∉kU.map (·.1):=by
   rw [ks]
   intro z
   obtain ⟨b',gh,GU⟩:=aab.mp z
   exact jM (nm:=aD.nm) g.np hp gh (abQ GU)
  have pk:putK kU (.inr p.nm) (.ref m2)=kU++[(.inr p.nm,.ref m2)]:=di _ (cQ fresh)
  have t6:bD H6 (upd H6 dU (.dK (putK kU (.inr p.nm) (.ref m2)))):=.dict Z8
  have SY:=s5.trans s6
  have md:m2≠dU:=fun z=>by rw [z,s5 _ _ e4] at n6;cases n6
  have kk:∀b o,b≠dU->H4 b=some o->(upd H6 dU (.dK (putK kU (.inr p.nm) (.ref m2)))) b=some o:=fun b o n e=>by rw [ao n];exact SY _ _ e
  have ne:∀p' ∈pins.take i,p'.nm≠p.nm:=fun p' kY =>jM (nm:=aD.nm) g.np hp kY
  have tY :∀p' ∈pins.take (i+1),p' ∈pins.take i\/p' =p:=fun p' kY =>by
   rw [tk] at kY
   rcases aaG.mp kY with h | h
   ·exact .inl h
   ·exact .inr (aas.mp h)
  have hold:∀p' ∈pins.take i,∃o,H4 (L p'.nm)=some o:=fun p' kY =>by
   obtain ⟨vs,_,_,h,_⟩:=tU p' kY
   exact ⟨_,h⟩
  obtain ⟨U',hU1,hU2⟩:∃U' :Str->List Rat,U' p.nm=(rs.drop (cI (pins.take i))).take p.ws.length/\∀x,x≠p.nm->U' x=U x:=⟨fun x=>if x=p.nm then (rs.drop (cI (pins.take i))).take p.ws.length else U x,if_pos rfl,fun x h=>if_neg h⟩
  obtain ⟨L',SV,Oz⟩:∃L' :Str->Addr,L' p.nm=m2/\∀x,x≠p.nm->L' x=L x:=⟨fun x=>if x=p.nm then m2 else L x,if_pos rfl,fun x h=>if_neg h⟩
  refine ⟨_,rfl,_,_,putK kU (.inr p.nm) (.ref m2),U',L',rfl,fun b o e=>?_,kk _ _ M3 l4,ah,?_,?_,fun p' kY =>?_,fun p' kY =>?_,fun p' kY q' h8 =>?_⟩
  ·rw [ao (aq e nU)]
   exact SY _ _ (s4 _ _ e)
  ·rw [pk,aa3,ks,tk,aa3]
   rfl
  ·rw [tk,abp,pf]
   rw [yl (U:=U') (W:=U) fun p' kY =>hU2 _ (ne p' kY),fl]
   simp only [aa4,List.flatMap_nil,ac2,hU1]
   rw [List.take_add]
  ·rw [vD]
   rcases tY p' kY with h | h
   ·rw [if_neg (fun z=>ne p' h (abQ z)),Oz _ (ne p' h),hU2 _ (ne p' h)]
    obtain ⟨cA,h1,h2,h3,h4⟩:=tU p' h
    exact ⟨cA,h1,h2,kk _ _ (fun z=>by rw [z,e4] at h3;cases h3) h3,Paired.bF h4 fun _ _ z=>(z.same SY).aU t6⟩
   ·subst h
    rw [if_pos rfl,SV,hU1]
    refine ⟨_,rfl,(s4.trans s5).free n6,by rw [ao md];exact e6,?_⟩
    have a1:=jV (cI (pins.take (i+1)) - cI (pins.take i)) (g7 (cI (pins.take i)) hu)
    have a2:cI (pins.take (i+1)) - cI (pins.take i)=p'.ws.length:=by omega
    rw [a2] at a1 ⊢
    exact Paired.bF a1 fun _ _ z=>((z.same s4).same SY).aU t6
  ·rcases tY p' kY with h | h
   ·rw [hU2 _ (ne p' h)]
    exact lU p' h
   ·subst h
    rw [hU1,abb,ack]
    omega
  ·rcases tY p' kY with h | h <;> rcases tY q' h8 with h' | h'
   ·rw [Oz _ (ne p' h),Oz _ (ne q' h')]
    exact inj p' h q' h'
   ·subst h'
    rw [Oz _ (ne p' h),SV]
    intro z
    obtain ⟨o,ho⟩:=hold p' h
    rw [z,s5.free n6] at ho
    cases ho
   ·subst h
    rw [Oz _ (ne q' h'),SV]
    intro z
    obtain ⟨o,ho⟩:=hold q' h'
    rw [<- z,s5.free n6] at ho
    cases ho
   ·intro _
    rw [h,h']
 ·rintro σ H4 ⟨o4,o5,kU,U,L,rfl,s4,l4,e4,ks,fl,tU,lU,inj⟩
  rw [aaa,aaa,abl] at ks fl tU lU inj
  have R4:=R.same s4
  obtain ⟨dx,pP,pW,pB,kP,kW,kB,F4,W4⟩:=R4.ex
  refine ⟨_,rfl,a,C,dx,_,_,_,rfl,F4.obj,rfl,MB,a,dx,pP,pW,pB,_,_,kP,kW,kB,rfl,F4,fun lb H5 s5 nlb Q4=>?_⟩
  rw [zW] at Q4
  have Q7:=s4.trans s5
  refine ⟨_,rfl,_,rfl,_,rfl,nl,_,rfl,aX.of (Q7 _ _ hn),?_⟩
  have hw:cI pins<=us.length:=by omega
  rw [aaa,aaa,abl,kX hw]
  intro m2 n6;generalize eX:upd _ m2 _=H6;have ⟨s6,e6⟩:=nw n6 eX;clear eX
  have hp6:Paired (ig K H6) (us.drop (cI pins)) (rs.drop (cI pins)):=Paired.bF (g7 (cI pins) hu) fun _ _ z=>(z.same Q7).same s6
  obtain ⟨T,h1,h2,h3⟩:=zX (R:=ig K H6) g.nb (by rw [ack];omega) hp6
  have eks:(bars.map (·.nm)).map V.str=(bars.map fun b=>(abD b.nm:Key)).map kV:=by
   rw [aaT,aaT]
   rfl
  rw [eks] at Q4
  refine ⟨lb,m2,bars.map fun b=>(abD b.nm:Key),us.drop (cI pins),rfl,s6 _ _ Q4,e6,by rw [aaa];omega,fun dT H7 s7 n7 e7=>?_⟩
  have ndk:(bars.map fun b=>(abD b.nm:Key)).Nodup:=by
   have:=CU g.nb
   rw [aaT] at this
   exact this
  rw [jW _ [] (by rw [acB,h2];exact ndk),acB] at e7
  refine ⟨_,rfl,_,rfl,(by show 2<=sizeLine;decide),?_⟩
  intro pt n8;generalize eX:upd _ pt _=H8;have ⟨s8,e8⟩:=nw n8 eX;clear eX
  have S1:=(s5.trans s6).trans (s7.trans s8)
  have s08:=s4.trans S1
  have er:rs=(pins.flatMap fun p=>U p.nm)++bars.map (fun b=>T b.nm):=by rw [fl,h1,ag_]
  refine q T U L pt dT dU _ kU H8 s08 er e8 ⟨(Q7.trans s6).free n7,nU,(fun z=>by rw [z,s6 _ _ (s5 _ _ e4)] at n7;cases n7),s8 _ _ e7,S1 _ _ e4,h2,ks,fun b hb=>?_,fun p hp=>?_,lU,inj⟩
  ·obtain ⟨v,e1,e2⟩:=h3 b hb
   exact ⟨v,e1,(e2.same s7).same s8⟩
  ·obtain ⟨cA,a1,a2,a3,a4⟩:=tU p hp
   exact ⟨cA,a1,a2,S1 _ _ a3,Paired.bF a4 fun _ _ z=>z.same S1⟩
inductive pj (K:Frag)(C:Addr)(vs:η)(H:Hp)(Q:VK)(E_:XK):Prop where
 | mk (a nl:Addr) (pins:ο) (bars:ς) (us:η) (_:vs=[.ref a,.ref nl]) (_:CT K H C a pins bars) (_:fu pins bars) (_:H nl=some (.lst us)) (_:us.length=2*pins.length) (_:∀(d:Addr) (H' :Hp),au H H' ->Q (.ref d) H'):pj K C vs H Q E_
theorem zY:aE ["F","numbers","motion","at","pin"] zax (ag DN):=sq
theorem VM (D:Def K mg "motion_from" DN zax)(cz:mg "enumerate"=none)(MP:bI P w K mg base (a_ P w) 1 C "pins" zag (iG K C)):
  Fn P w K mg base (a_ P w) 2 "motion_from" zax (pj K C):=by
 refine D.ok zY (fun vs H Q E h=>?_) (fun f bJ A outer s H vs Q E hr h=>?_)
 ·obtain ⟨a,nl,pins,bars,us,rfl,_⟩:=h
  rfl
 obtain ⟨a,nl,pins,bars,us,rfl,R,g,hn,lu,q⟩:=h
 have gl:=g.lp
 refine ⟨_,(ae (aG (i:=2) zY.nd rfl (aad rfl) fh)
  (ae (bB PassesOwn.never rfl (tu rfl cz (ar (fZ (k:=1) (pv 0) hr.mo (pY P w)) aa)) (dG rfl (aQ (av (i:=3) zY.nd rfl (aad rfl)) (aQ (av (i:=4) zY.nd rfl (aad rfl)) cu))) (aj (eA (bU hr) (pv 2) (pv 4) (aV (ar (bo aY (pv 1) (aT c9 ak (pv 3)) (fun _ _=>rfl)) (ar (bo aY (pv 1) (aT cG (aT c9 ak (pv 3)) ak) (fun _ _=>rfl)) aa))) rfl)))
  (aj (aH (pv 2))))),?_⟩
 intro d nd
 have s1:=aF nd (.dK [])
 have e1:(upd H d (.dK [])) d=some (.dK []):=ah
 generalize upd H d (.dK [])=H1 at s1 e1 ⊢
 have R1:=R.same s1
 obtain ⟨dx,pP,pW,pB,kP,kW,kB,F1,W1⟩:=R1.ex
 refine ⟨_,rfl,a,C,dx,_,_,_,rfl,F1.obj,rfl,MP,a,dx,pP,pW,pB,_,_,kP,kW,kB,rfl,F1,fun lp H2 s2 wm tX=>?_⟩
 rw [gZ] at tX
 have nM:=s1.trans s2
 have M3:lp≠d:=fun z=>by rw [z,e1] at wm;cases wm
 refine ⟨lp,rfl,⟨_,aX.of tX⟩,vL (K:=K) (a:=lp) (xs:=(pins.map (·.nm)).map V.str) (fun i σ H' =>∃(o3 o4:χ) (kM:δ),σ=[some (.ref a),some (.ref nl),some (.ref d),o3,o4]/\au H H' /\H' lp=some (.lst ((pins.map (·.nm)).map V.str))/\H' d=some (.dK kM)/\kM.length<=i) ⟨none,none,[],rfl,nM,tX,s2 _ _ e1,aac _⟩ (fun i σ H' _ h=>by
   obtain ⟨_,_,_,_,_,h,_⟩:=h
   exact aX.of h) ?_ ?_⟩
 ·rintro i z σ H4 p9 hi ⟨o3,o4,kM,rfl,s4,l4,e4,lk⟩ n9
  rw [Wp,Wp] at hi
  obtain ⟨x,hx,rfl⟩:=aal.mp hi
  obtain ⟨p,hp,rfl⟩:=aal.mp hx
  have il:i < pins.length:=(be.mp hp).1
  have t9:=aF n9 (.tup [.int (i:Int),.str p.nm])
  have e9:(upd H4 p9 (.tup [.int (i:Int),.str p.nm])) p9=some (.tup [.int (i:Int),.str p.nm]):=ah
  generalize upd H4 p9 (.tup [.int (i:Int),.str p.nm])=H5 at t9 e9 ⊢
  refine ⟨p9,_,rfl,bT.of e9,rfl,_,_,rfl,_,_,rfl,rfl,?_⟩
  have Q7:=s4.trans t9
  have Z7:=Q7 _ _ hn
  have l1:2*i < us.length:=by omega
  have l2:2*i+1 < us.length:=by omega
  have c2:zi 2 (i:Int):=⟨by decide+kernel,aaf (intBits_le_64 (by omega) (by omega)) (by decide)⟩
  have a1:gO us (2*(i:Int))=some us[2*i]:=by
   have:=bS (xs:=us) (j:=2*i) (gE l1)
   rw [show ((2*i:Nat):Int)=2*(i:Int) by omega] at this
   exact this
  have a2:gO us (2*(i:Int)+1)=some us[2*i+1]:=by
   have:=bS (xs:=us) (j:=2*i+1) (gE l2)
   rw [show ((2*i+1:Nat):Int)=2*(i:Int)+1 by omega] at this
   exact this
  refine ⟨_,rfl,_,rfl,_,_,rfl,rfl,c2,nl,_,_,_,rfl,rfl,aX.of Z7,a1,?_⟩
  refine ⟨_,rfl,_,rfl,_,_,rfl,rfl,c2,_,_,rfl,rfl,nl,_,_,_,rfl,rfl,aX.of Z7,a2,(by show 2<=sizeLine;decide),?_⟩
  intro t n6;generalize eX:upd _ t _=H6;have ⟨s6,e6⟩:=nw n6 eX;clear eX
  have Z8:=s6 _ _ (t9 _ _ e4)
  refine ⟨_,rfl,_,rfl,d,_,rfl,ib.k (k:=.inr p.nm) Z8 (aaj (show kM.length<=1000 by omega) (by decide)),?_⟩
  have lp9:=fg kM (.inr p.nm) (.ref t)
  have kk:∀b o,b≠d->H4 b=some o->(upd H6 d (.dK (putK kM (.inr p.nm) (.ref t)))) b=some o:=fun b o n e=>by rw [ao n];exact s6 _ _ (t9 _ _ e)
  exact ⟨_,_,_,rfl,fun b o e=>kk b o (aq e nd) (s4 _ _ e),kk _ _ M3 l4,ah,by omega⟩
 ·rintro σ H4 ⟨o3,o4,kM,rfl,s4,_⟩
  exact ⟨_,rfl,q d _ s4⟩
def dt (a b:Rat×Rat):Rat:=a.1*b.1+a.2*b.2
def sP (as bs:List Rat):Rat:=(ab9 (·*·) as bs).sum
theorem kZ (bs:List Rat):sP [] bs=0:=by simp [sP]
theorem f_ (a b:Rat)(as bs:List Rat):sP (a::as) (b::bs)=a*b+sP as bs:=by simp [sP]
theorem k_:∀{a c:List Rat} (b d:List Rat),a.length=c.length->sP (a++b) (c++d)=sP a c+sP b d
 | [],[],b,d,_=>by
  rw [acB,acB,kZ]
  grind
 | x::a,y::c,b,d,h=>by
  rw [acT,acT,f_,f_,k_ b d (by simpa using h)]
  grind
 | [],_::_,_,_,h=>by simp at h
 | _::_,[],_,_,h=>by simp at h
theorem zZ:∀(ys cs:τ),mN ys cs=sP (ys.map vl) (cs.map vl)
 | [],_=>by simp [mN,sP]
 | _::_,[]=>by simp [mN,sP]
 | y::ys,c::cs=>by rw [CG,aah,aah,f_,zZ ys cs]
theorem ym (x:Str)(w:Rat×Rat)(y:Str):mv (gY x w) y=if y=x then w else (0,0):=by
 unfold mv gY
 by_cases e:y=x
 ·rw [if_pos e,if_pos e]
  rfl
 ·rw [if_neg e,if_neg e]
  rfl
def g8 (bars:ς)(T:Ψ)(U:Ζ)(p:aD)(c:Rat×Rat->Rat):Rat:=sP (U p.nm) (p.ws.map c)+(bars.map fun b=>T b.nm*c (mv (gG b) p.nm)).sum
theorem z5:∀(as:List Rat) {α:Type} (l:List α),sP as (l.map fun _=>(0:Rat))=0
 | [],_,_=>kZ _
 | _::_,_,[]=>by simp [sP]
 | a::as,_,x::l=>by
  rw [aah,f_,z5 as l]
  grind
theorem z6 {U:Ζ}(c0:c (0,0)=0)(p:aD):∀(ps:ο),(ps.map (·.nm)).Nodup->(∀q∈ps,(U q.nm).length=q.ws.length)->(∀q∈ps,q.nm=p.nm->q=p)->
  sP (ps.flatMap fun q=>U q.nm) (ps.flatMap fun q=>q.ws.map fun w=>c (mv (gY q.nm w) p.nm))=if p.nm∈ps.map (·.nm) then sP (U p.nm) (p.ws.map c) else 0
 | [],_,_,_=>by simp [sP]
 | q::ps,nd,hl,inj=>by
  rw [aah,aa5] at nd
  have ih:=z6 c0 p ps nd.2 (fun r hr=>hl r (aae _ hr)) fun r hr=>inj r (aae _ hr)
  rw [aa4,aa4,k_ _ _ (by rw [hl q aak,aaa]),ih,aah]
  by_cases e:q.nm=p.nm
  ·have eq:q=p:=inj q aak e
   subst eq
   have ec:(q.ws.map fun w=>c (mv (gY q.nm w) q.nm))=q.ws.map c:=abZ fun w _=>by rw [ym,if_pos rfl]
   rw [if_neg nd.1,if_pos aak,ec]
   grind
  ·have ec:(q.ws.map fun w=>c (mv (gY q.nm w) p.nm))=q.ws.map fun _=>(0:Rat):=abZ fun w _=>by rw [ym,if_neg (fun z=>e z.symm)];exact c0
   rw [ec,z5]
   by_cases hm:p.nm∈ps.map (·.nm)
   ·rw [if_pos hm,if_pos (aae _ hm)]
    grind
   ·rw [if_neg hm,if_neg (fun z=>by
     rcases aaQ.mp z with z | z
     ·exact e z.symm
     ·exact hm z)]
    grind
theorem JY {α:Type}(f g:α->Rat):∀l:List α,sP (l.map f) (l.map g)=(l.map fun x=>f x*g x).sum
 | []=>by simp [sP]
 | x::l=>by rw [aah,aah,f_,JY f g l,aah,aiL]
theorem M4 {pins:ο}(c0:c (0,0)=0)(nd:(pins.map (·.nm)).Nodup)(hl:∀q∈pins,(U q.nm).length=q.ws.length)(hp:p∈pins)(y:Rat):
  sP ((pins.flatMap fun q=>U q.nm)++bars.map (fun b=>T b.nm)++[y]) (((pins.flatMap fun q=>q.ws.map fun w=>c (mv (gY q.nm w) p.nm))++bars.map fun b=>c (mv (gG b) p.nm))++[c (mv L p.nm)])=g8 bars T U p c+y*c (mv L p.nm):=by
 have l1:(pins.flatMap fun q=>U q.nm).length=(pins.flatMap fun q=>q.ws.map fun w=>c (mv (gY q.nm w) p.nm)).length:=by
  clear hp nd
  induction pins with
  | nil=>rfl
  | cons q ps ih=>rw [aa4,aa4,aan,aan,ih fun r hr=>hl r (aae _ hr),hl q aak,aaa]
 rw [k_ _ _ (by rw [aan,aan,l1,aaa,aaa]),k_ _ _ l1,z6 c0 p pins nd hl fun q hq e=>QH (nm:=aD.nm) nd hq hp e,if_pos (aab.mpr ⟨p,hp,rfl⟩),JY,f_,kZ]
 unfold g8
 grind
theorem tZ (F:Β):∀{pins:ο} {k:Nat} {p:aD},pins[k]? =some p->vl ((fX F pins).getD (2*k) (0,1))=(mv F p.nm).1/\vl ((fX F pins).getD (2*k+1) (0,1))=(mv F p.nm).2
 | q::ps,0,p,h=>by
  cases h
  unfold fX
  rw [aa4]
  exact ⟨gA _,gA _⟩
 | q::ps,k+1,p,h=>by
  have ih:=tZ F (pins:=ps) (k:=k) (p:=p) (by simpa using h)
  unfold fX at ih ⊢
  rw [aa4]
  exact ih
theorem FC (pins:ο)(bars:ς)(L:Β){k:Nat}(h:pins[k]? =some p)(j:Nat)(c:Rat×Rat->Rat)(hj:∀F,vl ((fX F pins).getD j (0,1))=c (mv F p.nm)):
  (yd (b7 pins bars++[fX L pins]) j).map vl=((pins.flatMap fun q=>q.ws.map fun w=>c (mv (gY q.nm w) p.nm))++bars.map fun b=>c (mv (gG b) p.nm))++[c (mv L p.nm)]:=by
 have flat:∀ps:List aD,((ps.flatMap fun q=>qN pins q).map fun qs=>vl (qs.getD j (0,1)))=ps.flatMap fun q=>q.ws.map fun w=>c (mv (gY q.nm w) p.nm):=fun ps=>by
  induction ps with
  | nil=>rfl
  | cons q ps ih=>
   rw [aa4,aa4,aa3,ih]
   congr 1
   unfold qN
   rw [aaT]
   exact abZ fun w _=>hj _
 unfold yd b7
 rw [aaT,aa3,aa3,aah,adh]
 congr 1
 ·congr 1
  ·exact flat pins
  ·rw [aaT]
   exact abZ fun b _=>hj _
 ·rw [<- hj]
  rfl
theorem jX (h:1<=k):Sz k 0:=by
 have:=kN (i:=0) (k:=k) (by simpa using ajd k) h
 simpa using this
structure Zb (n:Nat)(r:Rat):Prop where
 top:(qr r).1.natAbs<=2^n
 bot:(qr r).2.natAbs<=2^n
theorem OE (h:Sm T B q):q=qr (vl q):=rY h.pos h.low
theorem OF (h:Sz k r)(h2:k<=90):Sm 90 90 (qr r):=
 ⟨dH r,oR r,ab7 (aaO (intBits_le_iff.mp h.top) (aa7 (by decide) h2)),ab7 (aaO (intBits_le_iff.mp h.bot) (aa7 (by decide) h2))⟩
theorem z7 (h:∀x,Sz 90 (mv F x).1/\Sz 90 (mv F x).2)(pins:ο):∀q∈fX F pins,Sm 90 90 q:=fun q hq=>by
 unfold fX at hq
 obtain ⟨p,_,hq⟩:=abI.mp hq
 have z:=h p.nm
 rcases aaQ.mp hq with e | hq
 ·rw [e]
  exact OF z.1 (aac _)
 ·rw [aas.mp hq]
  exact OF z.2 (aac _)
theorem Q8 {w:Rat×Rat}(h:Sz 90 w.1/\Sz 90 w.2)(y:Str):Sz 90 (mv (gY x w) y).1/\Sz 90 (mv (gY x w) y).2:=by
 rw [ym]
 by_cases c:y=x
 ·rw [if_pos c]
  exact h
 ·rw [if_neg c]
  exact ⟨jX (by decide),jX (by decide)⟩
theorem Q9 (g:fu pins bars)(hb:b∈bars)(y:Str):Sz 90 (mv (gG b) y).1/\Sz 90 (mv (gG b) y).2:=by
 obtain ⟨m1,m2,_⟩:=g.ends b hb
 have z1:=g.sz _ m1
 have z2:=g.sz _ m2
 unfold mv gG
 by_cases c1:y=b.one.nm
 ·rw [if_pos c1]
  exact ⟨(z2.1.sub z1.1).up (by decide),(z2.2.1.sub z1.2.1).up (by decide)⟩
 ·rw [if_neg c1]
  by_cases c2:y=b.other.nm
  ·rw [if_pos c2]
   exact ⟨(z1.1.sub z2.1).up (by decide),(z1.2.1.sub z2.2.1).up (by decide)⟩
  ·rw [if_neg c2]
   exact ⟨jX (by decide),jX (by decide)⟩
theorem jr (g:fu pins bars):∀qs∈b7 pins bars,qs.length=2*pins.length/\∀q∈qs,Sm 90 90 q:=fun qs hq=>by
 unfold b7 at hq
 rcases aaG.mp hq with h | h
 ·obtain ⟨p,hp,h⟩:=abI.mp h
  unfold qN at h
  obtain ⟨w,hw,rfl⟩:=aab.mp h
  have z:=(g.sz p hp).2.2 w hw
  exact ⟨jT _ _,z7 (Q8 ⟨z.1.up (by decide),z.2.up (by decide)⟩) pins⟩
 ·obtain ⟨b,hb,rfl⟩:=aab.mp h
  exact ⟨jT _ _,z7 (Q9 g hb) pins⟩
theorem wu :∀{us:η} {qs:τ},fj K H us qs->(∀q∈qs,Sm T B q)->Paired (ig K H) us (qs.map vl)
 | [],[],_,_=>.nil
 | u::us,q::qs,h,hs=>by
  refine .cons ?_ (wu ⟨by simpa using h.1,fun i u q e1 e2=>h.2 (i+1) u q (by simpa using e1) (by simpa using e2)⟩ fun r hr=>hs r (aae _ hr))
  have n:=h.2 0 u q rfl rfl
  show nC K H u (qr (vl q))
  rw [<- OE (hs q aak)]
  exact n
 | [],_::_,h,_=>(nomatch h.1)
 | _::_,[],h,_=>(nomatch h.1)
theorem VN {m n:Nat}(h:Sm T B q)(h1:T<=n)(h2:B<=n):Zb n (vl q):=by
 have e:=OE h
 refine ⟨?_,?_⟩
 ·rw [<- e]
  exact aaf h.top (aa7 (by decide) h1)
 ·rw [<- e]
  exact aaf h.bot (aa7 (by decide) h2)
theorem ck {α:Type}{l:List α}(h:l.Nodup){i j:Nat}{x:α}(hi:l[i]? =some x)(hj:l[j]? =some x):i=j:=by
 obtain ⟨i1,i2⟩:=be.mp hi
 obtain ⟨j1,j2⟩:=be.mp hj
 exact (ai4 h).mp (i2.trans j2.symm)
theorem Ln.ks (h:Ln H v l)(r:Rd H d (.dK kvs))(k:aL d H H'):Ln H' v l:=by
 obtain ⟨p,e,z⟩:=h
 refine ⟨p,e,k p _ (fun y=>?_) z⟩
 rw [y] at z
 rcases r with r | ⟨o,r⟩ <;> (rw [r] at z;cases z)
theorem nI.ks (h:nI H kvs nd)(r:Rd H d (.dK U0))(k:aL d H H'):nI H' kvs nd:=⟨h.1,fun i kv x e1 e2=>⟨(h.2 i kv x e1 e2).1,(h.2 i kv x e1 e2).2.ks r k⟩⟩
theorem aL.step (k:aL d H H')(s:au H' H2):aL d H H2:=fun b o n e=>s _ _ (k b o n e)
theorem aL.put (k:aL d H H')(n:H x=none):aL d H (upd H' x o):=fun b o' nb e=>by
 rw [ao (fun z=>by rw [z,n] at e;cases e)]
 exact k b o' nb e
inductive t_ (K:Frag)(vs:η)(H:Hp)(Q:VK)(E_:XK):Prop where
 | mk (d:Addr) (c m L b:Nat) (kvs:δ) (nd:θ) (os lv:List (List Int:_)) (_:vs=[.ref d,.int (c:Int),.int (m:Int)]) (_:Rd H d (.dK kvs)) (_:nI H kvs nd) (_:Red os L m b nd lv) (_:m<=L) (_:m<=900) (_:c < m) (_:∀(x:Addr) (us:η) (o:Obj) (H' :Hp),aL d H H' ->H' d=some (.cV o (.dK kvs))->H x=none->H' x=some (.lst us)->us.length=m->Q (.ref x) H'):t_ K vs H Q E_
theorem eZ:aE ["needed","column","many","numbers","place","line"] zaC (ag dz):=sq
theorem qO (Q_:mg "NOUGHT"=some (.ref aN))(Ra:mg "ONE"=some (.ref aO))(D:Def K mg "spare_list" dz zaC)(JN:Fn P w K mg base (a_ P w) 33 "lowest_terms" zaE gD):Fn P w K mg base (a_ P w) 34 "spare_list" zaC (t_ K):=by
 refine D.ok eZ (fun vs H Q E h=>?_) (fun f bJ A outer s H vs Q E hr h=>?_)
 ·obtain ⟨d,c,m,L,b,kvs,nd,os,lv,rfl,_⟩:=h
  rfl
 obtain ⟨d,c,m,L,b,kvs,nd,os,lv,rfl,rd,M5,R,hmL,hm,hc,q⟩:=h
 refine ⟨_,(ae (aG (i:=3) eZ.nd rfl (aad rfl) (aT HY (cN (ar (jA (v:=.ref aN) rfl Q_ rfl) aa)) (pv 2)))
  (ae (kz (jA (v:=.ref aO) rfl Ra rfl) (oa (pv 3) (pv 1) set_list))
  (ae (bB PassesOwn.never rfl (rV (pv 0)) (dG rfl (aQ (av (i:=4) eZ.nd rfl (aad rfl)) (aQ (av (i:=5) eZ.nd rfl (aad rfl)) cu))) (aj (kz (aC JN hr.mo pX (ar (N8 HJ (bo aY (pv 5) (pv 1) (fun _ _=>rfl))) (ar (bo aY (pv 5) (pv 4) (fun _ _=>rfl)) aa))) (oa (pv 3) (pv 4) set_list))))
  (aj (aH (pv 3)))))),?_⟩
 refine ⟨(by show 1<=sizeLine;decide),fun p3 n3=>?_⟩
 have s3:=aF n3 (.lst [V.ref aN])
 refine ⟨_,rfl,p3,_,_,rfl,rfl,ah,by omega,by omega,aaf (show 1*(m:Int).toNat<=1000 by omega) (by decide),fun x n4=>?_⟩
 have er:(aaJ (m:Int).toNat [V.ref aN]).flatten=aaJ m (V.ref aN):=by simp
 rw [er]
 have s4:=aF n4 (.lst (aaJ m (V.ref aN)))
 have nx:H x=none:=s3.free n4
 have xd:d≠x:=by
  rcases rd with r | ⟨o,r⟩
  ·exact aq r nx
  ·exact aq r nx
 refine ⟨_,rfl,_,rfl,x,_,_,c,rfl,rfl,ah,by rw [acm];exact tO hc,?_⟩
 have s5:au H (upd (upd (upd H p3 (.lst [V.ref aN])) x (.lst (aaJ m (V.ref aN)))) x (.lst ((aaJ m (V.ref aN)).set c (V.ref aO)))):=fT (s3.trans s4) nx
 have M6:Rd (upd (upd (upd H p3 (.lst [V.ref aN])) x (.lst (aaJ m (V.ref aN)))) x (.lst ((aaJ m (V.ref aN)).set c (V.ref aO)))) d (.dK kvs):=by
  rcases rd with r | ⟨o,r⟩
  ·exact .inl (s5 _ _ r)
  ·exact .inr ⟨o,s5 _ _ r⟩
 have x5:upd (upd (upd H p3 (.lst [V.ref aN])) x (.lst (aaJ m (V.ref aN)))) x (.lst ((aaJ m (V.ref aN)).set c (V.ref aO))) x=some (.lst ((aaJ m (V.ref aN)).set c (V.ref aO))):=ah
 generalize upd (upd (upd H p3 (.lst [V.ref aN])) x (.lst (aaJ m (V.ref aN)))) x (.lst ((aaJ m (V.ref aN)).set c (V.ref aO)))=H5 at*
 have OG:=M5.same s5
 refine ⟨_,rfl,d,kvs,rfl,M6,fun o=>?_⟩
 have k5:aL d H (upd H5 d (.cV o (.dK kvs))):=fun b o' n e=>by rw [ao n];exact s5 _ _ e
 have k55:aL d H5 (upd H5 d (.cV o (.dK kvs))):=fun b o' n e=>by rw [ao n];exact e
 refine fG (d:=d) (o:=o) (kvs:=kvs) (fun t σ H' =>∃(o4 o5:χ) (Rb:η),σ=[some (.ref d),some (.int (c:Int)),some (.int (m:Int)),some (.ref x),o4,o5]/\aL d H H' /\H' d=some (.cV o (.dK kvs))/\H' x=some (.lst Rb)/\Rb.length=m)
  ⟨none,none,(aaJ m (V.ref aN)).set c (V.ref aO),rfl,k5,ah,by rw [ao (aba xd)];exact x5,by simp⟩ (fun t σ H' _ h=>by
   obtain ⟨_,_,_,_,_,h,_⟩:=h
   exact h) ?_ ?_
 ·rintro t k v σ H6 p7 si ⟨o4,o5,Rb,rfl,k6,GS,VO,l2⟩ n7
  have ht:t < kvs.length:=(be.mp si).1
  have Rc:=M5.1
  obtain ⟨y,ey⟩:∃y,nd[t]? =some y:=⟨_,gE (by omega)⟩
  obtain ⟨k1,k2⟩:=M5.2 t _ y si ey
  have k1' :k=.inl (y.1:Int):=k1
  subst k1'
  obtain ⟨b',eb,gh⟩:=k2
  have GU :v=.ref b' :=eb
  subst GU
  have OH:=ir ey
  have hyl:=R.mP y OH
  have hyc:=R.cols y OH
  have s7:=aF n7 (.tup [kV (.inl (y.1:Int)),.ref b'])
  have OI:=s7 _ _ (k6 _ _ (fun z=>by rw [z] at gh;rcases rd with r | ⟨o,r⟩ <;> (rw [r] at gh;cases gh)) gh)
  refine ⟨p7,_,rfl,bT.of ah,rfl,_,_,rfl,_,_,rfl,rfl,?_⟩
  refine ⟨_,rfl,_,rfl,b',_,_,_,rfl,rfl,aX.of OI,r_ (by omega),_,rfl,_,rfl,_,rfl,b',_,_,_,rfl,rfl,aX.of OI,r_ (by omega),?_⟩
  refine ⟨_,_,rfl,R.here y OH,fun p8 H8 s8 e8=>?_⟩
  have JS:=s7.trans s8
  refine ⟨_,rfl,_,rfl,x,Rb,_,y.1,rfl,rfl,JS _ _ VO,tO (by rw [l2];exact hyc),?_⟩
  exact ⟨_,_,Rb.set y.1 (.ref p8),rfl,aL.put (aL.step k6 JS) nx,by rw [ao xd];exact JS _ _ GS,ah,by rw [aiA];exact l2⟩
 ·rintro σ H6 ⟨o4,o5,Rb,rfl,k6,GS,VO,l2⟩
  exact ⟨_,rfl,q x Rb o H6 k6 GS nx VO l2⟩
theorem bT.ks (h:bT K H a xs)(r:Rd H d (.dK kvs))(k:aL d H H'):bT K H' a xs:=by
 have ne:∀{u:HO},H a=some u->(∀o,u≠.cV o (.dK kvs))->u≠.dK kvs->a≠d:=fun {u} e n1 n2 z=>by
  rw [z] at e
  rcases r with r | ⟨o,r⟩
  ·rw [r] at e
   cases e
   exact n2 rfl
  ·rw [r] at e
   cases e
   exact n1 o rfl
 rcases h with (h | ⟨o,h⟩) | h
 ·exact .inl (.inl (k _ _ (ne h (fun o z=>nomatch z) (fun z=>nomatch z)) h))
 ·exact .inl (.inr ⟨o,k _ _ (ne h (fun o z=>by cases z) (fun z=>nomatch z)) h⟩)
 ·exact .inr h
theorem fj.ks (h:fj K H us qs)(r:Rd H d (.dK kvs))(k:aL d H H'):fj K H' us qs:=⟨h.1,fun i u q e1 e2=>by
 obtain ⟨p,e,z⟩:=h.2 i u q e1 e2
 exact ⟨p,e,bT.ks z r k⟩⟩
def z8 (K:Frag)(H:Hp)(kvs:δ)(ss:Ξ):Prop:=kvs.length=ss.length/\∀(i:Nat) (kv:Key×V) (x:Nat×List (Int×Int)),kvs[i]? =some kv->ss[i]? =some x->kv.1=.inl (x.1:Int)/\∃p us,kv.2=.ref p/\H p=some (.lst us)/\fj K H us x.2
theorem z8.same (h:z8 K H kvs ss)(s:au H H'):z8 K H' kvs ss:=⟨h.1,fun i kv x e1 e2=>by
 obtain ⟨a,p,us,b,c,d⟩:=h.2 i kv x e1 e2
 exact ⟨a,p,us,b,s _ _ c,d.same s⟩⟩
theorem z8.ks (h:z8 K H kvs ss)(r:Rd H d (.dK U0))(k:aL d H H'):z8 K H' kvs ss:=⟨h.1,fun i kv x e1 e2=>by
 obtain ⟨a,p,us,b,c,d'⟩:=h.2 i kv x e1 e2
 refine ⟨a,p,us,b,k _ _ (fun z=>?_) c,fj.ks d' r k⟩
 rw [z] at c
 rcases r with r | ⟨o,r⟩ <;> (rw [r] at c;cases c)⟩
theorem z8.snoc (h:z8 K H kvs ss){c:Nat}(hp:H p=some (.lst us))(hn:fj K H us qs):z8 K H (kvs++[(.inl (c:Int),.ref p)]) (ss++[(c,qs)]):=by
 have hl:=h.1
 refine ⟨by simp [hl],fun j kv x e1 e2=>?_⟩
 by_cases z:j < kvs.length
 ·rw [aap z] at e1
  rw [aap (by omega)] at e2
  exact h.2 j kv x e1 e2
 ·rw [aaY (by omega)] at e1 e2
  rw [<- hl] at e2
  by_cases y:j - kvs.length=0
  ·rw [y] at e1 e2
   cases e1
   cases e2
   exact ⟨rfl,p,us,rfl,hp,hn⟩
  ·rw [aai (by simp;omega)] at e1
   cases e1
theorem z8.keys (h:z8 K H kvs ss):kvs.map (·.1)=ss.map (fun x=>(aia (x.1:Int):Key)):=by
 refine abL fun i=>?_
 have hl:=h.1
 rw [Wp,Wp]
 by_cases hi:i < ss.length
 ·have e:ss[i]? =some ss[i]:=gE hi
  have e2:kvs[i]? =some (kvs[i]'(by omega)):=gE (by omega)
  rw [e,e2]
  simp only [acn]
  rw [(h.2 i _ _ e2 e).1]
 ·rw [aai (by omega),aai (by omega)]
  rfl
def GV (T B m:Nat)(qs:τ)(w:Wl):Prop:=rP w.1 qs w.2.1/\0 < w.2.1/\w.2.1.natAbs<=2^(B*m)/\∀t∈w.1,t.natAbs<=2^(T+B*m)
def z9 (T B m:Nat)(cf:ψ)(os:ζ):Prop:=os.length=cf.length/\∀(i:Nat) (o:ξ) (qs:τ),os[i]? =some o->cf[i]? =some qs->∃b:Int,0 < b/\rP o qs b
def free (nd:θ)(j:Nat):Bool:=nd.all fun y=>decide (y.1≠j)
theorem pC :free nd j=true ↔ ∀y∈nd,y.1≠j:=by
 unfold free
 rw [ai8]
 exact ⟨fun h y hy=>of_decide_eq_true (h y hy),fun h y hy=>decide_eq_true (h y hy)⟩
def M7 (H:Hp)(m:Nat)(kvs:δ)(cs:Ρ):Prop:=kvs.length=cs.length/\∀(i:Nat) (kv:Key×V) (c:Nat),kvs[i]? =some kv->cs[i]? =some c->kv.1=.inl (c:Int)/\∃p us,kv.2=.ref p/\H p=some (.lst us)/\us.length=m
theorem M7.mono (h:M7 H m kvs cs)(k:∀b xs,H b=some (.lst xs)->H' b=some (.lst xs)):M7 H' m kvs cs:=⟨h.1,fun i kv c e1 e2=>by
 obtain ⟨a,p,us,b,d,e⟩:=h.2 i kv c e1 e2
 exact ⟨a,p,us,b,k _ _ d,e⟩⟩
theorem M7.snoc {i:Nat}(h:M7 H m kvs cs)(hp:H p=some (.lst us))(hl:us.length=m):M7 H m (kvs++[(.inl (i:Int),.ref p)]) (cs++[i]):=⟨by simp [h.1],fun j kv c e1 e2=>by
 have l:=h.1
 by_cases z:j < kvs.length
 ·rw [aap z] at e1
  rw [aap (by omega)] at e2
  exact h.2 j kv c e1 e2
 ·rw [aaY (by omega)] at e1 e2
  rw [<- l] at e2
  by_cases y:j - kvs.length=0
  ·rw [y] at e1 e2
   cases e1
   cases e2
   exact ⟨rfl,p,us,rfl,hp,hl⟩
  ·rw [aai (by simp;omega)] at e1
   cases e1⟩
inductive pD (K:Frag)(vs:η)(H:Hp)(Q:VK)(E_:XK):Prop where
 | mk (r:Addr) (m:Nat) (ls:ω) (dI:List (List V:_)) (cf:ψ) (T B Z:Nat) (_:vs=[.ref r,.int (m:Int)]) (_:EY H r ls dI) (_:iF K H dI cf) (_:Shape T B m cf) (_:m<=100) (_:cf.length<=100) (_:T<=20000) (_:B*m<=8000) (_:B<=8000) (_:bb (T+B*m) (min m cf.length)<=Z) (_:Z<=29000000) (_:∀(sd:Addr) (kvs:δ) (cs:Ρ) (os lv:ζ) (nd:θ) (H' :Hp),au H H' ->H sd=none->H' sd=some (.dK kvs)->M7 H' m kvs cs->z9 T B m cf os->Red os m m Z nd lv->cs=(abJ m).filter (free nd)->Q (.ref sd) H'):pD K vs H Q E_
theorem dD:aE ["rows","many","needed","spare","column"] zay (ag cv):=sq
theorem lh (D:Def K mg "spare_columns" cv zay)(bC:mg "range"=none)(Rf:Fn P w K mg base (a_ P w) 2 "whole_row" zaP (MM K))(Rg:Fn P w K mg base (a_ P w) 35 "reduced" zaJ (iT K))(ub:Fn P w K mg base (a_ P w) 34 "spare_list" zaC (t_ K)):Fn P w K mg base (a_ P w) 36 "spare_columns" zay (pD K):=by
 refine D.ok dD (fun vs H Q E h=>?_) (fun f bJ A outer s H vs Q E hr h=>?_)
 ·obtain ⟨r,m,ls,dI,cf,T,B,Z,rfl,_⟩:=h
  rfl
 obtain ⟨r,m,ls,dI,cf,T,B,Z,rfl,M,NN,sh,hm,hn,hT,hB,ZY,hZ,hZ1,q⟩:=h
 refine ⟨_,(ae (aG (i:=2) dD.nd rfl (aad rfl) (aR (aC Rg hr.mo pX (ar (cO (tn:=zaP) (fr:=[]) (caps:=[]) rfl ⟨rfl,by decide+kernel,rfl,by decide+kernel,by decide+kernel,rfl,trivial,trivial⟩ (bx (pv 0)) (fun _ _ _ _=>(av (i:=0) (show (zaP:List Str).Nodup from by decide+kernel) rfl (aad rfl))) (fun _ _ _ _=>cY) (fun _ _ _ _=>(bo (dq (K:=K) rfl) (aC Rf hr.mo (me (by first | assumption | exact a_.mM) rfl) (ar (pv 0) aa)) ak (fun _ _=>rfl)))) (ar (pv 1) aa)))))
  (ae (aG (i:=3) dD.nd rfl (aad rfl) fh)
  (ae (bB PassesOwn.never rfl (bV rfl bC (ar (pv 1) aa)) (av (i:=4) dD.nd rfl (aad rfl)) (aj (bu (iq (iP (bU hr) (pv 4) (pv 2))) (aj (eA (bU hr) (pv 3) (pv 4) (aC ub hr.mo pX (ar (pv 2) (ar (pv 4) (ar (pv 1) aa)))) rfl)) aK)))
  (aj (aH (pv 3)))))),?_⟩
 have l1:=M.2.1
 have l2:=NN.1
 refine ⟨_,rfl,r,rfl,⟨_,aX.of M.1⟩,fun D1 n1=>?_⟩
 refine jq (cap:=[]) (K:=K) (a:=r) (xs:=ls.map V.ref) (fun i v H=>∃w:Wl,v=.ref w.2.2.1/\w.2.2.1≠D1/\H w.2.2.1=some (.lst (w.1.map V.int))/\∀qs,cf[i]? =some qs->GV T B m qs w) n1 (by rw [aaa];exact aaj (show ls.length<=1000 by omega) (by decide)) (fun H2 s2=>aX.of (s2 _ _ M.1)) ?_ ?_ ?_
 ·rintro i v H2 H3 ys hD ks ⟨w,e1,e2,e3,e4⟩
  exact ⟨w,e1,e2,ks _ _ e2 e3,e4⟩
 ·rintro i x H2 RR ex s2 ⟨ys0,hD0⟩ kk
  rw [Wp] at ex
  obtain ⟨l,el,rfl⟩:=aal.mp ex
  have hi:i < ls.length:=(be.mp el).1
  obtain ⟨qs,eq⟩:∃qs,cf[i]? =some qs:=⟨_,gE (by omega)⟩
  obtain ⟨vs,ev⟩:∃vs,dI[i]? =some vs:=⟨_,gE (by omega)⟩
  have hl:=M.2.2 i l vs el ev
  have hq:=NN.2 i vs qs ev eq
  obtain ⟨lq,sq⟩:=sh qs (ir eq)
  refine ⟨_,rfl,l,qs,T,B,rfl,⟨_,aX.of (s2 _ _ hl),hq.same s2⟩,sq,hT,by rw [lq];omega,ZY,by omega,fun p3 VP ts b H3 s3 nl hp3 hl3 hb VQ wh VR=>?_⟩
  rw [lq] at VQ VR
  refine ⟨p3,_,_,_,rfl,rfl,bT.of hp3,iE,kk _ _ s3 ⟨(ts,b,VP,p3),rfl,fun z=>?_,hl3,fun MA e1=>?_⟩⟩
  ·rw [show VP =D1 from z,hD0] at nl
   cases nl
  ·rw [eq] at e1
   cases e1
   exact ⟨wh,hb,VQ,VR⟩
 intro zs H2 hz gj s2 S2
 rw [aaa] at hz
 obtain ⟨ws,lw,hw⟩:=gF (P:=fun i v (w:Wl)=>v=.ref w.2.2.1/\w.2.2.1≠D1/\H2 w.2.2.1=some (.lst (w.1.map V.int))/\∀qs,cf[i]? =some qs->GV T B m qs w) zs gj
 have wp:∀(i:Nat) (w:Wl),ws[i]? =some w->∃v qs,zs[i]? =some v/\cf[i]? =some qs/\v=.ref w.2.2.1/\H2 w.2.2.1=some (.lst (w.1.map V.int))/\GV T B m qs w:=fun i w e=>by
  have hi:i < ws.length:=(be.mp e).1
  obtain ⟨v,ev⟩:∃v,zs[i]? =some v:=⟨_,gE (by omega)⟩
  obtain ⟨qs,eq⟩:∃qs,cf[i]? =some qs:=⟨_,gE (by omega)⟩
  obtain ⟨h1,_,h3,h4⟩:=hw i v w ev e
  exact ⟨v,qs,ev,eq,h1,h3,h4 qs eq⟩
 have hLl:qL H2 zs (ws.map (·.1)):=⟨by simp [lw],fun i u l e1 e2=>by
  rw [Wp] at e2
  obtain ⟨w,ew,rfl⟩:=aal.mp e2
  obtain ⟨v,qs,ev,_,e,h,_⟩:=wp i w ew
  rw [e1] at ev
  cases ev
  exact ⟨_,e,h⟩⟩
 have VS:∀l∈ws.map (·.1),l.length=m:=fun l hl=>by
  obtain ⟨w,hw',rfl⟩:=aab.mp hl
  obtain ⟨i,e⟩:=aag hw'
  obtain ⟨v,qs,_,eq,_,_,wh,_⟩:=wp i w e
  rw [wh.1,(sh qs (ir eq)).1]
 have wbd:∀l∈ws.map (·.1),Bd (T+B*m) l:=fun l hl=>by
  obtain ⟨w,hw',rfl⟩:=aab.mp hl
  obtain ⟨i,e⟩:=aag hw'
  obtain ⟨v,qs,_,eq,_,_,_,_,_,h⟩:=wp i w e
  exact Bd.of h
 have hlm:(ws.map (·.1)).length=cf.length:=by rw [aaa];omega
 have ab3:z9 T B m cf (ws.map (·.1)):=⟨hlm,fun i o qs e1 e2=>by
  rw [Wp] at e1
  obtain ⟨w,ew,rfl⟩:=aal.mp e1
  obtain ⟨v,MA,_,eq,_,_,wh,wb,_⟩:=wp i w ew
  rw [e2] at eq
  cases eq
  exact ⟨_,wb,wh⟩⟩
 refine ⟨_,rfl,D1,zs,ws.map (·.1),m,m,T+B*m,rfl,aX.of S2,hLl,VS,aac _,by omega,by omega,wbd,by rw [hlm];omega,fun p d a' kvs i5 nd lv H3 s3 xm np hp hd QR M5 SV R=>?_⟩
 rw [hlm] at R
 have RZ:=R.up hZ
 refine ⟨p,_,_,_,rfl,rfl,bT.of hp,iE,?_⟩
 refine fun sd M8=>?_
 have t4:=aF M8 (.dK [])
 have so:=(s2.trans s3).trans t4
 have Hd:H d=none:=s2.free xm
 have K9:H sd=none:=(s2.trans s3).free M8
 have ds:d≠sd:=aq hd M8
 refine ⟨_,rfl,_,rfl,by omega,by omega,?_⟩
 refine b8 (lo:=0) (n:=m) (fun i σ H' =>∃(o4:χ) (g9:δ) (cs:Ρ),σ=[some (.ref r),some (.int (m:Int)),some (.ref d),some (.ref sd),o4]/\au H H' /\Rd H' d (.dK kvs)/\H' sd=some (.dK g9)/\nI H' kvs nd/\M7 H' m g9 cs/\cs=(abJ i).filter (free nd))
  ⟨none,[],[],rfl,so,.inl (t4 _ _ hd),ah,M5.same t4,⟨rfl,fun i kv x e=>by simp at e⟩,by simp⟩ ?_ ?_
 ·rintro i σ H5 hi ⟨o4,g9,cs,rfl,s5,M6,z_,OG,Rh,S3⟩
  have nk:(kvs.map (·.1)).Nodup:=by
   rw [OG.keys]
   exact keys_nodup R.asc
  by_cases fr:free nd i=true
  ·have fr' :=pC.mp fr
   have P5:bL kvs (.inl ((0:Int)+i))=none:=jQ (fun z=>by
    rw [OG.keys] at z
    obtain ⟨x',xg,e⟩:=aab.mp z
    have e1:(x'.1:Int)=0+i:=ac9 e
    exact fr' x' xg (by omega))
   refine ⟨_,rfl,_,rfl,d,none,rfl,.inl ⟨kvs,.inl ((0:Int)+i),M6,rfl,P5.symm⟩,_,rfl,?_⟩
   refine bq (fun _=>?_) (fun c=>absurd rfl c)
   refine ⟨_,rfl,_,rfl,_,rfl,d,i,m,m,Z,kvs,nd,ws.map (·.1),lv,by rw [abn];rfl,M6,OG,RZ,aac _,by omega,hi,fun x us o H6 k6 GS nx VO Rc=>?_⟩
   have Ri:H6 sd=some (.dK g9):=k6 _ _ (aba ds) z_
   have S4:=Rh.1
   have lss:cs.length<=m:=by
    have:=congrArg abR S3
    have h2:=ab0 (free nd) (abJ i)
    rw [ad_] at h2
    omega
   refine ⟨_,rfl,_,rfl,sd,_,rfl,ib.k (k:=.inl ((0:Int)+i)) Ri (aaj (show g9.length<=1000 by omega) (by decide)),?_⟩
   have ab4:bL g9 (.inl ((0:Int)+i))=none:=jQ (fun z=>by
    obtain ⟨kv,K_,e⟩:=aab.mp z
    obtain ⟨j,ej⟩:=aag K_
    have hj:=(be.mp ej).1
    obtain ⟨cc,ec⟩:∃cc,cs[j]? =some cc:=⟨_,gE (by have:=Rh.1;omega)⟩
    have e1:=(Rh.2 j kv _ ej ec).1
    rw [e] at e1
    have e2:(0:Int)+i=(cc:Int):=ac9 e1
    have mc:=ir ec
    rw [S3] at mc
    have:=abV.mp (ace.mp mc).1
    omega)
   rw [di _ ab4,abn]
   have s6:au H H6:=fun b o' e=>k6 _ _ (aq e Hd) (s5 _ _ e)
   have Z9:aL sd H6 (upd H6 sd (.dK (g9++[(.inl (i:Int),.ref x)]))):=fun b o' n e=>by rw [ao n];exact e
   have nl:∀{Ha:Hp} {dd:Addr} {kM:δ} {b:Addr} {xs:η},Rd Ha dd (.dK kM)->Ha b=some (.lst xs)->b≠dd:=fun {Ha dd kM b xs} r e z=>by
    rw [z] at e
    rcases r with r | ⟨o,r⟩ <;> (rw [r] at e;cases e)
   refine ⟨_,_,cs++[i],rfl,fT s6 K9,.inr ⟨o,by rw [ao ds];exact GS⟩,ah,(OG.ks M6 k6).ks (.inl Ri) Z9,((Rh.mono fun b xs e=>k6 _ _ (nl M6 e) e).snoc VO Rc).mono fun b xs e=>Z9 _ _ (nl (.inl Ri) e) e,?_⟩
   rw [S3,ah9,acz]
   simp [fr]
  ·have nf:∃y∈nd,y.1=i:=by
    apply abw
    intro z
    exact fr (pC.mpr fun y hy e=>z ⟨y,hy,e⟩)
   obtain ⟨y,hy,ey⟩:=nf
   obtain ⟨t,et⟩:=aag hy
   obtain ⟨v,ev,_⟩:=OG.at et
   have vat:=nJ nk ev
   refine ⟨_,rfl,_,rfl,d,some v,rfl,.inl ⟨kvs,.inl ((0:Int)+i),M6,rfl,by rw [abn, <- ey];exact vat.symm⟩,_,rfl,?_⟩
   refine bq (fun c=>nomatch c) (fun _=>?_)
   refine ⟨_,_,cs,rfl,s5,M6,z_,OG,Rh,?_⟩
   rw [S3,ah9,acz]
   simp [fr]
 ·rintro σ H5 ⟨o4,g9,cs,rfl,s5,M6,z_,OG,Rh,S3⟩
  exact ⟨_,rfl,q sd g9 cs _ lv nd H5 s5 K9 z_ Rh ab3 RZ S3⟩
structure FD (nd:θ)(c:Nat)(z:Nat->Rat):Prop where
 one:z c=1
 at' :∀y∈nd,z y.1=(-(y.2.getD c 0):Int) / ((y.2.getD y.1 0:Int):Rat)
 no:∀j,j≠c->(∀y∈nd,y.1≠j)->z j=0
theorem FD.sol {os lv:ζ}(R:Red os L m b nd lv)(hc:c < m)(h:FD nd c z)(fr:∀y∈nd,y.1≠c):∀o∈os,ev o z=0:=by
 refine (R.sol z).mp ⟨fun x hx=>?_,fun l hl=>?_⟩
 ·have e:z=fun j=>(if j=c then 1 else 0)+(if j=c then 0 else z j):=by
   funext j
   by_cases q:j=c
   ·rw [if_pos q,if_pos q,q,h.one]
    grind
   ·rw [if_neg q,if_neg q]
    grind
  rw [e,Jg,tm x.2 (fun j=>if j=c then 1 else 0) c (fun j hj=>by rw [if_neg hj];grind),tm x.2 (fun j=>if j=c then 0 else z j) x.1 (fun j hj=>?_)]
  ·have hh:=cD (R.here x hx)
   rw [if_pos rfl,if_neg (fr x hx),h.at' x hx]
   push_cast
   grind
  ·by_cases q:j=c
   ·rw [if_pos q]
    grind
   ·rw [if_neg q]
    by_cases y:∃u∈nd,u.1=j
    ·obtain ⟨u,hu,rfl⟩:=y
     rw [R.off x hx u hu (aba hj)]
     simp
    ·rw [h.no j q (fun u hu e=>y ⟨u,hu,e⟩)]
     grind
 ·refine nA l z fun j=>?_
  by_cases hj:j < m
  ·rw [R.zero l hl j hj]
   simp
  ·rw [h.no j (by omega) (fun y hy e=>by have:=R.cols y hy;omega)]
   grind
theorem FD.behind {os lv:ζ}(R:Red os L m b nd lv)(h:FD nd c z)(hj:c < j):z j=0:=by
 by_cases q:∃y∈nd,y.1=j
 ·obtain ⟨y,hy,rfl⟩:=q
  rw [h.at' y hy,R.low y hy c hj]
  simp [Rat.div_def]
 ·exact h.no j (by omega) (fun y hy e=>q ⟨y,hy,e⟩)
theorem wz:∀(m:Nat) (f g:Nat->Rat),(∀j,j < m->f j=g j)->Ty.sumTo m f=Ty.sumTo m g
 | 0,_,_,_=>rfl
 | m+1,f,g,h=>by
  simp only [Ty.sumTo]
  rw [h 0 (by omega),wz m (fun i=>f (i+1)) (fun i=>g (i+1)) (fun j hj=>h (j+1) (by omega))]
theorem Rj (h:rP ts qs b)(hm:qs.length=m)(z:Nat->Rat):ev ts z=(b:Rat)*sumTo m (fun j=>vl (qs.getD j (0,1))*z j):=by
 have hl:=h.1
 rw [vM m ts z (by omega), <- rT]
 refine wz m _ _ fun j hj=>?_
 have e1:ts[j]? =some (ts[j]'(by omega)):=gE (by omega)
 have e2:qs[j]? =some (qs[j]'(by omega)):=gE (by omega)
 have w:=h.2 j _ _ e1 e2
 rw [getD_mem e1,w,aau,e2]
 show _=(b:Rat)*(vl (qs[j]'(by omega))*z j)
 grind
theorem uc (h:rP ts qs b)(hb:0 < b)(hm:qs.length=m)(z:Nat->Rat):ev ts z=0 ↔ sumTo m (fun j=>vl (qs.getD j (0,1))*z j)=0:=by
 rw [Rj h hm z]
 have gh :=cD (show b≠0 by omega)
 constructor <;> intro q <;> grind
theorem sr {os:ζ}(iQ:z9 T B m cf os)(len:∀qs∈cf,qs.length=m)(z:Nat->Rat):(∀o∈os,ev o z=0) ↔ ∀qs∈cf,sumTo m (fun j=>vl (qs.getD j (0,1))*z j)=0:=by
 have hl:=iQ.1
 constructor
 ·intro h qs hq
  obtain ⟨i,e⟩:=aag hq
  have hi:i < cf.length:=(be.mp e).1
  have e1:os[i]? =some (os[i]'(by omega)):=gE (by omega)
  obtain ⟨b,hb,wh⟩:=iQ.2 i _ qs e1 e
  exact (uc wh hb (len qs hq) z).mp (h _ (ir e1))
 ·intro h o ho
  obtain ⟨i,e⟩:=aag ho
  have hi:i < os.length:=(be.mp e).1
  have e1:cf[i]? =some (cf[i]'(by omega)):=gE (by omega)
  obtain ⟨b,hb,wh⟩:=iQ.2 i o _ e e1
  exact (uc wh hb (len _ (ir e1)) z).mpr (h _ (ir e1))
theorem getD_some {qs:τ}(e:qs[j]? =some q):qs.getD j (0,1)=q:=by
 rw [aau,e]
 rfl
theorem yn (pins:ο)(bars:ς){k:Nat}(h:pins[k]? =some p)(j:Nat)(c:Rat×Rat->Rat)(hj:∀F,vl ((fX F pins).getD j (0,1))=c (mv F p.nm)):
  (yd (b7 pins bars) j).map vl=(pins.flatMap fun q=>q.ws.map fun w=>c (mv (gY q.nm w) p.nm))++bars.map fun b=>c (mv (gG b) p.nm):=by
 have:=FC pins bars (fun _=>none) h j c hj
 unfold yd at this ⊢
 rw [aa3,aa3] at this
 exact (List.append_inj' this rfl).1
theorem JZ {pins:ο}(c0:c (0,0)=0)(nd:(pins.map (·.nm)).Nodup)(hl:∀q∈pins,(U q.nm).length=q.ws.length)(hp:p∈pins):
  sP ((pins.flatMap fun q=>U q.nm)++bars.map (fun b=>T b.nm)) ((pins.flatMap fun q=>q.ws.map fun w=>c (mv (gY q.nm w) p.nm))++bars.map fun b=>c (mv (gG b) p.nm))=g8 bars T U p c:=by
 have l1:(pins.flatMap fun q=>U q.nm).length=(pins.flatMap fun q=>q.ws.map fun w=>c (mv (gY q.nm w) p.nm)).length:=by
  clear hp nd
  induction pins with
  | nil=>rfl
  | cons q ps ih=>rw [aa4,aa4,aan,aan,ih fun r hr=>hl r (aae _ hr),hl q aak,aaa]
 have:=M4 (L:=fun _=>none) (bars:=bars) (T:=T) c0 nd hl hp 0
 rw [k_ _ _ (by rw [aan,aan,l1,aaa,aaa]),f_,kZ] at this
 grind
def Rk (pins:ο)(bars:ς)(T:Ψ)(U:Ζ):List Rat:=(pins.flatMap fun q=>U q.nm)++bars.map (fun b=>T b.nm)
structure K' (K:Frag)(H:Hp)(pins:ο)(bars:ς)(dT dU:Addr)(kT kU:δ)(T:Ψ)(U:Ζ)(N:Nat):Prop where
 hT:H dT=some (.dK kT)
 hU:H dU=some (.dK kU)
 JW:kT.map (·.1)=bars.map (fun b=>(abD b.nm:Key))
 JX:kU.map (·.1)=pins.map (fun p=>(abD p.nm:Key))
 tT:∀b∈bars,∃v,bL kT (.inr b.nm)=some v/\ig K H v (T b.nm)
 tU:∀p∈pins,∃la vs,bL kU (.inr p.nm)=some (.ref la)/\H la=some (.lst vs)/\Paired (ig K H) vs (U p.nm)
 lU:∀p∈pins,(U p.nm).length=p.ws.length
 zT:∀b∈bars,Zb N (T b.nm)
 zU:∀p∈pins,∀u∈U p.nm,Zb N u
 hN:N<=2000000
theorem K'.same (h:K' K H pins bars dT dU kT kU T U N)(s:au H H'):K' K H' pins bars dT dU kT kU T U N:=⟨s _ _ h.hT,s _ _ h.hU,h.JW,h.JX,fun b hb=>by
 obtain ⟨v,a,b⟩:=h.tT b hb
 exact ⟨v,a,b.same s⟩,fun p hp=>by
 obtain ⟨la,vs,a,b,c⟩:=h.tU p hp
 exact ⟨la,vs,a,s _ _ b,Paired.bF c fun _ _ z=>z.same s⟩,h.lU,h.zT,h.zU,h.hN⟩
theorem K'.ab5 (h:K' K H pins bars dT dU kT kU T U N)(hb:b∈bars):∃v,c7 H dT (.str b.nm) (some v)/\ig K H v (T b.nm):=by
 obtain ⟨v,a,c⟩:=h.tT b hb
 refine ⟨v,?_,c⟩
 have:=c7.k (k:=.inr b.nm) h.hT
 rw [a] at this
 exact this
theorem K'.ab6 (h:K' K H pins bars dT dU kT kU T U N)(hp:p∈pins):∃la vs,c7 H dU (.str p.nm) (some (.ref la))/\H la=some (.lst vs)/\Paired (ig K H) vs (U p.nm):=by
 obtain ⟨la,vs,a,b,c⟩:=h.tU p hp
 refine ⟨la,vs,?_,b,c⟩
 have:=c7.k (k:=.inr p.nm) h.hU
 rw [a] at this
 exact this
def unit (n i:Nat):List Int:=(aaJ n 0).set i 1
inductive yo (vs:η)(H:Hp)(Q:VK)(E_:XK):Prop where
 | mk (i n:Nat) (_:vs=[.int (i:Int),.int (n:Int)]) (_:i < n) (_:n<=900) (_:∀(p:Addr) (H' :Hp),au H H' ->H p=none->H' p=some (.lst ((unit n i).map V.int))->Q (.ref p) H'):yo vs H Q E_
theorem jY:aE ["at","many","line"] zaS (ag d3):=sq
theorem ud (D:Def K mg "unit_line" d3 zaS):Fn P w K mg base (a_ P w) 1 "unit_line" zaS yo:=by
 refine D.ok jY (fun vs H Q E h=>?_) (fun f bJ A outer s H vs Q E hr h=>?_)
 ·obtain ⟨i,n,rfl,_⟩:=h
  rfl
 obtain ⟨i,n,rfl,hi,hn,q⟩:=h
 refine ⟨_,(ae (aG (i:=2) jY.nd rfl (aad rfl) (aT HY (cN (ar ak aa)) (pv 1)))
  (ae (kz ak (oa (pv 2) (pv 0) set_list))
  (aj (aH (pv 2))))),?_⟩
 refine ⟨(by show 1<=sizeLine;decide),fun p3 n3=>?_⟩
 have s3:=aF n3 (.lst [V.int 0])
 refine ⟨_,rfl,p3,_,_,rfl,rfl,ah,by omega,by omega,aaf (show 1*(n:Int).toNat<=1000 by omega) (by decide),fun x n4=>?_⟩
 have er:(aaJ (n:Int).toNat [V.int 0]).flatten=aaJ n (V.int 0):=by simp
 rw [er]
 have s4:=aF n4 (.lst (aaJ n (V.int 0)))
 have nx:H x=none:=s3.free n4
 refine ⟨_,rfl,_,rfl,x,_,_,i,rfl,rfl,ah,by rw [acm];exact tO hi,?_⟩
 refine ⟨_,rfl,q x _ (fT (s3.trans s4) nx) nx ?_⟩
 rw [ah]
 unfold unit
 rw [List.map_set]
 simp
def js (m n:Nat)(ws:List Wl)(es:ζ):Prop:=es.length=n/\ws.length=n/\∀(i:Nat) (w:Wl),ws[i]? =some w->es[i]? =some (w.1++unit n i)
def c8 (m:Nat)(ws:List Wl)(x:Χ):List (Int×Int):=ab9 (fun (s:Int) (w:Wl)=>low (s*w.2.1) (x.2.getD x.1 0)) (x.2.drop m) ws
inductive pE (K:Frag)(vs:η)(H:Hp)(Q:VK)(E_:XK):Prop where
 | mk (r:Addr) (m:Nat) (ls:ω) (dI:List (List V:_)) (cf:ψ) (T B Z:Nat) (_:vs=[.ref r,.int (m:Int)]) (_:EY H r ls dI) (_:iF K H dI cf) (_:Shape T B m cf) (_:m<=100) (_:cf.length<=100) (_:T<=20000) (_:B*m<=8000) (_:B<=8000) (_:bb (T+B*m) (min m cf.length)<=Z) (_:Z<=29000000) (_:∀(dd:Addr) (kvs:δ) (ss:Ξ) (ws:List Wl) (es lv:ζ) (nd:θ) (H' :Hp),au H H' ->H dd=none->H' dd=some (.dK kvs)->z8 K H' kvs ss->js m cf.length ws es->(∀(i:Nat) (w:Wl) (qs:τ),ws[i]? =some w->cf[i]? =some qs->GV T B m qs w)->Red es (m+cf.length) m Z nd lv->ss=nd.map (fun x=>(x.1,c8 m ws x))->Q (.ref dd) H'):pE K vs H Q E_
theorem wA:∀{l:Ρ} {m:Nat},l.Nodup->(∀c∈l,c < m)->l.length<=m:=fun {l m} h1 h2=>by
 have:=List.Nodup.length_le_of_subset h1 (l₂:=abJ m) (fun c hc=>abV.mpr (h2 c hc))
 simpa using this
theorem FE {l:ξ}(h:m<=l.length):fL (l.map V.int) (some (m:Int)) none=(l.drop m).map V.int:=by
 rw [kX (by rw [aaa];exact h),List.map_drop]
theorem bP:aE ["rows","many","wholes","lines","needed","column","line","shares"] zay (ag b_):=sq
theorem jZ (D:Def K mg "needed_columns" b_ zay)(a8:mg "len"=none)(jP:mg "zip"=none)(cz:mg "enumerate"=none)(Rf:Fn P w K mg base (a_ P w) 2 "whole_row" zaP (MM K))(wB:Fn P w K mg base (a_ P w) 1 "unit_line" zaS yo)(Rg:Fn P w K mg base (a_ P w) 35 "reduced" zaJ (iT K))(JN:Fn P w K mg base (a_ P w) 33 "lowest_terms" zaE gD):Fn P w K mg base (a_ P w) 36 "needed_columns" zay (pE K):=by
 refine D.ok bP (fun vs H Q E h=>?_) (fun f bJ A outer s H vs Q E hr h=>?_)
 ·obtain ⟨r,m,ls,dI,cf,T,B,Z,rfl,_⟩:=h
  rfl
 obtain ⟨r,m,ls,dI,cf,T,B,Z,rfl,M,NN,sh,hm,hn,hT,hB,ZY,hZ,hZ1,q⟩:=h
 refine ⟨_,(ae (aG (i:=2) bP.nd rfl (abj rfl) (cO (tn:=zaP) (fr:=[]) (caps:=[]) rfl ⟨rfl,by decide+kernel,rfl,by decide+kernel,by decide+kernel,rfl,trivial,trivial⟩ (bx (pv 0)) (fun _ _ _ _=>(av (i:=0) (show (zaP:List Str).Nodup from by decide+kernel) rfl (aad rfl))) (fun _ _ _ _=>cY) (fun _ _ _ _=>(aC Rf hr.mo (me (by first | assumption | exact a_.mM) rfl) (ar (pv 0) aa)))))
  (ae (nh (i:=3) bP.nd rfl (aad rfl) (tn:=["at","whole"]) (fr:=["wholes"]) (caps:=[2]) rfl ⟨rfl,by decide+kernel,rfl,by decide+kernel,by decide+kernel,rfl,⟨(by first | exact aad rfl | exact abj rfl),trivial⟩,⟨(by first | exact aad rfl | exact abj rfl),trivial⟩⟩ (tu rfl cz (ar (pv 2) aa)) (fun _ _ _ _=>(tj (K:=K) (n:=2) rfl rfl (aQ (av (i:=0) (show (["at","whole","wholes"]:List Str).Nodup from by decide+kernel) rfl (aad rfl)) (aQ (av (i:=1) (show (["at","whole","wholes"]:List Str).Nodup from by decide+kernel) rfl (aad rfl)) cu)))) (fun _ _ _ _=>cY) (fun _ _ _ _=>(aT xG (bo (dq (K:=K) rfl) (pv 1) ak (fun _ _=>rfl)) (aC wB hr.mo (me (by first | assumption | exact a_.mM) rfl) (ar (pv 0) (ar (aJ (qI (K:=K) rfl) rfl a8 bZ (ar (pv 2) aa)) aa))))))
  (ae (aG (i:=4) bP.nd rfl (aad rfl) fh)
  (ae (bB PassesOwn.never rfl (rV (aR (aC Rg hr.mo pX (ar (pv 3) (ar (pv 1) aa))))) (dG rfl (aQ (av (i:=5) bP.nd rfl (abj rfl)) (aQ (av (i:=6) bP.nd rfl (abj rfl)) cu))) (ae (aG (i:=7) bP.nd rfl (aad rfl) (eg jE (pv 6) (dW (pv 1)) iN))
   (aj (eA (bU hr) (pv 4) (pv 5) (cO (tn:=["share","whole"]) (fr:=["line","column"]) (caps:=[6,5]) rfl ⟨rfl,by decide+kernel,rfl,by decide+kernel,by decide+kernel,rfl,⟨(by first | exact aad rfl | exact abj rfl),⟨(by first | exact aad rfl | exact abj rfl),trivial⟩⟩,⟨(by first | exact aad rfl | exact abj rfl),⟨(by first | exact aad rfl | exact abj rfl),trivial⟩⟩⟩ (IQ rfl jP (ar (pv 7) (ar (pv 2) aa))) (fun _ _ _ _=>(tj (K:=K) (n:=2) rfl rfl (aQ (av (i:=0) (show (zaL:List Str).Nodup from by decide+kernel) rfl (aad rfl)) (aQ (av (i:=1) (show (zaL:List Str).Nodup from by decide+kernel) rfl (aad rfl)) cu)))) (fun _ _ _ _=>cY) (fun _ _ _ _=>(aC JN hr.mo (me (by first | assumption | exact a_.mM) rfl) (ar (aT iR (pv 0) (bo (dq (K:=K) rfl) (pv 1) ak (fun _ _=>rfl))) (ar (bo (IT (K:=K) rfl) (pv 2) (pv 3) (fun _ _=>rfl)) aa))))) rfl))))
  (aj (aH (pv 4))))))),?_⟩
 have l1:=M.2.1
 have l2:=NN.1
 refine ⟨_,rfl,r,rfl,⟨_,aX.of M.1⟩,fun D1 n1=>?_⟩
 refine jq (cap:=[]) (K:=K) (a:=r) (xs:=ls.map V.ref) (fun i v H=>∃w:Wl,v=.ref w.2.2.2/\w.2.2.1≠D1/\H w.2.2.2=some (.tup [.ref w.2.2.1,.int w.2.1])/\H w.2.2.1=some (.lst (w.1.map V.int))/\∀qs,cf[i]? =some qs->GV T B m qs w) n1 (by rw [aaa];exact aaj (show ls.length<=1000 by omega) (by decide)) (fun H2 s2=>aX.of (s2 _ _ M.1)) ?_ ?_ ?_
 ·rintro i v H2 H3 ys hD ks ⟨w,e1,e2,e3,e4,e5⟩
  exact ⟨w,e1,e2,ks _ _ (fun z=>by rw [z,hD] at e3;cases e3) e3,ks _ _ e2 e4,e5⟩
 ·rintro i x H2 RR ex s2 ⟨ys0,hD0⟩ kk
  rw [Wp] at ex
  obtain ⟨l,el,rfl⟩:=aal.mp ex
  have hi:i < ls.length:=(be.mp el).1
  obtain ⟨qs,eq⟩:∃qs,cf[i]? =some qs:=⟨_,gE (by omega)⟩
  obtain ⟨vs,ev⟩:∃vs,dI[i]? =some vs:=⟨_,gE (by omega)⟩
  have hl:=M.2.2 i l vs el ev
  have hq:=NN.2 i vs qs ev eq
  obtain ⟨lq,sq⟩:=sh qs (ir eq)
  refine ⟨_,rfl,l,qs,T,B,rfl,⟨_,aX.of (s2 _ _ hl),hq.same s2⟩,sq,hT,by rw [lq];omega,ZY,by omega,fun p3 VP ts b H3 s3 nl hp3 hl3 hb VQ wh VR=>?_⟩
  rw [lq] at VQ VR
  refine kk _ _ s3 ⟨(ts,b,VP,p3),rfl,fun z=>?_,hp3,hl3,fun MA e1=>?_⟩
  ·rw [show VP =D1 from z,hD0] at nl
   cases nl
  ·rw [eq] at e1
   cases e1
   exact ⟨wh,hb,VQ,VR⟩
 intro zs H2 hz gj s2 S2
 rw [aaa] at hz
 obtain ⟨ws,lw,hw⟩:=gF (P:=fun i v (w:Wl)=>v=.ref w.2.2.2/\w.2.2.1≠D1/\H2 w.2.2.2=some (.tup [.ref w.2.2.1,.int w.2.1])/\H2 w.2.2.1=some (.lst (w.1.map V.int))/\∀qs,cf[i]? =some qs->GV T B m qs w) zs gj
 have lwn:ws.length=cf.length:=by omega
 have wp:∀(i:Nat) (w:Wl),ws[i]? =some w->∃qs,zs[i]? =some (.ref w.2.2.2)/\cf[i]? =some qs/\H2 w.2.2.2=some (.tup [.ref w.2.2.1,.int w.2.1])/\H2 w.2.2.1=some (.lst (w.1.map V.int))/\GV T B m qs w/\w.1.length=m:=fun i w e=>by
  have hi:i < ws.length:=(be.mp e).1
  obtain ⟨v,ev⟩:∃v,zs[i]? =some v:=⟨_,gE (by omega)⟩
  obtain ⟨qs,eq⟩:∃qs,cf[i]? =some qs:=⟨_,gE (by omega)⟩
  obtain ⟨h1,_,h3,h4,h5⟩:=hw i v w ev e
  have h6:=h5 qs eq
  exact ⟨qs,by rw [ev,h1],eq,h3,h4,h6,by rw [h6.1.1,(sh qs (ir eq)).1]⟩
 refine ⟨_,rfl,D1,rfl,⟨_,aX.of S2⟩,fun D2 n2=>?_⟩
 refine xO (cap:=[some (.ref D1)]) (K:=K) (a:=D1) (xs:=zs) (fun k v H=>∃e:List Int,∃p:Addr,v=.ref p/\p≠D2/\H p=some (.lst (e.map V.int))/\∀w,ws[k]? =some w->e=w.1++unit cf.length k) n2 (aaj (show zs.length<=1000 by omega) (by decide)) (fun H3 s3=>aX.of (s3 _ _ S2)) ?_ ?_ ?_
 ·rintro k v H3 H4 ys hD ks ⟨e,p,e1,e2,e3,e4⟩
  exact ⟨e,p,e1,e2,ks _ _ e2 e3,e4⟩
 ·rintro k x H3 RR ex s3 ⟨ys0,JL⟩ kk
  have hk:k < zs.length:=(be.mp ex).1
  obtain ⟨w,ew⟩:∃w,ws[k]? =some w:=⟨_,gE (by omega)⟩
  obtain ⟨qs,ez,eq,h3,h4,h5,h6⟩:=wp k w ew
  rw [ex] at ez
  cases ez
  refine ⟨_,rfl,w.2.2.2,_,_,_,rfl,rfl,bT.of (s3 _ _ h3),iE,_,rfl,_,rfl,D1,_,rfl,.inl (aX.of (s3 _ _ S2)),k,cf.length,by rw [show zs.length=cf.length by omega];rfl,by omega,by omega,fun pu Hu su nu hu=>?_⟩
  refine ⟨w.2.2.1,pu,_,_,rfl,rfl,su _ _ (s3 _ _ h4),hu,aaf (show _<=1000 by simp [unit];omega) (by decide),fun pn nn=>?_⟩
  refine kk _ _ (su.trans (aF nn _)) ⟨w.1++unit cf.length k,pn,rfl,fun z=>?_,by rw [ah,aa3],fun w' ew' =>by rw [ew] at ew';cases ew';rfl⟩
  have:=su _ _ JL
  rw [z,this] at nn
  cases nn
 intro ys H3 hy VT s3 ZU
 obtain ⟨es,le,ZX⟩:=gF (P:=fun k v (e:ξ)=>∃p:Addr,v=.ref p/\p≠D2/\H3 p=some (.lst (e.map V.int))/\∀w,ws[k]? =some w->e=w.1++unit cf.length k) ys VT
 have hE:js m cf.length ws es:=⟨by omega,lwn,fun i w e=>by
  have hi:i < ws.length:=(be.mp e).1
  have e1:ys[i]? =some (ys[i]'(by omega)):=gE (by omega)
  have e2:es[i]? =some (es[i]'(by omega)):=gE (by omega)
  obtain ⟨p,_,_,_,h⟩:=ZX i _ _ e1 e2
  rw [e2,h w e]⟩
 have hLl:qL H3 ys es:=⟨le.symm,fun i u l e1 e2=>by
  obtain ⟨p,h1,_,h3,_⟩:=ZX i u l e1 e2
  exact ⟨p,h1,h3⟩⟩
 have VU:∀l∈es,l.length=m+cf.length/\Bd (T+B*m) l:=fun l hl=>by
  obtain ⟨i,e⟩:=aag hl
  have hi:i < es.length:=(be.mp e).1
  obtain ⟨w,ew⟩:∃w,ws[i]? =some w:=⟨_,gE (by omega)⟩
  have e2:=hE.2.2 i w ew
  rw [e] at e2
  cases e2
  obtain ⟨qs,_,_,_,_,h5,h6⟩:=wp i w ew
  refine ⟨by rw [aan,h6];simp [unit],Bd.of fun t ht=>?_⟩
  rcases aaG.mp ht with z | z
  ·exact h5.2.2.2 t z
  ·unfold unit at z
   rcases List.mem_or_eq_of_mem_set z with y | y
   ·rw [(aiR.mp y).2]
    exact abc _
   ·rw [y]
    exact aii
 refine fun dd ndd=>?_
 have t4:=aF ndd (.dK [])
 refine ⟨_,rfl,_,rfl,D2,ys,es,m+cf.length,m,T+B*m,rfl,aX.of (t4 _ _ ZU),hLl.same t4,fun l hl=>(VU l hl).1,by omega,by omega,by omega,fun l hl=>(VU l hl).2,by rw [hE.1];omega,fun p d a' kvs i5 nd lv H5 s5 xm np hp hd QR M5 SV R=>?_⟩
 rw [hE.1] at R
 have RZ:=R.up hZ
 have wC:=(s3.trans t4).trans s5
 have mR:=s2.trans wC
 have Hd:H d=none:=((s2.trans s3).trans t4).free xm
 have Hdd:H dd=none:=(s2.trans s3).free ndd
 have Rm:H5 dd=some (.dK []):=s5 _ _ ah
 have ds:d≠dd:=fun z=>by rw [z,ah] at xm;cases xm
 refine ⟨p,_,_,_,rfl,rfl,bT.of hp,iE,d,kvs,rfl,.inl hd,fun o=>?_⟩
 refine fG (d:=d) (o:=o) (kvs:=kvs) (fun t σ H' =>∃(o5 o6 o7:χ) (g9:δ),σ=[some (.ref r),some (.int (m:Int)),some (.ref D1),some (.ref D2),some (.ref dd),o5,o6,o7]/\au H H' /\H' d=some (.cV o (.dK kvs))/\H' dd=some (.dK g9)/\(∀b o',b≠d->b≠dd->H5 b=some o' ->H' b=some o')/\z8 K H' g9 ((nd.take t).map fun x=>(x.1,c8 m ws x)))
  ⟨none,none,none,[],rfl,fT mR Hd,ah,by rw [ao (aba ds)];exact Rm,fun b o' n1 n2 e=>by rw [ao n1];exact e,⟨by simp,fun i kv x e=>by simp at e⟩⟩ (fun t σ H' _ h=>by
   obtain ⟨_,_,_,_,_,_,h,_⟩:=h
   exact h) ?_ ?_
 ·rintro t k v σ H6 p7 si ⟨o5,o6,o7,g9,rfl,s6,GS,Rn,k6,S5⟩ n7
  have ht:t < kvs.length:=(be.mp si).1
  have Rc:=M5.1
  obtain ⟨y,ey⟩:∃y,nd[t]? =some y:=⟨_,gE (by omega)⟩
  obtain ⟨k1,k2⟩:=M5.2 t _ y si ey
  have k1' :k=.inl (y.1:Int):=k1
  subst k1'
  obtain ⟨b',eb,gh⟩:=k2
  have GU :v=.ref b' :=eb
  subst GU
  have k6L:∀{b:Addr} {xs:η},H5 b=some (.lst xs)->H6 b=some (.lst xs):=fun {b xs} e=>k6 _ _ (fun z=>by rw [z,hd] at e;cases e) (fun z=>by rw [z,Rm] at e;cases e) e
  have k6T:∀{b:Addr} {xs:η},H5 b=some (.tup xs)->H6 b=some (.tup xs):=fun {b xs} e=>k6 _ _ (fun z=>by rw [z,hd] at e;cases e) (fun z=>by rw [z,Rm] at e;cases e) e
  have OH:=ir ey
  have hyl:=R.mP y OH
  have hyc:=R.cols y OH
  have s7:=aF n7 (.tup [kV (.inl (y.1:Int)),.ref b'])
  have OI:=s7 _ _ (k6L gh)
  refine ⟨p7,_,rfl,bT.of ah,rfl,_,_,rfl,_,_,rfl,rfl,?_⟩
  refine ⟨_,rfl,_,rfl,_,rfl,b',_,rfl,aX.of OI,fun ps nps=>?_⟩
  rw [FE (by omega)]
  have t8:=aF nps (.lst ((y.2.drop m).map V.int))
  have JS:=s7.trans t8
  have VW:=JS _ _ (k6L (wC _ _ S2))
  refine ⟨_,rfl,_,rfl,ps,D1,rfl,⟨_,aX.of ah⟩,⟨_,aX.of VW⟩,fun D9 n9=>?_⟩
  have ldr:(y.2.drop m).length=cf.length:=by rw [ack];omega
  refine vA (cap:=[some (.ref b'),some (kV (.inl (y.1:Int)))]) (K:=K) (xs:=(y.2.drop m).map V.int) (ys:=zs) (fun k v H=>∃s w,(y.2.drop m)[k]? =some s/\ws[k]? =some w/\Nm H v (low (s*w.2.1) (y.2.getD y.1 0))) n9 (aaj (show ((y.2.drop m).map V.int).length<=1000 by rw [aaa];omega) (by decide)) (by rw [aaa];omega) (fun H8 s8=>aX.of (s8 _ _ ah)) (fun H8 s8=>aX.of (s8 _ _ VW)) ?_ ?_ ?_
  ·rintro k v H8 H9 ys9 hD ks ⟨s,w,e1,e2,e3⟩
   exact ⟨s,w,e1,e2,e3.kept hD ks⟩
  ·intro k x z H8 RR ex ez s8 kk
   rw [Wp] at ex
   obtain ⟨sv,rA,rfl⟩:=aal.mp ex
   have hk:k < zs.length:=(be.mp ez).1
   obtain ⟨w,ew⟩:∃w,ws[k]? =some w:=⟨_,gE (by omega)⟩
   obtain ⟨qs,ez',eq,h3,h4,h5,h6⟩:=wp k w ew
   rw [ez] at ez'
   cases ez'
   have Z6:=s8 _ _ (JS _ _ (k6T (wC _ _ h3)))
   have hb8:=s8 _ _ (t8 _ _ OI)
   have bs:sv.natAbs<=2^Z:=(RZ.JJ y OH).mem (aiI (ir rA))
   refine ⟨_,rfl,_,rfl,w.2.2.2,_,_,_,rfl,rfl,bT.of Z6,h_,_,_,rfl,rfl,gy bs h5.2.2.1 (by omega),_,rfl,_,rfl,b',_,_,_,rfl,rfl,aX.of hb8,r_ (by omega),?_⟩
   exact ⟨_,_,rfl,R.here y OH,fun p8 H9 s9 e9=>kk _ _ s9 ⟨sv,w,rA,ew,p8,rfl,e9⟩⟩
  intro us9 H9 h9 VX s9 hD9
  rw [aaa] at h9
  have j0:=JS.trans s9
  have VY:=j0 _ _ Rn
  have S4:=S5.1
  have lnd:nd.length<=m:=by
   have a:=R.cnt
   have:=acR.mpr (R.asc.imp fun {a b} h=>aa_ h)
   have z:=wA this (fun c hc=>by
    obtain ⟨x,hx,rfl⟩:=aab.mp hc
    exact R.cols x hx)
   rw [aaa] at z
   exact z
  have lsm:g9.length<=100:=by
   rw [S4,aaa,abb]
   omega
  refine ⟨_,rfl,_,rfl,dd,_,rfl,ib.k (k:=.inl (y.1:Int)) VY (aaj (show g9.length<=1000 by omega) (by decide)),?_⟩
  have P5:bL g9 (.inl (y.1:Int))=none:=jQ (fun z=>by
   rw [S5.keys] at z
   obtain ⟨x',xg,e⟩:=aab.mp z
   obtain ⟨x,hx,rfl⟩:=aab.mp xg
   have e1:(x.1:Int)=y.1:=ac9 e
   obtain ⟨i,hi⟩:=aag hx
   rw [List.getElem?_take] at hi
   by_cases hit:i < t
   ·rw [if_pos hit] at hi
    have a:=List.pairwise_iff_getElem.mp R.asc i t (by rw [aaa];exact (be.mp hi).1) (by rw [aaa];exact (be.mp ey).1) hit
    simp only [List.getElem_map] at a
    have B_ :=(be.mp hi).2
    have S6 :=(be.mp ey).2
    rw [B_,S6] at a
    omega
   ·rw [if_neg hit] at hi
    cases hi)
  rw [di _ P5]
  have Z9:aL dd H9 (upd H9 dd (.dK (g9++[(.inl (y.1:Int),.ref D9)]))):=fun b o' n e=>by rw [ao n];exact e
  have hq9:fj K H9 us9 (c8 m ws y):=⟨by unfold c8;rw [acW];omega,fun i u q' e1 e2=>by
   obtain ⟨sv,w,a1,a2,p,a3,a4⟩:=VX i u e1
   unfold c8 at e2
   rw [abM,a1,a2] at e2
   cases e2
   exact ⟨p,a3,bT.of a4⟩⟩
  refine ⟨_,_,_,_,rfl,fT (s6.trans j0) Hdd,by rw [ao ds];exact j0 _ _ GS,ah,fun b o' n1 n2 e=>by rw [ao n2];exact j0 _ _ (k6 _ _ n1 n2 e),?_⟩
  rw [List.take_succ,ey]
  rw [aa3]
  exact ((S5.same j0).snoc hD9 hq9).ks (.inl VY) Z9
 ·rintro σ H6 ⟨o5,o6,o7,g9,rfl,s6,GS,Rn,k6,S5⟩
  have Rc:=M5.1
  rw [Rc,acj (aac _)] at S5
  exact ⟨_,rfl,q dd g9 _ ws es lv nd H6 s6 Hdd Rn S5 hE (fun i w qs e1 e2=>by
   obtain ⟨MA,_,eq,_,_,h5,_⟩:=wp i w e1
   rw [e2] at eq
   cases eq
   exact h5) RZ rfl⟩
theorem FD.ex (c:Nat):∀{nd:θ},(nd.map (·.1)).Pairwise (· < ·)->(∀y∈nd,y.1≠c)->∃z,FD nd c z
 | [],_,_=>⟨fun j=>if j=c then 1 else 0,if_pos rfl,(fun y hy=>nomatch hy),fun j h _=>if_neg h⟩
 | x::r,a,f=>by
  rw [aah,ac7] at a
  obtain ⟨z,hz⟩:=FD.ex c a.2 (fun y hy=>f y (aae _ hy))
  refine ⟨fun j=>if j=x.1 then (-(x.2.getD c 0):Int) / ((x.2.getD x.1 0:Int):Rat) else z j,?_,fun y hy=>?_,fun j h1 h2=>?_⟩
  ·show (if c=x.1 then _ else z c)=1
   rw [if_neg (aba (f x aak))]
   exact hz.one
  ·rcases aaQ.mp hy with q | q
   ·subst q
    exact if_pos rfl
   ·have:=a.1 y.1 (aab.mpr ⟨y,q,rfl⟩)
    show (if y.1=x.1 then _ else z y.1)=_
    rw [if_neg (by omega)]
    exact hz.at' y q
  ·show (if j=x.1 then _ else z j)=0
   rw [if_neg (aba (h2 x aak))]
   exact hz.no j h1 (fun y hy=>h2 y (aae _ hy))
theorem mB {os lv:ζ}(R:Red os L m b nd lv)(z1:z c≠0)(zb:∀j,c < j->z j=0)(hz:∀o∈os,ev o z=0):∀y∈nd,y.1≠c:=by
 intro y hy e
 have e0:=((R.sol z).mpr hz).1 y hy
 rw [tm y.2 z c (fun j hj=>?_)] at e0
 ·have hh:=cD (R.here y hy)
  rw [e] at hh
  grind
 ·by_cases q:j < c
  ·rw [R.low y hy j (by rw [e];exact q)]
   simp
  ·rw [zb j (by omega)]
   grind
theorem J_:∀(l r:ξ) (z:Nat->Rat),(∀j,l.length<=j->z j=0)->ev (l++r) z=ev l z
 | [],r,z,h=>by
  rw [acB,nA r z (fun j=>by rw [h j (abc _)];grind)]
  rfl
 | a::l,r,z,h=>by
  rw [acT]
  simp only [ev]
  rw [J_ l r (fun i=>z (i+1)) (fun j hj=>h (j+1) (by simp;omega))]
theorem pF {cf:ψ}(iQ:js m cf.length ws es)(wl:∀(i:Nat) (w:Wl) (qs:τ),ws[i]? =some w->cf[i]? =some qs->GV T B m qs w)(len:∀qs∈cf,qs.length=m)(z:Nat->Rat)(hz:∀j,m<=j->z j=0):(∀o∈es,ev o z=0) ↔ ∀qs∈cf,sumTo m (fun j=>vl (qs.getD j (0,1))*z j)=0:=by
 obtain ⟨l1,l2,l3⟩:=iQ
 have row:∀i,i < cf.length->∃w qs,ws[i]? =some w/\cf[i]? =some qs/\es[i]? =some (w.1++unit cf.length i)/\(ev (w.1++unit cf.length i) z=0 ↔ sumTo m (fun j=>vl (qs.getD j (0,1))*z j)=0):=fun i hi=>by
  have e1:ws[i]? =some (ws[i]'(by omega)):=gE (by omega)
  have e2:cf[i]? =some (cf[i]'(by omega)):=gE (by omega)
  obtain ⟨wh,hb,_⟩:=wl i _ _ e1 e2
  have hq:=len _ (ir e2)
  refine ⟨_,_,e1,e2,l3 i _ e1,?_⟩
  rw [J_ _ _ z (fun j hj=>hz j (by rw [wh.1] at hj;omega))]
  exact uc wh hb hq z
 constructor
 ·intro h qs hq
  obtain ⟨i,e⟩:=aag hq
  obtain ⟨w,MA,_,e2,e3,k⟩:=row i (be.mp e).1
  rw [e] at e2
  cases e2
  exact k.mp (h _ (ir e3))
 ·intro h o ho
  obtain ⟨i,e⟩:=aag ho
  obtain ⟨w,MA,_,e2,e3,k⟩:=row i (by have:=(be.mp e).1;omega)
  rw [e] at e3
  cases e3
  exact k.mpr (h _ (ir e2))
theorem sx (j:Nat):∀(y:List Rat) (os:ζ) (i:Nat),y.length=os.length->i < os.length->(∀(k:Nat) (o:ξ),os[k]? =some o->o.getD j 0=if k=i then 1 else 0)->eQ y os j=y.getD i 0
 | [],[],_,_,h,_=>by simp at h
 | a::y,o::os,0,h,_,f=>by
  have f0:=f 0 o rfl
  rw [if_pos rfl] at f0
  have hz:∀(y:List Rat) (os:ζ),(∀o∈os,o.getD j 0=0)->eQ y os j=0:=by
   intro y os
   induction os generalizing y with
   | nil=>intro _;cases y <;> rfl
   | cons o os ih=>
    intro g
    cases y with
    | nil=>rfl
    | cons a y=>
     simp only [eQ]
     rw [g o aak,ih y (fun o' G_ =>g o' (aae _ G_))]
     simp
     grind
  simp only [eQ]
  rw [f0,hz y os (fun o' G_ =>by
   obtain ⟨k,e⟩:=aag G_
   have:=f (k+1) o' (by simpa using e)
   rw [if_neg (by omega)] at this
   exact this)]
  simp
  grind
 | a::y,o::os,i+1,h,hi,f=>by
  have f0:=f 0 o rfl
  rw [if_neg (by omega)] at f0
  simp only [eQ]
  rw [f0,sx j y os i (by simpa using h) (by simpa using hi) (fun k o' e=>by
   have:=f (k+1) o' (by simpa using e)
   rw [this]
   simp)]
  simp
  grind
 | [],_::_,_,h,_,_=>by simp at h
 | _::_,[],_,h,_,_=>by simp at h
theorem pG (j:Nat):∀(y:List Rat) (os LZ :ζ),os.length=LZ.length->(∀(k:Nat) (o o' :ξ),os[k]? =some o->LZ[k]? =some o' ->o.getD j 0=o'.getD j 0)->eQ y os j=eQ y LZ j
 | [],os,LZ,_,_=>by cases os <;> cases LZ <;> rfl
 | _::_,[],[],_,_=>rfl
 | a::y,o::os,o' ::LZ,h,f=>by
  simp only [eQ]
  rw [f 0 o o' rfl rfl,pG j y os LZ (by simpa using h) (fun k p p' e1 e2=>f (k+1) p p' (by simpa using e1) (by simpa using e2))]
 | _::_,[],_::_,h,_=>by simp at h
 | _::_,_::_,[],h,_=>by simp at h
theorem qP {l r:ξ}(h:j < l.length):(l++r).getD j 0=l.getD j 0:=by
 rw [aau,aau,aap h]
theorem pH {l r:ξ}:(l++r).getD (l.length+j) 0=r.getD j 0:=by
 rw [aau,aau,aaY (by omega)]
 congr 2
 omega
theorem FF (hj:j < n):(unit n i).getD j 0=if i=j then 1 else 0:=by
 unfold unit
 rw [aau,acL]
 by_cases z:i=j
 ·rw [if_pos z,if_pos z,if_pos (by rw [acm];omega)]
  rfl
 ·rw [if_neg z,if_neg z,ac_,if_pos hj]
  rfl
theorem FG {cf:ψ}(iQ:js m cf.length ws es)(wl:∀(i:Nat) (w:Wl) (qs:τ),ws[i]? =some w->cf[i]? =some qs->GV T B m qs w)(len:∀qs∈cf,qs.length=m)(R:Red es (m+cf.length) m Z nd lv){x:Χ}(hx:x∈nd)(hj:j < m):
  mN (c8 m ws x) (yd cf j)=((x.2.getD j 0:Int):Rat) / ((x.2.getD x.1 0:Int):Rat):=by
 obtain ⟨l1,l2,l3⟩:=iQ
 have xl:=R.mP x hx
 have ld:(x.2.drop m).length=cf.length:=by rw [ack];omega
 have hp:=cD (R.here x hx)
 have row:∀i,i < cf.length->∃w qs,ws[i]? =some w/\cf[i]? =some qs/\es[i]? =some (w.1++unit cf.length i)/\rP w.1 qs w.2.1/\w.1.length=m:=fun i hi=>by
  have e1:ws[i]? =some (ws[i]'(by omega)):=gE (by omega)
  have e2:cf[i]? =some (cf[i]'(by omega)):=gE (by omega)
  obtain ⟨wh,hb,_⟩:=wl i _ _ e1 e2
  exact ⟨_,_,e1,e2,l3 i _ e1,wh,by rw [wh.1];exact len _ (ir e2)⟩
 have esr:∀(k:Nat) (o:ξ),es[k]? =some o->∃w,ws[k]? =some w/\o=w.1++unit cf.length k/\w.1.length=m:=fun k o e=>by
  obtain ⟨w,qs,e1,_,e3,_,e5⟩:=row k (by have:=(be.mp e).1;omega)
  rw [e] at e3
  cases e3
  exact ⟨w,e1,rfl,e5⟩
 obtain ⟨y,ly,hy⟩:=R.sf x hx
 have yi:∀i,i < cf.length->y.getD i 0=((x.2.getD (m+i) 0:Int):Rat):=fun i hi=>by
  rw [hy (m+i),sx (m+i) y es i ly (by omega) (fun k o e=>?_)]
  obtain ⟨w,_,rfl,e5⟩:=esr k o e
  rw [<- e5,pH,FF hi]
 rw [wj j (ws:=ws) (ss:=(x.2.drop m).map fun s=>(s,x.2.getD x.1 0)) (by rw [aaa];omega) (by unfold c8;rw [acW];omega) (by unfold yd;rw [aaa];omega) (fun i w s q e1 e2 e3=>?_) (fun i w c e1 e2=>?_)]
 ·have e:(List.map vl ((x.2.drop m).map fun s=>(s,x.2.getD x.1 0)))=y.map (fun a=>a*(1 / ((x.2.getD x.1 0:Int):Rat))):=by
   rw [aaT]
   refine abL fun i=>?_
   rw [Wp,Wp]
   by_cases hi:i < cf.length
   ·have e1:(x.2.drop m)[i]? =some (x.2.getD (m+i) 0):=by
     rw [List.getElem?_drop,aau,gE (show m+i < x.2.length by omega)]
     rfl
    have e2:y[i]? =some (y.getD i 0):=by
     rw [aau,gE (show i < y.length by omega)]
     rfl
    rw [e1,e2,yi i hi]
    show some (vl (_,_))=some _
    unfold vl
    congr 1
    grind
   ·rw [aai (by omega),aai (by omega)]
    rfl
  rw [e,oP,hy j,pG j y es (ws.map (·.1)) (by rw [aaa];omega) (fun k o o' e1 e2=>?_)]
  ·grind
  ·obtain ⟨w,ew,rfl,e5⟩:=esr k o e1
   rw [Wp,ew] at e2
   cases e2
   exact qP (by omega)
 ·rw [Wp] at e2
  obtain ⟨sv,rA,rfl⟩:=aal.mp e2
  unfold c8 at e3
  rw [abM,rA,e1] at e3
  cases e3
  rw [xJ (R.here x hx)]
  unfold vl
  push_cast
  grind
 ·have hi:i < ws.length:=(be.mp e1).1
  obtain ⟨w',qs,f1,f2,_,wh,VS⟩:=row i (by omega)
  rw [e1] at f1
  cases f1
  unfold yd at e2
  rw [Wp,f2] at e2
  cases e2
  have lq:=len qs (ir f2)
  have g1:w.1[j]? =some (w.1[j]'(by omega)):=gE (by omega)
  have g2:qs[j]? =some (qs[j]'(by omega)):=gE (by omega)
  show _=vl (qs.getD j (0,1))*_
  rw [getD_mem g1,getD_some g2,wh.2 j _ _ g1 g2]
theorem cM :∀{l₁:List α} {l₂:List β} {a:α} {b:β},Paired F l₁ l₂->F a b->Paired F (l₁++[a]) (l₂++[b])
 | _,_,_,_,.nil,h=>.cons h .nil
 | _,_,_,_,.cons h t,h' =>.cons h (cM t h')
def pI (u:HO):Prop:=(∀xs,u≠.tup xs)/\∀o xs,u≠.cV o (.tup xs)
theorem OJ :pI (.dK kvs):=⟨fun _ z=>(nomatch z),fun _ _ z=>(nomatch z)⟩
theorem wD :pI (.dT kvs):=⟨fun _ z=>(nomatch z),fun _ _ z=>(nomatch z)⟩
theorem Ro :pI (.cV o (.dK kvs)):=⟨fun _ z=>(nomatch z),fun _ _ z=>(nomatch z)⟩
theorem eE (e:H d=some u)(n:pI u)(k:aL d H H'):bD H H' :=fun b xs z=>by
 rcases z with z | ⟨o',z⟩
 ·exact .inl (k _ _ (fun c=>by rw [c,e] at z;cases z;exact n.1 _ rfl) z)
 ·exact .inr ⟨o',k _ _ (fun c=>by rw [c,e] at z;cases z;exact n.2 _ _ rfl) z⟩
def bR (pins:ο):List (Str×Nat):=pins.flatMap fun p=>[(p.nm,0),(p.nm,1)]
theorem cU:∀pins:List aD,(bR pins).length=2*pins.length
 | []=>rfl
 | p::ps=>by
  have:=cU ps
  unfold bR at this ⊢
  rw [aa4,aan,this]
  simp
  omega
def dF (H:Hp)(v:V)(x:Str×Nat):Prop:=∃t,v=.ref t/\H t=some (.tup [.str x.1,.int (x.2:Int)])
theorem dF.same (h:dF H v x)(s:au H H'):dF H' v x:=by
 obtain ⟨t,a,b⟩:=h
 exact ⟨t,a,s _ _ b⟩
theorem dF.ks (h:dF H v x)(e:H d=some u)(n:pI u)(k:aL d H H'):dF H' v x:=by
 obtain ⟨t,a,b⟩:=h
 exact ⟨t,a,k _ _ (fun z=>by rw [z,e] at b;cases b;exact n.1 _ rfl) b⟩
inductive nO (K:Frag)(C:Addr)(vs:η)(H:Hp)(Q:VK)(E_:XK):Prop where
 | mk (a:Addr) (pins:ο) (bars:ς) (_:vs=[.ref a]) (_:CT K H C a pins bars) (_:fu pins bars) (_:∀(r:Addr) (us:η) (H' :Hp),au H H' ->H r=none->H' r=some (.lst us)->Paired (dF H') us (bR pins)->Q (.ref r) H'):nO K C vs H Q E_
theorem pJ (ps:ο)(p:aD):bR (ps++[p])=bR ps++[(p.nm,0),(p.nm,1)]:=by
 unfold bR
 rw [abp]
 simp
theorem iI:aE ["F","pairs","pin"] zaF (ag eT):=sq
theorem wG (D:Def K mg "pairs_of" eT zaF)(MP:bI P w K mg base (a_ P w) 1 C "pins" zag (iG K C)):Fn P w K mg base (a_ P w) 2 "pairs_of" zaF (nO K C):=by
 refine D.ok iI (fun vs H Q E h=>?_) (fun f bJ A outer s H vs Q E hr h=>?_)
 ·obtain ⟨a,pins,bars,rfl,_⟩:=h
  rfl
 obtain ⟨a,pins,bars,rfl,R,g,q⟩:=h
 refine ⟨_,(ae (aG (i:=1) iI.nd rfl (aad rfl) (cN aa))
  (ae (bB PassesOwn.never rfl (bx (fZ (k:=1) (pv 0) hr.mo (pY P w))) (av (i:=2) iI.nd rfl (aad rfl)) (aj (bg (ja PySem.F.plainAttrs_list PySem.F.slot_list_extend PySem.F.type_list_extend BS (pv 1) (ar (cN (ar (aV (ar (pv 2) (ar ak aa))) (ar (aV (ar (pv 2) (ar ak aa))) aa))) aa)))))
  (aj (aH (pv 1))))),?_⟩
 refine ⟨(by show 0<=sizeLine;decide),?_⟩
 intro r nr;generalize eX:upd _ r _=H1;have ⟨s1,er⟩:=nw nr eX;clear eX
 have big:(40:Nat)<=sizeLine:=by decide
 have L2:2<=sizeLine:=by decide
 have gl:=g.lp
 have R1:=R.same s1
 obtain ⟨dx,pP,pW,pB,kP,kW,kB,F1,W1⟩:=R1.ex
 refine ⟨_,rfl,a,C,dx,_,_,_,rfl,F1.obj,rfl,MP,a,dx,pP,pW,pB,_,_,kP,kW,kB,rfl,F1,fun lp H2 s2 wm tX=>?_⟩
 rw [gZ] at tX
 have M3:lp≠r:=fun z=>by rw [z,er] at wm;cases wm
 refine ⟨lp,rfl,⟨_,aX.of tX⟩,bW (K:=K) (a:=lp) (xs:=(pins.map (·.nm)).map V.str) (fun i σ H' =>∃(o2:χ) (us:η),σ=[some (.ref a),some (.ref r),o2]/\au H H' /\H' lp=some (.lst ((pins.map (·.nm)).map V.str))/\H' r=some (.lst us)/\Paired (dF H') us (bR (pins.take i))) ⟨none,[],rfl,s1.trans s2,tX,s2 _ _ er,.nil⟩ (fun i σ H' _ h=>by
   obtain ⟨_,_,_,_,h,_⟩:=h
   exact aX.of h) ?_ ?_⟩
 ·rintro i z σ H4 hi ⟨o2,us,rfl,s4,l4,r4,p4⟩
  rw [Wp,Wp] at hi
  obtain ⟨x,hx,rfl⟩:=aal.mp hi
  obtain ⟨p,hp,rfl⟩:=aal.mp hx
  have il:=(be.mp hp).1
  have lu:us.length<=18:=by
   have h1:=Paired.length p4
   rw [cU,abb] at h1
   omega
  refine ⟨_,rfl,.inl ⟨rfl,_,aX.of r4⟩,_,rfl,L2,?_⟩
  intro t5 n5;generalize eX:upd _ t5 _=H5;have ⟨s5,e5⟩:=nw n5 eX;clear eX
  refine ⟨_,rfl,L2,?_⟩
  intro t6 n6;generalize eX:upd _ t6 _=H6;have ⟨s6,e6⟩:=nw n6 eX;clear eX
  refine ⟨L2,?_⟩
  intro l7 n7;generalize eX:upd _ l7 _=H7;have ⟨s7,e7⟩:=nw n7 eX;clear eX
  have J':=s5.trans (s6.trans s7)
  have r7:=J' _ _ r4
  refine ⟨r,l7,us,_,rfl,rfl,r7,e7,(by simp;omega),?_⟩
  have ks:aL r H7 (upd H7 r (.lst (us++[.ref t5,.ref t6]))):=aL.upd
  have nt:pI (.lst us):=⟨fun _ z=>(nomatch z),fun _ _ z=>(nomatch z)⟩
  refine ⟨_,us++[.ref t5,.ref t6],rfl,fun b o e=>?_,?_,ah,?_⟩
  ·rw [ao (aq e nr)]
   exact J' _ _ (s4 _ _ e)
  ·rw [ao M3]
   exact J' _ _ l4
  ·rw [take_snoc hp,pJ]
   have p5:=cM (cM (Paired.bF p4 fun _ _ z=>z.same J') (show dF H7 (.ref t5) (p.nm,0) from ⟨t5,rfl,(s6.trans s7) _ _ e5⟩)) (show dF H7 (.ref t6) (p.nm,1) from ⟨t6,rfl,s7 _ _ e6⟩)
   rw [abK,abK] at p5
   exact Paired.bF p5 fun _ _ z=>z.ks r7 nt ks
 ·rintro σ H4 ⟨o2,us,rfl,s4,l4,r4,p4⟩
  rw [aaa,aaa,abl] at p4
  exact ⟨_,rfl,q r us H4 s4 nr r4 p4⟩
def pK (pins:ο)(bars:ς)(j:Nat):Prop:=∃z:Nat->Rat,z j≠0/\(∀i,j < i->z i=0)/\∀qs∈b7 pins bars,Ty.sumTo (2*pins.length) (fun i=>vl (qs.getD i (0,1))*z i)=0
theorem iJ (g:fu pins bars):∀qs∈b7 pins bars,qs.length=2*pins.length:=fun qs hq=>(jr g qs hq).1
theorem Rp (g:fu pins bars){os lv:ζ}(iQ:z9 90 90 (2*pins.length) (b7 pins bars) os)(R:Red os (2*pins.length) (2*pins.length) Z nd lv)(hj:j < 2*pins.length):(∀y∈nd,y.1≠j) ↔ pK pins bars j:=by
 constructor
 ·intro fr
  obtain ⟨z,hz⟩:=FD.ex j R.asc fr
  exact ⟨z,by rw [hz.one];decide,fun i hi=>FD.behind R hz hi,(sr iQ (iJ g) z).mp (FD.sol R hj hz fr)⟩
 ·rintro ⟨z,z1,zb,hz⟩
  exact mB R z1 zb ((sr iQ (iJ g) z).mpr hz)
section
variable {pins:ο}{bars:ς}{ws:List Wl}{es lv:ζ}{nd:θ}{Z:Nat}
theorem Rq (g:fu pins bars)(iQ:js (2*pins.length) (b7 pins bars).length ws es)(wl:∀(i:Nat) (w:Wl) (qs:τ),ws[i]? =some w->(b7 pins bars)[i]? =some qs->GV 90 90 (2*pins.length) qs w)(R:Red es (2*pins.length+(b7 pins bars).length) (2*pins.length) Z nd lv)(hj:j < 2*pins.length):(∀y∈nd,y.1≠j) ↔ pK pins bars j:=by
 constructor
 ·intro fr
  obtain ⟨z,hz⟩:=FD.ex j R.asc fr
  have zb:∀i,j < i->z i=0:=fun i hi=>FD.behind R hz hi
  exact ⟨z,by rw [hz.one];decide,zb,(pF iQ wl (iJ g) z (fun i hi=>zb i (by omega))).mp (FD.sol R hj hz fr)⟩
 ·rintro ⟨z,z1,zb,hz⟩
  exact mB R z1 zb ((pF iQ wl (iJ g) z (fun i hi=>zb i (by omega))).mpr hz)
def VZ (a:Nat)(bars:ς)(T:Ψ)(U:Ζ)(p:aD):Rat:=if a=0 then g8 bars T U p (·.1) else g8 bars T U p (·.2)
theorem wH:∀{pins:ο} {k:Nat} {p:aD},pins[k]? =some p->(bR pins)[2*k]? =some (p.nm,0)/\(bR pins)[2*k+1]? =some (p.nm,1)
 | q::ps,0,p,h=>by
  cases h
  exact ⟨rfl,rfl⟩
 | q::ps,k+1,p,h=>by
  have ih:=wH (pins:=ps) (k:=k) (p:=p) (by simpa using h)
  exact ih
theorem yp (g:fu pins bars)(iQ:js (2*pins.length) (b7 pins bars).length ws es)(wl:∀(i:Nat) (w:Wl) (qs:τ),ws[i]? =some w->(b7 pins bars)[i]? =some qs->GV 90 90 (2*pins.length) qs w)(R:Red es (2*pins.length+(b7 pins bars).length) (2*pins.length) Z nd lv){x:Χ}(hx:x∈nd)(al:Rk pins bars T U=(c8 (2*pins.length) ws x).map vl)(hl:∀q∈pins,(U q.nm).length=q.ws.length)(ek:pins[k]? =some p)(ha:a<=1):VZ a bars T U p=((x.2.getD (2*k+a) 0:Int):Rat) / ((x.2.getD x.1 0:Int):Rat):=by
 have hk:=(be.mp ek).1
 have hp:=ir ek
 have one:∀(j:Nat) (c:Rat×Rat->Rat),j < 2*pins.length->c (0,0)=0->(∀F,vl ((fX F pins).getD j (0,1))=c (mv F p.nm))->g8 bars T U p c=((x.2.getD j 0:Int):Rat) / ((x.2.getD x.1 0:Int):Rat):=fun j c hj c0 hc=>by
  have sd:=FG iQ wl (iJ g) R hx hj
  rw [zZ, <- al,yn pins bars ek j c hc] at sd
  rw [<- JZ c0 g.np hl hp]
  exact sd
 unfold VZ
 by_cases c:a=0
 ·rw [if_pos c,c]
  exact one (2*k) (·.1) (by omega) rfl fun F=>(tZ F ek).1
 ·rw [if_neg c,show a=1 by omega]
  exact one (2*k+1) (·.2) (by omega) rfl fun F=>(tZ F ek).2
end
theorem sy (h:x∈bR pins):x.1∈pins.map (·.nm)/\x.2<=1:=by
 unfold bR at h
 obtain ⟨p,hp,h⟩:=abI.mp h
 rcases aaQ.mp h with e | h
 ·rw [e]
  exact ⟨aab.mpr ⟨p,hp,rfl⟩,abc _⟩
 ·rw [aas.mp h]
  exact ⟨aab.mpr ⟨p,hp,rfl⟩,aac _⟩
theorem dY :∀{us:List α} {l:List β},Paired R us l->∀{i:Nat} {b:β},l[i]? =some b->∃u,us[i]? =some u/\R u b
 | _,_,.nil,i,b,e=>by simp at e
 | _,_,.cons h t,0,b,e=>by
  cases e
  exact ⟨_,rfl,h⟩
 | _,_,.cons h t,i+1,b,e=>by
  obtain ⟨u,a,c⟩:=dY t (i:=i) (b:=b) (by simpa using e)
  exact ⟨u,by simpa using a,c⟩
theorem eW (np:(pins.map (·.nm)).Nodup):(bR pins).Nodup:=by
 induction pins with
 | nil=>exact acv
 | cons p ps ih=>
  rw [aah,aa5] at np
  have e:bR (p::ps)=[(p.nm,0),(p.nm,1)]++bR ps:=rfl
  rw [e,abA]
  refine ⟨by simp,ih np.2,fun a ha b hb z=>np.1 ?_⟩
  have h1:=(sy hb).1
  rw [<- z] at h1
  rcases aaQ.mp ha with y | y
  ·rw [y] at h1
   exact h1
  ·rw [aas.mp y] at h1
   exact h1
def cP (x:Str×Nat):List Key:=[.inr x.1,.inl (x.2:Int)]
theorem pM (h:cP x=cP y):x=y:=by
 unfold cP at h
 injection h with h1 h2
 injection h2 with h2 _
 have h3:=ac9 h2
 exact ade (abQ h1) (by omega)
inductive yq (K:Frag)(C:Addr)(vs:η)(H:Hp)(Q:VK)(E_:XK):Prop where
 | mk (a:Addr) (pins:ο) (bars:ς) (_:vs=[.ref a]) (_:CT K H C a pins bars) (_:fu pins bars) (_:∀(d:Addr) (kvs:ν) (H' :Hp),au H H' ->H' d=some (.dT kvs)->(∀j x,(bR pins)[j]? =some x->((bL kvs (cP x)).isSome=true ↔ pK pins bars j))->Q (.ref d) H'):yq K C vs H Q E_
theorem dP:aE ["F","pairs","motions","column","numbers"] zaF (ag dA):=sq
theorem qQ (D:Def K mg "motions_of" dA zaF)(a8:mg "len"=none)
  (jt:Fn P w K mg base (a_ P w) 2 "pairs_of" zaF (nO K C)) (Rr:Fn P w K mg base (a_ P w) 38 "draw_rows" zaF (g6 K C)) (mS:Fn P w K mg base (a_ P w) 36 "spare_columns" zay (pD K)) (ab8:Fn P w K mg base (a_ P w) 2 "motion_from" zax (pj K C)):
  Fn P w K mg base (a_ P w) 39 "motions_of" zaF (yq K C):=by
 refine D.ok dP (fun vs H Q E h=>?_) (fun f bJ A outer s H vs Q E hr h=>?_)
 ·obtain ⟨a,pins,bars,rfl,_⟩:=h
  rfl
 obtain ⟨a,pins,bars,rfl,R,g,q⟩:=h
 have gl:=g.lp
 have gb:=g.lb
 have wl:(pins.flatMap fun p=>p.ws).length<=2*pins.length:=jU pins g.lw
 have dl:(b7 pins bars).length=(pins.flatMap fun p=>p.ws).length+bars.length:=sj pins bars
 refine ⟨_,(ae (aG (i:=1) dP.nd rfl (aad rfl) (aC jt hr.mo pX (ar (pv 0) aa)))
  (ae (aG (i:=2) dP.nd rfl (aad rfl) vH)
  (ae (nE (bB PassesOwn.never rfl (jL (aC mS hr.mo pX (ar (aC Rr hr.mo pX (ar (pv 0) aa)) (ar (aJ aI rfl a8 bZ (ar (pv 1) aa)) aa)))) (dG rfl (aQ (av (i:=3) dP.nd rfl (aad rfl)) (aQ (av (i:=4) dP.nd rfl (aad rfl)) cu))) (aj (eA (bU hr) (pv 2) (bo aY (pv 1) (pv 3) (fun _ _=>rfl)) (aC ab8 hr.mo pX (ar (pv 0) (ar (pv 4) aa))) rfl))))
  (aj (aH (pv 2)))))),?_⟩
 refine ⟨_,rfl,a,pins,bars,rfl,R,g,fun r us H1 s1 nr er pr=>?_⟩
 intro d xm;generalize eX:upd _ d _=H2;have ⟨s2,e2⟩:=nw xm eX;clear eX
 have nM:=s1.trans s2
 have lus:us.length=2*pins.length:=by rw [Paired.length pr,cU]
 refine ⟨_,rfl,a,pins,bars,rfl,R.same nM,g,fun rr ls dI H3 s3 nrr RR=>?_⟩
 have r3:=s3 _ _ (s2 _ _ er)
 refine ⟨_,rfl,r,_,rfl,.inl (aX.of r3),?_⟩
 have sh:Shape 90 90 (2*pins.length) (b7 pins bars):=jr g
 have zz:bb (90+90*(2*pins.length)) (min (2*pins.length) (b7 pins bars).length)<=33000:=by
  unfold bb
  have h1:min (2*pins.length) (b7 pins bars).length+1<=19:=by omega
  have h2:90+90*(2*pins.length)+11<=1721:=by omega
  exact aaf (abB h1 h2) (by decide)
 refine ⟨rr,2*pins.length,ls,dI,b7 pins bars,90,90,33000,(by rw [lus];rfl),RR.u0,RR.num,sh,by omega,by omega,by decide,by omega,by decide,zz,by decide,fun sd g9 cs os lv nd H6 s6 M8 z_ V0 iQ RZ QK=>?_⟩
 have Ka:=s3.trans s6
 have yr:=nM.trans Ka
 have K9:H sd=none:=(nM.trans s3).free M8
 have Hd:H d=none:=s1.free xm
 have ed6:=Ka _ _ e2
 have Rt:=s6 _ _ r3
 have Ru:d≠sd:=fun z=>by
  have:=s3 _ _ e2
  rw [z,M8] at this
  cases this
 refine ⟨sd,g9,rfl,z_,fun o=>?_⟩
 have k0:aL sd H6 (upd H6 sd (.cV o (.dK g9))):=aL.upd
 have S4:g9.length=cs.length:=V0.1
 have lss:cs.length<=2*pins.length:=by
  have:=congrArg abR QK
  have h2:=ab0 (free nd) (abJ (2*pins.length))
  rw [ad_] at h2
  omega
 have mfr:∀c,c < 2*pins.length->(c∈cs ↔ pK pins bars c):=fun c hc=>by
  rw [QK, <- Rp g iQ RZ hc,ace,abV,pC]
  exact ⟨fun h=>h.2,fun h=>⟨hc,h⟩⟩
 have pr6:Paired (dF H6) us (bR pins):=Paired.bF pr fun _ _ z=>z.same (s2.trans Ka)
 refine fG (d:=sd) (o:=o) (kvs:=g9) (fun t σ H' =>∃(o3 o4:χ) (kvs:ν),σ=[some (.ref a),some (.ref r),some (.ref d),o3,o4]/\au H H' /\H' r=some (.lst us)/\Paired (dF H') us (bR pins)/\M7 H' (2*pins.length) g9 cs/\H' sd=some (.cV o (.dK g9))/\H' d=some (.dT kvs)/\kvs.length<=t/\∀j x,(bR pins)[j]? =some x->((bL kvs (cP x)).isSome=true ↔ j∈cs.take t)) ⟨none,none,[],rfl,fun b o' e=>k0 _ _ (aq e K9) (yr _ _ e),k0 _ _ (fun z=>by rw [z,z_] at Rt;cases Rt) Rt,Paired.bF pr6 fun _ _ z=>z.ks z_ OJ k0,V0.mono fun b xs e=>k0 _ _ (fun z=>by rw [z,z_] at e;cases e) e,ah,k0 _ _ Ru ed6,aac _,fun j x _=>by simp [bL]⟩ (fun t σ H' _ h=>by
   obtain ⟨_,_,_,_,_,_,_,_,h,_⟩:=h
   exact h) ?_ ?_
 ·rintro t k y σ H7 p7 si ⟨o3,o4,kvs,rfl,s7,Kb,Rv,OK,M9,d7,lk7,kk7⟩ n7
  have ht:t < g9.length:=(be.mp si).1
  obtain ⟨x,ex⟩:∃x,cs[t]? =some x:=⟨_,gE (by omega)⟩
  have mx:=ir ex
  obtain ⟨ek,lx,xs,ey,hlx,hus⟩:=OK.2 t (k,y) x si ex
  have ek' :k=.inl (x:Int):=ek
  have zJ :y=.ref lx:=ey
  subst ek'
  subst zJ
  have t7:=aF n7 (.tup [kV (.inl (x:Int)),.ref lx])
  have e7:(upd H7 p7 (.tup [kV (.inl (x:Int)),.ref lx])) p7=some (.tup [kV (.inl (x:Int)),.ref lx]):=ah
  generalize upd H7 p7 (.tup [kV (.inl (x:Int)),.ref lx])=H8 at t7 e7 ⊢
  have s8:=s7.trans t7
  refine ⟨p7,_,rfl,bT.of e7,rfl,_,_,rfl,_,_,rfl,rfl,?_⟩
  have cx:x < 2*pins.length:=by
   rw [QK] at mx
   exact abV.mp (ace.mp mx).1
  refine ⟨_,rfl,_,rfl,a,lx,pins,bars,xs,rfl,R.same s8,g,t7 _ _ hlx,hus,fun dM H9 s9=>?_⟩
  have j0:=t7.trans s9
  have d9:=j0 _ _ d7
  obtain ⟨pq,Rw⟩:∃pq,(bR pins)[x]? =some pq:=⟨_,gE (by rw [cU];exact cx)⟩
  obtain ⟨u,eu,tp,rfl,htp⟩:=dY Rv Rw
  have ht9:H9 tp=some (.tup ((cP pq).map kV)):=j0 _ _ htp
  have ai:gO us (x:Int)=some (.ref tp):=bS eu
  refine ⟨_,rfl,_,rfl,_,rfl,r,_,_,_,rfl,rfl,aX.of (j0 _ _ Kb),ai,d,_,rfl,ib.t d9 ht9 (aaj (show kvs.length<=1000 by omega) (by decide)),?_⟩
  have ks:aL d H9 (upd H9 d (.dT (putK kvs (cP pq) (.ref dM)))):=aL.upd
  have lp9:=fg kvs (cP pq) (.ref dM)
  refine ⟨_,_,putK kvs (cP pq) (.ref dM),rfl,fun b' o' e=>?_,?_,Paired.bF Rv fun _ _ z=>(z.same j0).ks d9 wD ks,?_,?_,ah,by omega,fun j x' ej=>?_⟩
  ·exact ks _ _ (aq e Hd) (s9 _ _ (s8 _ _ e))
  ·exact ks _ _ (fun z=>by rw [z,d7] at Kb;cases Kb) (j0 _ _ Kb)
  ·exact OK.mono fun b xs e=>ks _ _ (fun z=>by rw [z,d7] at e;cases e) (j0 _ _ e)
  ·exact ks _ _ (aba Ru) (j0 _ _ M9)
  ·rw [vD,take_snoc ex,aaG, <- kk7 j x' ej]
   have nk:cP x' =cP pq ↔ j=x:=by
    constructor
    ·intro z
     rw [pM z] at ej
     exact ck (eW g.np) ej Rw
    ·intro z
     rw [z,Rw] at ej
     cases ej
     rfl
   have e1:j∈[x] ↔ j=x:=by simp
   rw [e1, <- nk]
   by_cases c:cP x' =cP pq
   ·rw [if_pos c]
    exact ⟨fun _=>.inr c,fun _=>rfl⟩
   ·rw [if_neg c]
    exact ⟨.inl,fun h=>h.resolve_right c⟩
 ·rintro σ H7 ⟨o3,o4,kvs,rfl,s7,Kb,Rv,OK,M9,d7,lk7,kk7⟩
  have kS:aL sd H7 (upd H7 sd (.dK g9)):=aL.upd
  refine ⟨sd,o,g9,M9,fun o' u' z=>(by have z' :H sd=some (.cV o' u'):=z;rw [K9] at z';cases z'),_,rfl,?_⟩
  refine q d kvs _ (fun b' o' e=>kS _ _ (aq e K9) (s7 _ _ e)) (kS _ _ Ru d7) fun j x ej=>?_
  have hj:=(be.mp ej).1
  rw [cU] at hj
  rw [kk7 j x ej,S4,abl,mfr _ hj]
theorem ue {α:Type}:∀(l:List α) (o:Nat) (ys:List (Nat×α)),(ys.map (·.1)).Pairwise (· < ·)->(∀y∈ys,o<=y.1/\l[y.1 - o]? =some y.2)->acU (ys.map (·.2)) l
 | l,o,[],_,_=>List.nil_sublist _
 | [],o,y::ys,_,h=>by
  have:=(h y aak).2
  simp at this
 | a::l,o,y::ys,p,h=>by
  rw [aah,ac7] at p
  have up:∀z∈ys,y.1 < z.1:=fun z hz=>p.1 _ (aab.mpr ⟨z,hz,rfl⟩)
  obtain ⟨h1,h2⟩:=h y aak
  have st:∀z:Nat×α,o < z.1->(o<=z.1/\(a::l)[z.1 - o]? =some z.2)->o+1<=z.1/\l[z.1 - (o+1)]? =some z.2:=fun z hz hh=>by
   refine ⟨hz,?_⟩
   have e:=hh.2
   rw [show z.1 - o=(z.1 - (o+1))+1 by omega,List.getElem?_cons_succ] at e
   exact e
  by_cases c:y.1=o
  ·rw [c,Nat.sub_self] at h2
   cases h2
   rw [aah]
   exact (ue l (o+1) ys p.2 fun z hz=>st z (by have:=up z hz;omega) (h z (aae _ hz))).cons_cons _
  ·refine (ue l (o+1) (y::ys) (by rw [aah,ac7];exact p) fun z hz=>?_).cons _
   refine st z ?_ (h z hz)
   rcases aaQ.mp hz with e | e
   ·rw [e]
    omega
   ·have:=up z e
    omega
theorem Kc (hm:m<=18)(iQ:js m (b7 pins bars).length ws es)(wl:∀(i:Nat) (w:Wl) (qs:τ),ws[i]? =some w->(b7 pins bars)[i]? =some qs->GV 90 90 m qs w)(R:Red es (m+(b7 pins bars).length) m 33000 nd lv){x:Χ}(hx:x∈nd):(c8 m ws x).length=(b7 pins bars).length/\∀q∈c8 m ws x,Sm 35000 35000 q:=by
 have l1:=R.mP x hx
 have l2:=iQ.2.1
 refine ⟨by unfold c8;rw [acW,ack];omega,fun q hq=>?_⟩
 obtain ⟨i,ei⟩:=aag hq
 unfold c8 at ei
 rw [abM] at ei
 cases rA :(x.2.drop m)[i]? with
 | none=>rw [rA] at ei;cases ei
 | some sv=>
  cases ew:ws[i]? with
  | none=>rw [rA,ew] at ei;cases ei
  | some w=>
   rw [rA,ew] at ei
   cases ei
   have hi:=(be.mp ew).1
   obtain ⟨qs,eq⟩:∃qs,(b7 pins bars)[i]? =some qs:=⟨_,gE (by omega)⟩
   have h5:=(wl i w qs ew eq).2.2.1
   have bs:sv.natAbs<=2^33000:=(R.JJ x hx).mem (aiI (ir rA))
   have bh:(x.2.getD x.1 0).natAbs<=2^33000:=by
    have hc:=R.cols x hx
    have e:x.2[x.1]? =some (x.2[x.1]'(by omega)):=gE (by omega)
    rw [aau,e]
    exact (R.JJ x hx).mem (ir e)
   refine MV (R.here x hx) ?_ (aaf bh (aa7 (by decide) (by decide)))
   rw [abW]
   refine aaf (abB bs h5) ?_
   rw [<- ada]
   exact aa7 (by decide) (by omega)
abbrev sC:=(Str×Nat)×(Str->Rat)×(Str->List Rat)
abbrev S7:=Addr×Addr×(Str->Addr)
def fD (pins:ο)(r:S7):List Addr:=r.1::r.2.1::pins.map fun p=>r.2.2 p.nm
def La (K:Frag)(H:Hp)(pins:ο)(bars:ς)(N:Nat)(kv:Φ)(s:sC):Prop:=∃(p dT dU:Addr) (kT kU:δ),kv=(cP s.1,.ref p)/\H p=some (.tup [.ref dT,.ref dU])/\K' K H pins bars dT dU kT kU s.2.1 s.2.2 N
def AA (H:Hp)(pins:ο)(kv:Φ)(r:S7):Prop:=∃(p:Addr) (kT kU:δ),kv.2=.ref p/\H p=some (.tup [.ref r.1,.ref r.2.1])/\H r.1=some (.dK kT)/\H r.2.1=some (.dK kU)/\∀q∈pins,bL kU (.inr q.nm)=some (.ref (r.2.2 q.nm))/\∃vs,H (r.2.2 q.nm)=some (.lst vs)/\vs.length=q.ws.length
section
variable {H H' :Hp}{pins:ο}{bars:ς}{N:Nat}{kv:Φ}{d:Addr}{u:HO}
theorem La.same (h:La K H pins bars N kv s)(k:au H H'):La K H' pins bars N kv s:=by
 obtain ⟨p,dT,dU,kT,kU,e,hp,pl⟩:=h
 exact ⟨p,dT,dU,kT,kU,e,k _ _ hp,pl.same k⟩
theorem AA.same (h:AA H pins kv r)(k:au H H'):AA H' pins kv r:=by
 obtain ⟨p,kT,kU,e,h1,h2,h3,h4⟩:=h
 refine ⟨p,kT,kU,e,k _ _ h1,k _ _ h2,k _ _ h3,fun q hq=>?_⟩
 obtain ⟨a,vs,b,c⟩:=h4 q hq
 exact ⟨a,vs,k _ _ b,c⟩
def wI (u:HO):Prop:=pI u/\(∀xs,u≠.lst xs)/\∀kM,u≠.dK kM
theorem La.OL (h:La K H pins bars N kv s)(e:H d=some u)(n:wI u)(k:aL d H H'):La K H' pins bars N kv s:=by
 obtain ⟨p,dT,dU,kT,kU,ek,hp,pl⟩:=h
 have t:=eE e n.1 k
 have nd:∀{b:Addr} {kM:δ},H b=some (.dK kM)->b≠d:=fun {b kM} y z=>by
  rw [z,e] at y
  exact n.2.2 _ (aao y)
 refine ⟨p,dT,dU,kT,kU,ek,k _ _ (fun z=>?_) hp,k _ _ (nd pl.hT) pl.hT,k _ _ (nd pl.hU) pl.hU,pl.JW,pl.JX,fun b hb=>?_,fun q hq=>?_,pl.lU,pl.zT,pl.zU,pl.hN⟩
 ·rw [z,e] at hp
  exact n.1.1 _ (aao hp)
 ·obtain ⟨v,a,c⟩:=pl.tT b hb
  exact ⟨v,a,c.aU t⟩
 ·obtain ⟨la,vs,a,b,c⟩:=pl.tU q hq
  refine ⟨la,vs,a,k _ _ (fun z=>?_) b,Paired.bF c fun _ _ z=>z.aU t⟩
  rw [z,e] at b
  exact n.2.1 _ (aao b)
theorem AA.OL (h:AA H pins kv r)(e:H d=some u)(n:wI u)(k:aL d H H'):AA H' pins kv r:=by
 obtain ⟨p,kT,kU,ek,h1,h2,h3,h4⟩:=h
 have nd:∀{b:Addr} {kM:δ},H b=some (.dK kM)->b≠d:=fun {b kM} y z=>by
  rw [z,e] at y
  exact n.2.2 _ (aao y)
 refine ⟨p,kT,kU,ek,k _ _ (fun z=>?_) h1,k _ _ (nd h2) h2,k _ _ (nd h3) h3,fun q hq=>?_⟩
 ·rw [z,e] at h1
  exact n.1.1 _ (aao h1)
 ·obtain ⟨a,vs,b,c⟩:=h4 q hq
  refine ⟨a,vs,k _ _ (fun z=>?_) b,c⟩
  rw [z,e] at b
  exact n.2.1 _ (aao b)
end
theorem iW :wI (.dT kvs):=⟨wD,(fun _ z=>nomatch z),fun _ z=>nomatch z⟩
theorem AB :wI (.cV o (.dK kvs)):=⟨Ro,(fun _ z=>nomatch z),fun _ z=>nomatch z⟩
structure gH (K:Frag)(H:Hp)(pins:ο)(bars:ς)(kvs:ν)(ss:List sC)(N:Nat):Prop where
 pr:Paired (La K H pins bars N) kvs ss
 nk:(kvs.map (·.1)).Nodup
 lm:kvs.length<=40
 sub:acU (ss.map (·.1)) (bR pins)
 Z_:∀s∈ss,∀s' ∈ss,∀p∈pins,∀a,s'.1=(p.nm,a)->VZ a bars s.2.1 s.2.2 p=if s'.1=s.1 then 1 else 0
 cols:∀j x,(bR pins)[j]? =some x->(x∈ss.map (·.1) ↔ ¬ pK pins bars j)
theorem gH.same (h:gH K H pins bars kvs ss N)(s:au H H'):gH K H' pins bars kvs ss N:=⟨Paired.bF h.pr fun _ _ z=>z.same s,h.nk,h.lm,h.sub,h.Z_,h.cols⟩
def Rx (pins:ο)(bars:ς)(ws:List Wl)(s:sC)(x:Χ):Prop:=(bR pins)[x.1]? =some s.1/\Rk pins bars s.2.1 s.2.2=(c8 (2*pins.length) ws x).map vl/\∀q∈pins,(s.2.2 q.nm).length=q.ws.length
theorem OM :∀{ss:List sC} {l:θ},Paired (Rx pins bars ws) ss l->∃ys:List (Nat×(Str×Nat)),ys.map (·.1)=l.map (·.1)/\(∀y∈ys,0<=y.1/\(bR pins)[y.1 - 0]? =some y.2)/\ys.map (·.2)=ss.map (·.1)
 | _,_,.nil=>⟨[],rfl,(fun y h=>nomatch h),rfl⟩
 | s::_,x::_,.cons h t=>by
  obtain ⟨ys,h1,h2,h3⟩:=OM t
  refine ⟨(x.1,s.1)::ys,by rw [aah,aah,h1],fun y hy=>?_,by rw [aah,aah,h3]⟩
  rcases aaQ.mp hy with z | z
  ·rw [z]
   exact ⟨abc _,h.1⟩
  ·exact h2 y z
inductive uf (K:Frag)(C:Addr)(vs:η)(H:Hp)(Q:VK)(E_:XK):Prop where
 | mk (a:Addr) (pins:ο) (bars:ς) (_:vs=[.ref a]) (_:CT K H C a pins bars) (_:fu pins bars) (_:∀(d:Addr) (kvs:ν) (ss:List sC) (rs:List S7) (H' :Hp),au H H' ->H d=none->H' d=some (.dT kvs)->gH K H' pins bars kvs ss 35000->Paired (AA H' pins) kvs rs->(rs.flatMap (fD pins)).Nodup->(∀a∈rs.flatMap (fD pins),H a=none)->Q (.ref d) H'):uf K C vs H Q E_
theorem fm:aE ["F","pairs","stays","column","shares"] zaF (ag eU):=sq
theorem wJ (D:Def K mg "stays_of" eU zaF)(a8:mg "len"=none)
  (jt:Fn P w K mg base (a_ P w) 2 "pairs_of" zaF (nO K C)) (Rr:Fn P w K mg base (a_ P w) 38 "draw_rows" zaF (g6 K C)) (lj:Fn P w K mg base (a_ P w) 36 "needed_columns" zay (pE K)) (aci:Fn P w K mg base (a_ P w) 3 "pulls_and_pushes" zax (Q6 K C)):
  Fn P w K mg base (a_ P w) 39 "stays_of" zaF (uf K C):=by
 refine D.ok fm (fun vs H Q E h=>?_) (fun f bJ A outer s H vs Q E hr h=>?_)
 ·obtain ⟨a,pins,bars,rfl,_⟩:=h
  rfl
 obtain ⟨a,pins,bars,rfl,R,g,q⟩:=h
 have gl:=g.lp
 have gb:=g.lb
 have wl:(pins.flatMap fun p=>p.ws).length<=2*pins.length:=jU pins g.lw
 have dl:(b7 pins bars).length=(pins.flatMap fun p=>p.ws).length+bars.length:=sj pins bars
 refine ⟨_,(ae (aG (i:=1) fm.nd rfl (aad rfl) (aC jt hr.mo pX (ar (pv 0) aa)))
  (ae (aG (i:=2) fm.nd rfl (aad rfl) vH)
  (ae (nE (bB PassesOwn.never rfl (jL (aC lj hr.mo pX (ar (aC Rr hr.mo pX (ar (pv 0) aa)) (ar (aJ aI rfl a8 bZ (ar (pv 1) aa)) aa)))) (dG rfl (aQ (av (i:=3) fm.nd rfl (aad rfl)) (aQ (av (i:=4) fm.nd rfl (aad rfl)) cu))) (aj (eA (bU hr) (pv 2) (bo aY (pv 1) (pv 3) (fun _ _=>rfl)) (aC aci hr.mo pX (ar (pv 0) (ar (pv 4) aa))) rfl))))
  (aj (aH (pv 2)))))),?_⟩
 refine ⟨_,rfl,a,pins,bars,rfl,R,g,fun r us H1 s1 nr er pr=>?_⟩
 intro d xm;generalize eX:upd _ d _=H2;have ⟨s2,e2⟩:=nw xm eX;clear eX
 have nM:=s1.trans s2
 have lus:us.length=2*pins.length:=by rw [Paired.length pr,cU]
 refine ⟨_,rfl,a,pins,bars,rfl,R.same nM,g,fun rr ls dI H3 s3 nrr RR=>?_⟩
 have r3:=s3 _ _ (s2 _ _ er)
 refine ⟨_,rfl,r,_,rfl,.inl (aX.of r3),?_⟩
 have sh:Shape 90 90 (2*pins.length) (b7 pins bars):=jr g
 have zz:bb (90+90*(2*pins.length)) (min (2*pins.length) (b7 pins bars).length)<=33000:=by
  unfold bb
  have h1:min (2*pins.length) (b7 pins bars).length+1<=19:=by omega
  have h2:90+90*(2*pins.length)+11<=1721:=by omega
  exact aaf (abB h1 h2) (by decide)
 refine ⟨rr,2*pins.length,ls,dI,b7 pins bars,90,90,33000,(by rw [lus];rfl),RR.u0,RR.num,sh,by omega,by omega,by decide,by omega,by decide,zz,by decide,fun sd g9 ss ws es lv nd H6 s6 M8 z_ V0 iQ wlq RZ hss=>?_⟩
 have Ka:=s3.trans s6
 have yr:=nM.trans Ka
 have K9:H sd=none:=(nM.trans s3).free M8
 have Hd:H d=none:=s1.free xm
 have ed6:=Ka _ _ e2
 have Rt:=s6 _ _ r3
 have Ru:d≠sd:=fun z=>by
  have:=s3 _ _ e2
  rw [z,M8] at this
  cases this
 refine ⟨sd,g9,rfl,z_,fun o=>?_⟩
 have k0:aL sd H6 (upd H6 sd (.cV o (.dK g9))):=aL.upd
 have S4:g9.length=nd.length:=by rw [V0.1,hss,aaa]
 have asc:=acR.mpr (RZ.asc.imp fun {a b} h=>aa_ h)
 have lnd:nd.length<=2*pins.length:=by
  have z:=wA asc (fun c hc=>by
   obtain ⟨x,hx,rfl⟩:=aab.mp hc
   exact RZ.cols x hx)
  rw [aaa] at z
  exact z
 have pr6:Paired (dF H6) us (bR pins):=Paired.bF pr fun _ _ z=>z.same (s2.trans Ka)
 refine fG (d:=sd) (o:=o) (kvs:=g9) (fun t σ H' =>∃(o3 o4:χ) (kvs:ν) (M_:List sC) (rs:List S7),σ=[some (.ref a),some (.ref r),some (.ref d),o3,o4]/\au H H' /\H' r=some (.lst us)/\Paired (dF H') us (bR pins)/\z8 K H' g9 ss/\H' sd=some (.cV o (.dK g9))/\H' d=some (.dT kvs)/\Paired (La K H' pins bars 35000) kvs M_/\Paired (Rx pins bars ws) M_ (nd.take t)/\(kvs.map (·.1)).Nodup/\Paired (AA H' pins) kvs rs/\(rs.flatMap (fD pins)).Nodup/\(∀b∈rs.flatMap (fD pins),H b=none)/\∀b∈rs.flatMap (fD pins),∃u,H' b=some u) ⟨none,none,[],[],[],rfl,fun b o' e=>k0 _ _ (aq e K9) (yr _ _ e),k0 _ _ (fun z=>by rw [z,z_] at Rt;cases Rt) Rt,Paired.bF pr6 fun _ _ z=>z.ks z_ OJ k0,V0.ks (.inl z_) k0,ah,k0 _ _ Ru ed6,.nil,by simpa using Paired.nil,acv,.nil,acv,(fun _ h=>nomatch h),fun _ h=>nomatch h⟩ (fun t σ H' _ h=>by
   obtain ⟨_,_,_,_,_,_,_,_,_,_,h,_⟩:=h
   exact h) ?_ ?_
 ·rintro t k y σ H7 p7 si ⟨o3,o4,kvs,M_,rs,rfl,s7,Kb,Rv,OK,M9,d7,S8,M',no7,rg7,rn7,rf7,rl7⟩ n7
  have ht:t < g9.length:=(be.mp si).1
  obtain ⟨x,ex⟩:∃x,nd[t]? =some x:=⟨_,gE (by omega)⟩
  have mx:=ir ex
  have exs:ss[t]? =some (x.1,c8 (2*pins.length) ws x):=by rw [hss,Wp,ex];rfl
  obtain ⟨ek,lx,xs,ey,hlx,hus⟩:=OK.2 t (k,y) _ si exs
  have ek' :k=.inl (x.1:Int):=ek
  have zJ :y=.ref lx:=ey
  subst ek'
  subst zJ
  have t7:=aF n7 (.tup [kV (.inl (x.1:Int)),.ref lx])
  have e7:(upd H7 p7 (.tup [kV (.inl (x.1:Int)),.ref lx])) p7=some (.tup [kV (.inl (x.1:Int)),.ref lx]):=ah
  generalize upd H7 p7 (.tup [kV (.inl (x.1:Int)),.ref lx])=H8 at t7 e7 ⊢
  have s8:=s7.trans t7
  refine ⟨p7,_,rfl,bT.of e7,rfl,_,_,rfl,_,_,rfl,rfl,?_⟩
  have cx:=RZ.cols x mx
  obtain ⟨lsh,smx⟩:=Kc (by omega) iQ wlq RZ mx
  have wn:(pins.flatMap fun p=>p.ws).length=cI pins:=rfl
  refine ⟨_,rfl,_,rfl,a,lx,pins,bars,xs,(c8 (2*pins.length) ws x).map vl,rfl,R.same s8,g,t7 _ _ hlx,wu (hus.same t7) smx,by rw [aaa,lsh,dl,wn],fun T U L p dT dU kT kU H9 s9 er9 hp9 nQ=>?_⟩
  have al:Rk pins bars T U=(c8 (2*pins.length) ws x).map vl:=er9.symm
  have j0:=t7.trans s9
  have d9:=j0 _ _ d7
  obtain ⟨pq,Rw⟩:∃pq,(bR pins)[x.1]? =some pq:=⟨_,gE (by rw [cU];exact cx)⟩
  obtain ⟨u,eu,tp,rfl,htp⟩:=dY Rv Rw
  have ht9:H9 tp=some (.tup ((cP pq).map kV)):=j0 _ _ htp
  have ai:gO us (x.1:Int)=some (.ref tp):=bS eu
  have lk:kvs.length=M_.length:=Paired.length S8
  have lo:M_.length=t:=by
   have:=Paired.length M'
   rw [abb] at this
   omega
  refine ⟨_,rfl,_,rfl,_,rfl,r,_,_,_,rfl,rfl,aX.of (j0 _ _ Kb),ai,d,_,rfl,ib.t d9 ht9 (aaj (show kvs.length<=1000 by omega) (by decide)),?_⟩
  have Ry:cP pq∉kvs.map (·.1):=fun z=>by
   obtain ⟨kv,K_,V1⟩:=aab.mp z
   obtain ⟨i,ei⟩:=aag K_
   obtain ⟨s,rA,_,_,_,_,_,Rz,_⟩:=aw S8 ei
   obtain ⟨x',Px,xg⟩:=aw M' rA
   have hi:i < t:=by
    have:=(be.mp Px).1
    rw [abb] at this
    omega
   rw [aip hi] at Px
   rw [Rz] at V1
   have e5:=xg.1
   rw [pM V1] at e5
   have e6:=ck (eW g.np) e5 Rw
   have f4:(nd.map (·.1))[t]? =some x.1:=by rw [Wp,ex];rfl
   have f5:(nd.map (·.1))[i]? =some x.1:=by
    rw [Wp,Px, <- e6]
    rfl
   have:=ck asc f4 f5
   omega
  rw [di _ (cQ Ry)]
  have ks:aL d H9 (upd H9 d (.dT (kvs++[(cP pq,.ref p)]))):=aL.upd
  have zm:∀rr∈(c8 (2*pins.length) ws x).map vl,Zb 35000 rr:=fun rr hr=>by
   obtain ⟨q',h8,rfl⟩:=aab.mp hr
   exact VN (m:=0) (smx q' h8) (aac _) (aac _)
  have pl9:K' K H9 pins bars dT dU kT kU T U 35000:=⟨nQ.hT,nQ.hU,nQ.JW,nQ.JX,nQ.tT,fun q' h8 =>by
    obtain ⟨vs,a1,_,c1,d1⟩:=nQ.tU q' h8
    exact ⟨_,vs,a1,c1,d1⟩,nQ.lU,fun b' gh =>zm _ (by rw [<- al];exact aaG.mpr (.inr (aab.mpr ⟨b',gh,rfl⟩))),fun q' h8 u hu=>zm _ (by rw [<- al];exact aaG.mpr (.inl (abI.mpr ⟨q',h8,hu⟩))),by decide⟩
  have nw9:La K H9 pins bars 35000 (cP pq,.ref p) (pq,T,U):=⟨p,dT,dU,kT,kU,rfl,hp9,pl9⟩
  have nr9:AA H9 pins (cP pq,.ref p) (dT,dU,L):=⟨p,kT,kU,rfl,hp9,nQ.hT,nQ.hU,fun q' h8 =>by
   obtain ⟨vs,a1,_,c1,d1⟩:=nQ.tU q' h8
   exact ⟨a1,vs,c1,by rw [Paired.length d1];exact nQ.lU q' h8⟩⟩
  have lv9:∀b∈fD pins (dT,dU,L),H8 b=none/\∃u,H9 b=some u:=fun b hb=>by
   rcases aaQ.mp hb with z | hb
   ·rw [z]
    exact ⟨nQ.nT,_,nQ.hT⟩
   rcases aaQ.mp hb with z | hb
   ·rw [z]
    exact ⟨nQ.nU,_,nQ.hU⟩
   obtain ⟨q',h8,rfl⟩:=aab.mp hb
   obtain ⟨vs,_,b1,c1,_⟩:=nQ.tU q' h8
   exact ⟨b1,_,c1⟩
  have nd9:(fD pins (dT,dU,L)).Nodup:=by
   have ll:∀b∈pins.map (fun q=>L q.nm),∃vs,H9 b=some (.lst vs):=fun b hb=>by
    obtain ⟨q',h8,rfl⟩:=aab.mp hb
    obtain ⟨vs,_,_,c1,_⟩:=nQ.tU q' h8
    exact ⟨vs,c1⟩
   show (dT::dU::pins.map fun q=>L q.nm).Nodup
   rw [aa5,aa5]
   refine ⟨fun z=>?_,fun z=>?_,?_⟩
   ·rcases aaQ.mp z with z | z
    ·exact nQ.ne z
    ·obtain ⟨vs,e⟩:=ll _ z
     rw [nQ.hT] at e
     cases e
   ·obtain ⟨vs,e⟩:=ll _ z
    rw [nQ.hU] at e
    cases e
   ·have np:=g.np
    have inj:=nQ.inj
    rw [acR,adn] at np ⊢
    have hp:∀{x y:aD},acU [x,y] pins->x.nm≠y.nm:=fun {x y} h=>af_.mp np h
    exact af_.mpr fun {x y} hs e=>hp hs (inj x (hs.subset aak) y (hs.subset (aae _ aak)) e)
  refine ⟨_,_,kvs++[(cP pq,.ref p)],M_++[(pq,T,U)],rs++[(dT,dU,L)],rfl,fun b' o' e=>?_,?_,Paired.bF Rv fun _ _ z=>(z.same j0).ks d9 wD ks,?_,?_,ah,cM (Paired.bF S8 fun _ _ z=>(z.same j0).OL d9 iW ks) (nw9.OL d9 iW ks),?_,?_,cM (Paired.bF rg7 fun _ _ z=>(z.same j0).OL d9 iW ks) (nr9.OL d9 iW ks),?_,?_,?_⟩
  ·exact ks _ _ (aq e Hd) (s9 _ _ (s8 _ _ e))
  ·exact ks _ _ (fun z=>by rw [z,d7] at Kb;cases Kb) (j0 _ _ Kb)
  ·refine ⟨OK.1,fun i kv x e1 e2=>?_⟩
   obtain ⟨c1,c2,c3,c4,c5,c6⟩:=OK.2 i kv x e1 e2
   exact ⟨c1,c2,c3,c4,ks _ _ (fun z=>by rw [z,d7] at c5;cases c5) (j0 _ _ c5),(c6.same j0).aU (eE d9 wD ks)⟩
  ·exact ks _ _ (aba Ru) (j0 _ _ M9)
  ·rw [take_snoc ex]
   exact cM M' ⟨Rw,al,nQ.lU⟩
  ·rw [aa3,abA]
   refine ⟨no7,by simp,fun a1 h1 b1 h2 z=>Ry ?_⟩
   have h3:b1=cP pq:=by simpa using h2
   rw [<- h3, <- z]
   exact h1
  ·rw [abp,abA]
   refine ⟨rn7,by simpa using nd9,fun a1 h1 b1 h2 z=>?_⟩
   obtain ⟨u,hu⟩:=rl7 a1 h1
   have:=(lv9 b1 (by simpa using h2)).1
   rw [<- z,t7 _ _ hu] at this
   cases this
  ·intro b hb
   rw [abp] at hb
   rcases aaG.mp hb with h | h
   ·exact rf7 b h
   ·exact s8.free (lv9 b (by simpa using h)).1
  ·intro b hb
   rw [abp] at hb
   have:∃u,H9 b=some u:=by
    rcases aaG.mp hb with h | h
    ·obtain ⟨u,hu⟩:=rl7 b h
     exact ⟨u,j0 _ _ hu⟩
    ·exact (lv9 b (by simpa using h)).2
   obtain ⟨u,hu⟩:=this
   by_cases c:b=d
   ·exact ⟨_,by rw [c];exact ah⟩
   ·exact ⟨u,ks _ _ c hu⟩
 ·rintro σ H7 ⟨o3,o4,kvs,M_,rs,rfl,s7,Kb,Rv,OK,M9,d7,S8,M',no7,rg7,rn7,rf7,rl7⟩
  rw [S4,abl] at M'
  have kS:aL sd H7 (upd H7 sd (.dK g9)):=aL.upd
  have ofo:∀s∈M_,∃x,x∈nd/\Rx pins bars ws s x:=fun s hs=>by
   obtain ⟨i,ei⟩:=aag hs
   obtain ⟨x,ex,h⟩:=aw M' ei
   exact ⟨x,ir ex,h⟩
  refine ⟨sd,o,g9,M9,fun o' u' z=>(by have z' :H sd=some (.cV o' u'):=z;rw [K9] at z';cases z'),_,rfl,?_⟩
  refine q d kvs M_ rs _ (fun b' o' e=>kS _ _ (aq e K9) (s7 _ _ e)) Hd (kS _ _ Ru d7) ⟨Paired.bF S8 fun _ _ z=>z.OL M9 AB kS,no7,by have h1:=Paired.length S8;have h2:=Paired.length M';omega,?_,fun s hs s' uY p hp a0 rA =>?_,fun j x ej=>?_⟩ (Paired.bF rg7 fun _ _ z=>z.OL M9 AB kS) rn7 rf7
  ·obtain ⟨ys,h1,h2,h3⟩:=OM M'
   rw [<- h3]
   exact ue (bR pins) 0 ys (by rw [h1];exact RZ.asc) h2
  ·obtain ⟨x,mx,hx⟩:=ofo s hs
   obtain ⟨y,my,hy⟩:=ofo s' uY
   obtain ⟨k,ek⟩:=aag hp
   have ha:a0<=1:=by
    have:=(sy (ir hy.1)).2
    rw [rA] at this
    exact this
   have ey:(bR pins)[2*k+a0]? =some (p.nm,a0):=by
    obtain ⟨h0,h1⟩:=wH ek
    rcases Nat.le_one_iff_eq_zero_or_eq_one.mp ha with z | z
    ·rw [z]
     exact h0
    ·rw [z]
     exact h1
   have yj:y.1=2*k+a0:=ck (eW g.np) (by rw [hy.1,rA]) ey
   rw [yp g iQ wlq RZ mx hx.2.1 hx.2.2 ek ha, <- yj]
   have hh:=cD (RZ.here x mx)
   by_cases c:s'.1=s.1
   ·have:y.1=x.1:=ck (eW g.np) (by rw [hy.1,c]) hx.1
    rw [if_pos c,this]
    grind
   ·rw [if_neg c,RZ.off x mx y my (fun z=>c (aao (by rw [<- hy.1, <- hx.1,z])))]
    simp [Rat.div_def]
  ·have hj:=(be.mp ej).1
   rw [cU] at hj
   rw [<- Rq g iQ wlq RZ hj]
   constructor
   ·intro h hn
    obtain ⟨s,hs,e⟩:=aab.mp h
    obtain ⟨y,my,hy⟩:=ofo s hs
    exact hn y my (ck (eW g.np) (by rw [hy.1,e]) ej)
   ·intro h
    apply abw
    intro no
    refine h fun y my ey=>no ?_
    obtain ⟨i,ei⟩:=aag my
    obtain ⟨s,rA,hs⟩:=dY M' ei
    have:=hs.1
    rw [ey,ej] at this
    exact aab.mpr ⟨s,ir rA,(aao this).symm⟩
def cell (ns:ξ)(k:Int):Int:=if k < (ns.length:Int) then (ns[k.toNat]?).getD 0 else ((((k+5)*(k+5)*48271).fmod 2147483647)*(((k+5)*(k+5)*48271).fmod 2147483647)).fmod 2147483629
theorem nR {x m:Int}(h:0 < m):0<=x.fmod m/\x.fmod m < m:=⟨acx x h,aif x h⟩
inductive pO (K:Frag)(vs:η)(H:Hp)(Q:VK)(E_:XK):Prop where
 | mk (a:Addr) (ns:ξ) (k:Int) (_:vs=[.ref a,.int k]) (_:aX K H a (ns.map V.int)) (_:0<=k) (_:k<=1000) (_:Q (.int (cell ns k)) H):pO K vs H Q E_
theorem cell_in {ns:ξ}(h0:0<=k)(h:k < (ns.length:Int)):gO (ns.map V.int) k=some (.int (cell ns k)):=by
 have hk:k.toNat < ns.length:=by omega
 have ek:k=((k.toNat:Nat):Int):=by omega
 have q:gO (ns.map V.int) ((k.toNat:Nat):Int)=some (.int (cell ns k)):=bS (by
  unfold cell
  rw [if_pos h,Wp,gE hk]
  rfl)
 rw [<- ek] at q
 exact q
theorem ju (h:i.natAbs < 2^k):intBits i<=k:=intBits_le_iff.mpr h
theorem ON:aE ["_law_script","_law_k","_law_part"] zas (ag DT):=sq
theorem V2 (D:Def K mg "_law_cell_at" DT zas)(a8:mg "len"=none):Fn P w K mg base CX 1 "_law_cell_at" zas (pO K):=by
 refine D.ok ON (fun vs H Q E h=>?_) (fun f bJ A outer s H vs Q E hr h=>?_)
 ·obtain ⟨a,ns,k,rfl,_⟩:=h
  rfl
 obtain ⟨a,ns,k,rfl,hS,h0,h1,q⟩:=h
 refine ⟨_,(ae (bu (aS vc (pv 1) (aJ aI rfl a8 bZ (ar (pv 0) aa)) (aZ _)) (aj (aH (bo aY (pv 0) (pv 1) (fun _ _=>rfl)))) aK)
  (ae (aG (i:=2) ON.nd rfl (aad rfl) (aT fY (aT c9 (aT c9 (aT cG (pv 1) ak) (aT cG (pv 1) ak)) ak) ak))
  (aj (aH (aT fY (aT c9 (pv 2) (pv 2)) ak))))),?_⟩
 have hl:(ns.map V.int).length=ns.length:=aaa _
 refine ⟨_,rfl,_,rfl,a,_,rfl,.inl hS,_,_,rfl,rfl,_,rfl,?_⟩
 refine bq (fun c=>?_) (fun c=>?_)
 ·have c' :k < (((ns.map V.int).length:Nat):Int):=of_decide_eq_true c
  rw [hl] at c'
  exact ⟨_,rfl,_,rfl,a,_,k,_,rfl,rfl,hS,cell_in h0 c',q⟩
 ·have c' :¬ k < (((ns.map V.int).length:Nat):Int):=of_decide_eq_false (ae_.mpr c)
  rw [hl] at c'
  have b5:intBits (k+5)<=11:=ju (by show _ < 2048;omega)
  have e1:=nR (x:=(k+5)*(k+5)*48271) (m:=2147483647) (by decide)
  have bp:intBits (((k+5)*(k+5)*48271).fmod 2147483647)<=31:=ju (by show _ < 2147483648;omega)
  refine ⟨_,rfl,_,_,rfl,rfl,_,rfl,_,_,rfl,rfl,_,_,rfl,rfl,⟨aaf b5 (by decide),aaf b5 (by decide)⟩,?_⟩
  refine ⟨_,_,rfl,rfl,⟨aaf (intBits_mul_le b5 b5) (by decide),by decide+kernel⟩,_,_,rfl,rfl,nz (by decide),?_⟩
  refine ⟨_,rfl,_,rfl,_,_,rfl,rfl,⟨aaf bp (by decide),aaf bp (by decide)⟩,_,_,rfl,rfl,nz (by decide),?_⟩
  have e:cell ns k=((((k+5)*(k+5)*48271).fmod 2147483647)*(((k+5)*(k+5)*48271).fmod 2147483647)).fmod 2147483629:=by
   unfold cell
   rw [if_neg c']
  rw [e] at q
  exact q
def field (c p m:Int):Int:=(((c.fmod p+11)*48271).fmod p).fmod m
theorem bf (h:0 < m):0<=field c p m/\field c p m < m:=nR h
inductive e_ (vs:η)(H:Hp)(Q:VK)(E_:XK):Prop where
 | mk (c p m:Int) (_:vs=[.int c,.int p,.int m]) (_:0 < p) (_:p<=2000000) (_:0 < m) (_:Q (.int (field c p m)) H):e_ vs H Q E_
theorem V3:aE zab zab (ag DU):=sq
theorem V4 (D:Def K mg "_law_field" DU zab):Fn P w K mg base CX 1 "_law_field" zab e_:=by
 refine D.ok V3 (fun vs H Q E h=>?_) (fun f bJ A outer s H vs Q E hr h=>?_)
 ·obtain ⟨c,p,m,rfl,_⟩:=h
  rfl
 obtain ⟨c,p,m,rfl,hp,Us,hm,q⟩:=h
 refine ⟨_,(aj (aH (aT fY (aT fY (aT c9 (aT cG (aT fY (pv 0) (pv 1)) ak) ak) (pv 1)) (pv 2)))),?_⟩
 have e1:=nR (x:=c) hp
 refine ⟨_,rfl,_,rfl,_,_,rfl,rfl,nz (by omega),_,_,rfl,rfl,_,_,rfl,rfl,⟨aaf (ju (k:=22) (by show _ < 4194304;omega)) (by decide),by decide+kernel⟩,?_⟩
 exact ⟨_,rfl,_,_,rfl,rfl,nz (by omega),_,rfl,_,_,rfl,rfl,nz (by omega),q⟩
inductive dQ (vs:η)(H:Hp)(Q:VK)(E_:XK):Prop where
 | mk (t b:Int) (_:vs=[.int t,.int b]) (_:0 < b) (_:gives H Q (low t b)):dQ vs H Q E_
theorem AD:aE ["_law_top","_law_bottom","_law_one_here","_law_other"] zar (ag DV):=sq
theorem V5 (ht:P.given.tree=none)(D:Def K mg "_law_lowest" DV zar)(se:mg "abs"=none):Fn P w K mg base (a_ P w) 33 "_law_lowest" zar dQ:=by
 refine D.ok AD (fun vs H Q E h=>?_) (fun f bJ A outer s H vs Q E hr h=>?_)
 ·obtain ⟨t,b,rfl,_⟩:=h
  rfl
 obtain ⟨t,b,rfl,hb,q⟩:=h
 refine ⟨_,(ae (aG (i:=2) AD.nd rfl (aad rfl) (aJ ve rfl se Oi (ar (pv 0) aa)))
  (ae (aG (i:=3) AD.nd rfl (aad rfl) (pv 1))
  (ae (og PassesOwn.never (aS i9 (pv 3) ak (aZ _)) (aj (PQ (i:=2) (j:=3) rfl AD.nd rfl rfl (by decide) rfl rfl (ar (pv 3) (ar (aT fY (pv 2) (pv 3)) aa)) rfl)))
  (aj (aH (aV (ar (aT (fO ht (Ty.cC.py hr (by decide)) rfl rfl rfl rfl rfl) (pv 0) (pv 2)) (ar (aT (fO ht (Ty.cC.py hr (by decide)) rfl rfl rfl rfl rfl) (pv 1) (pv 2)) aa)))))))),?_⟩
 refine ⟨_,rfl,t,rfl,?_⟩
 refine ⟨_,rfl,?_⟩
 refine vb (fun σ H' =>∃x y:Int,σ=[some (.int t),some (.int b),some (.int x),some (.int y)]/\H' =H/\0<=x/\0<=y/\aby x y=aby t b) (fun σ _=>match σ with | [_,_,_,some (.int y)]=>y.natAbs | _=>0) ⟨_,b,rfl,rfl,?_,by omega,?_⟩ ?_ ?_
 ·split <;> omega
 ·split
  ·exact Int.neg_gcd
  ·rfl
 ·rintro σ H' ⟨x,y,rfl,rfl,hx,hy,g⟩
  refine ⟨_,rfl,rfl,_,rfl,?_⟩
  refine bq (fun c=>?_) (fun c=>?_)
  ·have JL:y≠0:=by
    intro z
    subst z
    simp at c
   refine ⟨_,rfl,_,rfl,_,rfl,_,_,rfl,rfl,JL,_,_,rfl,?_⟩
   exact ⟨⟨_,_,rfl,rfl,hy,acx _ (by omega),by rw [vm];exact g⟩,rL JL⟩
  ·have JL:y=0:=by
    have:=ae_.mpr c
    simp at this
    exact this
   subst JL
   have e:x=sg t b:=by
    rw [aiP] at g
    unfold sg
    rw [if_neg (by omega)]
    unfold gz
    rw [<- g]
    omega
   subst e
   have hbn:b≠0:=by omega
   have c:=oy (t:=t) hbn
   refine ⟨_,rfl,_,rfl,_,_,rfl,rfl,c,_,rfl,_,rfl,_,_,rfl,rfl,c,(by show 2<=sizeLine;decide),fun p hp=>?_⟩
   exact q p _ (aF hp _) ah
 ·rintro σ H' Q1 Q2 h ⟨v,e1,e2,k,ek,z⟩
  exact ⟨v,e1,e2,k,ek,h _ _ z⟩
structure Ns (n:Nat)(q:Int×Int):Prop where
 top:q.1.natAbs<=2^n
 bot:q.2.natAbs<=2^n
theorem Ns.up (h:Ns m q)(l:m<=n):Ns n q:=⟨aaf h.top (aa7 (by decide) l),aaf h.bot (aa7 (by decide) l)⟩
def lC (K:Frag)(H:Hp)(v:V)(n:Nat)(r:Rat):Prop:=∃q:Int×Int,nC K H v q/\0 < q.2/\vl q=r/\Ns n q
theorem lC.same (h:lC K H v n r)(s:au H H'):lC K H' v n r:=by
 obtain ⟨q,h1,h2⟩:=h
 exact ⟨q,h1.same s,h2⟩
theorem lC.aU (h:lC K H v n r)(s:bD H H'):lC K H' v n r:=by
 obtain ⟨q,h1,h2⟩:=h
 exact ⟨q,h1.aU s,h2⟩
theorem lC.up (h:lC K H v m r)(l:m<=n):lC K H v n r:=by
 obtain ⟨q,h1,h2,h3,h4⟩:=h
 exact ⟨q,h1,h2,h3,h4.up l⟩
theorem pQ (h:ig K H v r)(z:Zb n r):lC K H v n r:=⟨qr r,h,dH r,gA r,⟨z.top,z.bot⟩⟩
theorem Kd (h:Sz k r)(l:k<=n):Zb n r:=⟨ab7 (aaO (intBits_le_iff.mp h.top) (aa7 (by decide) l)),ab7 (aaO (intBits_le_iff.mp h.bot) (aa7 (by decide) l))⟩
theorem Na (h:0 < q.2):q.1=0 ↔ vl q=0:=by
 unfold vl
 have z:((q.2:Int):Rat)≠0:=cD (abX h)
 constructor
 ·intro e
  rw [e]
  have:((0:Int):Rat)=0:=by rfl
  rw [this]
  grind
 ·intro e
  apply abw
  intro n
  have y:((q.1:Int):Rat)≠0:=cD n
  exact (by grind:¬ ((q.1:Int):Rat) / ((q.2:Int):Rat)=0) e
def g_ (x y:Int×Int):Int×Int:=(x.1*y.2+y.1*x.2,x.2*y.2)
def qR (x y:Int×Int):Int×Int:=(x.1*y.1,x.2*y.2)
theorem fq {a b:Int}(h1:a.natAbs<=2^m)(h2:b.natAbs<=2^n):(a*b).natAbs<=2^(m+n):=by
 rw [abW,ada]
 exact abB h1 h2
theorem Nb (hx:0 < x.2)(hy:0 < y.2)(zx:Ns m x)(zy:Ns n y):0 < (g_ x y).2/\vl (g_ x y)=vl x+vl y/\Ns (m+n+1) (g_ x y):=by
 refine ⟨acN hx hy,?_,?_,?_⟩
 ·unfold vl g_
  have z1:((x.2:Int):Rat)≠0:=cD (abX hx)
  have z2:((y.2:Int):Rat)≠0:=cD (abX hy)
  push_cast
  grind
 ·have h1:=fq zx.top zy.bot
  have h2:=fq zy.top zx.bot
  rw [aiu n m] at h2
  have h3:=acJ (x.1*y.2) (y.1*x.2)
  show (x.1*y.2+y.1*x.2).natAbs<=2^(m+n+1)
  rw [adj]
  omega
 ·exact aaf (fq zx.bot zy.bot) (aa7 (by decide) (by omega))
theorem Nc (hx:0 < x.2)(hy:0 < y.2)(zx:Ns m x)(zy:Ns n y):0 < (qR x y).2/\vl (qR x y)=vl x*vl y/\Ns (m+n) (qR x y):=by
 refine ⟨acN hx hy,?_,fq zx.top zy.top,fq zx.bot zy.bot⟩
 unfold vl qR
 have z1:((x.2:Int):Rat)≠0:=cD (abX hx)
 have z2:((y.2:Int):Rat)≠0:=cD (abX hy)
 push_cast
 grind
inductive eI (K:Frag)(f:Int×Int->Int×Int->Int×Int)(vs:η)(H:Hp)(Q:VK)(E_:XK):Prop where
 | mk (u v:V) (x y:Int×Int) (m n:Nat) (_:vs=[u,v]) (_:nC K H u x) (_:nC K H v y) (_:Ns m x) (_:Ns n y) (_:m+n<=130000000) (_:gives H Q (f x y)):eI K f vs H Q E_
theorem AE (h1:lC K H u m x)(h2:lC K H v n y)(l:m+n<=130000000)(k:∀(p:Addr) (H' :Hp),au H H' ->lC K H' (.ref p) (m+n+1) (x+y)->Q (.ref p) H'):eI K g_ [u,v] H Q E:=by
 obtain ⟨q1,a1,a2,a3,a4⟩:=h1
 obtain ⟨q2,b1,b2,b3,b4⟩:=h2
 obtain ⟨c1,c2,c3⟩:=Nb a2 b2 a4 b4
 exact ⟨u,v,q1,q2,m,n,rfl,a1,b1,a4,b4,l,fun p H' s e=>k p H' s ⟨g_ q1 q2,⟨p,rfl,bT.of e⟩,c1,by rw [c2,a3,b3],c3⟩⟩
theorem AF (h1:lC K H u m x)(h2:lC K H v n y)(l:m+n<=130000000)(k:∀(p:Addr) (H' :Hp),au H H' ->lC K H' (.ref p) (m+n) (x*y)->Q (.ref p) H'):eI K qR [u,v] H Q E:=by
 obtain ⟨q1,a1,a2,a3,a4⟩:=h1
 obtain ⟨q2,b1,b2,b3,b4⟩:=h2
 obtain ⟨c1,c2,c3⟩:=Nc a2 b2 a4 b4
 exact ⟨u,v,q1,q2,m,n,rfl,a1,b1,a4,b4,l,fun p H' s e=>k p H' s ⟨qR q1 q2,⟨p,rfl,bT.of e⟩,c1,by rw [c2,a3,b3],c3⟩⟩
inductive hG (K:Frag)(vs:η)(H:Hp)(Q:VK)(E_:XK):Prop where
 | mk (u:V) (x:Int×Int) (_:vs=[u]) (_:nC K H u x) (_:gives H Q (0 - x.1,x.2)):hG K vs H Q E_
theorem wK (h1:lC K H u m x)(k:∀(p:Addr) (H' :Hp),au H H' ->lC K H' (.ref p) m (-x)->Q (.ref p) H'):hG K [u] H Q E:=by
 obtain ⟨q1,a1,a2,a3,a4⟩:=h1
 refine ⟨u,q1,rfl,a1,fun p H' s e=>k p H' s ⟨(0 - q1.1,q1.2),⟨p,rfl,bT.of e⟩,a2,?_,?_,a4.bot⟩⟩
 ·rw [<- a3]
  unfold vl
  push_cast
  grind
 ·have:=a4.top
  show (0 - q1.1).natAbs<=2^m
  omega
theorem V6:aE zad zad (ag DW):=sq
theorem V7 (D:Def K mg "_law_sum" DW zad):Fn P w K mg base (a_ P w) 1 "_law_sum" zad (eI K g_):=by
 refine D.ok V6 (fun vs H Q E h=>?_) (fun f bJ A outer s H vs Q E hr h=>?_)
 ·obtain ⟨u,v,x,y,m,n,rfl,_⟩:=h
  rfl
 obtain ⟨u,v,x,y,m,n,rfl,⟨p1,rfl,h1⟩,⟨p2,rfl,h2⟩,zx,zy,l,q⟩:=h
 refine ⟨_,(aj (aH (aV (ar (aT cG (aT iR (aR (pv 0)) (aR (pv 1))) (aT iR (aR (pv 1)) (aR (pv 0)))) (ar (aT iR (aR (pv 0)) (aR (pv 1))) aa))))),?_⟩
 refine ⟨_,rfl,p1,_,_,_,rfl,rfl,h1,iE,_,rfl,p2,_,_,_,rfl,rfl,h2,h_,_,_,rfl,rfl,gy zx.top zy.bot (by omega),?_⟩
 refine ⟨_,rfl,p2,_,_,_,rfl,rfl,h2,iE,_,rfl,p1,_,_,_,rfl,rfl,h1,h_,_,_,rfl,rfl,gy zy.top zx.bot (by omega),?_⟩
 refine ⟨_,_,rfl,rfl,?_⟩
 refine ⟨_,rfl,p1,_,_,_,rfl,rfl,h1,h_,_,rfl,p2,_,_,_,rfl,rfl,h2,h_,_,_,rfl,rfl,gy zx.bot zy.bot (by omega),(by show 2<=sizeLine;decide),?_⟩
 intro p3 n3;generalize eX:upd _ p3 _=H3;have ⟨s3,e3⟩:=nw n3 eX;clear eX
 exact q p3 H3 s3 e3
theorem V8:aE zad zad (ag DX):=sq
theorem V9 (D:Def K mg "_law_times" DX zad):Fn P w K mg base (a_ P w) 1 "_law_times" zad (eI K qR):=by
 refine D.ok V8 (fun vs H Q E h=>?_) (fun f bJ A outer s H vs Q E hr h=>?_)
 ·obtain ⟨u,v,x,y,m,n,rfl,_⟩:=h
  rfl
 obtain ⟨u,v,x,y,m,n,rfl,⟨p1,rfl,h1⟩,⟨p2,rfl,h2⟩,zx,zy,l,q⟩:=h
 refine ⟨_,(aj (aH (aV (ar (aT iR (aR (pv 0)) (aR (pv 1))) (ar (aT iR (aR (pv 0)) (aR (pv 1))) aa))))),?_⟩
 refine ⟨_,rfl,p1,_,_,_,rfl,rfl,h1,iE,_,rfl,p2,_,_,_,rfl,rfl,h2,iE,_,_,rfl,rfl,gy zx.top zy.top (by omega),?_⟩
 refine ⟨_,rfl,p1,_,_,_,rfl,rfl,h1,h_,_,rfl,p2,_,_,_,rfl,rfl,h2,h_,_,_,rfl,rfl,gy zx.bot zy.bot (by omega),(by show 2<=sizeLine;decide),?_⟩
 intro p3 n3;generalize eX:upd _ p3 _=H3;have ⟨s3,e3⟩:=nw n3 eX;clear eX
 exact q p3 H3 s3 e3
theorem V_:aE zau zau (ag DY):=sq
theorem V' (D:Def K mg "_law_turned" DY zau):Fn P w K mg base (a_ P w) 1 "_law_turned" zau (hG K):=by
 refine D.ok V_ (fun vs H Q E h=>?_) (fun f bJ A outer s H vs Q E hr h=>?_)
 ·obtain ⟨u,x,rfl,_⟩:=h
  rfl
 obtain ⟨u,x,rfl,⟨p1,rfl,h1⟩,q⟩:=h
 refine ⟨_,(aj (aH (aV (ar (aT eM ak (aR (pv 0))) (ar (aR (pv 0)) aa))))),?_⟩
 refine ⟨_,rfl,p1,_,_,_,rfl,rfl,h1,iE,_,_,rfl,rfl,_,rfl,p1,_,_,_,rfl,rfl,h1,h_,(by show 2<=sizeLine;decide),?_⟩
 intro p3 n3;generalize eX:upd _ p3 _=H3;have ⟨s3,e3⟩:=nw n3 eX;clear eX
 exact q p3 H3 s3 e3
def nameOf (st a k:Int):Str:=if st=0 then Txt.mul "p" (k+1) else if st=1 then Txt.mul "p" a++⟨#[(gO (Str.ofString "bcdefghijklm").cps.toList k).getD 0]⟩++Txt.mul "p" (5 - a) else Txt.slice "12345" none (some a)++(toString k:String)
theorem wL:∀st:Fin 3,∀a:Fin 6,∀k:Fin 12,∀j:Fin 12,k≠j->nameOf (st.val:Int) (a.val:Int) (k.val:Int)≠nameOf (st.val:Int) (a.val:Int) (j.val:Int):=by decide+kernel
theorem RA:∀n:Fin 20,MulOk "p" (n.val:Int):=by
 intro n
 unfold MulOk
 revert n
 decide+kernel
theorem RB:∀k:Fin 12,gO (Str.ofString "bcdefghijklm").cps.toList (k.val:Int)=some ((gO (Str.ofString "bcdefghijklm").cps.toList (k.val:Int)).getD 0):=by decide+kernel
theorem Ke:∀a:Fin 6,∀k:Fin 12,(Txt.mul "p" (a.val:Int)).length+(⟨#[(gO (Str.ofString "bcdefghijklm").cps.toList (k.val:Int)).getD 0]⟩:Str).length<=1000/\
  (Txt.mul "p" (a.val:Int)++(⟨#[(gO (Str.ofString "bcdefghijklm").cps.toList (k.val:Int)).getD 0]⟩:Str)).length+(Txt.mul "p" (5 - (a.val:Int))).length<=1000/\(Txt.slice "12345" none (some (a.val:Int))).length+(Str.ofString (toString (k.val:Int))).length<=1000:=by decide+kernel
inductive ug (vs:η)(H:Hp)(Q:VK)(E_:XK):Prop where
 | mk (c k:Int) (_:vs=[.int c,.int k]) (_:0<=k) (_:k < 12) (_:Q (.str (nameOf (field c 3001 3) (field c 4001 6) k)) H):ug vs H Q E_
theorem Kf:aE zaG zaA (ag x_):=sq
theorem Wa (hM:vt CX)(D:Def K mg "_law_name" x_ zaA)(Kg:mg "str"=none)(dJ:Fn P w K mg base CX 1 "_law_field" zab e_):Fn P w K mg base CX 2 "_law_name" zaA ug:=by
 refine D.ok Kf (fun vs H Q E h=>?_) (fun f bJ A outer s H vs Q E hr h=>?_)
 ·obtain ⟨c,k,rfl,_⟩:=h
  rfl
 obtain ⟨c,k,rfl,h0,Wb,q⟩:=h
 have px:=vv (X:=mJ CX P w K mg base zaG "_law_name" (ag x_) f bJ A outer s H E) hM
 refine ⟨_,(ae (aG (i:=2) Kf.nd rfl (aad rfl) (aC dJ hr.mo px (ar (pv 0) (ar ak (ar ak aa)))))
  (ae (aG (i:=3) Kf.nd rfl (aad rfl) (aC dJ hr.mo px (ar (pv 0) (ar ak (ar ak aa)))))
  (ae (bu (aS eK (pv 2) ak (aZ _)) (aj (aH (aT s_ ky (aT cG (pv 1) ak)))) aK)
  (ae (bu (aS eK (pv 2) ak (aZ _)) (aj (aH (aT jk (aT jk (aT s_ ky (pv 3)) (bo P7 ky (pv 1) (fun _ _=>rfl))) (aT s_ ky (aT eM ak (pv 3)))))) aK)
  (aj (aH (aT jk (eg Qk ky iN (dW (pv 3))) (b9 sJ rfl Kg Ub (ar (pv 1) aa))))))))),?_⟩
 have i1:=bf (c:=c) (p:=3001) (m:=3) (by decide)
 have i2:=bf (c:=c) (p:=4001) (m:=6) (by decide)
 refine ⟨_,rfl,_,_,_,rfl,by decide,by decide,by decide,?_⟩
 refine ⟨_,rfl,_,_,_,rfl,by decide,by decide,by decide,?_⟩
 generalize field c 3001 3=st at i1 q ⊢
 generalize field c 4001 6=a at i2 q ⊢
 obtain ⟨kn,rfl⟩:∃n:Nat,k=(n:Int):=⟨k.toNat,by omega⟩
 obtain ⟨an,rfl⟩:∃n:Nat,a=(n:Int):=⟨a.toNat,by omega⟩
 have mk:∀i:Int,0<=i->i < 20->MulOk "p" i:=fun i a b=>by
  have:=RA ⟨i.toNat,by omega⟩
  rwa [show ((⟨i.toNat,by omega⟩:Fin 20).val:Int)=i by show ((i.toNat:Nat):Int)=i;omega] at this
 refine ⟨_,rfl,rfl,_,rfl,?_⟩
 refine bq (fun z=>?_) (fun z=>?_)
 ·have z' :st=0:=by simpa [qv] using z
  subst z'
  refine ⟨_,rfl,_,_,rfl,rfl,_,_,rfl,rfl,mk _ (by omega) (by omega),?_⟩
  exact q
 have z' :¬ st=0:=by simpa [qv] using z
 have nl:=Ke ⟨an,by omega⟩ ⟨kn,by omega⟩
 refine ⟨_,rfl,rfl,_,rfl,?_⟩
 refine bq (fun z3=>?_) (fun z3=>?_)
 ·have z3' :st=1:=by simpa [qv] using z3
  subst z3'
  refine ⟨_,rfl,_,_,rfl,rfl,mk _ (by omega) (by omega),_,rfl,_,_,_,rfl,rfl,(by decide+kernel),RB ⟨kn,by omega⟩,?_⟩
  refine ⟨_,_,rfl,rfl,aaf nl.1 (by decide),_,rfl,_,_,rfl,rfl,_,_,rfl,rfl,mk _ (by omega) (by omega),_,_,rfl,rfl,aaf nl.2.1 (by decide),?_⟩
  exact q
 ·have z3' :¬ st=1:=by simpa [qv] using z3
  refine ⟨_,rfl,_,rfl,_,rfl,(by decide+kernel),?_⟩
  have lg:(kn:Int).natAbs.log2 < 1920:=aaj (Nat.log2_le_self _) (by show kn < 1920;omega)
  refine ⟨_,rfl,_,rfl,lg,_,_,rfl,rfl,aaf nl.2.2 (by decide),?_⟩
  have e:nameOf st (an:Int) (kn:Int)=Txt.slice "12345" none (some (an:Int))++Str.ofString (toString (kn:Int)):=by
   unfold nameOf
   rw [if_neg z',if_neg z3']
  rw [e] at q
  exact q
def iK (ws:Λ):Prop:=ws=[]\/(∃x y:Rat,ws=[(x,y)]/\¬ (x=0/\y=0)/\Sz 22 x/\Sz 22 y)\/ws=[(1,0),(0,1)]
theorem pS (i:Int)(h:H p=some (.tup [.int i,.int 1])):ig K H (.ref p) (i:Rat):=⟨p,rfl,by rw [oT];exact bT.of h⟩
theorem j3 (h:H p=some (.tup [.int (qr r).1,.int (qr r).2])):ig K H (.ref p) r:=⟨p,rfl,bT.of h⟩
theorem j4 (h:H p=some (.tup [u,v]))(h1:ig K H u r)(h2:ig K H v s):ft K H (.ref p) (r,s):=⟨p,u,v,rfl,bT.of h,h1,h2⟩
theorem j5 {i:Int}(h:i.natAbs < 1048576)(hk:20<=k):Sz k (i:Rat):=kN (aaO h (show 2^20<=2^k from aa7 (by decide) hk)) (by omega)
theorem iX {t b:Int}(h:0 < b)(h1:t.natAbs < 1048576)(h2:b < 1048576):Sz 20 ((t:Rat) / (b:Rat)):=Jr (abX h) (intBits_le_iff.mpr (by show _ < 1048576;omega)) (intBits_le_iff.mpr (by show _ < 1048576;omega))
theorem wM {i:Int}(h:i<=500002):(i:Rat)<=500002:=by
 have:=acA.mpr h
 simpa using this
theorem nS {t b:Int}(hb:0 < b)(h:t<=500002):(t:Rat) / (b:Rat)<=500002:=by
 have gh :(0:Rat) < (b:Rat):=by
  have:=Rat.intCast_lt_intCast.mpr hb
  simpa using this
 have h1:t<=500002*b:=by
  have:(500002:Int)*1<=500002*b:=Int.mul_le_mul_of_nonneg_left (by omega) (by decide)
  omega
 have h2:(t:Rat)<=500002*(b:Rat):=by
  have:=acA.mpr h1
  simpa using this
 have e:(t:Rat) / (b:Rat)*(b:Rat)=(t:Rat):=by
  have uZ:(b:Rat)≠0:=by grind
  grind
 generalize (t:Rat) / (b:Rat)=z at e
 by_cases c:z<=500002
 ·exact c
 ·have c' :500002 < z:=by grind
  have:=Rat.mul_lt_mul_of_pos_right c' gh
  grind
theorem Kh {i:Int}(h:i<=500002)(h2: -500002<=i): -500002<=(i:Rat)/\(i:Rat)<=500002:=by
 refine ⟨?_,wM h⟩
 have:=acA.mpr h2
 simpa using this
theorem AG {t b:Int}(hb:0 < b)(h:t<=500002)(h2: -500002<=t): -500002<=(t:Rat) / (b:Rat)/\(t:Rat) / (b:Rat)<=500002:=by
 refine ⟨?_,nS hb h⟩
 have:=nS (t:= -t) hb (by omega)
 have e:((-t:Int):Rat) / (b:Rat)= -((t:Rat) / (b:Rat)):=by
  push_cast
  grind
 rw [e] at this
 grind
inductive uh (K:Frag)(vs:η)(H:Hp)(Q:VK)(E_:XK):Prop where
 | mk (c k:Int) (_:vs=[.int c,.int k]) (_:∀(p:Addr) (x y:Rat) (H' :Hp),au H H' ->Sz 20 x->Sz 20 y->x<=500002->(-500002<=y/\y<=500002)->ft K H' (.ref p) (x,y)->Q (.ref p) H'):uh K vs H Q E_
theorem Ki:aE ["_law_cell","_law_kind","_law_x"] zaD (ag DZ):=sq
theorem Wc (D:Def K mg "_law_spot" DZ zaD)(dJ:Fn P w K mg base (a_ P w) 1 "_law_field" zab e_)(uk:Fn P w K mg base (a_ P w) 33 "_law_lowest" zar dQ):Fn P w K mg base (a_ P w) 34 "_law_spot" zaD (uh K):=by
 refine D.ok Ki (fun vs H Q E h=>?_) (fun f bJ A outer s H vs Q E hr h=>?_)
 ·obtain ⟨c,k,rfl,_⟩:=h
  rfl
 obtain ⟨c,k,rfl,q⟩:=h
 have L2:2<=sizeLine:=by decide
 refine ⟨_,(ae (bu (aS eK (pv 1) ak (aZ _)) (aj (aH (aV (ar (aV (ar (aC dJ hr.mo pX (ar (pv 0) (ar ak (ar ak aa)))) (ar ak aa))) (ar (aV (ar (aC dJ hr.mo pX (ar (pv 0) (ar ak (ar ak aa)))) (ar ak aa))) aa))))) aK)
  (ae (bu (aS eK (pv 1) ak (aZ _)) (ae (aG (i:=2) Ki.nd rfl (aad rfl) (aC uk hr.mo pX (ar (aT eM (aC dJ hr.mo pX (ar (pv 0) (ar ak (ar ak aa)))) ak) (ar (aT cG ak (aC dJ hr.mo pX (ar (pv 0) (ar ak (ar ak aa))))) aa))))
   (aj (aH (aV (ar (pv 2) (ar (aC uk hr.mo pX (ar (aT eM (aC dJ hr.mo pX (ar (pv 0) (ar ak (ar ak aa)))) ak) (ar (aT cG ak (aC dJ hr.mo pX (ar (pv 0) (ar ak (ar ak aa))))) aa))) aa)))))) aK)
  (ae (aG (i:=2) Ki.nd rfl (aad rfl) (aC uk hr.mo pX (ar (aT eM (aC dJ hr.mo pX (ar (pv 0) (ar ak (ar ak aa)))) ak) (ar (aT cG ak (aC dJ hr.mo pX (ar (pv 0) (ar ak (ar ak aa))))) aa))))
  (aj (aH (aV (ar (pv 2) (ar (aC uk hr.mo pX (ar (aT eM (aC dJ hr.mo pX (ar (pv 0) (ar ak (ar ak aa)))) ak) (ar (aT cG ak (aC dJ hr.mo pX (ar (pv 0) (ar ak (ar ak aa))))) aa))) aa)))))))),?_⟩
 refine ⟨_,rfl,rfl,_,rfl,?_⟩
 refine bq (fun _=>?_) (fun _=>?_)
 ·have i1:=bf (c:=c) (p:=1009) (m:=4) (by decide)
  have i2:=bf (c:=c) (p:=2003) (m:=4) (by decide)
  refine ⟨_,rfl,_,_,_,rfl,by decide,by decide,by decide,L2,?_⟩
  intro p1 n1;generalize eX:upd _ p1 _=H1;have ⟨s1,e1⟩:=nw n1 eX;clear eX
  refine ⟨_,rfl,_,_,_,rfl,by decide,by decide,by decide,L2,?_⟩
  intro p2 n2;generalize eX:upd _ p2 _=H2;have ⟨s2,e2⟩:=nw n2 eX;clear eX
  refine ⟨L2,?_⟩
  intro p3 n3;generalize eX:upd _ p3 _=H3;have ⟨s3,e3⟩:=nw n3 eX;clear eX
  exact q p3 _ _ H3 ((s1.trans s2).trans s3) (j5 (by omega) (by decide)) (j5 (by omega) (by decide)) (wM (by omega)) (Kh (by omega) (by omega)) (j4 e3 (((pS _ e1).same s2).same s3) ((pS _ e2).same s3))
 refine ⟨_,rfl,rfl,_,rfl,?_⟩
 refine bq (fun _=>?_) (fun _=>?_)
 ·have i1:=bf (c:=c) (p:=1009) (m:=13) (by decide)
  have i2:=bf (c:=c) (p:=3001) (m:=3) (by decide)
  have i3:=bf (c:=c) (p:=2003) (m:=13) (by decide)
  have i4:=bf (c:=c) (p:=4001) (m:=2) (by decide)
  refine ⟨_,rfl,_,_,_,rfl,by decide,by decide,by decide,_,_,rfl,rfl,_,rfl,_,_,_,rfl,by decide,by decide,by decide,_,_,rfl,rfl,_,_,rfl,by omega,fun p1 H1 s1 e1=>?_⟩
  rw [gQ (by omega)] at e1
  refine ⟨_,rfl,_,rfl,_,_,_,rfl,by decide,by decide,by decide,_,_,rfl,rfl,_,rfl,_,_,_,rfl,by decide,by decide,by decide,_,_,rfl,rfl,_,_,rfl,by omega,fun p2 H2 s2 e2=>⟨L2,?_⟩⟩
  rw [gQ (by omega)] at e2
  intro p3 n3;generalize eX:upd _ p3 _=H3;have ⟨s3,e3⟩:=nw n3 eX;clear eX
  exact q p3 _ _ H3 ((s1.trans s2).trans s3) (iX (by omega) (by omega) (by omega)) (iX (by omega) (by omega) (by omega)) (nS (by omega) (by omega)) (AG (by omega) (by omega) (by omega)) (j4 e3 (((j3 e1).same s2).same s3) ((j3 e2).same s3))
 ·have i1:=bf (c:=c) (p:=1000003) (m:=1000003) (by decide)
  have i2:=bf (c:=c) (p:=3001) (m:=997) (by decide)
  have i3:=bf (c:=c) (p:=1000033) (m:=1000003) (by decide)
  have i4:=bf (c:=c) (p:=4001) (m:=997) (by decide)
  refine ⟨_,rfl,_,_,_,rfl,by decide,by decide,by decide,_,_,rfl,rfl,_,rfl,_,_,_,rfl,by decide,by decide,by decide,_,_,rfl,rfl,_,_,rfl,by omega,fun p1 H1 s1 e1=>?_⟩
  rw [gQ (by omega)] at e1
  refine ⟨_,rfl,_,rfl,_,_,_,rfl,by decide,by decide,by decide,_,_,rfl,rfl,_,rfl,_,_,_,rfl,by decide,by decide,by decide,_,_,rfl,rfl,_,_,rfl,by omega,fun p2 H2 s2 e2=>⟨L2,?_⟩⟩
  rw [gQ (by omega)] at e2
  intro p3 n3;generalize eX:upd _ p3 _=H3;have ⟨s3,e3⟩:=nw n3 eX;clear eX
  exact q p3 _ _ H3 ((s1.trans s2).trans s3) (iX (by omega) (by omega) (by omega)) (iX (by omega) (by omega) (by omega)) (nS (by omega) (by omega)) (AG (by omega) (by omega) (by omega)) (j4 e3 (((j3 e1).same s2).same s3) ((j3 e2).same s3))
inductive nX (K:Frag)(vs:η)(H:Hp)(Q:VK)(E_:XK):Prop where
 | mk (c:Int) (_:vs=[.int c]) (_:∀(l:Addr) (us:η) (ws:Λ) (H' :Hp),iK ws->au H H' ->H l=none->H' l=some (.lst us)->ie K H' us ws->Q (.ref l) H'):nX K vs H Q E_
theorem Nd :(qr r).1=0 ↔ r=0:=⟨tR,fun e=>by rw [e,d5]⟩
theorem wN:aE ["_law_cell","_law_kind","_law_x","_law_y"] zaN (ag D_):=sq
theorem Wd (D:Def K mg "_law_ways" D_ zaN)(dJ:Fn P w K mg base (a_ P w) 1 "_law_field" zab e_)(uk:Fn P w K mg base (a_ P w) 33 "_law_lowest" zar dQ):Fn P w K mg base (a_ P w) 34 "_law_ways" zaN (nX K):=by
 refine D.ok wN (fun vs H Q E h=>?_) (fun f bJ A outer s H vs Q E hr h=>?_)
 ·obtain ⟨c,rfl,_⟩:=h
  rfl
 obtain ⟨c,rfl,q⟩:=h
 have L0:0<=sizeLine:=by decide
 have L1:1<=sizeLine:=by decide
 have L2:2<=sizeLine:=by decide
 refine ⟨_,(ae (aG (i:=1) wN.nd rfl (aad rfl) (aC dJ hr.mo pX (ar (pv 0) (ar ak (ar ak aa)))))
  (ae (bu (aS vc (pv 1) ak (aZ _)) (aj (aH (cN aa))) aK)
  (ae (bu (aS vc (pv 1) ak (aZ _)) (aj (aH (cN (ar (aV (ar (aV (ar ak (ar ak aa))) (ar (aV (ar ak (ar ak aa))) aa))) (ar (aV (ar (aV (ar ak (ar ak aa))) (ar (aV (ar ak (ar ak aa))) aa))) aa))))) aK)
  (ae (aG (i:=2) wN.nd rfl (aad rfl) (aC uk hr.mo pX (ar (aT eM (aC dJ hr.mo pX (ar (pv 0) (ar ak (ar ak aa)))) ak) (ar (aT cG ak (aC dJ hr.mo pX (ar (pv 0) (ar ak (ar ak aa))))) aa))))
  (ae (aG (i:=3) wN.nd rfl (aad rfl) (aC uk hr.mo pX (ar (aT eM (aC dJ hr.mo pX (ar (pv 0) (ar ak (ar ak aa)))) ak) (ar (aT cG ak (aC dJ hr.mo pX (ar (pv 0) (ar ak (ar ak aa))))) aa))))
  (ae (bu (PW.pt (xp (aS eK (aR (pv 2)) ak (aZ _)) (sI (aS eK (aR (pv 3)) ak (aZ _))))) (aj (aG (i:=3) wN.nd rfl (aad rfl) (aV (ar ak (ar ak aa))))) aK)
  (aj (aH (cN (ar (aV (ar (pv 2) (ar (pv 3) aa))) aa)))))))))),?_⟩
 refine ⟨_,rfl,_,_,_,rfl,by decide,by decide,by decide,?_⟩
 refine ⟨_,rfl,_,_,rfl,rfl,_,rfl,?_⟩
 refine bq (fun _=>?_) (fun _=>?_)
 ·refine ⟨L0,?_⟩
  intro l nl;generalize eX:upd _ l _=H1;have ⟨s1,e1⟩:=nw nl eX;clear eX
  exact q l [] [] H1 (.inl rfl) s1 nl e1 .nil
 refine ⟨_,rfl,_,_,rfl,rfl,_,rfl,?_⟩
 refine bq (fun _=>?_) (fun _=>?_)
 ·refine ⟨L2,?_⟩
  intro p1 n1;generalize eX:upd _ p1 _=H1;have ⟨s1,e1⟩:=nw n1 eX;clear eX
  refine ⟨L2,?_⟩
  intro p2 n2;generalize eX:upd _ p2 _=H2;have ⟨s2,e2⟩:=nw n2 eX;clear eX
  refine ⟨L2,?_⟩
  intro p3 n3;generalize eX:upd _ p3 _=H3;have ⟨s3,e3⟩:=nw n3 eX;clear eX
  refine ⟨L2,?_⟩
  intro p4 n4;generalize eX:upd _ p4 _=H4;have ⟨s4,e4⟩:=nw n4 eX;clear eX
  refine ⟨L2,?_⟩
  intro p5 n5;generalize eX:upd _ p5 _=H5;have ⟨s5,e5⟩:=nw n5 eX;clear eX
  refine ⟨L2,?_⟩
  intro p6 n6;generalize eX:upd _ p6 _=H6;have ⟨s6,e6⟩:=nw n6 eX;clear eX
  refine ⟨L2,?_⟩
  intro p7 n7;generalize eX:upd _ p7 _=H7;have ⟨s7,e7⟩:=nw n7 eX;clear eX
  have sh:=s1.trans (s2.trans (s3.trans (s4.trans (s5.trans s6))))
  have w1:ft K H7 (.ref p3) (1,0):=zV tS d5 (s7 _ _ (s6 _ _ (s5 _ _ (s4 _ _ e3)))) (s7 _ _ (s6 _ _ (s5 _ _ (s4 _ _ (s3 _ _ (s2 _ _ e1)))))) (s7 _ _ (s6 _ _ (s5 _ _ (s4 _ _ (s3 _ _ e2)))))
  have w2:ft K H7 (.ref p6) (0,1):=zV d5 tS (s7 _ _ e6) (s7 _ _ (s6 _ _ (s5 _ _ e4))) (s7 _ _ (s6 _ _ e5))
  exact q p7 _ [(1,0),(0,1)] _ (.inr (.inr rfl)) (sh.trans s7) (sh.free n7) e7 (.cons w1 (.cons w2 .nil))
 have i1:=bf (c:=c) (p:=6007) (m:=7) (by decide)
 have i2:=bf (c:=c) (p:=7001) (m:=3) (by decide)
 have i3:=bf (c:=c) (p:=8009) (m:=7) (by decide)
 have i4:=bf (c:=c) (p:=9001) (m:=2) (by decide)
 refine ⟨_,rfl,_,_,_,rfl,by decide,by decide,by decide,_,_,rfl,rfl,_,rfl,_,_,_,rfl,by decide,by decide,by decide,_,_,rfl,rfl,_,_,rfl,by omega,fun p1 H1 s1 e1=>?_⟩
 rw [gQ (by omega)] at e1
 refine ⟨_,rfl,_,_,_,rfl,by decide,by decide,by decide,_,_,rfl,rfl,_,rfl,_,_,_,rfl,by decide,by decide,by decide,_,_,rfl,rfl,_,_,rfl,by omega,fun p2 H2 s2 e2=>?_⟩
 rw [gQ (by omega)] at e2
 have z1:=iX (t:=field c 6007 7 - 3) (b:=1+field c 7001 3) (by omega) (by omega) (by omega)
 have z2:=iX (t:=field c 8009 7 - 3) (b:=1+field c 9001 2) (by omega) (by omega) (by omega)
 generalize ((field c 6007 7 - 3:Int):Rat) / ((1+field c 7001 3:Int):Rat)=x at e1 z1 ⊢
 generalize ((field c 8009 7 - 3:Int):Rat) / ((1+field c 9001 2:Int):Rat)=y at e2 z2 ⊢
 have B_ :=s2 _ _ e1
 have zE:=s1.trans s2
 have fin:∀(v:V) (y' :Rat) (H3:Hp),au H2 H3->ig K H3 v y' ->Sz 22 y' ->¬ (x=0/\y' =0)->∀(p:Addr) (l:Addr) (H5:Hp),au H3 H5->H3 l=none->H5 p=some (.tup [.ref p1,v])->H5 l=some (.lst [.ref p])->Q (.ref l) H5:=fun v y' H3 s3 hv zy hn p l H5 s5 nl ep el=>
  q l [.ref p] [(x,y')] H5 (.inr (.inl ⟨x,y',rfl,hn,z1.up (by decide),zy⟩)) (zE.trans (s3.trans s5)) ((zE.trans s3).free nl) el (.cons (j4 ep (((j3 B_).same s3).same s5) (hv.same s5)) .nil)
 refine ⟨_,rfl,p1,_,_,_,rfl,rfl,bT.of B_,iE,rfl,_,rfl,?_⟩
 refine bq (fun c1=>?_) (fun c1=>?_)
 ·have c1' :x=0:=Nd.mp (by simpa using of_decide_eq_true c1)
  refine ⟨_,rfl,p2,_,_,_,rfl,rfl,bT.of e2,iE,rfl,_,rfl,?_⟩
  refine bq (fun c2=>?_) (fun c2=>?_)
  ·refine ⟨L2,?_⟩
   intro p3 n3;generalize eX:upd _ p3 _=H3;have ⟨s3,e3⟩:=nw n3 eX;clear eX
   refine ⟨_,rfl,_,rfl,L2,?_⟩
   intro p4 n4;generalize eX:upd _ p4 _=H4;have ⟨s4,e4⟩:=nw n4 eX;clear eX
   refine ⟨L1,?_⟩
   intro l5 n5;generalize eX:upd _ l5 _=H5;have ⟨s5,e5⟩:=nw n5 eX;clear eX
   exact fin (.ref p3) 1 H3 s3 (pS 1 e3) (j5 (i:=1) (by decide) (by decide)) (fun z=>absurd z.2 (by decide)) p4 l5 H5 (s4.trans s5) (s4.free n5) (s5 _ _ e4) e5
  ·have c2' :¬ y=0:=fun z=>c2 (by rw [z,d5];decide)
   refine ⟨_,rfl,_,rfl,L2,?_⟩
   intro p4 n4;generalize eX:upd _ p4 _=H4;have ⟨s4,e4⟩:=nw n4 eX;clear eX
   refine ⟨L1,?_⟩
   intro l5 n5;generalize eX:upd _ l5 _=H5;have ⟨s5,e5⟩:=nw n5 eX;clear eX
   exact fin (.ref p2) y H2 (au.refl _) (j3 e2) (z2.up (by decide)) (fun z=>c2' z.2) p4 l5 H5 (s4.trans s5) (s4.free n5) (s5 _ _ e4) e5
 ·have c1' :¬ x=0:=fun z=>c1 (by rw [z,d5];decide)
  refine Qb ?_
  refine ⟨_,rfl,_,rfl,L2,?_⟩
  intro p4 n4;generalize eX:upd _ p4 _=H4;have ⟨s4,e4⟩:=nw n4 eX;clear eX
  refine ⟨L1,?_⟩
  intro l5 n5;generalize eX:upd _ l5 _=H5;have ⟨s5,e5⟩:=nw n5 eX;clear eX
  exact fin (.ref p2) y H2 (au.refl _) (j3 e2) (z2.up (by decide)) (fun z=>c1' z.1) p4 l5 H5 (s4.trans s5) (s4.free n5) (s5 _ _ e4) e5
inductive jw (K:Frag)(H:Hp)(d:Addr)(v:V)(p:aD):Prop where
 | mk (a l:Addr) (s:V) (us:η) (_:v=.ref a) (_:bT K H a [.str p.nm,s,.ref l]) (_:ft K H s p.sp) (_:H l=some (.lst us)) (_:ie K H us p.ws) (_:l≠d):jw K H d v p
inductive i6 (K:Frag)(H:Hp)(v:V)(p:aD):Prop where
 | mk (a l:Addr) (s:V) (us:η) (_:v=.ref a) (_:bT K H a [.str p.nm,s,.ref l]) (_:ft K H s p.sp) (_:H l=some (.lst us)) (_:ie K H us p.ws):i6 K H v p
inductive iL (K:Frag)(H:Hp)(pins:ο)(v:V)(b:ba):Prop where
 | mk (a:Addr) (i j:Nat) (_:v=.ref a) (_:bT K H a [.str b.nm,.int (i:Int),.int (j:Int)]) (_:pins[i]? =some b.one) (_:pins[j]? =some b.other):iL K H pins v b
section
variable {K:Frag}{H H' :Hp}{v:V}{p:aD}{d:Addr}
theorem jw.same (h:jw K H d v p)(s:au H H'):jw K H' d v p:=by
 obtain ⟨a,l,sv,us,e,h1,h2,h3,h4,h5⟩:=h
 exact ⟨a,l,sv,us,e,Ty.au.bX s h1,h2.same s,s _ _ h3,h4.same s,h5⟩
theorem jw.upd (h:jw K H d v p)(e:H d=some (.lst xs)):jw K (L2.upd H d o) d v p:=by
 obtain ⟨a,l,sv,us,ev,h1,h2,h3,h4,h5⟩:=h
 have t:bD H (L2.upd H d o):=.list e
 exact ⟨a,l,sv,us,ev,t.bX h1,h2.aU t,by rw [ao h5];exact h3,h4.aU t,h5⟩
theorem jw.r (h:jw K H d v p):i6 K H v p:=by
 obtain ⟨a,l,sv,us,e,h1,h2,h3,h4,_⟩:=h
 exact ⟨a,l,sv,us,e,h1,h2,h3,h4⟩
theorem i6.same (h:i6 K H v p)(s:au H H'):i6 K H' v p:=by
 obtain ⟨a,l,sv,us,e,h1,h2,h3,h4⟩:=h
 exact ⟨a,l,sv,us,e,Ty.au.bX s h1,h2.same s,s _ _ h3,h4.same s⟩
theorem iL.same (h:iL K H pins v b)(s:au H H'):iL K H' pins v b:=by
 obtain ⟨a,i,j,e,h1,h2,h3⟩:=h
 exact ⟨a,i,j,e,Ty.au.bX s h1,h2,h3⟩
end
structure fU (pins:ο):Prop where
 np:(pins.map (·.nm)).Nodup
 ns:(pins.map (·.sp)).Nodup
 sz:∀p∈pins,Sz 44 p.sp.1/\Sz 44 p.sp.2
 ws:∀p∈pins,iK p.ws
theorem iK.sz (h:iK ws):∀w∈ws,Sz 22 w.1/\Sz 22 w.2:=fun w hw=>by
 rcases h with rfl | ⟨x,y,rfl,_,h1,h2⟩ | rfl
 ·cases hw
 ·have:w=(x,y):=by simpa using hw
  rw [this]
  exact ⟨h1,h2⟩
 ·have e1:Sz 22 (1:Rat):=j5 (k:=22) (i:=1) (by decide) (by decide)
  have e0:Sz 22 (0:Rat):=jX (by decide)
  have:w=(1,0)\/w=(0,1):=by simpa using hw
  rcases this with rfl | rfl
  ·exact ⟨e1,e0⟩
  ·exact ⟨e0,e1⟩
theorem iK.len (h:iK ws):ws.length<=2:=by
 rcases h with rfl | ⟨x,y,rfl,_⟩ | rfl <;> simp
theorem fU.snoc (g:fU pins)(h1:p.nm∉pins.map (·.nm))(h2:p.sp∉pins.map (·.sp))(h3:Sz 44 p.sp.1/\Sz 44 p.sp.2)(h4:iK p.ws):fU (pins++[p]):=by
 refine ⟨?_,?_,fun q hq=>?_,fun q hq=>?_⟩
 ·rw [aa3,abA]
  refine ⟨g.np,by simp,fun a ha b hb e=>h1 ?_⟩
  have:b=p.nm:=by simpa using hb
  rw [<- this, <- e]
  exact ha
 ·rw [aa3,abA]
  refine ⟨g.ns,by simp,fun a ha b hb e=>h2 ?_⟩
  have:b=p.sp:=by simpa using hb
  rw [<- this, <- e]
  exact ha
 ·rcases aaG.mp hq with z | z
  ·exact g.sz q z
  ·rw [aas.mp z]
   exact h3
 ·rcases aaG.mp hq with z | z
  ·exact g.ws q z
  ·rw [aas.mp z]
   exact h4
structure mC (pins:ο)(bars:ς):Prop where
 nb:(bars.map (·.nm)).Nodup
 ends:∀b∈bars,b.one∈pins/\b.other∈pins/\b.one.nm≠b.other.nm
theorem f' :∀{l₁:List α} {l₂:List β} {a:α} {b:β},Paired F l₁ l₂->F a b->Paired F (l₁++[a]) (l₂++[b])
 | _,_,_,_,.nil,h=>.cons h .nil
 | _,_,_,_,.cons h t,h' =>.cons h (f' t h')
theorem eJ (inv:L2.St->Hp->Prop)(h1:∀N:L2.St->Hp->Prop,(∀σ' H',inv σ' H' ->N σ' H')->t {D with nx:=N} σ H)(h2:∀σ' H',inv σ' H' ->u D σ' H'):Tv t u D σ H:=h1 _ h2
theorem We (g:fU pins)(b:mC pins bars)(lp:pins.length<=9)(lb:bars.length<=14):fu pins bars:=
 ⟨g.np,b.nb,b.ends,fun p hp=>⟨(g.sz p hp).1,(g.sz p hp).2,(g.ws p hp).sz⟩,lp,lb,fun p hp=>(g.ws p hp).len⟩
theorem Wf:bootBuiltins "min"=some (.builtin "min"):=by decide+kernel
def cnt (pins:ο)(x:Rat):Nat:=(pins.filter fun p=>decide (x<=p.sp.1)).length
theorem Kj (x:Rat):∀pins:List aD,cnt pins (x+1)<=cnt pins x
 | []=>aac _
 | p::ps=>by
  have ih:=Kj x ps
  unfold cnt at ih ⊢
  rw [ab1,ab1]
  by_cases c:x+1<=p.sp.1
  ·have c2:x<=p.sp.1:=by grind
   rw [if_pos (decide_eq_true c),if_pos (decide_eq_true c2)]
   simpa using ih
  ·rw [if_neg (by simpa using c)]
   split
   ·rw [abf]
    omega
   ·exact ih
theorem Kk :∀{pins:ο},(∃p∈pins,p.sp.1=x)->cnt pins (x+1) < cnt pins x
 | [],⟨p,h,_⟩=>by simp at h
 | p::ps,⟨q,hq,e⟩=>by
  unfold cnt
  rw [ab1,ab1]
  by_cases c0:p.sp.1=x
  ·have c:¬ x+1<=p.sp.1:=by grind
   have c2:x<=p.sp.1:=by grind
   rw [if_neg (by simpa using c),if_pos (decide_eq_true c2),abf]
   have:=Kj x ps
   unfold cnt at this
   omega
  ·have h8 :q∈ps:=by
    rcases aaQ.mp hq with z | z
    ·exact absurd (by rw [<- z];exact e) c0
    ·exact z
   have ih:=Kk (pins:=ps) ⟨q,h8,e⟩
   unfold cnt at ih
   by_cases c:x+1<=p.sp.1
   ·have c2:x<=p.sp.1:=by grind
    rw [if_pos (decide_eq_true c),if_pos (decide_eq_true c2)]
    simpa using ih
   ·rw [if_neg (by simpa using c)]
    split
    ·rw [abf]
     omega
    ·exact ih
theorem Nf (pins:ο)(x:Rat):cnt pins x<=pins.length:=ab0 _ _
theorem Ng (r:Rat):g_ (qr r) (1,1)=qr (r+1):=by
 have e:g_ (qr r) (1,1)=((qr r).1+(qr r).2,(qr r).2):=by
  unfold g_
  simp
 have g:aby ((qr r).1+(qr r).2) (qr r).2=1:=by
  have:=oR r
  rw [<- this]
  simp
 rw [e,rY (q:=((qr r).1+(qr r).2,(qr r).2)) (dH r) g]
 congr 1
 have z:=xP (r:=r)
 have v:=gA r
 unfold vl at v ⊢
 push_cast
 grind
theorem OO (h:Sz k r):Ns k (qr r):=⟨ab7 (intBits_le_iff.mp h.top),ab7 (intBits_le_iff.mp h.bot)⟩
theorem Nh:∀i:Fin 10,∃N:Fin 6,gO [V.int 0,.int 1,.int 2,.int 2,.int 3,.int 3,.int 3,.int 4,.int 4,.int 5] (i.val:Int)=some (.int (N.val:Int)):=by decide+kernel
theorem FH:∀st:Fin 3,∀a:Fin 6,∀k:Fin 12,nameOf (st.val:Int) (a.val:Int) (k.val:Int)≠ "free"/\nameOf (st.val:Int) (a.val:Int) (k.val:Int)≠ "far":=by decide+kernel
inductive um (K:Frag)(vs:η)(H:Hp)(Q:VK)(E_:XK):Prop where
 | mk (sA:Addr) (ns:ξ) (_:vs=[.ref sA]) (_:aX K H sA (ns.map V.int)) (_:∀(l:Addr) (us:η) (pins:ο) (H' :Hp),au H H' ->H l=none->H' l=some (.lst us)->Paired (jw K H' l) us pins->fU pins->pins.length<=5->(∀p∈pins,(p.nm≠ "free"/\p.nm≠ "far")/\p.sp.1<=500010/\Sz 20 p.sp.2/\ -500002<=p.sp.2/\p.sp.2<=500002)->Q (.ref l) H'):um K vs H Q E_
theorem j6:aE ["_law_script","_law_cell","_law_many","_law_kind","_law_pins_here","_law_k","_law_spot_here"] zaH (ag D'):=sq
theorem Wg (D:Def K mg "_law_pins" D' zaH)(bC:mg "range"=none)(Kl:mg "min"=none)(pT:Fn P w K mg base (a_ P w) 1 "_law_cell_at" zas (pO K))(dJ:Fn P w K mg base (a_ P w) 1 "_law_field" zab e_)
  (acu:Fn P w K mg base (a_ P w) 34 "_law_spot" zaD (uh K)) (Ni:Fn P w K mg base (a_ P w) 34 "_law_ways" zaN (nX K)) (RC:Fn P w K mg base (a_ P w) 2 "_law_name" zaA ug) (yt:Fn P w K mg base (a_ P w) 1 "_law_sum" zad (eI K g_)):
  Fn P w K mg base (a_ P w) 35 "_law_pins" zaH (um K):=by
 refine D.ok j6 (fun vs H Q E h=>?_) (fun f bJ A outer s H vs Q E hr h=>?_)
 ·obtain ⟨sA,ns,rfl,_⟩:=h
  rfl
 obtain ⟨sA,ns,rfl,hS,q⟩:=h
 have L2:2<=sizeLine:=by decide
 have L3:3<=sizeLine:=by decide
 refine ⟨_,(ae (aG (i:=1) j6.nd rfl (aad rfl) (aC pT hr.mo pX (ar (pv 0) (ar ak aa))))
  (ae (aG (i:=2) j6.nd rfl (aad rfl) (bo aY (cN (ar ak (ar ak (ar ak (ar ak (ar ak (ar ak (ar ak (ar ak (ar ak (ar ak aa))))))))))) (aC dJ hr.mo pX (ar (pv 1) (ar ak (ar ak aa)))) (fun _ _=>rfl)))
  (ae (aG (i:=3) j6.nd rfl (aad rfl) (aC dJ hr.mo pX (ar (pv 1) (ar ak (ar ak aa)))))
  (ae (bu (aS eK (pv 3) ak (aZ _)) (aj (aG (i:=2) j6.nd rfl (aad rfl) (aJ (BL rfl) rfl Kl Wf (ar (pv 2) (ar ak aa))))) aK)
  (ae (aG (i:=4) j6.nd rfl (aad rfl) (cN aa))
  (ae (bB PassesOwn.never rfl (bV rfl bC (ar (pv 2) aa)) (av (i:=5) j6.nd rfl (aad rfl)) (ae (aG (i:=6) j6.nd rfl (aad rfl) (aC acu hr.mo pX (ar (aC pT hr.mo pX (ar (pv 0) (ar (aT cG ak (pv 5)) aa))) (ar (pv 3) aa))))
   (ae (og PassesOwn.never (aS (Mw hr.units) (pv 6) (cO (tn:=zaI) (fr:=[]) (caps:=[]) rfl ⟨rfl,by decide+kernel,rfl,by decide+kernel,by decide+kernel,rfl,trivial,trivial⟩ (bx (pv 4)) (fun _ _ _ _=>(av (i:=0) (show (zaI:List Str).Nodup from by decide+kernel) rfl (aad rfl))) (fun _ _ _ _=>cY) (fun _ _ _ _=>(bo (dq (K:=K) rfl) (pv 0) ak (fun _ _=>rfl)))) rfl) (aj (aG (i:=6) j6.nd rfl (aad rfl) (aV (ar (aC yt hr.mo pX (ar (aR (pv 6)) (ar (aV (ar ak (ar ak aa))) aa))) (ar (aR (pv 6)) aa))))))
   (aj (bg (ja PySem.F.plainAttrs_list PySem.F.slot_list_append PySem.F.type_list_append eO (pv 4) (ar (aV (ar (aC RC hr.mo pX (ar (pv 1) (ar (pv 5) aa))) (ar (pv 6) (ar (aC Ni hr.mo pX (ar (aC pT hr.mo pX (ar (pv 0) (ar (aT cG ak (pv 5)) aa))) aa)) aa)))) aa)))))))
  (aj (aH (pv 4))))))))),?_⟩
 refine ⟨_,rfl,sA,ns,0,rfl,hS,by decide,by decide,?_⟩
 generalize cell ns 0=c0
 refine ⟨(by show 10<=sizeLine;decide),?_⟩
 intro t0 nt0;generalize eX:upd _ t0 _=H0;have ⟨st0,et0⟩:=nw nt0 eX;clear eX
 have i1:=bf (c:=c0) (p:=1009) (m:=10) (by decide)
 refine ⟨_,rfl,_,_,_,rfl,by decide,by decide,by decide,?_⟩
 generalize field c0 1009 10=fi at i1 ⊢
 obtain ⟨fn,rfl⟩:∃n:Nat,fi=(n:Int):=⟨fi.toNat,by omega⟩
 obtain ⟨N,eN⟩:=Nh ⟨fn,by omega⟩
 refine ⟨t0,_,_,_,rfl,rfl,aX.of et0,eN,?_⟩
 refine ⟨_,rfl,_,_,_,rfl,by decide,by decide,by decide,?_⟩
 generalize field c0 2003 3=kind
 dsimp only
 refine eJ (fun σ' H' =>∃N:Nat,N<=5/\σ' =[some (.ref sA),some (.int c0),some (.int (N:Int)),some (.int kind),none,none,none]/\H' =H0) (fun Nx qS=>?_) ?_
 ·refine ⟨_,rfl,rfl,_,rfl,?_⟩
  refine bq (fun _=>?_) (fun _=>?_)
  ·have hN:=N.isLt
   refine ⟨_,rfl,_,_,rfl,?_⟩
   refine qS _ _ ⟨min N.val 4,by omega,?_,rfl⟩
   have:(if (4:Int) < (N.val:Int) then (4:Int) else (N.val:Int))=((min N.val 4:Nat):Int):=by
    split <;> omega
   rw [this]
   rfl
  ·exact qS _ _ ⟨N.val,by have:=N.isLt;omega,rfl,rfl⟩
 rintro σ' H' ⟨N,hN,rfl,rfl⟩
 refine ⟨(by show 0<=sizeLine;decide),?_⟩
 intro lp np;generalize eX:upd _ lp _=H1;have ⟨sp,ep⟩:=nw np eX;clear eX
 have s01:=st0.trans sp
 have wm:H lp=none:=st0.free np
 refine ⟨_,rfl,(N:Int),rfl,by omega,by omega,b8 (lo:=0) (n:=N) (fun i σ H' =>∃(o5 o6:χ) (us:η) (pins:ο),σ=[some (.ref sA),some (.int c0),some (.int (N:Int)),some (.int kind),some (.ref lp),o5,o6]/\au H H' /\H' lp=some (.lst us)/\Paired (jw K H' lp) us pins/\fU pins/\pins.length=i/\∀p∈pins,∃j,j < i/\p.nm=nameOf (field c0 3001 3) (field c0 4001 6) (j:Int)/\p.sp.1<=500010/\Sz 20 p.sp.2/\ -500002<=p.sp.2/\p.sp.2<=500002) ⟨none,none,[],[],rfl,s01,ep,.nil,⟨by simp,by simp,by simp,by simp⟩,rfl,by simp⟩ ?_ ?_⟩
 ·rintro i σ H2 hi ⟨o5,o6,us,pins,rfl,s2,e2,pp,gp,lpi,nm⟩
  have ei:(0:Int)+(i:Int)=(i:Int):=abn _
  rw [ei]
  have lu:us.length=pins.length:=Paired.length pp
  refine ⟨_,rfl,_,rfl,_,_,rfl,rfl,sA,ns,_,rfl,s2.seq hS,by omega,by omega,_,rfl,?_⟩
  refine ⟨_,_,rfl,fun p3 x0 y0 H3 s3 zx zy xb yb h3=>?_⟩
  have s23:=s2.trans s3
  have h30:ft K H3 (.ref p3) (x0+((0:Nat):Rat),y0):=by
   have e:x0+((0:Nat):Rat)=x0:=by
    have:((0:Nat):Rat)=0:=by rfl
    rw [this]
    grind
   rw [e]
   exact h3
  dsimp only
  refine eJ (fun σ' H' =>∃(sv:V) (x:Rat),σ' =[some (.ref sA),some (.int c0),some (.int (N:Int)),some (.int kind),some (.ref lp),some (.int (i:Int)),some sv]/\au H3 H' /\ft K H' sv (x,y0)/\(Sz 44 x/\x<=500010)/\(x,y0)∉pins.map (·.sp)) (fun Nx qS=>?_) ?_
  ·refine ⟨fun m σ H' =>∃(sv:V) (j:Nat),σ=[some (.ref sA),some (.int c0),some (.int (N:Int)),some (.int kind),some (.ref lp),some (.int (i:Int)),some sv]/\au H3 H' /\ft K H' sv (x0+(j:Rat),y0)/\m=cnt pins (x0+(j:Rat))/\j+cnt pins (x0+(j:Rat))<=pins.length,⟨_,_,0,rfl,au.refl _,h30,rfl,by have:=Nf pins (x0+((0:Nat):Rat));omega⟩,?_⟩
   rintro m σ H4 ⟨sv,j,rfl,s4,h4,rfl,hj⟩
   have e4:=(s3.trans s4) _ _ e2
   have pp4:Paired (jw K H4 lp) us pins:=Paired.bF pp fun _ _ z=>z.same (s3.trans s4)
   have zj:Sz 44 (x0+(j:Rat)):=(zx.add (kN (i:=(j:Int)) (k:=3) (show _ < 8 by omega) (by decide))).up (by decide)
   refine ⟨_,rfl,_,rfl,lp,rfl,⟨_,aX.of e4⟩,fun D1 n1=>?_⟩
   refine dk (cap:=[]) (K:=K) (a:=lp) (xs:=us) (fun i v H=>∃p,pins[i]? =some p/\ft K H v p.sp) n1 (by rw [lu];exact aaj (show pins.length<=1000 by omega) (by decide)) (fun H2 s2=>aX.of (s2 _ _ e4)) (fun _ _ _ _ _ h0 ks h=>by
     obtain ⟨p,h1,h2⟩:=h
     refine ⟨p,h1,h2.aU fun b xs r=>?_⟩
     rcases r with r | ⟨o',r⟩
     ·exact .inl (ks _ _ (fun e=>by rw [e,h0] at r;cases r) r)
     ·exact .inr ⟨o',ks _ _ (fun e=>by rw [e,h0] at r;cases r) r⟩) ?_ ?_
   ·intro jj u H6 R hu s6 k
    obtain ⟨p,u6,hp⟩:=aw pp4 hu
    obtain ⟨a,l,sv,i5,rfl,h1,h2,_⟩:=hp
    exact ⟨_,rfl,a,_,_,_,rfl,rfl,Ty.au.bX s6 h1,rfl,k _ _ (au.refl _) ⟨p,u6,h2.same s6⟩⟩
   intro ys H6 hy gj s6 hD
   have pq:ie K H6 ys (pins.map (·.sp)):=dy (by rw [aaa,hy,lu]) fun j u q' B_ S6 =>by
    obtain ⟨p,h1,h2⟩:=gj j u B_
    rw [Wp,h1] at S6
    cases S6
    exact h2
   have h6:=h4.same s6
   refine ⟨(x0+(j:Rat),y0),D1,ys,_,rfl,aX.of hD,h6,pq,_,rfl,?_⟩
   refine bq (fun cc=>?_) (fun cc=>?_)
   ·have mem:(x0+(j:Rat),y0)∈pins.map (·.sp):=by simpa using cc
    obtain ⟨p,hp,u6⟩:=aab.mp mem
    have lt:=Kk (x:=x0+(j:Rat)) ⟨p,hp,by rw [u6]⟩
    have ej:x0+(j:Rat)+1=x0+((j+1:Nat):Rat):=by
     push_cast
     grind
    rw [ej] at lt
    refine ⟨fun σ' H' =>∃(sv:V),σ' =[some (.ref sA),some (.int c0),some (.int (N:Int)),some (.int kind),some (.ref lp),some (.int (i:Int)),some sv]/\au H3 H' /\ft K H' sv (x0+((j+1:Nat):Rat),y0),fun σ' H' ⟨Wh,h1,h2,h3⟩=>⟨_,lt,Wh,j+1,h1,h2,h3,rfl,by omega⟩,?_⟩
    obtain ⟨sa,u1,u2,rfl,uo,RD,K4⟩:=h6
    refine ⟨_,rfl,sa,_,_,_,rfl,rfl,uo,iE,L2,?_⟩
    intro p7 n7;generalize eX:upd _ p7 _=H7;have ⟨s7,e7⟩:=nw n7 eX;clear eX
    refine ⟨u1,.ref p7,qr (x0+(j:Rat)),(1,1),44,1,rfl,RD.same s7,⟨p7,rfl,bT.of e7⟩,OO zj,⟨by decide,by decide⟩,by decide,fun p8 H8 s8 e8=>?_⟩
    rw [Ng,ej] at e8
    refine ⟨_,rfl,sa,_,_,_,rfl,rfl,Ty.au.bX (s7.trans s8) uo,h_,L2,?_⟩
    intro p9 n9;generalize eX:upd _ p9 _=H9;have ⟨s9,e9⟩:=nw n9 eX;clear eX
    have s69:=(s7.trans s8).trans s9
    exact ⟨.ref p9,rfl,(s4.trans s6).trans s69,j4 e9 ((j3 e8).same s9) (K4.same s69)⟩
   ·have fresh:(x0+(j:Rat),y0)∉pins.map (·.sp):=by simpa using cc
    exact qS _ _ ⟨sv,x0+(j:Rat),rfl,s4.trans s6,h6,⟨zj,(by have ZT :((j:Int):Rat)<=((5:Int):Rat):=acA.mpr (by omega);have e1:((j:Int):Rat)=(j:Rat):=rfl;have e2:((5:Int):Rat)=5:=rfl;rw [e1,e2] at ZT;grind)⟩,fresh⟩
  rintro σ' H4 ⟨sv,x,rfl,s4,h4,⟨zx',xb'⟩,fresh⟩
  have S9:=s3.trans s4
  have so:=s2.trans S9
  have e4:=S9 _ _ e2
  have pp4:Paired (jw K H4 lp) us pins:=Paired.bF pp fun _ _ z=>z.same S9
  refine ⟨_,rfl,.inl ⟨rfl,_,aX.of e4⟩,_,rfl,_,rfl,_,_,rfl,by omega,by omega,_,rfl,?_⟩
  refine ⟨_,rfl,_,rfl,_,_,rfl,rfl,sA,ns,_,rfl,so.seq hS,by omega,by omega,?_⟩
  refine ⟨_,rfl,fun l8 Wi ws H8 wk s8 n8 e8 p8=>⟨L3,?_⟩⟩
  intro p9 n9;generalize eX:upd _ p9 _=H9;have ⟨s9,e9⟩:=nw n9 eX;clear eX
  have Nj:=s8.trans s9
  have e49:=Nj _ _ e4
  have nQ:Paired (jw K H9 lp) us pins:=Paired.bF pp4 fun _ _ z=>z.same Nj
  refine ⟨lp,_,_,rfl,rfl,e49,(by rw [lu];exact aaj (show pins.length<=1000 by omega) (by decide)),?_⟩
  have qF:jw K H9 lp (.ref p9) ⟨nameOf (field c0 3001 3) (field c0 4001 6) (i:Int),(x,y0),ws⟩:=⟨p9,l8,sv,Wi,rfl,bT.of e9,h4.same Nj,s9 _ _ e8,p8.same s9,fun z=>by rw [z,e4] at n8;cases n8⟩
  refine ⟨_,_,_,pins++[⟨nameOf (field c0 3001 3) (field c0 4001 6) (i:Int),(x,y0),ws⟩],rfl,fun b o z=>?_,ah,f' (Paired.bF nQ fun _ _ z=>z.upd e49) (qF.upd e49),gp.snoc (fun z=>?_) fresh ⟨zx',zy.up (by decide)⟩ wk,by simp [lpi],fun p hp=>?_⟩
  ·rw [ao (aq z wm)]
   exact Nj _ _ (so _ _ z)
  ·obtain ⟨p,hp,u6⟩:=aab.mp z
   obtain ⟨j,hj,ej,_⟩:=nm p hp
   have i3:=bf (c:=c0) (p:=3001) (m:=3) (by decide)
   have i4:=bf (c:=c0) (p:=4001) (m:=6) (by decide)
   have:=wL ⟨(field c0 3001 3).toNat,by omega⟩ ⟨(field c0 4001 6).toNat,by omega⟩ ⟨j,by omega⟩ ⟨i,by omega⟩ (fun z=>by
    have:=congrArg Fin.val z
    simp at this
    omega)
   refine this ?_
   show nameOf (((field c0 3001 3).toNat:Nat):Int) (((field c0 4001 6).toNat:Nat):Int) (j:Int)=nameOf (((field c0 3001 3).toNat:Nat):Int) (((field c0 4001 6).toNat:Nat):Int) (i:Int)
   rw [show (((field c0 3001 3).toNat:Nat):Int)=field c0 3001 3 by omega,show (((field c0 4001 6).toNat:Nat):Int)=field c0 4001 6 by omega, <- ej]
   exact u6
  ·rcases aaG.mp hp with z | z
   ·obtain ⟨j,hj,ej,eb⟩:=nm p z
    exact ⟨j,by omega,ej,eb⟩
   ·rw [aas.mp z]
    exact ⟨i,by omega,rfl,xb',zy,yb⟩
 ·rintro σ H2 ⟨o5,o6,us,pins,rfl,s2,e2,pp,gp,lpi,nm⟩
  refine ⟨_,rfl,q lp us pins H2 s2 wm e2 pp gp (by omega) fun p hp=>?_⟩
  obtain ⟨j,hj,ej,eb⟩:=nm p hp
  refine ⟨?_,eb⟩
  rw [ej]
  have f1:=bf (c:=c0) (p:=3001) (m:=3) (by decide)
  have f2:=bf (c:=c0) (p:=4001) (m:=6) (by decide)
  obtain ⟨u,hu⟩:∃n:Nat,field c0 3001 3=(n:Int):=⟨(field c0 3001 3).toNat,by omega⟩
  obtain ⟨v,hv⟩:∃n:Nat,field c0 4001 6=(n:Int):=⟨(field c0 4001 6).toNat,by omega⟩
  rw [hu,hv]
  exact FH ⟨u,by omega⟩ ⟨v,by omega⟩ ⟨j,by omega⟩
inductive uq (K:Frag)(vs:η)(H:Hp)(Q:VK)(E_:XK):Prop where
 | mk (sA pA:Addr) (ns:ξ) (us:η) (pins:ο) (_:vs=[.ref sA,.ref pA]) (_:aX K H sA (ns.map V.int)) (_:H pA=some (.lst us)) (_:us.length=pins.length) (_:(pins.map (·.nm)).Nodup) (_:pins.length<=6) (_:∀(l:Addr) (cA :η) (bars:ς) (H' :Hp),au H H' ->H l=none->H' l=some (.lst cA)->Paired (iL K H' pins) cA bars->mC pins bars->bars.length<=7->Q (.ref l) H'):uq K vs H Q E_
theorem mC.snoc (g:mC pins bars)(h1:b.nm∉bars.map (·.nm))(h2:b.one∈pins/\b.other∈pins/\b.one.nm≠b.other.nm):mC pins (bars++[b]):=by
 refine ⟨?_,fun q hq=>?_⟩
 ·rw [aa3,abA]
  refine ⟨g.nb,by simp,fun a ha c hc e=>h1 ?_⟩
  have:c=b.nm:=by simpa using hc
  rw [<- this, <- e]
  exact ha
 ·rcases aaG.mp hq with z | z
  ·exact g.ends q z
  ·rw [aas.mp z]
   exact h2
theorem mD:aE ["_law_script","_law_pins_here","_law_cell","_law_many","_law_bars_here","_law_k","_law_one_here","_law_step"] zav (ag EA):=sq
theorem Wj (D:Def K mg "_law_bars" EA zav)(bC:mg "range"=none)(a8:mg "len"=none)(pT:Fn P w K mg base (a_ P w) 1 "_law_cell_at" zas (pO K))(dJ:Fn P w K mg base (a_ P w) 1 "_law_field" zab e_)(RC:Fn P w K mg base (a_ P w) 2 "_law_name" zaA ug):
  Fn P w K mg base (a_ P w) 3 "_law_bars" zav (uq K):=by
 refine D.ok mD (fun vs H Q E h=>?_) (fun f bJ A outer s H vs Q E hr h=>?_)
 ·obtain ⟨sA,pA,ns,us,pins,rfl,_⟩:=h
  rfl
 obtain ⟨sA,pA,ns,us,pins,rfl,hS,hp,lu,np,lp,q⟩:=h
 have L3:3<=sizeLine:=by decide
 refine ⟨_,(ae (aG (i:=2) mD.nd rfl (aad rfl) (aC pT hr.mo pX (ar (pv 0) (ar ak aa))))
  (ae (aG (i:=3) mD.nd rfl (aad rfl) (aC dJ hr.mo pX (ar (pv 2) (ar ak (ar ak aa)))))
  (ae (bu (aS vc (aJ aI rfl a8 bZ (ar (pv 1) aa)) ak (aZ _)) (aj (aG (i:=3) mD.nd rfl (aad rfl) ak)) aK)
  (ae (aG (i:=4) mD.nd rfl (aad rfl) (cN aa))
  (ae (bB PassesOwn.never rfl (bV rfl bC (ar (pv 3) aa)) (av (i:=5) mD.nd rfl (aad rfl)) (ae (aG (i:=6) mD.nd rfl (aad rfl) (aC dJ hr.mo pX (ar (aC pT hr.mo pX (ar (pv 0) (ar (aT cG ak (pv 5)) aa))) (ar ak (ar (aJ aI rfl a8 bZ (ar (pv 1) aa)) aa)))))
   (ae (aG (i:=7) mD.nd rfl (aad rfl) (aT cG ak (aC dJ hr.mo pX (ar (aC pT hr.mo pX (ar (pv 0) (ar (aT cG ak (pv 5)) aa))) (ar ak (ar (aT eM (aJ aI rfl a8 bZ (ar (pv 1) aa)) ak) aa))))))
   (aj (bg (ja PySem.F.plainAttrs_list PySem.F.slot_list_append PySem.F.type_list_append eO (pv 4) (ar (aV (ar (aC RC hr.mo pX (ar (pv 2) (ar (pv 5) aa))) (ar (pv 6) (ar (aT fY (aT cG (pv 6) (pv 7)) (aJ aI rfl a8 bZ (ar (pv 1) aa))) aa)))) aa)))))))
  (aj (aH (pv 4)))))))),?_⟩
 refine ⟨_,rfl,sA,ns,1,rfl,hS,by decide,by decide,?_⟩
 generalize cell ns 1=c0
 have i1:=bf (c:=c0) (p:=1009) (m:=8) (by decide)
 refine ⟨_,rfl,_,_,_,rfl,by decide,by decide,by decide,?_⟩
 generalize field c0 1009 8=fi at i1 ⊢
 obtain ⟨fn,rfl⟩:∃n:Nat,fi=(n:Int):=⟨fi.toNat,by omega⟩
 dsimp only
 refine eJ (fun σ' H' =>∃N:Nat,N<=7/\(0 < N->2<=pins.length)/\σ' =[some (.ref sA),some (.ref pA),some (.int c0),some (.int (N:Int)),none,none,none,none]/\H' =H) (fun Nx qS=>?_) ?_
 ·refine ⟨_,rfl,pA,_,rfl,.inl (aX.of hp),_,_,rfl,rfl,_,rfl,?_⟩
  refine bq (fun _=>?_) (fun c=>?_)
  ·exact qS _ _ ⟨0,by omega,by omega,rfl,rfl⟩
  ·have c' :¬ (us.length:Int) < 2:=fun z=>c (decide_eq_true z)
   exact qS _ _ ⟨fn,by omega,fun _=>by omega,rfl,rfl⟩
 rintro σ' Hy ⟨N,hN,hN2,rfl,rfl⟩
 refine ⟨(by show 0<=sizeLine;decide),?_⟩
 intro lb nb;generalize eX:upd _ lb _=H1;have ⟨sb,eb⟩:=nw nb eX;clear eX
 refine ⟨_,rfl,(N:Int),rfl,by omega,by omega,b8 (lo:=0) (n:=N) (fun i σ H' =>∃(o5 o6 o7:χ) (cA :η) (bars:ς),σ=[some (.ref sA),some (.ref pA),some (.int c0),some (.int (N:Int)),some (.ref lb),o5,o6,o7]/\au Hy H' /\H' lb=some (.lst cA)/\Paired (iL K H' pins) cA bars/\mC pins bars/\bars.length=i/\∀b∈bars,∃j,j < i/\b.nm=nameOf (field c0 3001 3) (field c0 4001 6) (j:Int)) ⟨none,none,none,[],[],rfl,sb,eb,.nil,⟨by simp,by simp⟩,rfl,by simp⟩ ?_ ?_⟩
 ·rintro i σ H2 hi ⟨o5,o6,o7,cA,bars,rfl,s2,e2,pb,gb,lbi,nm⟩
  have ei:(0:Int)+(i:Int)=(i:Int):=abn _
  rw [ei]
  have n2:2<=pins.length:=hN2 (by omega)
  have lv:cA.length=bars.length:=Paired.length pb
  have sp:=aX.of (K:=K) (s2 _ _ hp)
  refine ⟨_,rfl,_,rfl,_,_,rfl,rfl,sA,ns,_,rfl,s2.seq hS,by omega,by omega,_,rfl,pA,_,rfl,.inl sp,_,_,_,rfl,by decide,by decide,by omega,?_⟩
  have j1:=bf (c:=cell ns (8+(i:Int))) (p:=1009) (m:=(us.length:Int)) (by omega)
  have j2:=bf (c:=cell ns (8+(i:Int))) (p:=2003) (m:=(us.length:Int) - 1) (by omega)
  refine ⟨_,rfl,_,rfl,_,_,rfl,rfl,sA,ns,_,rfl,s2.seq hS,by omega,by omega,_,rfl,pA,_,rfl,.inl sp,_,_,rfl,rfl,_,_,_,rfl,by decide,by decide,by omega,_,_,rfl,rfl,?_⟩
  generalize field (cell ns (8+(i:Int))) 1009 (us.length:Int)=one at j1 ⊢
  generalize field (cell ns (8+(i:Int))) 2003 ((us.length:Int) - 1)=step at j2 ⊢
  obtain ⟨on,rfl⟩:∃n:Nat,one=(n:Int):=⟨one.toNat,by omega⟩
  have oo:∃m:Nat,((on:Int)+(1+step)).fmod (us.length:Int)=(m:Int)/\m < us.length/\m≠on:=by
   have f:=nR (x:=(on:Int)+(1+step)) (m:=(us.length:Int)) (by omega)
   refine ⟨(((on:Int)+(1+step)).fmod (us.length:Int)).toNat,by omega,by omega,fun z=>?_⟩
   have e:((on:Int)+(1+step)).fmod (us.length:Int)=(on:Int):=by omega
   rw [Int.fmod_eq_emod_of_nonneg _ (by omega)] at e
   by_cases c:(on:Int)+(1+step) < (us.length:Int)
   ·rw [ai0 (by omega) c] at e
    omega
   ·rw [<- Int.sub_emod_right,ai0 (by omega) (by omega)] at e
    omega
  obtain ⟨Z',S6,l2',ne2⟩:=oo
  refine ⟨_,rfl,.inl ⟨rfl,_,aX.of e2⟩,_,rfl,_,rfl,_,_,rfl,by omega,by omega,_,rfl,_,rfl,_,rfl,_,_,rfl,rfl,_,rfl,pA,_,rfl,.inl sp,_,_,rfl,rfl,nz (by omega),L3,?_⟩
  intro p9 n9;generalize eX:upd _ p9 _=H9;have ⟨s9,e9⟩:=nw n9 eX;clear eX
  have e9:H9 p9=some (.tup [.str (nameOf (field c0 3001 3) (field c0 4001 6) (i:Int)),.int (on:Int),.int (((on:Int)+(1+step)).fmod (us.length:Int))]):=e9
  rw [S6] at e9
  have e29:=s9 _ _ e2
  refine ⟨lb,_,_,rfl,rfl,e29,(by rw [lv];exact aaj (show bars.length<=1000 by omega) (by decide)),?_⟩
  have l1:on < pins.length:=by omega
  have l2:Z' < pins.length:=by omega
  have st:bD H9 (upd H9 lb (.lst (cA ++[.ref p9]))):=.list e29
  have ns9:∀(v:V) (b:ba),iL K H2 pins v b->iL K (upd H9 lb (.lst (cA ++[.ref p9]))) pins v b:=fun v b h=>by
   obtain ⟨a,i',j',e,h1,h2,h3⟩:=h.same s9
   exact ⟨a,i',j',e,st.bX h1,h2,h3⟩
  refine ⟨_,_,_,cA ++[.ref p9],bars++[⟨nameOf (field c0 3001 3) (field c0 4001 6) (i:Int),pins[on],pins[Z']⟩],rfl,fun b o z=>?_,ah,f' (Paired.bF pb fun _ _ z=>ns9 _ _ z) ?_,gb.snoc (fun z=>?_) ⟨ab2 l1,ab2 l2,fun z=>?_⟩,by simp [lbi],fun b hb=>?_⟩
  ·rw [ao (aq z nb)]
   exact s9 _ _ (s2 _ _ z)
  ·exact ⟨p9,on,Z',rfl,st.bX (bT.of e9),gE l1,gE l2⟩
  ·obtain ⟨b,hb,u6⟩:=aab.mp z
   obtain ⟨j,hj,ej⟩:=nm b hb
   have i3:=bf (c:=c0) (p:=3001) (m:=3) (by decide)
   have i4:=bf (c:=c0) (p:=4001) (m:=6) (by decide)
   have:=wL ⟨(field c0 3001 3).toNat,by omega⟩ ⟨(field c0 4001 6).toNat,by omega⟩ ⟨j,by omega⟩ ⟨i,by omega⟩ (fun z=>by
    have:=congrArg Fin.val z
    simp at this
    omega)
   refine this ?_
   show nameOf (((field c0 3001 3).toNat:Nat):Int) (((field c0 4001 6).toNat:Nat):Int) (j:Int)=nameOf (((field c0 3001 3).toNat:Nat):Int) (((field c0 4001 6).toNat:Nat):Int) (i:Int)
   rw [show (((field c0 3001 3).toNat:Nat):Int)=field c0 3001 3 by omega,show (((field c0 4001 6).toNat:Nat):Int)=field c0 4001 6 by omega, <- ej]
   exact u6
  ·have q1:(pins.map (·.nm))[on]? =some pins[on].nm:=by rw [Wp,gE l1];rfl
   have q2:(pins.map (·.nm))[Z']? =some pins[on].nm:=by rw [Wp,gE l2];exact congrArg some z.symm
   exact ne2 ((adm (by rw [aaa];omega) np).mp (q1.trans q2.symm)).symm
  ·rcases aaG.mp hb with z | z
   ·obtain ⟨j,hj,ej⟩:=nm b z
    exact ⟨j,by omega,ej⟩
   ·rw [aas.mp z]
    exact ⟨i,by omega,rfl⟩
 ·rintro σ H2 ⟨o5,o6,o7,cA,bars,rfl,s2,e2,pb,gb,lbi,nm⟩
  exact ⟨_,rfl,q lb cA bars H2 s2 nb e2 pb gb (by omega)⟩
theorem AH (v:V):ab' ("ways":Str) [(("way":Str),v)]=none:=by
 have h:(("ways":Str)=="way")=false:=by decide+kernel
 simp [ab',h]
inductive pU (K:Frag)(C:Addr)(vs:η)(H:Hp)(Q:VK)(E_:XK):Prop where
 | mk (pA bA:Addr) (us cA :η) (pins:ο) (bars:ς) (_:vs=[.ref pA,.ref bA]) (_:H pA=some (.lst us)) (_:Paired (i6 K H) us pins) (_:H bA=some (.lst cA)) (_:Paired (iL K H pins) cA bars) (_:fU pins) (_:mC pins bars) (_:pins.length<=9) (_:bars.length<=14) (_:∀(a dx pP pW pB:Addr) (kP kW kB:δ) (H' :Hp),au H H' ->eC K H' C a dx pP pW pB (pins.map fun p=>(p.nm,qz p.sp)) (bars.map fun b=>(b.nm,b.one.nm,b.other.nm)) kP kW kB->qA K H' (pins.map fun p=>(p.nm,p.ws)) kW->(∀kv∈kW,∀b o,H b=some o->kv.2≠.ref b)->H pP=none->H pW=none->H pB=none->Q (.ref a) H'):pU K C vs H Q E_
theorem mE:aE ["_law_pins_here","_law_bars_here","_law_frame_here","_law_name_here","_law_spot_here","_law_ways_here","_law_one_here","_law_other"] zat (ag EB):=sq
theorem Wk {C CR CF fI fR:Addr}(D:Def K mg "_law_frame" EB zat)(a8:mg "len"=none)(RE:Mk K C fI)(RF:mg "Frame"=some (.ref C))(acy:cJ P w K mg base (a_ P w) 1 fI fdI zag (tP K C))(RG:Binds K fdI zag [])
  (FI:mg "Roller"=some (.ref CR)) (FJ:mg "Fixed"=some (.ref CF)) (FK:SI K CF) (FL:Mk K CR fR) (RH:cJ P w K mg base (a_ P w) 1 fR Wm zaz (nL K CR)) (FN:Binds K Wm zaz [])
  (wR:bI P w K mg base (a_ P w) 2 CR "ways" zag (gT K CR)) (wF:bI P w K mg base (a_ P w) 2 CF "ways" zag (gU K))
  (MPb:bI P w K mg base (a_ P w) 3 C "put_bar" zak (jR K C)) (OP:bI P w K mg base (a_ P w) 3 C "put_pin" zap (cT P w K mg base C)) (S_:tw P w K mg base (a_ P w) 3 C "put_pin" zap [.none] (cT P w K mg base C)):
  Fn P w K mg base (a_ P w) 4 "_law_frame" zat (pU K C):=by
 refine D.ok mE (fun vs H Q E h=>?_) (fun f bJ A outer s H vs Q E hr h=>?_)
 ·obtain ⟨pA,bA,us,cA,pins,bars,rfl,_⟩:=h
  rfl
 obtain ⟨pA,bA,us,cA,pins,bars,rfl,hp,pp,hb,pb,gp,gb,lp6,lb8,q⟩:=h
 have lu:us.length=pins.length:=Paired.length pp
 refine ⟨_,(ae (aG (i:=2) mE.nd rfl (aad rfl) (HP RE acy hr.mo rfl RF RG .nil (pY P w)))
  (ae (bB PassesOwn.never rfl (bx (pv 0)) (dG rfl (aQ (av (i:=3) mE.nd rfl (aad rfl)) (aQ (av (i:=4) mE.nd rfl (aad rfl)) (aQ (av (i:=5) mE.nd rfl (aad rfl)) cu)))) (ae (bu (aS eK (aJ aI rfl a8 bZ (ar (pv 5) aa)) ak (aZ _)) (aj (bg (zB (k:=3) (pv 2) hr.mo (pY P w) (ar (pv 3) (ar (aR (pv 4)) (ar (aR (pv 4)) aa)))))) aK)
   (ae (bu (aS eK (aJ aI rfl a8 bZ (ar (pv 5) aa)) ak (aZ _)) (aj (bg (cZ (k:=3) (pv 2) hr.mo (pY P w) (ar (pv 3) (ar (aR (pv 4)) (ar (aR (pv 4)) (ar (za FL RH hr.mo rfl FI FN .nil (pY P w) (ar (aR (zN (pv 5))) (ar (aR (zN (pv 5))) aa))) aa))))))) aK)
   (aj (bu (aS eK (aJ aI rfl a8 bZ (ar (pv 5) aa)) ak (aZ _)) (aj (bg (cZ (k:=3) (pv 2) hr.mo (pY P w) (ar (pv 3) (ar (aR (pv 4)) (ar (aR (pv 4)) (ar (IL FK rfl FJ) aa))))))) aK)))))
  (ae (bB PassesOwn.never rfl (bx (pv 1)) (dG rfl (aQ (av (i:=3) mE.nd rfl (aad rfl)) (aQ (av (i:=6) mE.nd rfl (aad rfl)) (aQ (av (i:=7) mE.nd rfl (aad rfl)) cu)))) (aj (bg (cZ (k:=3) (pv 2) hr.mo (pY P w) (ar (pv 3) (ar (aR (bo aY (pv 0) (pv 6) (fun _ _=>rfl))) (ar (aR (bo aY (pv 0) (pv 7) (fun _ _=>rfl))) aa)))))))
  (aj (aH (pv 2)))))),?_⟩
 intro a dx na ndx nad
 have sF:au H (upd (upd H dx (.own a)) a (.ins C dx [])):=fun b o e=>by rw [ao (aq e na),ao (aq e ndx)];exact e
 refine ⟨a,dx,rfl,ah,fun pP pW pB H1 k1 nP nW nB R1=>⟨rfl,?_⟩⟩
 have s1:au H H1:=fun b o e=>k1 b o (aq e na) (sF _ _ e)
 have nP:=kO sF nP
 have nW:=kO sF nW
 have nB:=kO sF nB
 refine ⟨_,rfl,pA,rfl,⟨_,aX.of (s1 _ _ hp)⟩,bW (K:=K) (a:=pA) (xs:=us) (fun i σ H' =>∃(o4 o5 o6:χ) (kP kW:δ),σ=[some (.ref pA),some (.ref bA),some (.ref a),o4,o5,o6,none,none]/\au H H' /\eC K H' C a dx pP pW pB ((pins.take i).map fun p=>(p.nm,qz p.sp)) [] kP kW []/\qA K H' ((pins.take i).map fun p=>(p.nm,p.ws)) kW/\∀kv∈kW,∀b o,H b=some o->kv.2≠.ref b) ⟨none,none,none,[],[],rfl,s1,R1,.nil,fun kv h=>(nomatch h)⟩ (fun i σ H' _ h=>by
   obtain ⟨_,_,_,_,_,_,s,_⟩:=h
   exact aX.of (s _ _ hp)) ?_ ?_⟩
 ·rintro i u σ H2 hu ⟨o4,o5,o6,kP,kW,rfl,s2,R2,W2,nw⟩
  obtain ⟨p,ep,RI⟩:=aw pp hu
  have mp:p∈pins:=ir ep
  obtain ⟨ta,l,sv,ws,rfl,h1,h2,h3,h4⟩:=RI.same s2
  obtain ⟨sa,x1,y1,rfl,uo,RD,K4⟩:=h2
  refine ⟨ta,_,rfl,h1,rfl,_,_,rfl,_,_,rfl,_,_,rfl,rfl,?_⟩
  have tk:=take_snoc ep
  have il:i < pins.length:=(be.mp ep).1
  have nlP:l≠pP:=fun z=>by rw [z,R2.pl] at h3;cases h3
  have nlW:l≠pW:=fun z=>by rw [z,R2.wy] at h3;cases h3
  have fin:∀(hv:V) (H5:Hp) (Q5:VK) (E5:XK),au H2 H5->JQ P w K mg base H5 hv p.ws->
    (∀H' qM jc,au H H' ->H' l=some (.lst ws)->eC K H' C a dx pP pW pB ((pins.take (i+1)).map fun p=>(p.nm,qz p.sp)) [] qM jc []->qA K H' ((pins.take (i+1)).map fun p=>(p.nm,p.ws)) jc ->(∀kv∈jc,∀b o,H b=some o->kv.2≠.ref b)->Q5 .cw H')->cT P w K mg base C [.ref a,.str p.nm,x1,y1,hv] H5 Q5 E5:=fun hv H5 Q5 E5 s5 hY fin=>by
   refine ⟨a,dx,pP,pW,pB,_,_,kP,kW,_,_,p.nm,x1,y1,hv,qz p.sp,p.ws,rfl,R2.same s5,W2.same s5,by rw [aaT,aaT];rfl,RD.same s5,K4.same s5,fun z=>?_,fun z hz e=>?_,?_,hY,fun H' qM jc k' R' W' nl' =>?_⟩
   ·rw [aaT] at z
    obtain ⟨p',kY,e'⟩:=aab.mp z
    exact jM (nm:=aD.nm) gp.np ep kY e'
   ·obtain ⟨p',kY,e'⟩:=aab.mp hz
    rw [<- e'] at e
    have e1:=congrArg ajl e
    have e2:=congrArg ajm e
    have e3:p'.sp=p.sp:=ade (gR e1) (gR e2)
    obtain ⟨j,hj,ej⟩:=abT.mp kY
    rw [aiW] at ej
    rw [abb] at hj
    have q1:(pins.map (·.sp))[j]? =some p.sp:=by rw [Wp,gE (by omega),ej, <- e3];rfl
    have q2:(pins.map (·.sp))[i]? =some p.sp:=by rw [Wp,ep];rfl
    have:=(adm (by rw [aaa];omega) gp.ns).mp (q1.trans q2.symm)
    omega
   ·rw [aaa,abb]
    omega
   ·refine fin H' qM jc (fun b o z=>k' b o (aq z nP) (aq z nW) (s5 _ _ (s2 _ _ z))) (k' _ _ nlP nlW (s5 _ _ h3)) ?_ ?_ ?_
    ·rw [tk,aa3]
     exact R'
    ·rw [tk,aa3]
     exact W'
    ·obtain ⟨l9,e9,n9⟩:=nl'
     rw [e9]
     intro kv K_ b o hb z
     rcases aaG.mp K_ with h | h
     ·exact nw kv h b o hb z
     ·rw [aas.mp h] at z
      injection z with z
      have:=(s2.trans s5).free n9
      rw [z,hb] at this
      cases this
  have l2:=aX.of (K:=K) h3
  have lw:ws.length=p.ws.length:=Paired.length h4
  refine ⟨_,rfl,l,_,rfl,.inl l2,rfl,_,rfl,?_⟩
  rcases gp.ws p mp with hw | ⟨wx,wy,hw,wn,_,_⟩ | hw
  ·rw [hw] at lw
   refine bq (fun _=>?_) (fun c=>by rw [lw] at c;simp at c)
   refine ⟨_,rfl,a,C,dx,_,_,_,rfl,R2.obj,rfl,S_,_,rfl,_,rfl,sa,_,_,_,rfl,rfl,uo,iE,_,rfl,sa,_,_,_,rfl,rfl,uo,h_,?_⟩
   dsimp only [fV]
   refine fin .cw H2 _ _ (au.refl _) (.inl ⟨rfl,hw⟩) fun H' qM jc s' l' R' W' Wn =>?_
   have l' :=aX.of (K:=K) l'
   refine ⟨_,rfl,l,_,rfl,.inl l',rfl,_,rfl,?_⟩
   refine bq (fun c=>by rw [lw] at c;simp at c) (fun _=>?_)
   refine ⟨_,rfl,l,_,rfl,.inl l',rfl,_,rfl,?_⟩
   refine bq (fun c=>by rw [lw] at c;simp at c) (fun _=>?_)
   exact ⟨_,_,_,qM,jc,rfl,s',R',W',Wn⟩
  ·rw [hw] at lw h4
   obtain ⟨w0,rfl⟩:∃w0,ws=[w0]:=by
    match ws,lw with
    | [w0],_=>exact ⟨w0,rfl⟩
   have hw0:ft K H2 w0 (wx,wy):=by
    cases h4 with
    | cons h _=>exact h
   obtain ⟨wa,y2,y3,rfl,CB,Ms,Nk⟩:=hw0
   refine bq (fun c=>by simp at c) (fun _=>?_)
   refine ⟨_,rfl,l,_,rfl,.inl l2,rfl,_,rfl,?_⟩
   refine bq (fun _=>?_) (fun c=>absurd rfl c)
   refine ⟨_,rfl,a,C,dx,_,_,_,rfl,R2.obj,rfl,OP,_,rfl,_,rfl,sa,_,_,_,rfl,rfl,uo,iE,_,rfl,sa,_,_,_,rfl,rfl,uo,h_,?_⟩
   refine ⟨_,rfl,l,_,_,_,rfl,rfl,l2,rfl,wa,_,_,_,rfl,rfl,CB,iE,_,rfl,l,_,_,_,rfl,rfl,l2,rfl,wa,_,_,_,rfl,rfl,CB,h_,?_⟩
   intro dN d1 Nl RJ ne1
   have s4:au H2 (upd (upd H2 d1 (.own dN)) dN (.ins CR d1 [])):=fun b o e=>by rw [ao (aq e Nl),ao (aq e RJ)];exact e
   have e4:(upd (upd H2 d1 (.own dN)) dN (.ins CR d1 [])) dN =some (.ins CR d1 []):=ah
   generalize upd (upd H2 d1 (.own dN)) dN (.ins CR d1 [])=H4 at s4 e4 ⊢
   refine ⟨dN,d1,y2,y3,wx,wy,rfl,e4,Ms.same s4,Nk.same s4,wn,fun p5 n5=>⟨rfl,?_⟩⟩
   have uZ:p5≠dN :=fun z=>by rw [z,e4] at n5;cases n5
   have s5:au H2 (upd (upd H4 p5 (.tup [y2,y3])) dN (.ins CR d1 [("way",.ref p5)])):=fun b o e=>by
    have z:b≠dN :=fun z=>by rw [z,Nl] at e;cases e
    rw [ao z]
    exact aF n5 _ _ _ (s4 _ _ e)
   have e5:(upd (upd H4 p5 (.tup [y2,y3])) dN (.ins CR d1 [("way",.ref p5)])) dN =some (.ins CR d1 [("way",.ref p5)]):=ah
   have t5:(upd (upd H4 p5 (.tup [y2,y3])) dN (.ins CR d1 [("way",.ref p5)])) p5=some (.tup [y2,y3]):=by rw [ao uZ,ah]
   generalize upd (upd H4 p5 (.tup [y2,y3])) dN (.ins CR d1 [("way",.ref p5)])=H5 at s5 e5 t5 ⊢
   have RK:ft K H5 (.ref p5) (wx,wy):=j4 t5 (Ms.same s5) (Nk.same s5)
   dsimp only [fV]
   refine fin (.ref dN) H5 _ _ s5 (.inr ⟨dN,CR,d1,_,zag,gT K CR,rfl,e5,AH _,wR,fun H6 e6 t6 Q' an=>⟨dN,d1,p5,(wx,wy),rfl,e6,RK.aU t6,by rw [hw] at an;exact an⟩⟩) fun H' qM jc s' l' R' W' Wn =>?_
   refine ⟨_,rfl,l,_,rfl,.inl (aX.of (K:=K) l'),rfl,_,rfl,?_⟩
   refine bq (fun c=>by simp at c) (fun _=>?_)
   exact ⟨_,_,_,qM,jc,rfl,s',R',W',Wn⟩
  ·rw [hw] at lw
   refine bq (fun c=>by rw [lw] at c;simp at c) (fun _=>?_)
   refine ⟨_,rfl,l,_,rfl,.inl l2,rfl,_,rfl,?_⟩
   refine bq (fun c=>by rw [lw] at c;simp at c) (fun _=>?_)
   refine ⟨_,rfl,l,_,rfl,.inl l2,rfl,_,rfl,?_⟩
   refine bq (fun _=>?_) (fun c=>by rw [lw] at c;simp at c)
   refine ⟨_,rfl,a,C,dx,_,_,_,rfl,R2.obj,rfl,OP,_,rfl,_,rfl,sa,_,_,_,rfl,rfl,uo,iE,_,rfl,sa,_,_,_,rfl,rfl,uo,h_,?_⟩
   intro dN d1 Nl RJ ne1
   have s4:au H2 (upd (upd H2 d1 (.own dN)) dN (.ins CF d1 [])):=fun b o e=>by rw [ao (aq e Nl),ao (aq e RJ)];exact e
   have e4:(upd (upd H2 d1 (.own dN)) dN (.ins CF d1 [])) dN =some (.ins CF d1 []):=ah
   generalize upd (upd H2 d1 (.own dN)) dN (.ins CF d1 [])=H4 at s4 e4 ⊢
   dsimp only [fV]
   refine fin (.ref dN) H4 _ _ s4 (.inr ⟨dN,CF,d1,_,zag,gU K,rfl,e4,rfl,wF,fun H6 _ _ Q' an=>⟨dN,rfl,by rw [hw] at an;exact an⟩⟩) fun H' qM jc s' l' R' W' Wn =>?_
   exact ⟨_,_,_,qM,jc,rfl,s',R',W',Wn⟩
 ·rintro σ H2 ⟨o4,o5,o6,kP,kW,rfl,s2,R2,W2,nw⟩
  rw [lu,abl] at R2 W2
  have lv:cA.length=bars.length:=Paired.length pb
  refine ⟨_,rfl,bA,rfl,⟨_,aX.of (s2 _ _ hb)⟩,bW (K:=K) (a:=bA) (xs:=cA) (fun i σ H' =>∃(o3 o7 o8:χ) (kB:δ),σ=[some (.ref pA),some (.ref bA),some (.ref a),o3,o5,o6,o7,o8]/\au H H' /\eC K H' C a dx pP pW pB (pins.map fun p=>(p.nm,qz p.sp)) ((bars.take i).map fun b=>(b.nm,b.one.nm,b.other.nm)) kP kW kB/\qA K H' (pins.map fun p=>(p.nm,p.ws)) kW) ⟨_,none,none,[],rfl,s2,R2,W2⟩ (fun i σ H' _ h=>by
    obtain ⟨_,_,_,_,_,s,_⟩:=h
    exact aX.of (s _ _ hb)) ?_ ?_⟩
  ·rintro i u σ H3 hu ⟨o3,o7,o8,kB,rfl,s3,R3,W3⟩
   obtain ⟨b,ebr,hbr⟩:=aw pb hu
   have mb:b∈bars:=ir ebr
   obtain ⟨ta,i1,j1,rfl,h1,g1,g2⟩:=hbr.same s3
   obtain ⟨m1,m2,m3⟩:=gb.ends b mb
   have tk:=take_snoc ebr
   have il:i < bars.length:=(be.mp ebr).1
   have Wo :∀(k:Nat) (p:aD),pins[k]? =some p->∃(c la:Addr) (sv:V),gO us (k:Int)=some (.ref c)/\bT K H3 c [.str p.nm,sv,.ref la]:=fun k p ek=>by
    obtain ⟨u',OQ,hu'⟩:=aw (b6 pp) ek
    obtain ⟨c,la,sv,ws,rfl,q1,_⟩:=i6.same hu' s3
    exact ⟨c,la,sv,bS OQ,q1⟩
   obtain ⟨c1,la1,sv1,ea1,q1⟩:=Wo _ _ g1
   obtain ⟨c2,la2,sv2,ea2,q2⟩:=Wo _ _ g2
   refine ⟨ta,_,rfl,h1,rfl,_,_,rfl,_,_,rfl,_,_,rfl,rfl,?_⟩
   have lp3:=aX.of (K:=K) (s3 _ _ hp)
   refine ⟨_,rfl,a,C,dx,_,_,_,rfl,R3.obj,rfl,MPb,_,rfl,_,rfl,_,rfl,pA,_,_,_,rfl,rfl,lp3,ea1,c1,_,_,_,rfl,rfl,q1,rfl,_,rfl,_,rfl,pA,_,_,_,rfl,rfl,lp3,ea2,c2,_,_,_,rfl,rfl,q2,rfl,?_⟩
   refine ⟨a,dx,pP,pW,pB,_,_,kP,kW,kB,b.nm,b.one.nm,b.other.nm,rfl,R3,fun z=>?_,?_,?_,m3,?_,fun H' OB k' R' =>?_⟩
   ·rw [aaT] at z
    obtain ⟨b',gh,e'⟩:=aab.mp z
    exact jM (nm:=ba.nm) gb.nb ebr gh e'
   ·rw [aaT]
    exact aab.mpr ⟨_,m1,rfl⟩
   ·rw [aaT]
    exact aab.mpr ⟨_,m2,rfl⟩
   ·rw [aaa,abb]
    omega
   ·refine ⟨_,_,_,OB,rfl,fun c o z=>k' c o (aq z nB) (s3 _ _ z),?_,?_⟩
    ·rw [tk,aa3]
     exact R'
    ·refine Paired.bF W3 fun p' kv z=>⟨z.1,?_⟩
     obtain ⟨l',i5,z1,z2,z3⟩:=z.2
     refine ⟨l',i5,z1,k' _ _ (fun z=>by rw [z,R3.br] at z2;cases z2) z2,z3.aU fun c xs r=>?_⟩
     rcases r with r | ⟨o',r⟩
     ·exact .inl (k' _ _ (fun e=>by rw [e,R3.br] at r;cases r) r)
     ·exact .inr ⟨o',k' _ _ (fun e=>by rw [e,R3.br] at r;cases r) r⟩
  ·rintro σ H3 ⟨o3,o7,o8,kB,rfl,s3,R3,W3⟩
   rw [lv,abl] at R3
   exact ⟨_,rfl,q a dx pP pW pB kP kW kB H3 s3 R3 W3 nw nP nW nB⟩
def ax (k:Int)(p:Rat×Rat):Rat:=if k=0 then p.1 else p.2
theorem Km (hk:k=0\/k=1)(h:ft K H v p):∃(a:Addr) (xs:η) (u:V),v=.ref a/\bT K H a xs/\gO xs k=some u/\ig K H u (ax k p):=by
 obtain ⟨a,u1,u2,rfl,hq,h1,h2⟩:=h
 rcases hk with rfl | rfl
 ·exact ⟨a,_,u1,rfl,hq,rfl,h1⟩
 ·exact ⟨a,_,u2,rfl,hq,rfl,h2⟩
theorem Kn (h:Sz n p.1/\Sz n p.2):Sz n (ax k p):=by
 unfold ax
 split
 ·exact h.1
 ·exact h.2
theorem Ko {us:η}{pins:ο}{k:Nat}(pp:Paired (i6 K H) us pins)(e:pins[k]? =some p):∃(c la:Addr) (sv:V),gO us (k:Int)=some (.ref c)/\bT K H c [.str p.nm,sv,.ref la]/\ft K H sv p.sp:=by
 obtain ⟨u',OQ,hu'⟩:=aw (b6 pp) e
 obtain ⟨c,la,sv,ws,rfl,q1,q2,_⟩:i6 K H u' p:=hu'
 exact ⟨c,la,sv,bS OQ,q1,q2⟩
inductive yu (K:Frag)(vs:η)(H:Hp)(Q:VK)(E_:XK):Prop where
 | mk (pA:Addr) (us:η) (pins:ο) (u:V) (b:ba) (k:Int) (_:vs=[.ref pA,u,.int k]) (_:H pA=some (.lst us)) (_:Paired (i6 K H) us pins) (_:fU pins) (_:iL K H pins u b) (_:(k=0\/k=1)) (_:∀(v:V) (H' :Hp),au H H' ->lC K H' v 89 (ax k b.other.sp - ax k b.one.sp)->Q v H'):yu K vs H Q E_
theorem Wq:aE zam zam (ag EC):=sq
theorem Wr (D:Def K mg "_law_arm" EC zam)(yt:Fn P w K mg base (a_ P w) 1 "_law_sum" zad (eI K g_))(RL:Fn P w K mg base (a_ P w) 1 "_law_turned" zau (hG K)):
  Fn P w K mg base (a_ P w) 2 "_law_arm" zam (yu K):=by
 refine D.ok Wq (fun vs H Q E h=>?_) (fun f bJ A outer s H vs Q E hr h=>?_)
 ·obtain ⟨pA,us,pins,u,b,k,rfl,_⟩:=h
  rfl
 obtain ⟨pA,us,pins,u,b,k,rfl,hp,pp,gp,⟨ta,i,j,rfl,hb,e1,e2⟩,hk,q⟩:=h
 refine ⟨_,(aj (aH (aC yt hr.mo pX (ar (bo om (aR (bo aY (pv 0) (aR (pv 1)) (fun _ _=>rfl))) (pv 2) (fun _ _=>rfl)) (ar (aC RL hr.mo pX (ar (bo om (aR (bo aY (pv 0) (aR (pv 1)) (fun _ _=>rfl))) (pv 2) (fun _ _=>rfl)) aa)) aa))))),?_⟩
 obtain ⟨c1,l1,sv1,ea1,q1,r1⟩:=Ko pp e1
 obtain ⟨c2,l2,sv2,ea2,q2,r2⟩:=Ko pp e2
 obtain ⟨a1,xs1,u1,rfl,t1,v1,n1⟩:=Km hk r1
 obtain ⟨a2,xs2,u2,rfl,t2,v2,n2⟩:=Km hk r2
 have z1:=Kn (k:=k) (gp.sz _ (ir e1))
 have z2:=Kn (k:=k) (gp.sz _ (ir e2))
 have lp:=aX.of (K:=K) hp
 refine ⟨_,rfl,_,rfl,ta,_,_,_,rfl,rfl,hb,rfl,pA,_,_,_,rfl,rfl,lp,ea2,c2,_,_,_,rfl,rfl,q2,rfl,_,rfl,a2,_,_,_,rfl,rfl,t2,v2,_,rfl,_,rfl,ta,_,_,_,rfl,rfl,hb,rfl,pA,_,_,_,rfl,rfl,lp,ea1,c1,_,_,_,rfl,rfl,q1,rfl,_,rfl,a1,_,_,_,rfl,rfl,t1,v1,?_⟩
 dsimp only [fV]
 show hG K [_] _ _ E0
 refine wK (pQ n1 (Kd z1 (aac _))) fun p3 H3 s3 n3=>?_
 show eI K g_ [_,_] _ _ E0
 refine AE ((pQ n2 (Kd z2 (aac _))).same s3) n3 (by decide) fun p4 H4 s4 n4=>?_
 refine q (.ref p4) H4 (s3.trans s4) ?_
 rw [Rat.sub_eq_add_neg]
 exact n4
structure Found (K:Frag)(H:Hp)(fA:Addr)(ls:ω)(F:Nat->Rat×Rat)(B:Nat):Prop where
 hf:H fA=some (.lst (ls.map V.ref))
 nd:ls.Nodup
 nf:fA∉ls
 row:∀(i:Nat) (l:Addr),ls[i]? =some l->∃v1 v2,H l=some (.lst [v1,v2])/\lC K H v1 B (F i).1/\lC K H v2 B (F i).2
def KL (ls:ω)(H H' :Hp):Prop:=∀b o,b∉ls->H b=some o->H' b=some o
theorem Found.same (h:Found K H fA ls F B)(s:au H H'):Found K H' fA ls F B:=⟨s _ _ h.hf,h.nd,h.nf,fun i l e=>by
 obtain ⟨v1,v2,a,b,c⟩:=h.row i l e
 exact ⟨v1,v2,s _ _ a,b.same s,c.same s⟩⟩
theorem Found.up (h:Found K H fA ls F B)(l:B<=B'):Found K H fA ls F B' :=⟨h.hf,h.nd,h.nf,fun i x e=>by
 obtain ⟨v1,v2,a,b,c⟩:=h.row i x e
 exact ⟨v1,v2,a,b.up l,c.up l⟩⟩
theorem Found.aU (h:Found K H fA ls F B)(k:KL ls H H'):bD H H' :=fun b xs r=>by
 have key:∀o,H b=some o->(∀ys,o≠.lst ys)->H' b=some o:=fun o e n=>k b o (fun m=>by
  obtain ⟨i,ei⟩:=aag m
  obtain ⟨v1,v2,a,_⟩:=h.row i b ei
  rw [a] at e
  exact n _ (aao e).symm) e
 rcases r with r | ⟨o',r⟩
 ·exact .inl (key _ r fun ys z=>nomatch z)
 ·exact .inr ⟨o',key _ r fun ys z=>nomatch z⟩
def d6 (F:Nat->Rat×Rat)(k:Nat)(a:Int)(d:Rat):Nat->Rat×Rat:=fun i=>if i=k then (if a=0 then ((F i).1+d,(F i).2) else ((F i).1,(F i).2+d)) else F i
theorem ur (ha:a=0\/a=1)(hc:c=0\/c=1)(i:Nat):ax c (d6 F k a d i)=ax c (F i)+if i=k/\c=a then d else 0:=by
 unfold d6 ax
 by_cases hi:i=k
 ·subst hi
  rcases ha with rfl | rfl <;> rcases hc with rfl | rfl <;> simp <;> grind
 ·simp [hi]
  grind
inductive yv (K:Frag)(vs:η)(H:Hp)(Q:VK)(E_:XK):Prop where
 | mk (fA:Addr) (ls:ω) (F:Nat->Rat×Rat) (B:Nat) (k:Nat) (a:Int) (v:V) (m:Nat) (d:Rat) (_:vs=[.ref fA,.int (k:Int),.int a,v]) (_:Found K H fA ls F B) (_:k < ls.length) (_:(a=0\/a=1)) (_:lC K H v m d) (_:B+m<=130000000) (_:∀(H' :Hp),KL ls H H' ->Found K H' fA ls (d6 F k a d) (B+m+1)->Q .cw H'):yv K vs H Q E_
theorem Ws:aE zaj zaj (ag ED):=sq
theorem Wt (D:Def K mg "_law_add" ED zaj)(yt:Fn P w K mg base (a_ P w) 1 "_law_sum" zad (eI K g_)):
  Fn P w K mg base (a_ P w) 2 "_law_add" zaj (yv K):=by
 refine D.ok Ws (fun vs H Q E h=>?_) (fun f bJ A outer s H vs Q E hr h=>?_)
 ·obtain ⟨fA,ls,F,B,k,a,v,m,d,rfl,_⟩:=h
  rfl
 obtain ⟨fA,ls,F,B,k,a,v,m,d,rfl,hF,hk,ha,nv,le,q⟩:=h
 refine ⟨_,(aj (kz (aC yt hr.mo pX (ar (bo aY (bo aY (pv 0) (pv 1) (fun _ _=>rfl)) (pv 2) (fun _ _=>rfl)) (ar (pv 3) aa))) (oa (bo aY (pv 0) (pv 1) (fun _ _=>rfl)) (pv 2) set_list))),?_⟩
 obtain ⟨l,el⟩:∃l,ls[k]? =some l:=⟨_,gE hk⟩
 obtain ⟨v1,v2,hl,n1,n2⟩:=hF.row k l el
 have ek:gO (ls.map V.ref) (k:Int)=some (.ref l):=bS (by rw [Wp,el];rfl)
 have lm:l∈ls:=ir el
 have lf:l≠fA:=fun z=>hF.nf (z▸lm)
 obtain ⟨u,ea,nu⟩:∃u,gO [v1,v2] a=some u/\lC K H u B (ax a (F k)):=by
  rcases ha with rfl | rfl
  ·exact ⟨v1,rfl,n1⟩
  ·exact ⟨v2,rfl,n2⟩
 refine ⟨_,rfl,_,rfl,fA,_,_,_,rfl,rfl,aX.of hF.hf,ek,_,rfl,l,_,_,_,rfl,rfl,aX.of hl,ea,_,rfl,?_⟩
 dsimp only [fV]
 show eI K g_ [_,_] _ _ E0
 refine AE nu nv le fun p3 H3 s3 n3=>?_
 obtain ⟨j,ej,hj⟩:∃j,HS [v1,v2].length a=some j/\((a=0/\j=0)\/(a=1/\j=1)):=by
  rcases ha with rfl | rfl
  ·exact ⟨0,rfl,.inl ⟨rfl,rfl⟩⟩
  ·exact ⟨1,rfl,.inr ⟨rfl,rfl⟩⟩
 refine ⟨_,rfl,_,rfl,fA,_,_,_,rfl,rfl,aX.of (s3 _ _ hF.hf),ek,_,rfl,l,_,_,j,rfl,rfl,s3 _ _ hl,ej,?_⟩
 have F3:=hF.same s3
 have kl:KL ls H (upd H3 l (.lst ([v1,v2].set j (.ref p3)))):=fun b o nb e=>by
  rw [ao (fun z=>nb (by rw [z];exact lm))]
  exact s3 _ _ e
 have k3:KL ls H3 (upd H3 l (.lst ([v1,v2].set j (.ref p3)))):=fun b o nb e=>by
  rw [ao (fun z=>nb (by rw [z];exact lm))]
  exact e
 have st:=F3.aU k3
 refine q _ kl ⟨?_,hF.nd,hF.nf,fun i l' e=>?_⟩
 ·rw [ao (aba lf)]
  exact F3.hf
 ·by_cases c:i=k
  ·subst c
   rw [el] at e
   cases e
   refine ⟨([v1,v2].set j (.ref p3))[0]?.getD .cw,([v1,v2].set j (.ref p3))[1]?.getD .cw,?_,?_,?_⟩
   ·rw [ah]
    rcases hj with ⟨_,rfl⟩ | ⟨_,rfl⟩ <;> rfl
   ·unfold d6
    rw [if_pos rfl]
    rcases hj with ⟨rfl,rfl⟩ | ⟨rfl,rfl⟩
    ·exact n3.aU st
    ·exact ((n1.same s3).aU st).up (by omega)
   ·unfold d6
    rw [if_pos rfl]
    rcases hj with ⟨rfl,rfl⟩ | ⟨rfl,rfl⟩
    ·exact ((n2.same s3).aU st).up (by omega)
    ·exact n3.aU st
  ·obtain ⟨w1,w2,g1,g2,g3⟩:=F3.row i l' e
   have nl:l' ≠l:=fun z=>c (ck hF.nd e (z▸el))
   refine ⟨w1,w2,?_,?_,?_⟩
   ·rw [ao nl]
    exact g1
   ·unfold d6
    rw [if_neg c]
    exact (g2.aU st).up (by omega)
   ·unfold d6
    rw [if_neg c]
    exact (g3.aU st).up (by omega)
structure OR (K:Frag)(H:Hp)(pA bA:Addr)(us vs:η)(pins:ο)(bars:ς):Prop where
 hp:H pA=some (.lst us)
 pp:Paired (i6 K H) us pins
 gp:fU pins
 hb:H bA=some (.lst vs)
 pb:Paired (iL K H pins) vs bars
 en:∀b∈bars,b.one.nm≠b.other.nm
 lp:pins.length<=9
 lb:bars.length<=14
theorem OR.same (h:OR K H pA bA us vs pins bars)(s:au H H'):OR K H' pA bA us vs pins bars:=⟨s _ _ h.hp,Paired.bF h.pp fun _ _ z=>z.same s,h.gp,s _ _ h.hb,Paired.bF h.pb fun _ _ z=>z.same s,h.en,h.lp,h.lb⟩
structure LFo (K:Frag)(H:Hp)(tA uA:Addr)(ts xs:η)(pins:ο)(bars:ς)(T:Ψ)(U:Ζ)(N:Nat):Prop where
 ht:H tA=some (.lst ts)
 pt:Paired (fun v (b:ba)=>lC K H v N (T b.nm)) ts bars
 hu:H uA=some (.lst xs)
 pu:Paired (fun v (p:aD)=>∃la ys,v=.ref la/\H la=some (.lst ys)/\Paired (fun v r=>lC K H v N r) ys (U p.nm)) xs pins
 lU:∀p∈pins,(U p.nm).length=p.ws.length
 hN:N<=1000000
theorem KL.same (hn:∀l∈ls,H l=none)(s:au H H6)(k:KL ls H6 H7):au H H7:=fun b o e=>k b o (fun m=>by rw [hn b m] at e;cases e) (s b o e)
def j7 (T:Ψ)(bs:ς)(a:Int)(p:aD):Rat:=(bs.map fun b=>T b.nm*ax a (mv (gG b) p.nm)).sum
theorem yw :j7 T (bs++[b]) a p=j7 T bs a p+T b.nm*ax a (mv (gG b) p.nm):=by
 unfold j7
 rw [aa3,List.sum_append,aah,adh,aiL,List.sum_nil]
 grind
theorem Kp {pins:ο}(nd:(pins.map (·.nm)).Nodup){i j:Nat}(hi:pins[i]? =some p)(hj:pins[j]? =some q)(e:p.nm=q.nm):i=j:=ck nd (x:=q.nm) (by rw [Wp,hi, <- e];rfl) (by rw [Wp,hj];rfl)
theorem Kq {pins:ο}(nd:(pins.map (·.nm)).Nodup)(hb:b.one.nm≠b.other.nm){i i1 i2:Nat}(hi:pins[i]? =some p)(h1:pins[i1]? =some b.one)(h2:pins[i2]? =some b.other)(t:Rat)(k:Int):
  (if i=i1 then t*(ax k b.other.sp - ax k b.one.sp) else 0)+(if i=i2 then -(t*(ax k b.other.sp - ax k b.one.sp)) else 0)=t*ax k (mv (gG b) p.nm):=by
 have n12:i1≠i2:=fun z=>by rw [z,h2] at h1;exact hb (by rw [aao h1])
 unfold mv gG
 by_cases c1:i=i1
 ·subst c1
  rw [h1] at hi
  cases hi
  rw [if_pos rfl,if_neg n12,if_pos rfl]
  show _=t*ax k (tW b.one b.other)
  unfold ax tW
  split <;> grind
 ·rw [if_neg c1,if_neg (fun z=>c1 (Kp nd hi h1 z))]
  by_cases c2:i=i2
  ·subst c2
   rw [h2] at hi
   cases hi
   rw [if_pos rfl,if_pos rfl]
   show _=t*ax k (tW b.other b.one)
   unfold ax tW
   split <;> grind
  ·rw [if_neg c2,if_neg (fun z=>c2 (Kp nd hi h2 z))]
   show (0:Rat)+0=t*ax k (0,0)
   unfold ax
   split <;> grind
inductive pV (K:Frag)(vs:η)(H:Hp)(Q:VK)(E_:XK):Prop where
 | mk (pA bA tA uA:Addr) (us ws ts xs:η) (pins:ο) (bars:ς) (T:Ψ) (U:Ζ) (N:Nat) (_:vs=[.ref pA,.ref bA,.ref tA,.ref uA]) (_:OR K H pA bA us ws pins bars) (_:LFo K H tA uA ts xs pins bars T U N) (_:∀(fA:Addr) (ls:ω) (F:Nat->Rat×Rat) (H' :Hp),au H H' ->ls.length=pins.length->Found K H' fA ls F (1+92*(N+91))->(∀(i:Nat) (p:aD),pins[i]? =some p->(F i).1=g8 bars T U p (·.1)/\(F i).2=g8 bars T U p (·.2))->Q (.ref fA) H'):pV K vs H Q E_
theorem mF:aE ["_law_pins_here","_law_bars_here","_law_pulls","_law_pushes","_law_found","_law_k","_law_axis","_law_draw","_law_j"] zaa (ag EE):=sq
theorem Wu (D:Def K mg "_law_forces" EE zaa)(a8:mg "len"=none)(bC:mg "range"=none)(Wv:Fn P w K mg base (a_ P w) 1 "_law_times" zad (eI K qR))(RL:Fn P w K mg base (a_ P w) 1 "_law_turned" zau (hG K))(acF:Fn P w K mg base (a_ P w) 2 "_law_arm" zam (yu K))(RM:Fn P w K mg base (a_ P w) 2 "_law_add" zaj (yv K)):
  Fn P w K mg base (a_ P w) 3 "_law_forces" zaa (pV K):=by
 refine D.ok mF (fun vs H Q E h=>?_) (fun f bJ A outer s H vs Q E hr h=>?_)
 ·obtain ⟨pA,bA,tA,uA,us,ws,ts,xs,pins,bars,T,U,N,rfl,_⟩:=h
  rfl
 obtain ⟨pA,bA,tA,uA,us,ws,ts,xs,pins,bars,T,U,N,rfl,fr,fo,q⟩:=h
 have L2:2<=sizeLine:=by decide
 have hN:=fo.hN
 have lp:=fr.lp
 have lb:=fr.lb
 have lu:us.length=pins.length:=Paired.length fr.pp
 have lw:ws.length=bars.length:=Paired.length fr.pb
 refine ⟨_,(ae (nh (i:=4) mF.nd rfl (aad rfl) (tn:=zaI) (fr:=[]) (caps:=[]) rfl ⟨rfl,by decide+kernel,rfl,by decide+kernel,by decide+kernel,rfl,trivial,trivial⟩ (bx (pv 0)) (fun _ _ _ _=>(av (i:=0) (show (zaI:List Str).Nodup from by decide+kernel) rfl (aad rfl))) (fun _ _ _ _=>cY) (fun _ _ _ _=>(cN (ar (aV (ar ak (ar ak aa))) (ar (aV (ar ak (ar ak aa))) aa)))))
  (ae (bB PassesOwn.never rfl (bV rfl bC (ar (aJ aI rfl a8 bZ (ar (pv 1) aa)) aa)) (av (i:=5) mF.nd rfl (aad rfl)) (aj (bB PassesOwn.never rfl (bV rfl bC (ar ak aa)) (av (i:=6) mF.nd rfl (aad rfl)) (ae (aG (i:=7) mF.nd rfl (aad rfl) (aC Wv hr.mo pX (ar (bo aY (pv 2) (pv 5) (fun _ _=>rfl)) (ar (aC acF hr.mo pX (ar (pv 0) (ar (bo aY (pv 1) (pv 5) (fun _ _=>rfl)) (ar (pv 6) aa)))) aa))))
    (ae (bg (aC RM hr.mo pX (ar (pv 4) (ar (aR (bo aY (pv 1) (pv 5) (fun _ _=>rfl))) (ar (pv 6) (ar (pv 7) aa))))))
    (aj (bg (aC RM hr.mo pX (ar (pv 4) (ar (aR (bo aY (pv 1) (pv 5) (fun _ _=>rfl))) (ar (pv 6) (ar (aC RL hr.mo pX (ar (pv 7) aa)) aa))))))))))))
  (ae (bB PassesOwn.never rfl (bV rfl bC (ar (aJ aI rfl a8 bZ (ar (pv 0) aa)) aa)) (av (i:=5) mF.nd rfl (aad rfl)) (aj (bB PassesOwn.never rfl (bV rfl bC (ar (aJ aI rfl a8 bZ (ar (aR (bo aY (pv 0) (pv 5) (fun _ _=>rfl))) aa)) aa)) (av (i:=8) mF.nd rfl (aad rfl)) (aj (bB PassesOwn.never rfl (bV rfl bC (ar ak aa)) (av (i:=6) mF.nd rfl (aad rfl)) (aj (bg (aC RM hr.mo pX (ar (pv 4) (ar (pv 5) (ar (pv 6) (ar (aC Wv hr.mo pX (ar (bo aY (bo aY (pv 3) (pv 5) (fun _ _=>rfl)) (pv 8) (fun _ _=>rfl)) (ar (bo om (bo aY (aR (bo aY (pv 0) (pv 5) (fun _ _=>rfl))) (pv 8) (fun _ _=>rfl)) (pv 6) (fun _ _=>rfl)) aa))) aa))))))))))))
  (aj (aH (pv 4)))))),?_⟩
 refine ⟨_,rfl,pA,rfl,⟨_,aX.of fr.hp⟩,fun fA n1=>?_⟩
 refine xU (cap:=[]) (K:=K) (a:=pA) (xs:=us) (fun ys H' =>∃ls:List Addr,ys=ls.map V.ref/\ls.Nodup/\fA∉ls/\∀l∈ls,H l=none/\∃p q:Addr,H' l=some (.lst [.ref p,.ref q])/\H' p=some (.tup [.int 0,.int 1])/\H' q=some (.tup [.int 0,.int 1])) n1 (by rw [lu];exact aaj (show pins.length<=100 by omega) (by decide)) (fun H2 s2=>aX.of (s2 _ _ fr.hp)) ⟨[],rfl,acv,by simp,fun l h=>by cases h⟩ ?_ ?_
 ·intro i x ys H2 R hx ly hJ s2 hD k
  obtain ⟨ls,rfl,nd,nf,hl⟩:=hJ
  refine ⟨L2,?_⟩
  intro p3 n3;generalize eX:upd _ p3 _=H3;have ⟨s3,e3⟩:=nw n3 eX;clear eX
  refine ⟨L2,?_⟩
  intro p4 n4;generalize eX:upd _ p4 _=H4;have ⟨s4,e4⟩:=nw n4 eX;clear eX
  refine ⟨L2,?_⟩
  intro l5 n5;generalize eX:upd _ l5 _=H5;have ⟨s5,e5⟩:=nw n5 eX;clear eX
  have wC:=s3.trans (s4.trans s5)
  have D5:=wC _ _ hD
  have D4:=s4 _ _ (s3 _ _ hD)
  refine k _ _ wC ⟨ls++[l5],by simp,?_,?_,fun l hm=>?_⟩
  ·rw [abA]
   refine ⟨nd,by simp,fun a ha b hb z=>?_⟩
   have gh :b=l5:=by simpa using hb
   obtain ⟨_,p,q,h1,_⟩:=hl a ha
   rw [z,gh] at h1
   rw [s4 _ _ (s3 _ _ h1)] at n5
   cases n5
  ·intro z
   rcases aaG.mp z with z | z
   ·exact nf z
   ·rw [<- aas.mp z,D4] at n5
    cases n5
  ·rcases aaG.mp hm with z | z
   ·obtain ⟨h0,p,q,h1,h2,h3⟩:=hl l z
    refine ⟨h0,p,q,?_,?_,?_⟩
    ·rw [ao (fun e:l=fA=>nf (by rw [<- e];exact z))]
     exact wC _ _ h1
    ·rw [ao (fun e=>by rw [e,hD] at h2;cases h2)]
     exact wC _ _ h2
    ·rw [ao (fun e=>by rw [e,hD] at h3;cases h3)]
     exact wC _ _ h3
   ·have z:=aas.mp z
    subst z
    refine ⟨(s2.trans (s3.trans s4)).free n5,p3,p4,?_,?_,?_⟩
    ·rw [ao (fun e=>by rw [e,D4] at n5;cases n5)]
     exact e5
    ·rw [ao (fun e=>by rw [e,hD] at n3;cases n3)]
     exact s5 _ _ (s4 _ _ e3)
    ·rw [ao (fun e=>by rw [e,s3 _ _ hD] at n4;cases n4)]
     exact s5 _ _ e4
 intro ys H2 ly hJ s2 hD
 obtain ⟨ls,rfl,nd,nf,hl⟩:=hJ
 have hn:∀l∈ls,H l=none:=fun l m=>(hl l m).1
 have ll:ls.length=pins.length:=by rw [<- lu, <- ly,aaa]
 have z0:∀(p:Addr) (H' :Hp),H' p=some (.tup [.int 0,.int 1])->lC K H' (.ref p) 1 0:=fun p H' e=>⟨(0,1),⟨p,rfl,bT.of e⟩,by decide,by decide+kernel,by decide,by decide⟩
 have F0:Found K H2 fA ls (fun _=>(0,0)) (1+0*(4*(N+91))):=⟨hD,nd,nf,fun i l e=>by
  obtain ⟨_,p,q,h1,h2,h3⟩:=hl l (ir e)
  rw [aid]
  exact ⟨_,_,h1,z0 p _ h2,z0 q _ h3⟩⟩
 have en:((ws.length:Nat):Int).toNat=ws.length:=by omega
 refine ⟨_,rfl,bA,_,rfl,.inl (aX.of (s2 _ _ fr.hb)),((ws.length:Nat):Int),rfl,by omega,by omega,b8 (lo:=0) (n:=((ws.length:Nat):Int).toNat) (fun t σ H' =>∃(F:Nat->Rat×Rat) (o5 o6 o7:χ),σ=[some (.ref pA),some (.ref bA),some (.ref tA),some (.ref uA),some (.ref fA),o5,o6,o7,none]/\au H H' /\Found K H' fA ls F (1+t*(4*(N+91)))/\∀(i:Nat) (p:aD),pins[i]? =some p->∀a:Int,(a=0\/a=1)->ax a (F i)=j7 T (bars.take t) a p) ⟨_,none,none,none,rfl,s2,F0,fun i p _ a _=>?_⟩ ?_ ?_⟩
 ·show ax a (0,0)=0
  unfold ax
  split <;> rfl
 ·rintro t σ H3 ht ⟨F,o5,o6,o7,rfl,s3,F3,hF⟩
  have ek:(0:Int)+(t:Int)=(t:Int):=abn _
  rw [ek]
  have htw:t < ws.length:=by omega
  obtain ⟨b,eb,hbr⟩:=aw fr.pb (gE htw)
  have mb:b∈bars:=ir eb
  obtain ⟨tv,etv,htv⟩:=aw (b6 fo.pt) eb
  have abt:gO ws (t:Int)=some ws[t]:=bS (gE htw)
  have att:gO ts (t:Int)=some tv:=bS etv
  have bt:t*(4*(N+91))<=13*(4*(N+91)):=abd _ (by omega)
  generalize hB:1+t*(4*(N+91))=B at F3
  refine ⟨(2:Int),rfl,by decide,by decide,b8 (lo:=0) (n:=2) (fun k σ H' =>∃(F:Nat->Rat×Rat) (o6 o7:χ),σ=[some (.ref pA),some (.ref bA),some (.ref tA),some (.ref uA),some (.ref fA),some (.int (t:Int)),o6,o7,none]/\au H H' /\Found K H' fA ls F (B+k*(2*(N+91)))/\∀(i:Nat) (p:aD),pins[i]? =some p->∀a:Int,(a=0\/a=1)->ax a (F i)=j7 T (bars.take t) a p+if a < (k:Int) then T b.nm*ax a (mv (gG b) p.nm) else 0) ⟨F,o6,o7,rfl,s3,by rw [aid];exact F3,fun i p e a ha=>?_⟩ ?_ ?_⟩
  ·rw [hF i p e a ha,if_neg (by rcases ha with rfl | rfl <;> decide)]
   grind
  ·rintro k σ H4 hk ⟨F,o6,o7,rfl,s4,F4,hF⟩
   have ek:(0:Int)+(k:Int)=(k:Int):=abn _
   rw [ek]
   have SU:(k:Int)=0\/(k:Int)=1:=by omega
   have fr4:=fr.same s4
   have bk:k*(2*(N+91))<=1*(2*(N+91)):=abd _ (by omega)
   obtain ⟨ta,i1,i2,eta,hbt,e1,e2⟩:=hbr.same s4
   have Ql:i1 < ls.length:=by rw [ll];exact (be.mp e1).1
   have Uq:i2 < ls.length:=by rw [ll];exact (be.mp e2).1
   refine ⟨_,rfl,_,rfl,tA,_,_,_,rfl,rfl,aX.of (s4 _ _ fo.ht),att,_,rfl,_,rfl,_,rfl,bA,_,_,_,rfl,rfl,aX.of fr4.hb,abt,_,rfl,pA,us,pins,_,b,(k:Int),rfl,fr4.hp,fr4.pp,fr.gp,hbr.same s4,SU,fun v5 H5 s5 n5=>?_⟩
   dsimp only [fV]
   show eI K qR [_,_] _ _ E0
   refine AF ((htv.same s4).same s5) n5 (by omega) fun p6 H6 s6 n6=>?_
   have yr:=s4.trans (s5.trans s6)
   rw [eta] at abt
   have F6:=F4.same (s5.trans s6)
   refine ⟨_,rfl,_,rfl,_,rfl,bA,_,_,_,rfl,rfl,aX.of (yr _ _ fr.hb),abt,ta,_,_,_,rfl,rfl,Ty.au.bX (s5.trans s6) hbt,rfl,_,rfl,_,rfl,fA,ls,F,_,i1,(k:Int),_,_,_,rfl,F6,Ql,SU,n6,by omega,fun H7 k7 F7=>?_⟩
   have RO:=KL.same hn yr k7
   have n7:=n6.aU (F6.aU k7)
   refine ⟨_,rfl,_,rfl,_,rfl,bA,_,_,_,rfl,rfl,aX.of (RO _ _ fr.hb),abt,ta,_,_,_,rfl,rfl,(F6.aU k7).bX (Ty.au.bX (s5.trans s6) hbt),rfl,_,rfl,_,rfl,?_⟩
   dsimp only [fV]
   show hG K [_] _ _ E0
   refine wK n7 fun p8 H8 s8 n8=>?_
   have F8:=F7.same s8
   refine ⟨fA,ls,_,_,i2,(k:Int),_,_,_,rfl,F8,Uq,SU,n8,by omega,fun H9 k9 F9=>?_⟩
   have s09:=KL.same hn (RO.trans s8) k9
   refine ⟨_,_,_,rfl,s09,F9.up (by rw [acq];omega),fun i p e a ha=>?_⟩
   rw [ur SU ha,ur SU ha,hF i p e a ha]
   have bp:=Kq fr.gp.np (fr.en b mb) e e1 e2 (T b.nm) (k:Int)
   by_cases ca:a=(k:Int)
   ·subst ca
    rw [if_neg (c:=(k:Int) < (k:Int)) (by omega),if_pos (c:=(k:Int) < ((k+1:Nat):Int)) (by omega), <- bp]
    simp only [and_true]
    grind
   ·have c1:¬ (i=i1/\a=(k:Int)):=fun z=>ca z.2
    have c2:¬ (i=i2/\a=(k:Int)):=fun z=>ca z.2
    rw [if_neg c1,if_neg c2]
    by_cases cl:a < (k:Int)
    ·rw [if_pos cl,if_pos (c:=a < ((k+1:Nat):Int)) (by omega)]
     grind
    ·rw [if_neg cl,if_neg (c:=a < ((k+1:Nat):Int)) (by omega)]
     grind
  ·rintro σ H4 ⟨F,o6,o7,rfl,s4,F4,hF⟩
   refine ⟨F,_,_,_,rfl,s4,F4.up (by rw [acq, <- hB];omega),fun i p e a ha=>?_⟩
   rw [take_snoc eb,yw,hF i p e a ha,if_pos (by rcases ha with rfl | rfl <;> decide)]
 ·rintro σ H3 ⟨F,o5,o6,o7,rfl,s3,F3,hF⟩
  rw [en,lw] at F3
  rw [en,lw,abl] at hF
  have bl:bars.length*(4*(N+91))<=14*(4*(N+91)):=abd _ (by omega)
  generalize hB:1+bars.length*(4*(N+91))=B at F3
  have en2:((us.length:Nat):Int).toNat=us.length:=by omega
  refine ⟨_,rfl,pA,_,rfl,.inl (aX.of (s3 _ _ fr.hp)),((us.length:Nat):Int),rfl,by omega,by omega,b8 (lo:=0) (n:=((us.length:Nat):Int).toNat) (fun k σ H' =>∃(F:Nat->Rat×Rat) (o5 o6 o7 o8:χ),σ=[some (.ref pA),some (.ref bA),some (.ref tA),some (.ref uA),some (.ref fA),o5,o6,o7,o8]/\au H H' /\Found K H' fA ls F (B+k*(4*(N+91)))/\∀(i:Nat) (p:aD),pins[i]? =some p->∀a:Int,(a=0\/a=1)->ax a (F i)=j7 T bars a p+if i < k then sP (U p.nm) (p.ws.map (ax a)) else 0) ⟨F,o5,o6,o7,none,rfl,s3,by rw [aid];exact F3,fun i p e a ha=>?_⟩ ?_ ?_⟩
  ·rw [hF i p e a ha,if_neg (by omega)]
   grind
  ·rintro k σ H4 hk ⟨F,o5,o6,o7,o8,rfl,s4,F4,hF⟩
   have ek:(0:Int)+(k:Int)=(k:Int):=abn _
   rw [ek]
   have hku:k < us.length:=by omega
   obtain ⟨p,ep,RI⟩:=aw fr.pp (gE hku)
   have mp:p∈pins:=ir ep
   obtain ⟨xv,exv,la,ys,exl,hla,py⟩:=aw (b6 fo.pu) ep
   subst exl
   have lup:=fo.lU p mp
   have lwp:=(fr.gp.ws p mp).len
   have ly:ys.length=(U p.nm).length:=Paired.length py
   have akx:gO xs (k:Int)=some (.ref la):=bS exv
   have S':gO us (k:Int)=some us[k]:=bS (gE hku)
   obtain ⟨pa,l,sv,cA,epa,h1,h2,h3,h4⟩:=RI
   rw [epa] at S'
   have lv:cA.length=p.ws.length:=Paired.length h4
   have kp:k < pins.length:=by omega
   have bk:k*(4*(N+91))<=8*(4*(N+91)):=abd _ (by omega)
   generalize hB2:B+k*(4*(N+91))=B2 at F4
   have en3:((cA.length:Nat):Int).toNat=cA.length:=by omega
   refine ⟨_,rfl,_,rfl,pA,_,_,_,rfl,rfl,aX.of (s4 _ _ fr.hp),S',pa,_,_,_,rfl,rfl,Ty.au.bX s4 h1,rfl,l,_,rfl,.inl (aX.of (s4 _ _ h3)),((cA.length:Nat):Int),rfl,by omega,by omega,b8 (lo:=0) (n:=((cA.length:Nat):Int).toNat) (fun j σ H' =>∃(F:Nat->Rat×Rat) (o6 o7 o8:χ),σ=[some (.ref pA),some (.ref bA),some (.ref tA),some (.ref uA),some (.ref fA),some (.int (k:Int)),o6,o7,o8]/\au H H' /\Found K H' fA ls F (B2+j*(2*(N+91)))/\∀(i:Nat) (p:aD),pins[i]? =some p->∀a:Int,(a=0\/a=1)->ax a (F i)=j7 T bars a p+if i < k then sP (U p.nm) (p.ws.map (ax a)) else if i=k then sP ((U p.nm).take j) ((p.ws.take j).map (ax a)) else 0) ⟨F,o6,o7,o8,rfl,s4,by rw [aid];exact F4,fun i p e a ha=>?_⟩ ?_ ?_⟩
   ·rw [hF i p e a ha,List.take_zero,kZ]
    split <;> simp
   ·rintro j σ H5 hj ⟨F,o6,o7,o8,rfl,s5,F5,hF⟩
    have ek:(0:Int)+(j:Int)=(j:Int):=abn _
    rw [ek]
    have hj1:j < cA.length:=by omega
    have hj2:j < ys.length:=by omega
    obtain ⟨x,ex,hx⟩:=aw py (gE hj2)
    obtain ⟨wq,ewq,hwq⟩:=aw h4 (gE hj1)
    have zw:=(fr.gp.ws p mp).sz wq (ir ewq)
    have axj:gO ys (j:Int)=some ys[j]:=bS (gE hj2)
    have awj:gO cA (j:Int)=some cA[j]:=bS (gE hj1)
    have bj:j*(2*(N+91))<=1*(2*(N+91)):=abd _ (by omega)
    generalize hB3:B2+j*(2*(N+91))=B3 at F5
    refine ⟨(2:Int),rfl,by decide,by decide,b8 (lo:=0) (n:=2) (fun c σ H' =>∃(F:Nat->Rat×Rat) (o6:χ),σ=[some (.ref pA),some (.ref bA),some (.ref tA),some (.ref uA),some (.ref fA),some (.int (k:Int)),o6,o7,some (.int (j:Int))]/\au H H' /\Found K H' fA ls F (B3+c*(N+91))/\∀(i:Nat) (p:aD),pins[i]? =some p->∀a:Int,(a=0\/a=1)->ax a (F i)=(j7 T bars a p+if i < k then sP (U p.nm) (p.ws.map (ax a)) else if i=k then sP ((U p.nm).take j) ((p.ws.take j).map (ax a)) else 0)+if i=k/\a < (c:Int) then x*ax a wq else 0) ⟨F,o6,rfl,s5,by rw [aid];exact F5,fun i p e a ha=>?_⟩ ?_ ?_⟩
    ·rw [hF i p e a ha,if_neg (c:=i=k/\a < ((0:Nat):Int)) (fun z=>by rcases ha with rfl | rfl <;> exact absurd z.2 (by decide))]
     grind
    ·rintro c σ H6 hc ⟨F,o6,rfl,s6,F6,hF⟩
     have ek:(0:Int)+(c:Int)=(c:Int):=abn _
     rw [ek]
     have P2:(c:Int)=0\/(c:Int)=1:=by omega
     have bc:c*(N+91)<=1*(N+91):=abd _ (by omega)
     obtain ⟨wa,zs,u,ewa,CB,awc,nwc⟩:=Km P2 (hwq.same s6)
     rw [ewa] at awj
     refine ⟨_,rfl,_,rfl,_,rfl,_,rfl,_,rfl,uA,_,_,_,rfl,rfl,aX.of (s6 _ _ fo.hu),akx,_,rfl,la,_,_,_,rfl,rfl,aX.of (s6 _ _ hla),axj,_,rfl,_,rfl,pA,_,_,_,rfl,rfl,aX.of (s6 _ _ fr.hp),S',pa,_,_,_,rfl,rfl,Ty.au.bX s6 h1,rfl,_,rfl,l,_,_,_,rfl,rfl,aX.of (s6 _ _ h3),awj,_,rfl,wa,_,_,_,rfl,rfl,CB,awc,?_⟩
     dsimp only [fV]
     show eI K qR [_,_] _ _ E0
     refine AF (hx.same s6) (pQ nwc (Kd (Kn zw) (aac _))) (by omega) fun p7 H7 s7 n7=>?_
     refine ⟨fA,ls,F,_,k,(c:Int),_,_,_,rfl,F6.same s7,by omega,P2,n7,by omega,fun H8 k8 F8=>?_⟩
     refine ⟨_,_,rfl,KL.same hn (s6.trans s7) k8,F8.up (by rw [acq];omega),fun i p' e a ha=>?_⟩
     rw [ur P2 ha,hF i p' e a ha]
     by_cases ci:i=k
     ·by_cases ca:a=(c:Int)
      ·subst ca
       rw [if_neg (c:=i=k/\(c:Int) < (c:Int)) (fun z=>by omega),if_pos (c:=i=k/\(c:Int)=(c:Int)) ⟨ci,rfl⟩,if_pos (c:=i=k/\(c:Int) < ((c+1:Nat):Int)) ⟨ci,by omega⟩]
       grind
      ·rw [if_neg (c:=i=k/\a=(c:Int)) (fun z=>ca z.2)]
       by_cases cl:a < (c:Int)
       ·rw [if_pos (c:=i=k/\a < (c:Int)) ⟨ci,cl⟩,if_pos (c:=i=k/\a < ((c+1:Nat):Int)) ⟨ci,by omega⟩]
        grind
       ·rw [if_neg (c:=i=k/\a < (c:Int)) (fun z=>cl z.2),if_neg (c:=i=k/\a < ((c+1:Nat):Int)) (fun z=>by have:=z.2;omega)]
        grind
     ·rw [if_neg (c:=i=k/\a < (c:Int)) (fun z=>ci z.1),if_neg (c:=i=k/\a=(c:Int)) (fun z=>ci z.1),if_neg (c:=i=k/\a < ((c+1:Nat):Int)) (fun z=>ci z.1)]
      grind
    ·rintro σ H6 ⟨F,o6,rfl,s6,F6,hF⟩
     refine ⟨F,_,_,_,rfl,s6,F6.up (by rw [acq, <- hB3];omega),fun i p' e a ha=>?_⟩
     rw [hF i p' e a ha]
     by_cases ci:i=k
     ·subst ci
      rw [ep] at e
      cases e
      rw [if_neg (abU _),if_pos rfl,if_neg (abU _),if_pos rfl,if_pos (c:=i=i/\a < ((2:Nat):Int)) ⟨rfl,by rcases ha with rfl | rfl <;> decide⟩]
      rw [take_snoc ex,take_snoc ewq,aa3,k_ _ _ (by rw [aaa,abb,abb];omega),aah,adh,f_,kZ]
      grind
     ·rw [if_neg (c:=i=k/\a < ((2:Nat):Int)) (fun z=>ci z.1),if_neg ci,if_neg ci]
      grind
   ·rintro σ H5 ⟨F,o6,o7,o8,rfl,s5,F5,hF⟩
    rw [en3] at F5 hF
    refine ⟨F,_,_,_,_,rfl,s5,F5.up (by
     have:cA.length*(2*(N+91))<=2*(2*(N+91)):=abd _ (by omega)
     rw [acq, <- hB2]
     omega),fun i p' e a ha=>?_⟩
    rw [hF i p' e a ha]
    by_cases ci:i=k
    ·subst ci
     rw [ep] at e
     cases e
     rw [if_neg (abU _),if_pos rfl,if_pos (abu _),acj (by omega),acj (by omega)]
    ·rw [if_neg ci]
     by_cases cl:i < k
     ·rw [if_pos cl,if_pos (by omega)]
     ·rw [if_neg cl,if_neg (by omega)]
  ·rintro σ H4 ⟨F,o5,o6,o7,o8,rfl,s4,F4,hF⟩
   rw [en2,lu] at F4 hF
   have bp:pins.length*(4*(N+91))<=9*(4*(N+91)):=abd _ (by omega)
   refine ⟨_,rfl,q fA ls F H4 s4 ll (F4.up (by omega)) fun i p e=>?_⟩
   have hi:=(be.mp e).1
   have a0:=hF i p e 0 (.inl rfl)
   have a1:=hF i p e 1 (.inr rfl)
   rw [if_pos hi] at a0 a1
   unfold g8
   unfold j7 at a0 a1
   have e0:ax 0=fun p:Rat×Rat=>p.1:=rfl
   have e1:ax 1=fun p:Rat×Rat=>p.2:=rfl
   rw [e0] at a0
   rw [e1] at a1
   exact ⟨a0.trans (Rat.add_comm _ _),a1.trans (Rat.add_comm _ _)⟩
theorem Ww:PySem.W.kitOne K (.type "int") (.type "int")=some true:=by unfold PySem.W.kitOne;rw [if_pos (by decide)]
theorem Wx:PySem.W.kitOne K (.type "int") (.type "bool")=some false:=ID ⟨by decide,fun _=>⟨by decide+kernel,by decide+kernel⟩⟩
theorem Nn (x:Int×Int):cK [.v (.int x.1),.v (.int x.2)] [.v (.int x.1),.v (.int x.2)]=true:=by
 simp [cK,gc,qv]
inductive pZ (K:Frag)(vs:η)(H:Hp)(Q:VK)(E_:XK):Prop where
 | mk (u:V) (r:Rat) (_:vs=[u]) (_:ig K H u r) (_:∀H',au H H' ->Q (.bl true) H'):pZ K vs H Q E_
theorem OS:aE ["_law_x","_law_part"] ["_law_x"] (ag EF):=sq
theorem Wy (D:Def K mg "_law_number" EF ["_law_x"])(a8:mg "len"=none)(a9:mg "isinstance"=none)(je:mg "int"=none)(lD:mg "bool"=none)(fE:mg "tuple"=none)
  (uk:Fn P w K mg base (a_ P w) 33 "_law_lowest" zar dQ):Fn P w K mg base (a_ P w) 34 "_law_number" ["_law_x"] (pZ K):=by
 refine D.ok OS (fun vs H Q E h=>?_) (fun f bJ A outer s H vs Q E hr h=>?_)
 ·obtain ⟨u,r,rfl,_⟩:=h
  rfl
 obtain ⟨_,r,rfl,⟨p1,rfl,h1⟩,q⟩:=h
 have hp:=dH r
 have hg:=oR r
 generalize qr r=x at h1 hp hg
 refine ⟨_,(ae (bu (PW.pt (iu (cW (cE (aJ kL rfl a9 bO (ar (pv 0) (ar (iC rfl fE sX) aa))))) (fJ (aS i9 (aJ aI rfl a8 bZ (ar (pv 0) aa)) ak (aZ _))))) (aj (aH dc)) aK)
  (ae (bB PassesOwn.never rfl (PU (pv 0)) (av (i:=1) OS.nd rfl (aad rfl)) (aj (bu (PW.pt (iu (cW (cE (aJ ff rfl a9 bO (ar (pv 1) (ar (iC rfl je zp) aa))))) (fJ (cE (aJ ff rfl a9 bO (ar (pv 1) (ar (iC rfl lD IF) aa))))))) (aj (aH dc)) aK)))
  (aj (aH (HC (jB vd (aR (pv 0)) ak (aZ _)) (HB (jB (nc hr.units) (aC uk hr.mo pX (ar (aR (pv 0)) (ar (aR (pv 0)) aa))) (pv 0) (aZ _)))))))),?_⟩
 refine ⟨_,rfl,p1,_,rfl,h1,_,rfl,?_⟩
 refine bq (fun c=>nomatch c) (fun _=>?_)
 refine ⟨_,rfl,p1,_,rfl,.inr h1,rfl,_,rfl,?_⟩
 refine IA rfl ?_
 refine ⟨_,rfl,p1,rfl,⟨_,h1⟩,LU (K:=K) (a:=p1) (xs:=[.int x.1,.int x.2]) (fun i σ H' =>∃o,σ=[some (.ref p1),o]/\H' =H) ⟨none,rfl,rfl⟩ (fun i σ H' _ ⟨o,_,e⟩=>by rw [e];exact h1) ?_ ?_⟩
 ·rintro i z σ H' hi ⟨o,rfl,rfl⟩
  obtain ⟨n,rfl⟩:∃n,z=V.int n:=by
   match i,hi with
   | 0,hi=>exact ⟨_,(aao hi).symm⟩
   | 1,hi=>exact ⟨_,(aao hi).symm⟩
  refine ⟨_,rfl,_,_,_,true,rfl,rfl,.int n,Ww,_,rfl,?_⟩
  refine bq (fun c=>nomatch c) (fun _=>?_)
  refine ⟨_,rfl,_,_,_,false,rfl,rfl,.int n,Wx,_,rfl,?_⟩
  refine bq (fun c=>nomatch c) (fun _=>?_)
  exact ⟨_,rfl,rfl⟩
 ·rintro σ H' ⟨o,rfl,rfl⟩
  refine ⟨_,rfl,p1,_,_,_,rfl,rfl,h1,h_,_,_,rfl,rfl,_,rfl,?_⟩
  refine bq (fun _=>?_) (fun c=>absurd (decide_eq_true hp) c)
  refine ⟨_,rfl,p1,_,_,_,rfl,rfl,h1,iE,_,rfl,p1,_,_,_,rfl,rfl,h1,h_,_,_,rfl,hp,fun p2 H2 s2 e2=>?_⟩
  rw [oB hp hg] at e2
  refine ⟨_,rfl,_,_,.inl ⟨nG (q:=x) ⟨p2,rfl,bT.of e2⟩,nG (q:=x) ⟨p1,rfl,Ty.au.bX s2 h1⟩⟩,rfl,Mg,?_⟩
  rw [Nn x]
  exact q _ s2
theorem RP:PySem.W.kitOne K (.type "dict") (.type "dict")=some true:=by unfold PySem.W.kitOne;rw [if_pos (by decide)]
theorem acI:PySem.W.kitOne K (.type "list") (.type "list")=some true:=by unfold PySem.W.kitOne;rw [if_pos (by decide)]
theorem p_ :∀ws:List Str,fw K H (ws.map fun w=>Da.v (.str w)) (ws.map V.str)
 | []=>by unfold fw;trivial
 | w::ws=>by
  rw [aah,aah]
  unfold fw
  refine ⟨?_,p_ ws⟩
  unfold Is
  exact ⟨rfl,rfl⟩
theorem AI:∀ws:List Str,cK (ws.map fun w=>Da.v (.str w)) (ws.map fun w=>Da.v (.str w))=true
 | []=>by simp [cK]
 | w::ws=>by
  rw [aah]
  unfold cK
  rw [AI ws]
  simp [gc,qv]
theorem AJ:∀ws:List Str,df (ws.map fun w=>Da.v (.str w)) (ws.map fun w=>Da.v (.str w))=true
 | []=>by simp [df]
 | w::ws=>by
  rw [aah]
  unfold df
  rw [AJ ws]
  simp [alike]
theorem wO:∀ws:List Str,gd (ws.map fun w=>Da.v (.str w))<=60
 | []=>by simp [gd]
 | w::ws=>by
  rw [aah]
  unfold gd
  have:=wO ws
  simp only [dep]
  omega
theorem AK {ws:ρ}(e1:H p=some (.lst (ws.map V.str)))(e2:H p2=some (.lst (ws.map V.str)))(q:Q (.bl false) H):zl K (.ref p) (.ref p2) H Q:=by
 refine ⟨ws.map fun w=>Da.v (.str w),ws.map fun w=>Da.v (.str w),.inr ⟨?_,?_⟩,AJ ws,wO ws,by rw [AI];exact q⟩
 ·unfold Is
  exact ⟨p,_,rfl,aX.of e1,p_ ws⟩
 ·unfold Is
  exact ⟨p2,_,rfl,aX.of e2,p_ ws⟩
theorem qa {ys:η}:gO (x::ys) 0=some x:=bS (xs:=x::ys) (j:=0) rfl
theorem wQ {us:η}{nm:α->Str}{cap:L2.St}(n1:H D1=none)(ha:H a=some (.lst us))(pr:Paired (fun u z=>∃c ys,u=.ref c/\bT K H c (.str (nm z)::ys)) us zs)(l:zs.length<=1000)(k:∀H',au H H' ->H' D1=some (.lst ((zs.map nm).map V.str))->R (.ref D1) H'):
  jI D1 (cF 0) jn (PV (HU K) (LP 0) (tC (V.int 0))) (K3 K a) (none::cap) H R:=by
 have lu:us.length=zs.length:=Paired.length pr
 refine dk (K:=K) (a:=a) (xs:=us) (fun i v _=>∃z,zs[i]? =some z/\v=.str (nm z)) n1 (by rw [lu];exact aaj l (by decide)) (fun H2 s2=>aX.of (s2 _ _ ha)) (fun _ _ _ _ _ _ _ h=>h) ?_ ?_
 ·intro i u H2 R hu s2 k
  obtain ⟨z,ez,c,ys,rfl,h1⟩:=aw pr hu
  exact ⟨_,rfl,c,_,_,_,rfl,rfl,Ty.au.bX s2 h1,qa,k _ _ (au.refl _) ⟨z,ez,rfl⟩⟩
 ·intro ys H2 hy gj s2 hD
  refine k H2 s2 ?_
  rw [hD]
  congr 2
  refine abL fun i=>?_
  rw [aaT,Wp]
  by_cases c:i < ys.length
  ·obtain ⟨p,e1,e2⟩:=gj i ys[i] (gE c)
   rw [gE c,e1,e2]
   rfl
  ·rw [aai (by omega),aai (by omega)]
   rfl
theorem mi {α:Type}{nm:α->Str}{kM:δ}{zs:List α}(h:kM.map (·.1)=zs.map (fun p=>(abD (nm p):Key))):(kM.map fun kv=>kV kv.1)=(zs.map nm).map V.str:=by
 have:(kM.map fun kv=>kV kv.1)=(kM.map (·.1)).map kV:=by rw [aaT];rfl
 rw [this,h,aaT,aaT]
 rfl
theorem yx {us:η}{pins:ο}(h:Paired (i6 K H) us pins):Paired (fun u (z:aD)=>∃c ys,u=.ref c/\bT K H c (.str z.nm::ys)) us pins:=Paired.bF h fun _ _ ⟨a,l,s,us,e,h1,_,_,_⟩=>⟨a,_,e,h1⟩
theorem yy {us:η}{bars:ς}(h:Paired (iL K H pins) us bars):Paired (fun u (z:ba)=>∃c ys,u=.ref c/\bT K H c (.str z.nm::ys)) us bars:=Paired.bF h fun _ _ ⟨a,i,j,e,h1,_,_⟩=>⟨a,_,e,h1⟩
theorem wU {ys:η}(h:∀(i:Nat) (v:V),ys[i]? =some v->v=.bl true):∃bs:List Bool,ys=bs.map V.bl/\bs.all id=true:=by
 induction ys with
 | nil=>exact ⟨[],rfl,rfl⟩
 | cons y ys ih=>
  obtain ⟨bs,e,h2⟩:=ih fun i v e=>h (i+1) v (by simpa using e)
  exact ⟨true::bs,by rw [h 0 y rfl,e];rfl,by simp [h2]⟩
inductive yz (K:Frag)(vs:η)(H:Hp)(Q:VK)(E_:XK):Prop where
 | mk (pA bA dT dU:Addr) (us ws:η) (pins:ο) (bars:ς) (kT kU:δ) (T:Ψ) (U:Ζ) (N:Nat) (_:vs=[.ref pA,.ref bA,.ref dT,.ref dU]) (_:OR K H pA bA us ws pins bars) (_:K' K H pins bars dT dU kT kU T U N) (_:∀H',au H H' ->Q (.bl true) H'):yz K vs H Q E_
theorem AL:aE ["_law_pins_here","_law_bars_here","_law_pulls","_law_pushes","_law_name_here","_law_spot_here","_law_ways_here"] zaa (ag EG):=sq
theorem Wz (D:Def K mg "_law_are_forces" EG zaa)(a9:mg "isinstance"=none)(gk:mg "dict"=none)(bQ:mg "list"=none)(a8:mg "len"=none)(qc:mg "all"=none)(WA:Fn P w K mg base (a_ P w) 34 "_law_number" ["_law_x"] (pZ K)):
  Fn P w K mg base (a_ P w) 35 "_law_are_forces" zaa (yz K):=by
 refine D.ok AL (fun vs H Q E h=>?_) (fun f bJ A outer s H vs Q E hr h=>?_)
 ·obtain ⟨pA,bA,dT,dU,us,ws,pins,bars,kT,kU,T,U,N,rfl,_⟩:=h
  rfl
 obtain ⟨pA,bA,dT,dU,us,ws,pins,bars,kT,kU,T,U,N,rfl,fr,pl,q⟩:=h
 have lp:=fr.lp
 have lb:=fr.lb
 have lw:ws.length=bars.length:=Paired.length fr.pb
 refine ⟨_,(ae (bu (PW.pt (iu (cW (cE (aJ ff rfl a9 bO (ar (pv 2) (ar (iC rfl gk xH) aa))))) (fJ (aS (ng hr.units) (b9 (fP rfl) rfl bQ fN (ar (pv 2) aa)) (cO (tn:=zaQ) (fr:=[]) (caps:=[]) rfl ⟨rfl,by decide+kernel,rfl,by decide+kernel,by decide+kernel,rfl,trivial,trivial⟩ (bx (pv 1)) (fun _ _ _ _=>(av (i:=0) (show (zaQ:List Str).Nodup from by decide+kernel) rfl (aad rfl))) (fun _ _ _ _=>cY) (fun _ _ _ _=>(bo (dq (K:=K) rfl) (pv 0) ak (fun _ _=>rfl)))) (aZ _))))) (aj (aH dc)) aK)
  (ae (bu (PW.pt (iu (cW (cE (aJ ff rfl a9 bO (ar (pv 3) (ar (iC rfl gk xH) aa))))) (fJ (aS (ng hr.units) (b9 (fP rfl) rfl bQ fN (ar (pv 3) aa)) (cO (tn:=zaI) (fr:=[]) (caps:=[]) rfl ⟨rfl,by decide+kernel,rfl,by decide+kernel,by decide+kernel,rfl,trivial,trivial⟩ (bx (pv 0)) (fun _ _ _ _=>(av (i:=0) (show (zaI:List Str).Nodup from by decide+kernel) rfl (aad rfl))) (fun _ _ _ _=>cY) (fun _ _ _ _=>(bo (dq (K:=K) rfl) (pv 0) ak (fun _ _=>rfl)))) (aZ _))))) (aj (aH dc)) aK)
  (ae (bu (cW (cE (aJ (kG rfl) rfl qc IE (ar (cO (tn:=zaQ) (fr:=["_law_pulls"]) (caps:=[2]) rfl ⟨rfl,by decide+kernel,rfl,by decide+kernel,by decide+kernel,rfl,⟨(by first | exact aad rfl | exact abj rfl),trivial⟩,⟨(by first | exact aad rfl | exact abj rfl),trivial⟩⟩ (bx (pv 1)) (fun _ _ _ _=>(av (i:=0) (show (["_law_bar","_law_pulls"]:List Str).Nodup from by decide+kernel) rfl (aad rfl))) (fun _ _ _ _=>cY) (fun _ _ _ _=>(aC WA hr.mo (me (by first | assumption | exact a_.mM) rfl) (ar (du (bU hr) (pv 1) (bo (dq (K:=K) rfl) (pv 0) ak (fun _ _=>rfl)) (fun _ _=>rfl)) aa)))) aa)))) (aj (aH dc)) aK)
  (ae (bB PassesOwn.never rfl (bx (pv 0)) (dG rfl (aQ (av (i:=4) AL.nd rfl (aad rfl)) (aQ (av (i:=5) AL.nd rfl (aad rfl)) (aQ (av (i:=6) AL.nd rfl (aad rfl)) cu)))) (ae (bu (PW.pt (iu (cW (cE (aJ ff rfl a9 bO (ar (du (bU hr) (pv 3) (pv 4) (fun _ _=>rfl)) (ar (iC rfl bQ fN) aa))))) (fJ (aS i9 (aJ aI rfl a8 bZ (ar (du (bU hr) (pv 3) (pv 4) (fun _ _=>rfl)) aa)) (aJ aI rfl a8 bZ (ar (pv 6) aa)) (aZ _))))) (aj (aH dc)) aK)
   (aj (bu (cW (cE (aJ (kG rfl) rfl qc IE (ar (cO (tn:=zau) (fr:=[]) (caps:=[]) rfl ⟨rfl,by decide+kernel,rfl,by decide+kernel,by decide+kernel,rfl,trivial,trivial⟩ (bx (du (bU hr) (pv 3) (pv 4) (fun _ _=>rfl))) (fun _ _ _ _=>(av (i:=0) (show (zau:List Str).Nodup from by decide+kernel) rfl (aad rfl))) (fun _ _ _ _=>cY) (fun _ _ _ _=>(aC WA hr.mo (me (by first | assumption | exact a_.mM) rfl) (ar (pv 0) aa)))) aa)))) (aj (aH dc)) aK))))
  (aj (aH dc)))))),?_⟩
 refine ⟨_,rfl,_,_,_,true,rfl,rfl,.dK pl.hT,RP,_,rfl,?_⟩
 refine bq (fun c=>nomatch c) (fun _=>?_)
 refine ⟨_,rfl,dT,_,rfl,.inl pl.hT,?_⟩
 intro l1 n1;generalize eX:upd _ l1 _=H1;have ⟨s1,e1⟩:=nw n1 eX;clear eX
 rw [mi (nm:=ba.nm) pl.JW] at e1
 have Ta:=fr.same s1
 refine ⟨_,rfl,bA,rfl,⟨_,aX.of Ta.hb⟩,fun D2 n2=>?_⟩
 refine wQ (nm:=ba.nm) n2 Ta.hb (yy Ta.pb) (by omega) fun H2 s2 e2=>?_
 refine AK (s2 _ _ e1) e2 ?_
 refine ⟨_,rfl,?_⟩
 refine bq (fun c=>nomatch c) (fun _=>?_)
 have nM:=s1.trans s2
 refine ⟨_,rfl,_,_,_,true,rfl,rfl,.dK (nM _ _ pl.hU),RP,_,rfl,?_⟩
 refine bq (fun c=>nomatch c) (fun _=>?_)
 refine ⟨_,rfl,dU,_,rfl,.inl (nM _ _ pl.hU),?_⟩
 intro l3 n3;generalize eX:upd _ l3 _=H3;have ⟨s3,e3⟩:=nw n3 eX;clear eX
 rw [mi (nm:=aD.nm) pl.JX] at e3
 have wV:=nM.trans s3
 have SE:=fr.same wV
 refine ⟨_,rfl,pA,rfl,⟨_,aX.of SE.hp⟩,fun D4 n4=>?_⟩
 refine wQ (nm:=aD.nm) n4 SE.hp (yx SE.pp) (by omega) fun H4 s4 e4=>?_
 refine AK (s4 _ _ e3) e4 ?_
 refine ⟨_,rfl,?_⟩
 refine bq (fun c=>nomatch c) (fun _=>?_)
 have so:=wV.trans s4
 refine ⟨_,rfl,bA,rfl,⟨_,aX.of (so _ _ fr.hb)⟩,fun D5 n5=>?_⟩
 refine dk (cap:=[some (.ref dT)]) (K:=K) (a:=bA) (xs:=ws) (fun _ v _=>v=.bl true) n5 (by rw [lw];exact aaj (show bars.length<=100 by omega) (by decide)) (fun H5 s5=>aX.of (s5 _ _ (so _ _ fr.hb))) (fun _ _ _ _ _ _ _ h=>h) ?_ ?_
 ·intro i u H5 R hu s5 k
  obtain ⟨b,eb,c,i1,i2,rfl,h1,_⟩:=aw fr.pb hu
  have mR:=so.trans s5
  obtain ⟨v,dg,nv⟩:=(pl.same mR).ab5 (ir eb)
  exact ⟨_,rfl,_,rfl,c,_,_,_,rfl,rfl,Ty.au.bX mR h1,rfl,dT,_,rfl,dg,v,_,rfl,nv,fun H6 s6=>k _ _ s6 rfl⟩
 intro ys H5 hy gj s5 hD
 obtain ⟨bs,eb,ea⟩:=wU gj
 refine ⟨D5,bs,rfl,by rw [<- eb];exact aX.of hD,?_⟩
 rw [ea]
 refine ⟨_,rfl,?_⟩
 refine bq (fun c=>nomatch c) (fun _=>?_)
 have mR:=so.trans s5
 refine ⟨_,rfl,pA,rfl,⟨_,aX.of (mR _ _ fr.hp)⟩,bW (K:=K) (a:=pA) (xs:=us) (fun i σ H' =>∃(o4 o5 o6:χ),σ=[some (.ref pA),some (.ref bA),some (.ref dT),some (.ref dU),o4,o5,o6]/\au H H') ⟨none,none,none,rfl,mR⟩ (fun i σ H' _ h=>by
   obtain ⟨_,_,_,_,s⟩:=h
   exact aX.of (s _ _ fr.hp)) ?_ ?_⟩
 ·rintro i u σ H6 hu ⟨o4,o5,o6,rfl,s6⟩
  obtain ⟨p,ep,RI⟩:=aw fr.pp hu
  have mp:p∈pins:=ir ep
  obtain ⟨ta,l,sv,cA,rfl,h1,h2,h3,h4⟩:=RI.same s6
  refine ⟨ta,_,rfl,h1,rfl,_,_,rfl,_,_,rfl,_,_,rfl,rfl,?_⟩
  obtain ⟨la,xs,dg,et,pu⟩:=(pl.same s6).ab6 mp
  have lw:cA.length=p.ws.length:=Paired.length h4
  have lx:xs.length=(U p.nm).length:=Paired.length pu
  have lup:=pl.lU p mp
  have lwp:=(fr.gp.ws p mp).len
  refine ⟨_,rfl,_,rfl,dU,_,rfl,dg,_,_,_,true,rfl,rfl,.lst et,acI,_,rfl,?_⟩
  refine bq (fun c=>nomatch c) (fun _=>?_)
  refine ⟨_,rfl,_,rfl,dU,_,rfl,dg,la,_,rfl,.inl (aX.of et),_,rfl,l,_,rfl,.inl (aX.of h3),rfl,_,rfl,?_⟩
  refine bq (fun c=>absurd (show (xs.length:Int)=(cA.length:Int) by omega) (fun e=>by rw [e] at c;simp at c)) (fun _=>?_)
  refine ⟨_,rfl,_,rfl,dU,_,rfl,dg,la,rfl,⟨_,aX.of et⟩,fun D7 n7=>?_⟩
  refine dk (cap:=[]) (K:=K) (a:=la) (xs:=xs) (fun _ v _=>v=.bl true) n7 (aaj (show xs.length<=100 by omega) (by decide)) (fun H7 s7=>aX.of (s7 _ _ et)) (fun _ _ _ _ _ _ _ h=>h) ?_ ?_
  ·intro j x H7 R hx s7 k
   obtain ⟨r,er,nr⟩:=aw pu hx
   exact ⟨_,rfl,x,r,rfl,nr.same s7,fun H8 s8=>k _ _ s8 rfl⟩
  intro ys H7 hy gj s7 hD
  obtain ⟨bs,eb,ea⟩:=wU gj
  refine ⟨D7,bs,rfl,by rw [<- eb];exact aX.of hD,?_⟩
  rw [ea]
  refine ⟨_,rfl,?_⟩
  refine bq (fun c=>nomatch c) (fun _=>?_)
  exact ⟨_,_,_,rfl,s6.trans s7⟩
 ·rintro σ H6 ⟨o4,o5,o6,rfl,s6⟩
  exact q H6 s6
abbrev OT (pins:ο):List (Str×Pt):=pins.map fun p=>(p.nm,qz p.sp)
abbrev mpW (pins:ο):List (Str×List (Rat×Rat)):=pins.map fun p=>(p.nm,p.ws)
abbrev GX (bars:ς):List (Str×Str×Str):=bars.map fun b=>(b.nm,b.one.nm,b.other.nm)
def j8 (K:Frag)(H:Hp)(d e:Addr)(v:V)(p:aD):Prop:=∃(a l:Addr) (s:V) (us:η),v=.ref a/\bT K H a [.str p.nm,s,.ref l]/\ft K H s p.sp/\H l=some (.lst us)/\ie K H us p.ws/\l≠d/\l≠e
theorem j8.same (h:j8 K H d e v p)(s:au H H'):j8 K H' d e v p:=by
 obtain ⟨a,l,sv,us,ev,h1,h2,h3,h4,h5⟩:=h
 exact ⟨a,l,sv,us,ev,Ty.au.bX s h1,h2.same s,s _ _ h3,h4.same s,h5⟩
theorem j8.r (h:j8 K H d e v p):i6 K H v p:=by
 obtain ⟨a,l,sv,us,ev,h1,h2,h3,h4,_⟩:=h
 exact ⟨a,l,sv,us,ev,h1,h2,h3,h4⟩
def KO (pP pW pB lP lB:Addr)(H H' :Hp):Prop:=∀b o,b≠pP->b≠pW->b≠pB->b≠lP->b≠lB->H b=some o->H' b=some o
theorem KO.trans (a:KO pP pW pB lP lB H H1)(b:KO pP pW pB lP lB H1 H2):KO pP pW pB lP lB H H2:=fun c o n1 n2 n3 n4 n5 e=>b c o n1 n2 n3 n4 n5 (a c o n1 n2 n3 n4 n5 e)
theorem KO.of (a:au H H1):KO pP pW pB lP lB H H1:=fun c o _ _ _ _ _ e=>a c o e
structure WS (K:Frag)(H:Hp)(C fA dx pP pW pB lP lB:Addr)(us vs:η)(pins:ο)(bars:ς):Prop where
 fr:∃kP kW kB,eC K H C fA dx pP pW pB (OT pins) (GX bars) kP kW kB/\qA K H (mpW pins) kW/\∀kv∈kW,kv.2≠.ref lP/\kv.2≠.ref lB
 hp:H lP=some (.lst us)
 pp:Paired (j8 K H lP lB) us pins
 hb:H lB=some (.lst vs)
 pb:Paired (iL K H pins) vs bars
 gp:fU pins
 gb:mC pins bars
 lp:pins.length<=8
 lb:bars.length<=8
 ne:lP≠lB
section
variable {H H' :Hp}{C fA dx pP pW pB lP lB:Addr}{us vs:η}{pins:ο}{bars:ς}
theorem WS.same (h:WS K H C fA dx pP pW pB lP lB us vs pins bars)(s:au H H'):WS K H' C fA dx pP pW pB lP lB us vs pins bars:=by
 obtain ⟨kP,kW,kB,R,W,n⟩:=h.fr
 exact ⟨⟨kP,kW,kB,R.same s,W.same s,n⟩,s _ _ h.hp,Paired.bF h.pp fun _ _ z=>z.same s,s _ _ h.hb,Paired.bF h.pb fun _ _ z=>z.same s,h.gp,h.gb,h.lp,h.lb,h.ne⟩
theorem WS.fa (h:WS K H C fA dx pP pW pB lP lB us vs pins bars):CT K H C fA pins bars:=by
 obtain ⟨kP,kW,kB,R,W,n⟩:=h.fr
 exact ⟨dx,pP,pW,pB,kP,kW,kB,R,W⟩
theorem WS.g (h:WS K H C fA dx pP pW pB lP lB us vs pins bars):fu pins bars:=We h.gp h.gb (by have:=h.lp;omega) (by have:=h.lb;omega)
theorem WS.pr (h:WS K H C fA dx pP pW pB lP lB us vs pins bars):Paired (i6 K H) us pins:=Paired.bF h.pp fun _ _ z=>z.r
theorem WS.away (h:WS K H C fA dx pP pW pB lP lB us vs pins bars)(e:H b=some o)(n1:∀kvs,o≠.dK kvs)(n2:∀xs,o≠.lst xs):b≠pP/\b≠pW/\b≠pB/\b≠lP/\b≠lB:=by
 obtain ⟨kP,kW,kB,R,W,_⟩:=h.fr
 refine ⟨fun z=>?_,fun z=>?_,fun z=>?_,fun z=>?_,fun z=>?_⟩
 ·rw [z,R.pl] at e
  exact n1 _ (aao e).symm
 ·rw [z,R.wy] at e
  exact n1 _ (aao e).symm
 ·rw [z,R.br] at e
  exact n1 _ (aao e).symm
 ·rw [z,h.hp] at e
  exact n2 _ (aao e).symm
 ·rw [z,h.hb] at e
  exact n2 _ (aao e).symm
theorem WS.fresh (h:WS K H C fA dx pP pW pB lP lB us vs pins bars)(e:H b=none):b≠pP/\b≠pW/\b≠pB/\b≠lP/\b≠lB:=by
 obtain ⟨kP,kW,kB,R,W,_⟩:=h.fr
 refine ⟨fun z=>?_,fun z=>?_,fun z=>?_,fun z=>?_,fun z=>?_⟩
 ·rw [z,R.pl] at e
  cases e
 ·rw [z,R.wy] at e
  cases e
 ·rw [z,R.br] at e
  cases e
 ·rw [z,h.hp] at e
  cases e
 ·rw [z,h.hb] at e
  cases e
theorem KO.at (k:KO pP pW pB lP lB H H')(n:b≠pP/\b≠pW/\b≠pB/\b≠lP/\b≠lB)(e:H b=some o):H' b=some o:=k b o n.1 n.2.1 n.2.2.1 n.2.2.2.1 n.2.2.2.2 e
theorem WS.t (h:WS K H C fA dx pP pW pB lP lB us vs pins bars)(k:KO pP pW pB lP lB H H'):bD H H' :=fun b xs r=>by
 rcases r with r | ⟨o',r⟩
 ·exact .inl (k.at (h.away r (fun _ z=>nomatch z) fun _ z=>nomatch z) r)
 ·exact .inr ⟨o',k.at (h.away r (fun _ z=>nomatch z) fun _ z=>nomatch z) r⟩
theorem WS.way (h:WS K H C fA dx pP pW pB lP lB us vs pins bars)(e:H l=some (.lst xs))(n1:l≠lP)(n2:l≠lB):l≠pP/\l≠pW/\l≠pB/\l≠lP/\l≠lB:=by
 obtain ⟨kP,kW,kB,R,W,_⟩:=h.fr
 refine ⟨fun z=>?_,fun z=>?_,fun z=>?_,n1,n2⟩
 ·rw [z,R.pl] at e
  cases e
 ·rw [z,R.wy] at e
  cases e
 ·rw [z,R.br] at e
  cases e
theorem WS.Kr (h:WS K H C fA dx pP pW pB lP lB us vs pins bars)(k:KO pP pW pB lP lB H H')(y:j8 K H lP lB v p):j8 K H' lP lB v p:=by
 obtain ⟨a,l,sv,ws,ev,h1,h2,h3,h4,h5,h6⟩:=y
 have t:=h.t k
 exact ⟨a,l,sv,ws,ev,t.bX h1,h2.aU t,k.at (h.way h3 h5 h6) h3,h4.aU t,h5,h6⟩
theorem WS.wys (h:WS K H C fA dx pP pW pB lP lB us vs pins bars)(k:KO pP pW pB lP lB H H')(W:qA K H pw kW)(n:∀kv∈kW,kv.2≠.ref lP/\kv.2≠.ref lB):qA K H' pw kW:=by
 have t:=h.t k
 refine dy (Paired.length W) fun i p kv e1 e2=>?_
 obtain ⟨kv',e3,z1,l,i5,z2,z3,z4⟩:=aw W e1
 rw [e2] at e3
 cases e3
 have nn:=n _ (ir e2)
 exact ⟨z1,l,i5,z2,k.at (h.way z3 (fun z=>nn.1 (by rw [z2,z])) (fun z=>nn.2 (by rw [z2,z]))) z3,z4.aU t⟩
end
inductive yA (K:Frag)(C:Addr)(vs:η)(H:Hp)(Q:VK)(E_:XK):Prop where
 | mk (fA dx pP pW pB lP lB:Addr) (us cA :η) (pins:ο) (bars:ς) (sv:V) (lw:Addr) (ws:η) (p:aD) (_:vs=[.ref fA,.ref lP,.str p.nm,sv,.ref lw]) (_:WS K H C fA dx pP pW pB lP lB us cA pins bars) (_:ft K H sv p.sp) (_:H lw=some (.lst ws)) (_:ie K H ws p.ws) (_:(lw≠lP/\lw≠lB)) (_:p.nm∉pins.map (·.nm)) (_:p.sp∉pins.map (·.sp)) (_:(Sz 44 p.sp.1/\Sz 44 p.sp.2)) (_:iK p.ws) (_:pins.length<=7) (_:∀(i5 :η) (H' :Hp),KO pP pW pB lP lB H H' ->WS K H' C fA dx pP pW pB lP lB i5 cA (pins++[p]) bars->Q .cw H'):yA K C vs H Q E_
theorem qd:aE zac zac (ag cR):=sq
theorem qe {C CR CF fR:Addr}(D:Def K mg "_law_put_pin" cR zac)(a8:mg "len"=none)
  (FI:mg "Roller"=some (.ref CR)) (FJ:mg "Fixed"=some (.ref CF)) (FK:SI K CF) (FL:Mk K CR fR) (RH:cJ P w K mg base (a_ P w) 1 fR Wm zaz (nL K CR)) (FN:Binds K Wm zaz [])
  (wR:bI P w K mg base (a_ P w) 2 CR "ways" zag (gT K CR)) (wF:bI P w K mg base (a_ P w) 2 CF "ways" zag (gU K))
  (OP:bI P w K mg base (a_ P w) 3 C "put_pin" zap (cT P w K mg base C)) (S_:tw P w K mg base (a_ P w) 3 C "put_pin" zap [.none] (cT P w K mg base C)):
  Fn P w K mg base (a_ P w) 4 "_law_put_pin" zac (yA K C):=by
 refine D.ok qd (fun vs H Q E h=>?_) (fun f bJ A outer s H vs Q E hr h=>?_)
 ·obtain ⟨fA,dx,pP,pW,pB,lP,lB,us,cA,pins,bars,sv,lw,ws,p,rfl,_⟩:=h
  rfl
 obtain ⟨fA,dx,pP,pW,pB,lP,lB,us,cA,pins,bars,sv,lw,ws,p,rfl,st,hsv,hlw,hws,⟨nl1,nl2⟩,Ry,qF,hsz,wk,lp7,q⟩:=h
 have L3:3<=sizeLine:=by decide
 have lu:us.length=pins.length:=Paired.length st.pp
 obtain ⟨kP,kW,kB,R,W,nW⟩:=st.fr
 refine ⟨_,(ae (bg (ja PySem.F.plainAttrs_list PySem.F.slot_list_append PySem.F.type_list_append eO (pv 1) (ar (aV (ar (pv 2) (ar (pv 3) (ar (pv 4) aa)))) aa)))
  (aj (bu (aS eK (aJ aI rfl a8 bZ (ar (pv 4) aa)) ak (aZ _)) (aj (bg (zB (k:=3) (pv 0) hr.mo (pY P w) (ar (pv 2) (ar (aR (pv 3)) (ar (aR (pv 3)) aa)))))) (aj (bu (aS eK (aJ aI rfl a8 bZ (ar (pv 4) aa)) ak (aZ _)) (aj (bg (cZ (k:=3) (pv 0) hr.mo (pY P w) (ar (pv 2) (ar (aR (pv 3)) (ar (aR (pv 3)) (ar (za FL RH hr.mo rfl FI FN .nil (pY P w) (ar (aR (zN (pv 4))) (ar (aR (zN (pv 4))) aa))) aa))))))) (aj (bg (cZ (k:=3) (pv 0) hr.mo (pY P w) (ar (pv 2) (ar (aR (pv 3)) (ar (aR (pv 3)) (ar (IL FK rfl FJ) aa)))))))))))),?_⟩
 refine ⟨_,rfl,.inl ⟨rfl,_,aX.of st.hp⟩,_,rfl,_,rfl,_,rfl,L3,?_⟩
 intro t1 n1;generalize eX:upd _ t1 _=H1;have ⟨s1,e1⟩:=nw n1 eX;clear eX
 refine ⟨lP,_,_,rfl,rfl,s1 _ _ st.hp,(by rw [lu];exact aaj (show pins.length<=1000 by omega) (by decide)),?_⟩
 have st1:=st.same s1
 have k2:KO pP pW pB lP lB H (upd H1 lP (.lst (us++[.ref t1]))):=fun b o _ _ _ n4 _ e=>by rw [ao n4];exact s1 _ _ e
 have e2:(upd H1 lP (.lst (us++[.ref t1]))) lP=some (.lst (us++[.ref t1])):=ah
 have nP:pP≠lP:=fun z=>by have h:=R.pl;rw [z,st.hp] at h;cases h
 have WC:pW≠lP:=fun z=>by have h:=R.wy;rw [z,st.hp] at h;cases h
 have nB:pB≠lP:=fun z=>by have h:=R.br;rw [z,st.hp] at h;cases h
 have nP' :pP≠lB:=fun z=>by have h:=R.pl;rw [z,st.hb] at h;cases h
 have nW' :pW≠lB:=fun z=>by have h:=R.wy;rw [z,st.hb] at h;cases h
 have ot:∀b o,b≠lP->H b=some o->(upd H1 lP (.lst (us++[.ref t1]))) b=some o:=fun b o n e=>by rw [ao n];exact s1 _ _ e
 have nt:t1≠lP:=fun z=>by rw [z,st.hp] at n1;cases n1
 have et:(upd H1 lP (.lst (us++[.ref t1]))) t1=some (.tup [.str p.nm,sv,.ref lw]):=by rw [ao nt];exact e1
 generalize upd H1 lP (.lst (us++[.ref t1]))=H2 at k2 e2 ot et ⊢
 have t2:=st.t k2
 have R2:eC K H2 C fA dx pP pW pB (OT pins) (GX bars) kP kW kB:=R.eE t2 ((k2.at (st.away R.obj (fun _ z=>nomatch z) fun _ z=>nomatch z) R.obj).trans R.obj.symm) ((ot _ _ nP R.pl).trans R.pl.symm) ((ot _ _ WC R.wy).trans R.wy.symm) ((ot _ _ nB R.br).trans R.br.symm)
 have W2:=st.wys k2 W nW
 have acO:=ot _ _ nl1 hlw
 have acP:=hsv.aU t2
 have WD:=hws.aU t2
 obtain ⟨sa,x1,y1,rfl,uo,RD,K4⟩:=id acP
 have fin:∀(hv:V) (H5:Hp) (Q5:VK) (E5:XK),au H2 H5->JQ P w K mg base H5 hv p.ws->(∀H',KO pP pW pB lP lB H H' ->WS K H' C fA dx pP pW pB lP lB (us++[.ref t1]) cA (pins++[p]) bars->Q5 .cw H')->cT P w K mg base C [.ref fA,.str p.nm,x1,y1,hv] H5 Q5 E5:=fun hv H5 Q5 E5 s5 hY fin=>by
  refine ⟨fA,dx,pP,pW,pB,_,_,kP,kW,_,_,p.nm,x1,y1,hv,qz p.sp,p.ws,rfl,R2.same s5,W2.same s5,by rw [aaT,aaT];rfl,RD.same s5,K4.same s5,fun z=>Ry ?_,fun z hz e=>qF ?_,?_,hY,fun H' qM jc k' R' W' nl=>?_⟩
  ·rw [aaT] at z
   exact z
  ·obtain ⟨p',kY,e'⟩:=aab.mp hz
   rw [<- e'] at e
   exact aab.mpr ⟨p',kY,ade (gR (congrArg ajl e)) (gR (congrArg ajm e))⟩
  ·rw [aaa]
   omega
  have k0:KO pP pW pB lP lB H H' :=fun b o m1 m2 m3 m4 m5 e=>k' b o m1 m2 (s5 _ _ (k2 b o m1 m2 m3 m4 m5 e))
  have t0:=st.t k0
  have fr:=st.fresh n1
  refine fin H' k0 ⟨⟨qM,jc,kB,?_,?_,fun kv K_=>?_⟩,k' _ _ (aba nP) (aba WC) (s5 _ _ e2),f' (Paired.bF st.pp fun _ _ z=>st.Kr k0 z) ⟨t1,lw,_,ws,rfl,bT.of (k' _ _ fr.1 fr.2.1 (s5 _ _ et)),hsv.aU t0,k0.at (st.way hlw nl1 nl2) hlw,hws.aU t0,nl1,nl2⟩,k' _ _ (aba nP') (aba nW') (s5 _ _ (ot _ _ (aba st.ne) st.hb)),Paired.bF st.pb fun u b z=>?_,st.gp.snoc Ry qF hsz wk,⟨st.gb.nb,fun b hb=>?_⟩,by rw [aan];simp;omega,st.lb,st.ne⟩
  ·rw [show OT (pins++[p])=OT pins++[(p.nm,qz p.sp)] from aa3]
   exact R'
  ·rw [show mpW (pins++[p])=mpW pins++[(p.nm,p.ws)] from aa3]
   exact W'
  ·obtain ⟨l9,e9,n9⟩:=nl
   rw [e9] at K_
   rcases aaG.mp K_ with h | h
   ·exact nW kv h
   ·rw [aas.mp h]
    refine ⟨fun z=>?_,fun z=>?_⟩
    ·injection z with z
     rw [z,s5 _ _ e2] at n9
     cases n9
    ·injection z with z
     rw [z,s5 _ _ (ot _ _ (aba st.ne) st.hb)] at n9
     cases n9
  ·obtain ⟨a,i,j,e,h1,g1,g2⟩:=z
   exact ⟨a,i,j,e,t0.bX h1,by rw [aap (be.mp g1).1];exact g1,by rw [aap (be.mp g2).1];exact g2⟩
  ·obtain ⟨m1,m2,m3⟩:=st.gb.ends b hb
   exact ⟨abh _ m1,abh _ m2,m3⟩
 have l2:=aX.of (K:=K) acO
 have RQ :ws.length=p.ws.length:=Paired.length hws
 refine ⟨_,rfl,lw,_,rfl,.inl l2,rfl,_,rfl,?_⟩
 rcases wk with hw | ⟨wx,wy,hw,wn,_,_⟩ | hw
 ·rw [hw] at RQ
  refine bq (fun _=>?_) (fun c=>by rw [RQ] at c;simp at c)
  refine ⟨_,rfl,fA,C,dx,_,_,_,rfl,R2.obj,rfl,S_,_,rfl,_,rfl,sa,_,_,_,rfl,rfl,uo,iE,_,rfl,sa,_,_,_,rfl,rfl,uo,h_,?_⟩
  dsimp only [fV]
  exact fin .cw H2 _ _ (au.refl _) (.inl ⟨rfl,hw⟩) fun H' k' W' =>q _ H' k' W'
 ·rw [hw] at RQ WD
  obtain ⟨w0,rfl⟩:∃w0,ws=[w0]:=by
   match ws,RQ with
   | [w0],_=>exact ⟨w0,rfl⟩
  have hw0:ft K H2 w0 (wx,wy):=by
   cases WD with
   | cons h _=>exact h
  obtain ⟨wa,y2,y3,rfl,CB,Ms,Nk⟩:=hw0
  refine bq (fun c=>by simp at c) (fun _=>?_)
  refine ⟨_,rfl,lw,_,rfl,.inl l2,rfl,_,rfl,?_⟩
  refine bq (fun _=>?_) (fun c=>absurd rfl c)
  refine ⟨_,rfl,fA,C,dx,_,_,_,rfl,R2.obj,rfl,OP,_,rfl,_,rfl,sa,_,_,_,rfl,rfl,uo,iE,_,rfl,sa,_,_,_,rfl,rfl,uo,h_,?_⟩
  refine ⟨_,rfl,lw,_,_,_,rfl,rfl,l2,rfl,wa,_,_,_,rfl,rfl,CB,iE,_,rfl,lw,_,_,_,rfl,rfl,l2,rfl,wa,_,_,_,rfl,rfl,CB,h_,?_⟩
  intro dN d1 Nl RJ ne1
  have s4:au H2 (upd (upd H2 d1 (.own dN)) dN (.ins CR d1 [])):=fun b o e=>by rw [ao (aq e Nl),ao (aq e RJ)];exact e
  have e4:(upd (upd H2 d1 (.own dN)) dN (.ins CR d1 [])) dN =some (.ins CR d1 []):=ah
  generalize upd (upd H2 d1 (.own dN)) dN (.ins CR d1 [])=H4 at s4 e4 ⊢
  refine ⟨dN,d1,y2,y3,wx,wy,rfl,e4,Ms.same s4,Nk.same s4,wn,fun p5 n5=>⟨rfl,?_⟩⟩
  have uZ:p5≠dN :=fun z=>by rw [z,e4] at n5;cases n5
  have s5:au H2 (upd (upd H4 p5 (.tup [y2,y3])) dN (.ins CR d1 [("way",.ref p5)])):=fun b o e=>by
   have z:b≠dN :=fun z=>by rw [z,Nl] at e;cases e
   rw [ao z]
   exact aF n5 _ _ _ (s4 _ _ e)
  have e5:(upd (upd H4 p5 (.tup [y2,y3])) dN (.ins CR d1 [("way",.ref p5)])) dN =some (.ins CR d1 [("way",.ref p5)]):=ah
  have t5:(upd (upd H4 p5 (.tup [y2,y3])) dN (.ins CR d1 [("way",.ref p5)])) p5=some (.tup [y2,y3]):=by rw [ao uZ,ah]
  generalize upd (upd H4 p5 (.tup [y2,y3])) dN (.ins CR d1 [("way",.ref p5)])=H5 at s5 e5 t5 ⊢
  have RK:ft K H5 (.ref p5) (wx,wy):=j4 t5 (Ms.same s5) (Nk.same s5)
  dsimp only [fV]
  exact fin (.ref dN) H5 _ _ s5 (.inr ⟨dN,CR,d1,_,zag,gT K CR,rfl,e5,AH _,wR,fun H6 e6 t6 Q' an=>⟨dN,d1,p5,(wx,wy),rfl,e6,RK.aU t6,by rw [hw] at an;exact an⟩⟩) fun H' k' W' =>q _ H' k' W'
 ·rw [hw] at RQ
  refine bq (fun c=>by rw [RQ] at c;simp at c) (fun _=>?_)
  refine ⟨_,rfl,lw,_,rfl,.inl l2,rfl,_,rfl,?_⟩
  refine bq (fun c=>by rw [RQ] at c;simp at c) (fun _=>?_)
  refine ⟨_,rfl,fA,C,dx,_,_,_,rfl,R2.obj,rfl,OP,_,rfl,_,rfl,sa,_,_,_,rfl,rfl,uo,iE,_,rfl,sa,_,_,_,rfl,rfl,uo,h_,?_⟩
  intro dN d1 Nl RJ ne1
  have s4:au H2 (upd (upd H2 d1 (.own dN)) dN (.ins CF d1 [])):=fun b o e=>by rw [ao (aq e Nl),ao (aq e RJ)];exact e
  have e4:(upd (upd H2 d1 (.own dN)) dN (.ins CF d1 [])) dN =some (.ins CF d1 []):=ah
  generalize upd (upd H2 d1 (.own dN)) dN (.ins CF d1 [])=H4 at s4 e4 ⊢
  dsimp only [fV]
  exact fin (.ref dN) H4 _ _ s4 (.inr ⟨dN,CF,d1,_,zag,gU K,rfl,e4,rfl,wF,fun H6 _ _ Q' an=>⟨dN,rfl,by rw [hw] at an;exact an⟩⟩) fun H' k' W' =>q _ H' k' W'
def Np (pins:ο)(i:Nat)(b:ba):Bool:=decide ((pins[i]?).map (·.nm)=some b.one.nm) || decide ((pins[i]?).map (·.nm)=some b.other.nm)
def Nq (pins:ο)(bars:ς)(i:Nat):Bool:= !(bars.any (Np pins i))
theorem OU {pins:ο}(np:(pins.map (·.nm)).Nodup){i j:Nat}(e:pins[j]? =some p):(pins[i]?).map (·.nm)=some p.nm ↔ i=j:=by
 constructor
 ·intro h
  have e1:(pins.map (·.nm))[i]? =some p.nm:=by rw [Wp];exact h
  have e2:(pins.map (·.nm))[j]? =some p.nm:=by rw [Wp,e];rfl
  exact ck np e1 e2
 ·rintro rfl
  rw [e]
  rfl
theorem lE {α:Type}(g:aD->Str×α)(hg:∀p,(g p).1=p.nm):∀{pins:ο} {k:Nat} {p:aD},(pins.map (·.nm)).Nodup->pins[k]? =some p->(pins.map g).filter (fun b=>decide (b.1≠p.nm))=(pins.eraseIdx k).map g
 | q::ps,0,p,nd,e=>by
  cases e
  rw [aah,aa5] at nd
  rw [aah,acd (by rw [hg];simp),List.eraseIdx_cons_zero,aiJ]
  intro b hb
  obtain ⟨r,hr,rfl⟩:=aab.mp hb
  rw [hg]
  exact decide_eq_true (fun z=>nd.1 (by rw [<- z];exact aab.mpr ⟨r,hr,rfl⟩))
 | q::ps,k+1,p,nd,e=>by
  rw [aah,aa5] at nd
  have e' :ps[k]? =some p:=by simpa using e
  have ne:q.nm≠p.nm:=fun z=>nd.1 (by rw [z];exact aab.mpr ⟨p,ir e',rfl⟩)
  rw [aah,acb (by rw [hg];exact decide_eq_true ne),List.eraseIdx_cons_succ,aah,lE g hg nd.2 e']
theorem qf {pins:ο}(h:i≠k):(pins.eraseIdx k)[if k < i then i - 1 else i]? =pins[i]? :=by
 rw [abY]
 by_cases c:k < i
 ·rw [if_pos c,if_neg (by omega),show i - 1+1=i by omega]
 ·rw [if_neg c,if_pos (by omega)]
theorem fU.erase (g:fU pins)(k:Nat):fU (pins.eraseIdx k):=by
 have sub:acU (pins.eraseIdx k) pins:=ah5 _ _
 exact ⟨g.np.sublist (sub.map _),g.ns.sublist (sub.map _),fun p hp=>g.sz p (sub.subset hp),fun p hp=>g.ws p (sub.subset hp)⟩
theorem wW :∀fs:List Nat,fw K H (fs.map fun i:Nat=>Da.v (.int (i:Int))) (fs.map fun i:Nat=>V.int (i:Int))
 | []=>by
  unfold fw
  trivial
 | i::fs=>by
  show fw K H (_::_) (_::_)
  unfold fw
  refine ⟨?_,wW fs⟩
  unfold Is
  exact ⟨rfl,rfl⟩
theorem OV :fL [x,y,z] (some 1) (some 3)=[y,z]:=rfl
theorem acQ :fL [x,y,z] (some 3) none=[]:=rfl
theorem yB (h:X.K=K)(hc:X.calm=true):fe X (.builtin "any") (Qz K):=by subst h;exact CO hc
inductive Ks (K:Frag)(C:Addr)(vs:η)(H:Hp)(Q:VK)(E_:XK):Prop where
 | mk (fA dx pP pW pB lP lB:Addr) (us cA :η) (pins:ο) (bars:ς) (c:Int) (_:vs=[.ref fA,.ref lP,.ref lB,.int c]) (_:WS K H C fA dx pP pW pB lP lB us cA pins bars) (_:(∀H',au H H' ->Q .cw H')) (_:∀(k:Nat) (p:aD) (y:V) (i5 Tb:η) (H' :Hp),pins[k]? =some p->KO pP pW pB lP lB H H' ->WS K H' C fA dx pP pW pB lP lB i5 Tb (pins.eraseIdx k) bars->j8 K H' lP lB y p->Q y H'):Ks K C vs H Q E_
theorem cp:aE ["_law_frame_here","_law_pins_here","_law_bars_here","_law_cell","_law_free","_law_at","_law_gone","_law_k","_law_one_here","_law_other"] zaf (ag cS):=sq
theorem qg (D:Def K mg "_law_pin_out" cS zaf)(a8:mg "len"=none)(bC:mg "range"=none)(Kt:mg "any"=none)(je:mg "int"=none)(dJ:Fn P w K mg base (a_ P w) 1 "_law_field" zab e_)
  (MTk:bI P w K mg base (a_ P w) 2 C "take_pin" zaB (gX K C)):
  Fn P w K mg base (a_ P w) 3 "_law_pin_out" zaf (Ks K C):=by
 refine D.ok cp (fun vs H Q E h=>?_) (fun f bJ A outer s H vs Q E hr h=>?_)
 ·obtain ⟨fA,dx,pP,pW,pB,lP,lB,us,cA,pins,bars,c,rfl,_⟩:=h
  rfl
 obtain ⟨fA,dx,pP,pW,pB,lP,lB,us,cA,pins,bars,c,rfl,st,q0,q⟩:=h
 have L3:3<=sizeLine:=by decide
 have lu:us.length=pins.length:=Paired.length st.pp
 have lv:cA.length=bars.length:=Paired.length st.pb
 have lp8:=st.lp
 have lb8:=st.lb
 obtain ⟨kP,kW,kB,R,W,nW⟩:=st.fr
 refine ⟨_,(ae (JE (i:=4) cp.nd rfl (aad rfl) (yc:="_law_k") (tn:=["_law_k"]) (fr:=["_law_bars_here"]) (caps:=[2]) rfl ⟨rfl,rfl,by decide+kernel,by decide+kernel,rfl,⟨(by first | exact aad rfl | exact abj rfl),trivial⟩,⟨(by first | exact aad rfl | exact abj rfl),trivial⟩,fun _ _=>rfl,fun _=>rfl,by decide+kernel,by decide+kernel⟩ (bV rfl bC (ar (aJ aI rfl a8 bZ (ar (pv 1) aa)) aa)) (fun _ _ _ _=>(av (i:=0) (show (["_law_k","_law_bars_here"]:List Str).Nodup from by decide+kernel) rfl (abj rfl))) (fun _ _ _ _=>(II (cW (cE (aJ (yB (K:=K) rfl rfl) rfl Kt UB (ar (cO (tn:=zaQ) (fr:=["_law_k"]) (caps:=[0]) rfl ⟨rfl,by decide+kernel,rfl,by decide+kernel,by decide+kernel,rfl,⟨(by first | exact aad rfl | exact abj rfl),trivial⟩,⟨(by first | exact aad rfl | exact abj rfl),trivial⟩⟩ (IV (K:=K) rfl (pv 1)) (fun _ _ _ _=>(av (i:=0) (show (["_law_bar","_law_k"]:List Str).Nodup from by decide+kernel) rfl (aad rfl))) (fun _ _ _ _=>cY) (fun _ _ _ _=>(jB (xS (K:=K) rfl) (pv 1) (eg (MG (K:=K) rfl) (pv 0) (dW ak) (dW ak)) rfl))) aa)))))) (fun _ _ _ _=>(pv 0)))
  (ae (bu (aS (nc hr.units) (pv 4) (cN aa) (aZ _)) (aj (aH n_)) aK)
  (ae (aG (i:=5) cp.nd rfl (aad rfl) (bo aY (pv 4) (aC dJ hr.mo (pY P w) (ar (pv 3) (ar ak (ar (aJ aI rfl a8 bZ (ar (pv 4) aa)) aa)))) (fun _ _=>rfl)))
  (ae (aG (i:=6) cp.nd rfl (aad rfl) (ja PySem.F.plainAttrs_list PySem.F.slot_list_pop PySem.F.type_list_pop vk (pv 1) (ar (pv 5) aa)))
  (ae (bg (cZ (k:=2) (pv 0) hr.mo (pY P w) (ar (aR (pv 6)) aa)))
  (ae (bB PassesOwn.never rfl (bV rfl bC (ar (aJ aI rfl a8 bZ (ar (pv 2) aa)) aa)) (av (i:=7) cp.nd rfl (aad rfl)) (ae (kz (eg xE (bo aY (pv 2) (pv 7) (fun _ _=>rfl)) (dW ak) (dW ak)) (dG rfl (aQ (av (i:=8) cp.nd rfl (aad rfl)) (aQ (av (i:=9) cp.nd rfl (aad rfl)) cu))))
   (aj (kz (aT L9 (aV (ar (aR (bo aY (pv 2) (pv 7) (fun _ _=>rfl))) (ar (aT eM (pv 8) (b9 rC rfl je zp (ar (jB vd (pv 8) (pv 5) (aZ _)) aa))) (ar (aT eM (pv 9) (b9 rC rfl je zp (ar (jB vd (pv 9) (pv 5) (aZ _)) aa))) aa)))) (eg xE (bo aY (pv 2) (pv 7) (fun _ _=>rfl)) (dW ak) iN)) (oa (pv 2) (pv 7) set_list)))))
  (aj (aH (pv 6))))))))),?_⟩
 refine ⟨_,rfl,lP,_,rfl,.inl (aX.of st.hp),((us.length:Nat):Int),rfl,by omega,by omega,fun lF nF=>?_⟩
 refine v_ (n:=us.length) (cap:=[some (.ref lB)]) (Nq pins bars) nF (aaj (show us.length<=1000 by omega) (by decide)) (fun i H1 RR hi s1 kk=>?_) (fun i H1 RR r=>⟨_,rfl,r⟩) fun H1 s1 eF=>?_
 ·have UY:=s1 _ _ st.hb
  refine ⟨_,rfl,lB,rfl,⟨_,aX.of UY⟩,fun D2 n2=>?_⟩
  refine dk (cap:=[some (.int (i:Int))]) (K:=K) (a:=lB) (xs:=cA) (fun j v _=>∀b,bars[j]? =some b->v=.bl (Np pins i b)) n2 (aaj (show cA.length<=1000 by omega) (by decide)) (fun H2 s2=>aX.of (s2 _ _ UY)) (fun _ _ _ _ _ _ _ h=>h) ?_ ?_
  ·intro j u H2 R2 hu s2 k2
   obtain ⟨b,eb,a,i1,j1,rfl,h1,g1,g2⟩:=aw st.pb hu
   have h2:=Ty.au.bX (s1.trans s2) h1
   refine ⟨_,rfl,_,rfl,1,rfl,3,rfl,a,_,rfl,h2,(by show ¬ (HT.d_ 3 0 (some 1)=0/\HT.d_ 3 3 (some 3)=3);decide),?_⟩
   rw [OV]
   intro p3 n3;generalize eX:upd _ p3 _=H3;have ⟨s3,e3⟩:=nw n3 eX;clear eX
   refine ⟨p3,_,rfl,.inr (bT.of e3),rfl,rfl,k2 _ _ s3 fun b' GU =>?_⟩
   rw [eb] at GU
   cases GU
   congr 1
   have a1:=OU st.gp.np (i:=i) g1
   have a2:=OU st.gp.np (i:=i) g2
   show SG (.int (i:Int)) [.int (i1:Int),.int (j1:Int)]=Np pins i b
   unfold Np SG
   simp only [ac1,List.any_nil,qv,aiK]
   have d1:((i1:Int)==(i:Int))=decide ((pins[i]?).map (·.nm)=some b.one.nm):=by
    rw [abr,decide_eq_true_iff,a1,beq_iff_eq]
    omega
   have d2:((j1:Int)==(i:Int))=decide ((pins[i]?).map (·.nm)=some b.other.nm):=by
    rw [abr,decide_eq_true_iff,a2,beq_iff_eq]
    omega
   rw [d1,d2]
  ·intro zs H2 lz hz s2 hD
   have ez:zs=(bars.map (Np pins i)).map V.bl:=by
    refine abL fun j=>?_
    by_cases cj:j < zs.length
    ·obtain ⟨b,eb⟩:∃b,bars[j]? =some b:=⟨_,gE (by omega)⟩
     have e1:zs[j]? =some zs[j]:=gE cj
     rw [e1,hz j _ e1 b eb,Wp,Wp,eb]
     rfl
    ·rw [aai (by omega),aai (by rw [aaa,aaa];omega)]
   rw [ez] at hD
   refine ⟨D2,_,rfl,aX.of hD,_,rfl,?_⟩
   have:=kk _ s2
   unfold Nq at this
   rw [List.any_map]
   exact this
 have st1:=st.same s1
 have R1:=R.same s1
 have W1:=W.same s1
 generalize ef:(abJ us.length).filter (Nq pins bars)=fs at eF
 dsimp only [cF]
 refine eJ (fun σ' H' =>σ' =[some (.ref fA),some (.ref lP),some (.ref lB),some (.int c),some (.ref lF),none,none,none,none,none]/\au H1 H' /\fs≠[]) (fun Nx qS=>?_) ?_
 ·refine ⟨_,rfl,(by show 0<=sizeLine;decide),?_⟩
  intro l2 n2;generalize eX:upd _ l2 _=H2;have ⟨s2,e2⟩:=nw n2 eX;clear eX
  refine ⟨fs.map fun i:Nat=>Da.v (.int (i:Int)),[],.inr ⟨?_,?_⟩,by cases fs <;> rfl,?_,_,rfl,?_⟩
  ·unfold Is
   exact ⟨lF,_,rfl,aX.of (s2 _ _ eF),wW fs⟩
  ·unfold Is
   refine ⟨l2,_,rfl,aX.of e2,?_⟩
   unfold fw
   trivial
  ·have:∀l:List Nat,gd (l.map fun i:Nat=>Da.v (.int (i:Int)))<=60:=fun l=>by
    induction l with
    | nil=>exact abc _
    | cons i l ih=>
     show max (dep (Da.v (.int (i:Int)))) (gd (l.map fun i:Nat=>Da.v (.int (i:Int))))<=60
     have:dep (Da.v (.int (i:Int)))=0:=rfl
     omega
   exact this fs
  ·refine bq (fun _=>?_) (fun cc=>?_)
   ·exact q0 _ (s1.trans s2)
   ·refine qS _ _ ⟨rfl,s2,fun z=>cc ?_⟩
    rw [z]
    rfl
 rintro σ' H2 ⟨rfl,s2,nfs⟩
 have eF2:=s2 _ _ eF
 have kr:=st1.same s2
 have R2:=R1.same s2
 have W2:=W1.same s2
 have lf:0 < fs.length:=by
  cases fs with
  | nil=>exact absurd rfl nfs
  | cons a l=>exact Nat.succ_pos _
 refine ⟨_,rfl,_,rfl,_,rfl,lF,_,rfl,.inl (aX.of eF2),_,_,_,rfl,by decide,by decide,(by rw [aaa];omega),?_⟩
 have fi:=bf (c:=c) (p:=7001) (m:=(((fs.map fun i:Nat=>V.int (i:Int)).length:Nat):Int)) (by rw [aaa];omega)
 generalize field c 7001 (((fs.map fun i:Nat=>V.int (i:Int)).length:Nat):Int)=fv at fi ⊢
 rw [aaa] at fi
 obtain ⟨fn,rfl⟩:∃n:Nat,fv=(n:Int):=⟨fv.toNat,by omega⟩
 have Tr:fn < fs.length:=by omega
 obtain ⟨k,ek⟩:∃k,fs[fn]? =some k:=⟨_,gE Tr⟩
 have mk:=ir ek
 rw [<- ef] at mk
 obtain ⟨mk1,mk2⟩:=ace.mp mk
 have hk:k < us.length:=abV.mp mk1
 have af:gO (fs.map fun i:Nat=>V.int (i:Int)) (fn:Int)=some (.int (k:Int)):=bS (by rw [Wp,ek];rfl)
 refine ⟨lF,_,_,_,rfl,rfl,aX.of eF2,af,?_⟩
 obtain ⟨p,ep⟩:∃p,pins[k]? =some p:=⟨_,gE (by omega)⟩
 have mp:=ir ep
 obtain ⟨y,ey,hy⟩:=aw (b6 kr.pp) ep
 have hy:j8 K H2 lP lB y p:=hy
 have free:∀b∈bars,p.nm≠b.one.nm/\p.nm≠b.other.nm:=fun b hb=>by
  have h1:Np pins k b=false:=by
   cases hc:Np pins k b with
   | false=>rfl
   | true=>
    have:(bars.any (Np pins k))=true:=ah6.mpr ⟨b,hb,hc⟩
    unfold Nq at mk2
    rw [this] at mk2
    cases mk2
  unfold Np at h1
  rw [Bool.or_eq_false_iff] at h1
  have e1:(pins[k]?).map (·.nm)=some p.nm:=by rw [ep];rfl
  refine ⟨fun z=>?_,fun z=>?_⟩
  ·exact absurd (by rw [e1,z]) (of_decide_eq_false h1.1)
  ·exact absurd (by rw [e1,z]) (of_decide_eq_false h1.2)
 refine ⟨_,rfl,.inl ⟨rfl,_,aX.of kr.hp⟩,_,rfl,lP,us,(k:Int),k,y,rfl,rfl,kr.hp,by omega,by omega,Jp hk,ey,?_⟩
 have k3:KO pP pW pB lP lB H2 (upd H2 lP (.lst (us.eraseIdx k))):=fun b o _ _ _ n4 _ e=>by rw [ao n4];exact e
 have e3:(upd H2 lP (.lst (us.eraseIdx k))) lP=some (.lst (us.eraseIdx k)):=ah
 have nP:pP≠lP:=fun z=>by have h:=R2.pl;rw [z,kr.hp] at h;cases h
 have WC:pW≠lP:=fun z=>by have h:=R2.wy;rw [z,kr.hp] at h;cases h
 have nB:pB≠lP:=fun z=>by have h:=R2.br;rw [z,kr.hp] at h;cases h
 have nP' :pP≠lB:=fun z=>by have h:=R2.pl;rw [z,kr.hb] at h;cases h
 have nW' :pW≠lB:=fun z=>by have h:=R2.wy;rw [z,kr.hb] at h;cases h
 have nB' :pB≠lB:=fun z=>by have h:=R2.br;rw [z,kr.hb] at h;cases h
 have ot:∀b o,b≠lP->H2 b=some o->(upd H2 lP (.lst (us.eraseIdx k))) b=some o:=fun b o n e=>by rw [ao n];exact e
 generalize upd H2 lP (.lst (us.eraseIdx k))=H3 at k3 e3 ot ⊢
 have t3:=kr.t k3
 have R3:eC K H3 C fA dx pP pW pB (OT pins) (GX bars) kP kW kB:=R2.eE t3 ((k3.at (kr.away R2.obj (fun _ z=>nomatch z) fun _ z=>nomatch z) R2.obj).trans R2.obj.symm) ((ot _ _ nP R2.pl).trans R2.pl.symm) ((ot _ _ WC R2.wy).trans R2.wy.symm) ((ot _ _ nB R2.br).trans R2.br.symm)
 have W3:=kr.wys k3 W2 nW
 have hy3:=kr.Kr k3 hy
 obtain ⟨ta,la,sv,ws,rfl,h1,h2,h3,h4,h5,h6⟩:=id hy3
 refine ⟨_,rfl,fA,C,dx,_,_,_,rfl,R3.obj,rfl,MTk,_,rfl,ta,_,_,_,rfl,rfl,h1,rfl,?_⟩
 dsimp only [fV]
 refine ⟨fA,dx,pP,pW,pB,OT pins,GX bars,kP,kW,kB,mpW pins,p.nm,rfl,R3,W3,by rw [aaT,aaT];rfl,by rw [aaT];exact aab.mpr ⟨p,mp,rfl⟩,fun b hb=>?_,fun H4 qM jc k4 R4 W4 sub=>?_⟩
 ·obtain ⟨b',gh,rfl⟩:=aab.mp hb
  exact free b' gh
 rw [lE (fun p=>(p.nm,qz p.sp)) (fun _=>rfl) st.gp.np ep] at R4
 rw [lE (fun p=>(p.nm,p.ws)) (fun _=>rfl) st.gp.np ep] at W4
 have k24:KO pP pW pB lP lB H2 H4:=fun b o m1 m2 m3 m4 m5 e=>k4 b o m1 m2 (k3 b o m1 m2 m3 m4 m5 e)
 have Nr:H4 lB=some (.lst cA):=k4 _ _ (aba nP') (aba nW') (ot _ _ (aba st.ne) kr.hb)
 have hp4:H4 lP=some (.lst (us.eraseIdx k)):=k4 _ _ (aba nP) (aba WC) e3
 have t24:=kr.t k24
 have pe:∀{us:η} {l:ο} {j:Nat},Paired (j8 K H4 lP lB) us l->Paired (j8 K H4 lP lB) (us.eraseIdx j) (l.eraseIdx j):=fun {us l j} h=>by
  induction h generalizing j with
  | nil=>exact .nil
  | cons x t ih=>
   cases j with
   | zero=>exact t
   | succ j=>exact .cons x ih
 have Qi:∀(H5:Hp) (vs5:η),(∀b o,b≠lB->H4 b=some o->H5 b=some o)->H5 lB=some (.lst vs5)->Paired (iL K H5 (pins.eraseIdx k)) vs5 bars->WS K H5 C fA dx pP pW pB lP lB (us.eraseIdx k) vs5 (pins.eraseIdx k) bars/\KO pP pW pB lP lB H H5:=fun H5 vs5 k5 OW pb5=>by
  have k25:KO pP pW pB lP lB H2 H5:=fun b o m1 m2 m3 m4 m5 e=>k5 b o m5 (k24 b o m1 m2 m3 m4 m5 e)
  have t5:bD H4 H5:=fun b xs r=>by
   rcases r with r | ⟨o',r⟩
   ·exact .inl (k5 _ _ (fun z=>by rw [z,Nr] at r;cases r) r)
   ·exact .inr ⟨o',k5 _ _ (fun z=>by rw [z,Nr] at r;cases r) r⟩
  have nw:∀kv∈jc,kv.2≠.ref lP/\kv.2≠.ref lB:=fun kv K_=>nW kv (sub kv K_)
  refine ⟨⟨⟨qM,jc,kB,R4.eE t5 ((k5 _ _ (fun z=>by have h:=R4.obj;rw [z,Nr] at h;cases h) R4.obj).trans R4.obj.symm) ((k5 _ _ nP' R4.pl).trans R4.pl.symm) ((k5 _ _ nW' R4.wy).trans R4.wy.symm) ((k5 _ _ nB' R4.br).trans R4.br.symm),?_,nw⟩,k5 _ _ st.ne hp4,Paired.bF (pe (j:=k) (Paired.bF kr.pp fun _ _ z=>kr.Kr k24 z)) fun _ _ z=>?_,OW,pb5,st.gp.erase k,⟨st.gb.nb,fun b hb=>?_⟩,?_,st.lb,st.ne⟩,(KO.of (s1.trans s2)).trans k25⟩
  ·refine dy (Paired.length W4) fun i p' kv e1 e2=>?_
   obtain ⟨kv',e3',z1,l,i5,z2,z3,z4⟩:=aw W4 e1
   rw [e2] at e3'
   cases e3'
   exact ⟨z1,l,i5,z2,k5 _ _ (fun z=>(nw _ (ir e2)).2 (by rw [z2,z])) z3,z4.aU t5⟩
  ·obtain ⟨a',l',Wh,ws',ev',c1,c2,c3,c4,c5,c6⟩:=z
   exact ⟨a',l',Wh,ws',ev',t5.bX c1,c2.aU t5,k5 _ _ c6 c3,c4.aU t5,c5,c6⟩
  ·obtain ⟨m1,m2,m3⟩:=st.gb.ends b hb
   obtain ⟨f1,f2⟩:=free b hb
   have ins:∀r∈pins,p.nm≠r.nm->r∈pins.eraseIdx k:=fun r hr ne=>by
    obtain ⟨i,ei⟩:=aag hr
    have ik:i≠k:=fun z=>by
     rw [z,ep] at ei
     cases ei
     exact ne rfl
    exact ir ((qf ik).trans ei)
   exact ⟨ins _ m1 f1,ins _ m2 f2,m3⟩
  ·rw [aca]
   split <;> omega
 refine ⟨_,rfl,lB,_,rfl,.inl (aX.of Nr),((cA.length:Nat):Int),rfl,by omega,by omega,b8 (lo:=0) (n:=((cA.length:Nat):Int).toNat) (fun i σ H' =>∃(o7 o8 o9:χ) (xs:η),σ=[some (.ref fA),some (.ref lP),some (.ref lB),some (.int c),some (.ref lF),some (.int (k:Int)),some (.ref ta),o7,o8,o9]/\(∀b o,b≠lB->H4 b=some o->H' b=some o)/\H' lB=some (.lst xs)/\xs.length=cA.length/\(∀(j:Nat) (u:V) (b:ba),j < i->xs[j]? =some u->bars[j]? =some b->iL K H' (pins.eraseIdx k) u b)/\∀j,i<=j->xs[j]? =cA[j]?) ⟨none,none,none,cA,rfl,fun _ _ _ e=>e,Nr,rfl,fun j u b h=>absurd h (acf _),fun _ _=>rfl⟩ ?_ ?_⟩
 ·rintro i σ H5 hi ⟨o7,o8,o9,xs,rfl,k5,OW,lx,don,rest⟩
  have ei:(0:Int)+(i:Int)=(i:Int):=abn _
  rw [ei]
  have Ql:i < cA.length:=by omega
  obtain ⟨u,eu⟩:∃u,cA[i]? =some u:=⟨_,gE Ql⟩
  obtain ⟨b,eb,a,i1,j1,rfl,UY,g1,g2⟩:=aw kr.pb eu
  obtain ⟨f1,f2⟩:=free b (ir eb)
  have t5:bD H4 H5:=fun b xs r=>by
   rcases r with r | ⟨o',r⟩
   ·exact .inl (k5 _ _ (fun z=>by rw [z,Nr] at r;cases r) r)
   ·exact .inr ⟨o',k5 _ _ (fun z=>by rw [z,Nr] at r;cases r) r⟩
  have ha5:bT K H5 a [.str b.nm,.int (i1:Int),.int (j1:Int)]:=t5.bX (t24.bX UY)
  have ax:gO xs (i:Int)=some (.ref a):=bS (by rw [rest i (aac _)];exact eu)
  have n1k:i1≠k:=fun z=>by rw [z,ep] at g1;cases g1;exact f1 rfl
  have n2k:j1≠k:=fun z=>by rw [z,ep] at g2;cases g2;exact f2 rfl
  refine ⟨_,rfl,_,rfl,lB,_,_,_,rfl,rfl,aX.of OW,ax,1,rfl,3,rfl,a,_,rfl,ha5,(by show ¬ (HT.d_ 3 0 (some 1)=0/\HT.d_ 3 3 (some 3)=3);decide),?_⟩
  rw [OV]
  intro p6 n6;generalize eX:upd _ p6 _=H6;have ⟨s6,e6⟩:=nw n6 eX;clear eX
  refine ⟨p6,_,rfl,bT.of e6,rfl,_,_,rfl,_,_,rfl,rfl,?_⟩
  have hb6:=s6 _ _ OW
  have ha6:=Ty.au.bX s6 ha5
  refine ⟨_,rfl,_,rfl,lB,_,_,_,rfl,rfl,aX.of hb6,ax,a,_,_,_,rfl,rfl,ha6,qa,?_⟩
  refine ⟨_,rfl,_,rfl,_,rfl,_,_,rfl,rfl,.inr ⟨_,rfl,_,_,rfl,rfl,?_⟩⟩
  refine ⟨_,rfl,_,rfl,_,rfl,_,_,rfl,rfl,.inr ⟨_,rfl,_,_,rfl,rfl,L3,?_⟩⟩
  intro p7 n7;generalize eX:upd _ p7 _=H7;have ⟨s7,e7⟩:=nw n7 eX;clear eX
  have OI:=s7 _ _ hb6
  have ha7:=Ty.au.bX s7 ha6
  refine ⟨_,rfl,_,rfl,lB,_,_,_,rfl,rfl,aX.of OI,ax,3,rfl,a,_,rfl,ha7,(by show ¬ (HT.d_ 3 0 (some 3)=0/\HT.d_ 3 3 none=3);decide),?_⟩
  rw [acQ]
  intro p8 n8;generalize eX:upd _ p8 _=H8;have ⟨s8,e8⟩:=nw n8 eX;clear eX
  have e78:=s8 _ _ e7
  have hb8:=s8 _ _ OI
  refine ⟨p7,p8,_,_,rfl,rfl,bT.of e78,bT.of e8,by simp,(by show 3<=sizeLine;decide),fun _=>?_,fun z=>absurd rfl z⟩
  have ixn:HS xs.length (i:Int)=some i:=tO (by omega)
  refine ⟨_,rfl,_,rfl,lB,_,_,i,rfl,rfl,hb8,ixn,?_⟩
  have S1:=s6.trans (s7.trans s8)
  have sh:∀m:Nat,((m:Int) - (if decide ((k:Int) < (m:Int))=true then 1 else 0))=(((if k < m then m - 1 else m:Nat)):Int):=fun m=>by
   by_cases cm:k < m
   ·rw [if_pos (decide_eq_true (by omega)),if_pos cm]
    omega
   ·rw [if_neg (by simpa using cm),if_neg cm]
    omega
  have k9:∀b o,b≠lB->H5 b=some o->(upd H8 lB (.lst (xs.set i (.ref p7)))) b=some o:=fun b o n e=>by rw [ao n];exact S1 _ _ e
  have np7:p7≠lB:=fun z=>by rw [z,hb6] at n7;cases n7
  have e79:(upd H8 lB (.lst (xs.set i (.ref p7)))) p7=some (.tup [.str b.nm,.int (((if k < i1 then i1 - 1 else i1:Nat)):Int),.int (((if k < j1 then j1 - 1 else j1:Nat)):Int)]):=by
   rw [ao np7,e78, <- sh i1, <- sh j1]
  have t9:bD H5 (upd H8 lB (.lst (xs.set i (.ref p7)))):=fun b' ys r=>by
   rcases r with r | ⟨o',r⟩
   ·exact .inl (k9 _ _ (fun z=>by rw [z,OW] at r;cases r) r)
   ·exact .inr ⟨o',k9 _ _ (fun z=>by rw [z,OW] at r;cases r) r⟩
  refine ⟨_,_,_,xs.set i (.ref p7),rfl,fun b' o' n e=>k9 _ _ n (k5 _ _ n e),ah,by rw [aiA];exact lx,fun j u' b' hj OQ GU =>?_,fun j hj=>?_⟩
  ·by_cases cj:j=i
   ·subst cj
    rw [adb (by omega)] at OQ
    cases OQ
    rw [eb] at GU
    cases GU
    exact ⟨p7,_,_,rfl,bT.of e79,(qf n1k).trans g1,(qf n2k).trans g2⟩
   ·rw [acM (aba cj)] at OQ
    obtain ⟨a',i',j',e',c1,c2,c3⟩:=don j u' b' (by omega) OQ GU
    exact ⟨a',i',j',e',t9.bX c1,c2,c3⟩
  ·rw [acM (by omega)]
   exact rest j (by omega)
 ·rintro σ H5 ⟨o7,o8,o9,xs,rfl,k5,OW,lx,don,rest⟩
  have en:((cA.length:Nat):Int).toNat=cA.length:=by omega
  rw [en] at don
  have pb5:Paired (iL K H5 (pins.eraseIdx k)) xs bars:=dy (by omega) fun j u b e1 e2=>don j u b (by have:=(be.mp e1).1;omega) e1 e2
  obtain ⟨w5,ko⟩:=Qi H5 xs k5 OW pb5
  refine ⟨_,rfl,q k p (.ref ta) _ xs H5 ep ko w5 ?_⟩
  have ta4:=kr.Kr k24 hy
  obtain ⟨a',l',Wh,ws',ev',c1,c2,c3,c4,c5,c6⟩:=ta4
  have t5:bD H4 H5:=fun b xs r=>by
   rcases r with r | ⟨o',r⟩
   ·exact .inl (k5 _ _ (fun z=>by rw [z,Nr] at r;cases r) r)
   ·exact .inr ⟨o',k5 _ _ (fun z=>by rw [z,Nr] at r;cases r) r⟩
  exact ⟨a',l',Wh,ws',ev',t5.bX c1,c2.aU t5,k5 _ _ c6 c3,c4.aU t5,c5,c6⟩
theorem Nt (r:Rat)(n:Int):g_ (qr r) (n,1)=qr (r+(n:Rat)):=by
 have e:g_ (qr r) (n,1)=((qr r).1+n*(qr r).2,(qr r).2):=by
  unfold g_
  simp
 have g:aby ((qr r).1+n*(qr r).2) (qr r).2=1:=by
  have:=oR r
  rw [<- this]
  simp
 rw [e,rY (q:=((qr r).1+n*(qr r).2,(qr r).2)) (dH r) g]
 congr 1
 have z:=xP (r:=r)
 have v:=gA r
 unfold vl at v ⊢
 push_cast
 grind
inductive RS (K:Frag)(C:Addr)(vs:η)(H:Hp)(Q:VK)(E_:XK):Prop where
 | mk (fA dx pP pW pB lP lB:Addr) (us cA :η) (pins:ο) (bars:ς) (g:V) (c:Int) (_:vs=[.ref fA,.ref lP,g,.int c]) (_:WS K H C fA dx pP pW pB lP lB us cA pins bars) (_:pins.length<=7) (_:((g=.cw/\∀p∈pins,p.nm≠ "far"/\p.sp.1<=1000001)\/∃p,j8 K H lP lB g p/\p.nm∉pins.map (·.nm)/\p.sp∉pins.map (·.sp)/\Sz 44 p.sp.1/\Sz 20 p.sp.2/\ -500002<=p.sp.2/\∀q∈pins,q.sp.2<=500002)) (_:∀(p:aD) (i5 :η) (H' :Hp),KO pP pW pB lP lB H H' ->WS K H' C fA dx pP pW pB lP lB i5 cA (pins++[p]) bars->Q .cw H'):RS K C vs H Q E_
theorem gm:aE ["_law_frame_here","_law_pins_here","_law_gone","_law_cell","_law_spot_here","_law_up"] zah (ag dC):=sq
theorem qT (D:Def K mg "_law_pin_in" dC zah)(dJ:Fn P w K mg base (a_ P w) 1 "_law_field" zab e_)(Ni:Fn P w K mg base (a_ P w) 34 "_law_ways" zaN (nX K))(yt:Fn P w K mg base (a_ P w) 1 "_law_sum" zad (eI K g_))
  (jf:Fn P w K mg base (a_ P w) 4 "_law_put_pin" zac (yA K C)):
  Fn P w K mg base (a_ P w) 35 "_law_pin_in" zah (RS K C):=by
 refine D.ok gm (fun vs H Q E h=>?_) (fun f bJ A outer s H vs Q E hr h=>?_)
 ·obtain ⟨fA,dx,pP,pW,pB,lP,lB,us,cA,pins,bars,g,c,rfl,_⟩:=h
  rfl
 obtain ⟨fA,dx,pP,pW,pB,lP,lB,us,cA,pins,bars,g,c,rfl,st,lp7,hg,q⟩:=h
 have L2:2<=sizeLine:=by decide
 refine ⟨_,(aj (bu (aS xt (pv 2) n_ (aZ _)) (ae (aG (i:=4) gm.nd rfl (aad rfl) (aV (ar (aV (ar ak (ar ak aa))) (ar (aV (ar (aC dJ hr.mo pX (ar (pv 3) (ar ak (ar ak aa)))) (ar ak aa))) aa))))
   (aj (bg (aC jf hr.mo pX (ar (pv 0) (ar (pv 1) (ar ky (ar (pv 4) (ar (aC Ni hr.mo pX (ar (pv 3) aa)) aa))))))))) (ae (aG (i:=5) gm.nd rfl (aad rfl) (aC yt hr.mo pX (ar (aR (aR (pv 2))) (ar (aV (ar (aT c9 ak (aC dJ hr.mo pX (ar (pv 3) (ar ak (ar ak aa))))) (ar ak aa))) aa))))
   (aj (bg (aC jf hr.mo pX (ar (pv 0) (ar (pv 1) (ar (aR (pv 2)) (ar (aV (ar (aR (aR (pv 2))) (ar (pv 5) aa))) (ar (aC Ni hr.mo pX (ar (pv 3) aa)) aa))))))))))),?_⟩
 refine ⟨_,rfl,rfl,_,rfl,?_⟩
 rcases hg with ⟨rfl,hf⟩ | ⟨p,hy,Ry,qF,z1,z2,yb,qb⟩
 ·refine bq (fun _=>?_) (fun cc=>absurd (by decide) cc)
  have i2:=bf (c:=c) (p:=2003) (m:=99) (by decide)
  refine ⟨L2,?_⟩
  intro p1 n1;generalize eX:upd _ p1 _=H1;have ⟨s1,e1⟩:=nw n1 eX;clear eX
  refine ⟨_,rfl,_,_,_,rfl,by decide,by decide,by decide,L2,?_⟩
  intro p2 n2;generalize eX:upd _ p2 _=H2;have ⟨s2,e2⟩:=nw n2 eX;clear eX
  refine ⟨L2,?_⟩
  intro p3 n3;generalize eX:upd _ p3 _=H3;have ⟨s3,e3⟩:=nw n3 eX;clear eX
  have wV:=s1.trans (s2.trans s3)
  refine ⟨_,rfl,_,rfl,_,rfl,_,rfl,_,rfl,fun l8 Wi ws H8 wk s8 n8 e8 p8=>?_⟩
  try dsimp only [fV]
  have hpt:ft K H3 (.ref p3) (((2000003:Int):Rat),((field c 2003 99:Int):Rat)):=j4 e3 ((pS _ e1).same (s2.trans s3)) ((pS _ e2).same s3)
  have fr:=(st.same wV).fresh n8
  refine ⟨fA,dx,pP,pW,pB,lP,lB,us,cA,pins,bars,.ref p3,l8,Wi,⟨"far",(((2000003:Int):Rat),((field c 2003 99:Int):Rat)),ws⟩,rfl,st.same (wV.trans s8),hpt.same s8,e8,p8,⟨fr.2.2.2.1,fr.2.2.2.2⟩,fun z=>?_,fun z=>?_,⟨?_,?_⟩,wk,lp7,fun i5 H' k' W' =>q _ i5 H' ((KO.of (wV.trans s8)).trans k') W'⟩
  ·obtain ⟨p',kY,e'⟩:=aab.mp z
   exact (hf p' kY).1 e'
  ·obtain ⟨p',kY,e'⟩:=aab.mp z
   have h1:=(hf p' kY).2
   rw [e'] at h1
   have h2:((2000003:Int):Rat)<=1000001:=h1
   exact absurd h2 (by decide+kernel)
  ·exact kN (by decide) (by decide)
  ·exact kN (aaO (show _ < 128 by omega) (by decide)) (by decide)
 ·obtain ⟨ta,la,sv,ws0,rfl,h1,h2,h3,h4,h5,h6⟩:=id hy
  obtain ⟨sa,x1,y1,rfl,uo,RD,K4⟩:=h2
  refine bq (fun cc=>absurd (of_decide_eq_true cc) (fun z=>nomatch z)) (fun _=>?_)
  have i2:=bf (c:=c) (p:=3001) (m:=2) (by decide)
  refine ⟨_,rfl,ta,_,_,_,rfl,rfl,h1,rfl,sa,_,_,_,rfl,rfl,uo,h_,_,rfl,_,_,_,rfl,by decide,by decide,by decide,_,_,rfl,rfl,⟨by decide+kernel,aaf (intBits_le_64 (by omega) (by omega)) (by decide)⟩,L2,?_⟩
  intro p2 n2;generalize eX:upd _ p2 _=H2;have ⟨s2,e2⟩:=nw n2 eX;clear eX
  try dsimp only [fV]
  generalize field c 3001 2=fv at i2 e2 ⊢
  have nb:Ns 22 (4000037*fv,(1:Int)):=⟨by show (4000037*fv).natAbs<=4194304;omega,by show 1<=2^22;decide⟩
  refine ⟨y1,.ref p2,qr p.sp.2,(4000037*fv,1),20,22,rfl,K4.same s2,⟨p2,rfl,bT.of e2⟩,OO z2,nb,by decide,fun p5 H5 s5 e5=>?_⟩
  rw [Nt] at e5
  have mR:=s2.trans s5
  have dN :=Ty.au.bX mR h1
  have acY :=Ty.au.bX mR uo
  refine ⟨_,rfl,_,rfl,_,rfl,ta,_,_,_,rfl,rfl,dN,qa,_,rfl,ta,_,_,_,rfl,rfl,dN,rfl,sa,_,_,_,rfl,rfl,acY,iE,_,rfl,L2,?_⟩
  intro p6 n6;generalize eX:upd _ p6 _=H6;have ⟨s6,e6⟩:=nw n6 eX;clear eX
  have yr:=mR.trans s6
  refine ⟨_,rfl,_,rfl,fun l8 Wi ws H8 wk s8 n8 e8 p8=>?_⟩
  try dsimp only [fV]
  have hpt:ft K H6 (.ref p6) (p.sp.1,p.sp.2+((4000037*fv:Int):Rat)):=j4 e6 (RD.same yr) ((j3 e5).same s6)
  have fr:=(st.same yr).fresh n8
  refine ⟨fA,dx,pP,pW,pB,lP,lB,us,cA,pins,bars,.ref p6,l8,Wi,⟨p.nm,(p.sp.1,p.sp.2+((4000037*fv:Int):Rat)),ws⟩,rfl,st.same (yr.trans s8),hpt.same s8,e8,p8,⟨fr.2.2.2.1,fr.2.2.2.2⟩,Ry,fun z=>?_,⟨z1,?_⟩,wk,lp7,fun i5 H' k' W' =>q _ i5 H' ((KO.of (yr.trans s8)).trans k') W'⟩
  ·obtain ⟨p',kY,e'⟩:=aab.mp z
   have two:fv=0\/fv=1:=by omega
   rcases two with rfl | rfl
   ·refine qF (aab.mpr ⟨p',kY,e'.trans ?_⟩)
    refine ade rfl ?_
    show p.sp.2+((4000037*0:Int):Rat)=p.sp.2
    have:((4000037*0:Int):Rat)=0:=by decide+kernel
    rw [this]
    grind
   ·have h1:=qb p' kY
    rw [e'] at h1
    have h2:p.sp.2+((4000037*1:Int):Rat)<=500002:=h1
    have:((4000037*1:Int):Rat)=4000037:=by decide+kernel
    rw [this] at h2
    grind
  ·exact (z2.add (kN (i:=4000037*fv) (k:=22) (by show _ < 4194304;omega) (by decide))).up (by decide)
mutual
theorem Nu {H:Hp}:∀(d:Da) (x:V),Is K H d x->alike d d=true/\gc d d=true
 | .v a,x,h=>by
  unfold Is at h
  unfold alike gc
  exact ⟨rfl,vp h.2⟩
 | .t ds,x,h=>by
  unfold Is at h
  unfold alike gc
  obtain ⟨p,xs,_,_,k⟩:=h
  exact j9 ds xs k
 | .l ds,x,h=>by
  unfold Is at h
  unfold alike gc
  obtain ⟨p,xs,_,_,k⟩:=h
  exact j9 ds xs k
theorem j9 {H:Hp}:∀(ds:List Da) (xs:η),fw K H ds xs->df ds ds=true/\cK ds ds=true
 | [],_,_=>⟨rfl,rfl⟩
 | d::ds,[],h=>by unfold fw at h;exact h.elim
 | d::ds,x::xs,h=>by
  unfold fw at h
  unfold df cK
  obtain ⟨a1,a2⟩:=Nu d x h.1
  obtain ⟨b1,b2⟩:=j9 ds xs h.2
  rw [a1,a2,b1,b2]
  exact ⟨rfl,rfl⟩
end
theorem qh {α:Type}{f:α->Da}(h:∀a,dep (f a)<=60):∀l:List α,gd (l.map f)<=60
 | []=>abc _
 | a::l=>by
  show max (dep (f a)) (gd (l.map f))<=60
  have h1:=h a
  have h2:=qh h l
  omega
theorem nY {R:V->α->Prop}(h:∀u a,R u a->Is K H (f a) u):∀{us:η} {l:List α},Paired R us l->fw K H (l.map f) us
 | [],[],.nil=>by
  unfold fw
  trivial
 | _::_,_::_,.cons z t=>by
  show fw K H (_::_) _
  unfold fw
  exact ⟨h _ _ z,nY h t⟩
theorem WE (h1:Is K H (.l ds) x)(h2:Is K H (.l ds) y)(hd:gd ds<=60)(q:Q (.bl false) H):zl K x y H Q:=by
 have h:=h1
 unfold Is at h
 obtain ⟨p,xs,_,_,k⟩:=h
 obtain ⟨b1,b2⟩:=j9 ds xs k
 refine ⟨ds,ds,.inr ⟨h1,h2⟩,b1,hd,?_⟩
 rw [b2]
 exact q
theorem iY :∀{us:η} {zs:List α},us.length=zs.length->(∀(i:Nat) (u:V),us[i]? =some u->∃z,zs[i]? =some z/\R u z)->Paired R us zs
 | [],[],_,_=>.nil
 | u::us,z::zs,l,h=>by
  obtain ⟨z',e,hz⟩:=h 0 u rfl
  cases e
  exact .cons hz (iY (by simpa using l) fun i u e=>h (i+1) u (by simpa using e))
theorem j_ {x:Str×Nat}(h:bT K H b [.str x.1,.int (x.2:Int)]):Is K H (.t [.v (.str x.1),.v (.int (x.2:Int))]) (.ref b):=by
 unfold Is
 refine ⟨b,_,rfl,h,?_⟩
 unfold fw
 refine ⟨by unfold Is;exact ⟨rfl,rfl⟩,?_⟩
 unfold fw
 refine ⟨by unfold Is;exact ⟨rfl,rfl⟩,?_⟩
 unfold fw
 trivial
theorem Nv (x y:Str×Nat):cK [.v (.str x.1),.v (.int (x.2:Int))] [.v (.str y.1),.v (.int (y.2:Int))]=decide (x=y):=by
 obtain ⟨a,i⟩:=x
 obtain ⟨b,j⟩:=y
 simp only [cK,gc,qv,aiq]
 rw [abr,decide_eq_true_iff,abE,ajx]
 constructor
 ·rintro ⟨h1,h2⟩
  have ZP :(i:Int)=(j:Int):=by simpa using h2
  exact ⟨by simpa using h1,by omega⟩
 ·rintro ⟨rfl,rfl⟩
  simp
theorem yC {kT:ν}{R:List Key×V->sC->Prop}(pr:Paired R kT ms)(hR:∀kv m,R kv m->kv.1=cP m.1)(x:Str×Nat):(bL kT (cP x)).isSome=decide (x∈ms.map (·.1)):=by
 rw [abr,decide_eq_true_iff,acX]
 constructor
 ·rintro ⟨v,e⟩
  obtain ⟨i,ei⟩:=aag (vN e)
  obtain ⟨m,em,hm⟩:=aw pr ei
  exact aab.mpr ⟨m,ir em,(pM (hR _ _ hm)).symm⟩
 ·intro h
  obtain ⟨m,hm,rfl⟩:=aab.mp h
  obtain ⟨i,ei⟩:=aag hm
  obtain ⟨kv,ek,hk⟩:=dY pr ei
  exact eR (aab.mpr ⟨kv,ir ek,hR _ _ hk⟩)
theorem uu :∀kv m,La K H pins bars N kv m->kv.1=cP m.1:=fun kv m ⟨_,_,_,_,_,e,_⟩=>by rw [e]
inductive Ku (K:Frag)(vs:η)(H:Hp)(Q:VK)(E_:XK):Prop where
 | mk (lP lB dm b:Addr) (us cA :η) (pins:ο) (bars:ς) (kT:ν) (ss:List sC) (i:Nat) (s:sC) (_:vs=[.ref lP,.ref lB,.ref dm,.ref b]) (_:OR K H lP lB us cA pins bars) (_:gH K H pins bars kT ss 35000) (_:Rd H dm (.dT kT)) (_:ss[i]? =some s) (_:H b=some (.tup ((cP s.1).map kV))) (_:∀H',au H H' ->Q (.bl true) H'):Ku K vs H Q E_
theorem dZ:aE ["_law_pins_here","_law_bars_here","_law_told","_law_pair","_law_forces_here","_law_pulls","_law_found","_law_k","_law_axis","_law_here"] zai (ag fH):=sq
theorem yD (D:Def K mg "_law_one" fH zai)(a9:mg "isinstance"=none)(fE:mg "tuple"=none)(a8:mg "len"=none)(bC:mg "range"=none)(acZ:Fn P w K mg base (a_ P w) 35 "_law_are_forces" zaa (yz K))(ac0:Fn P w K mg base (a_ P w) 3 "_law_forces" zaa (pV K)):
  Fn P w K mg base (a_ P w) 36 "_law_one" zai (Ku K):=by
 refine D.ok dZ (fun vs H Q E h=>?_) (fun f bJ A outer s H vs Q E hr h=>?_)
 ·obtain ⟨lP,lB,dm,b,us,cA,pins,bars,kT,ss,i,s,rfl,_⟩:=h
  rfl
 obtain ⟨lP,lB,dm,b,us,ws,pins,bars,kT,ss,i,st,rfl,fr,mo,hm,em,hb,q⟩:=h
 have L2:2<=sizeLine:=by decide
 have lp:=fr.lp
 have lb:=fr.lb
 have mm:=ir em
 have lu:us.length=pins.length:=Paired.length fr.pp
 have lw:ws.length=bars.length:=Paired.length fr.pb
 obtain ⟨kv,ek,p,dT,dU,Tc,kU,si,hp,pl⟩:=dY mo.pr em
 have rd:∀{H' :Hp},au H H' ->Rd H' dm (.dT kT):=fun {H'} s' =>hm.imp (s' _ _) fun ⟨o,z⟩=>⟨o,s' _ _ z⟩
 have dgo:∀{H' :Hp} {b' :Addr} {x:Str×Nat},au H H' ->H' b' =some (.tup ((cP x).map kV))->c7 H' dm (.ref b') (bL kT (cP x)):=fun {H' b' x} s' e=>.inr ⟨kT,cP x,b',rd s',rfl,e,rfl⟩
 have dg:c7 H dm (.ref b) (some (.ref p)):=by
  have:=dgo (x:=st.1) (au.refl H) hb
  rw [vQ mo.nk (by rw [ek,si])] at this
  exact this
 have Td:∀{H' :Hp},au H H' ->bT K H' p [.ref dT,.ref dU]:=fun {H'} s' =>bT.of (s' _ _ hp)
 refine ⟨_,(ae (aG (i:=4) dZ.nd rfl (abj rfl) (du (bU hr) (pv 2) (pv 3) (fun _ _=>rfl)))
  (ae (bu (PW.pt (iu (cW (cE (aJ kL rfl a9 bO (ar (pv 4) (ar (iC rfl fE sX) aa))))) (fJ (aS i9 (aJ aI rfl a8 bZ (ar (pv 4) aa)) ak (aZ _))))) (aj (aH dc)) aK)
  (ae (bu (cW (cE (aC acZ hr.mo pX (ar (pv 0) (ar (pv 1) (ar (aR (pv 4)) (ar (aR (pv 4)) aa))))))) (aj (aH dc)) aK)
  (ae (nh (i:=5) dZ.nd rfl (aad rfl) (tn:=zaQ) (fr:=["_law_forces_here"]) (caps:=[4]) rfl ⟨rfl,by decide+kernel,rfl,by decide+kernel,by decide+kernel,rfl,⟨(by first | exact aad rfl | exact abj rfl),trivial⟩,⟨(by first | exact aad rfl | exact abj rfl),trivial⟩⟩ (bx (pv 1)) (fun _ _ _ _=>(av (i:=0) (show (["_law_bar","_law_forces_here"]:List Str).Nodup from by decide+kernel) rfl (aad rfl))) (fun _ _ _ _=>cY) (fun _ _ _ _=>(du (bU hr) (bo (dq (K:=K) rfl) (pv 1) ak (fun _ _=>rfl)) (bo (dq (K:=K) rfl) (pv 0) ak (fun _ _=>rfl)) (fun _ _=>rfl))))
  (ae (aG (i:=6) dZ.nd rfl (aad rfl) (aC ac0 hr.mo pX (ar (pv 0) (ar (pv 1) (ar (pv 5) (ar (cO (tn:=zaI) (fr:=["_law_forces_here"]) (caps:=[4]) rfl ⟨rfl,by decide+kernel,rfl,by decide+kernel,by decide+kernel,rfl,⟨(by first | exact aad rfl | exact abj rfl),trivial⟩,⟨(by first | exact aad rfl | exact abj rfl),trivial⟩⟩ (bx (pv 0)) (fun _ _ _ _=>(av (i:=0) (show (["_law_pin","_law_forces_here"]:List Str).Nodup from by decide+kernel) rfl (aad rfl))) (fun _ _ _ _=>cY) (fun _ _ _ _=>(du (bU hr) (bo (dq (K:=K) rfl) (pv 1) ak (fun _ _=>rfl)) (bo (dq (K:=K) rfl) (pv 0) ak (fun _ _=>rfl)) (fun _ _=>rfl)))) aa))))))
  (ae (bB PassesOwn.never rfl (bV rfl bC (ar (aJ aI rfl a8 bZ (ar (pv 0) aa)) aa)) (av (i:=7) dZ.nd rfl (aad rfl)) (aj (bB PassesOwn.never rfl (bV rfl bC (ar ak aa)) (av (i:=8) dZ.nd rfl (aad rfl)) (ae (aG (i:=9) dZ.nd rfl (aad rfl) (bo aY (bo aY (pv 6) (pv 7) (fun _ _=>rfl)) (pv 8) (fun _ _=>rfl)))
    (aj (bu (aS (nc hr.units) (aV (ar (aR (bo aY (pv 0) (pv 7) (fun _ _=>rfl))) (ar (pv 8) aa))) (pv 3) (aZ _)) (aj (bu (aS i9 (aR (pv 9)) (aR (pv 9)) (aZ _)) (aj (aH dc)) aK)) (aj (bu (PW.pt (xp (iq (kJ (bU hr) (aV (ar (aR (bo aY (pv 0) (pv 7) (fun _ _=>rfl))) (ar (pv 8) aa))) (pv 2))) (sI (aS i9 (aR (pv 9)) ak (aZ _))))) (aj (aH dc)) aK))))))))
  (aj (aH dc)))))))),?_⟩
 refine ⟨_,rfl,_,rfl,dm,_,rfl,dg,?_⟩
 refine ⟨_,rfl,p,_,rfl,Td (au.refl _),_,rfl,?_⟩
 refine bq (fun c=>nomatch c) (fun _=>?_)
 refine ⟨_,rfl,p,_,rfl,.inr (Td (au.refl _)),rfl,_,rfl,?_⟩
 refine IA rfl ?_
 refine ⟨_,rfl,_,rfl,_,rfl,p,_,_,_,rfl,rfl,Td (au.refl _),iE,_,rfl,p,_,_,_,rfl,rfl,Td (au.refl _),h_,lP,lB,dT,dU,us,ws,pins,bars,Tc,kU,st.2.1,st.2.2,35000,rfl,fr,pl,fun H1 s1=>⟨_,rfl,?_⟩⟩
 refine bq (fun c=>nomatch c) (fun _=>?_)
 have Ta:=fr.same s1
 refine ⟨_,rfl,lB,rfl,⟨_,aX.of Ta.hb⟩,fun D2 n2=>?_⟩
 refine dk (cap:=[some (.ref p)]) (K:=K) (a:=lB) (xs:=ws) (fun i v _=>∃b,bars[i]? =some b/\ig K H v (st.2.1 b.nm)) n2 (by rw [lw];exact aaj (show bars.length<=100 by omega) (by decide)) (fun H5 s5=>aX.of (s5 _ _ Ta.hb)) (fun _ _ _ _ _ _ _ h=>h) ?_ ?_
 ·intro i u H5 R hu s5 k
  have mR:=s1.trans s5
  obtain ⟨b,eb,c,i1,i2,rfl,h1,_⟩:=aw fr.pb hu
  obtain ⟨v,g1,g2⟩:=pl.tT b (ir eb)
  have dg5:c7 H5 dT (.str b.nm) (some v):=by
   have:=c7.k (k:=.inr b.nm) (mR _ _ pl.hT)
   rw [g1] at this
   exact this
  exact ⟨_,rfl,p,_,_,_,rfl,rfl,Td mR,iE,_,rfl,c,_,_,_,rfl,rfl,Ty.au.bX mR h1,rfl,dT,_,rfl,dg5,k _ _ (au.refl _) ⟨b,eb,g2⟩⟩
 intro ts H2 ht hrt s2 hT
 have nM:=s1.trans s2
 refine ⟨_,rfl,_,rfl,_,rfl,_,rfl,lP,rfl,⟨_,aX.of (nM _ _ fr.hp)⟩,fun D3 n3=>?_⟩
 refine dk (cap:=[some (.ref p)]) (K:=K) (a:=lP) (xs:=us) (fun i v H' =>∃p la ys,pins[i]? =some p/\v=.ref la/\H la=some (.lst ys)/\Paired (ig K H) ys (st.2.2 p.nm)) n3 (by rw [lu];exact aaj (show pins.length<=100 by omega) (by decide)) (fun H5 s5=>aX.of (s5 _ _ (nM _ _ fr.hp))) (fun _ _ _ _ _ _ _ h=>h) ?_ ?_
 ·intro i u H5 R hu s5 k
  have mR:=nM.trans s5
  obtain ⟨q',ep,c,l,sv,i5,rfl,h1,_⟩:=aw fr.pp hu
  obtain ⟨la2,ys2,g1,g2,g3⟩:=pl.tU q' (ir ep)
  have dg5:c7 H5 dU (.str q'.nm) (some (.ref la2)):=by
   have:=c7.k (k:=.inr q'.nm) (mR _ _ pl.hU)
   rw [g1] at this
   exact this
  exact ⟨_,rfl,p,_,_,_,rfl,rfl,Td mR,h_,_,rfl,c,_,_,_,rfl,rfl,Ty.au.bX mR h1,rfl,dU,_,rfl,dg5,k _ _ (au.refl _) ⟨q',la2,ys2,ep,rfl,g2,g3⟩⟩
 intro xs H3 hx gj s3 hD
 have wV:=nM.trans s3
 have fo:LFo K H3 D2 D3 ts xs pins bars st.2.1 st.2.2 35000:=by
  refine ⟨s3 _ _ hT,iY (by omega) fun i v e=>?_,hD,iY (by omega) fun i v e=>?_,pl.lU,by decide⟩
  ·obtain ⟨b,eb,nv⟩:=hrt i v e
   exact ⟨b,eb,pQ (nv.same wV) (pl.zT b (ir eb))⟩
  ·obtain ⟨q',la,ys,ep,rfl,hla,pu⟩:=gj i v e
   have mp:=ir ep
   refine ⟨q',ep,la,ys,rfl,wV _ _ hla,iY (Paired.length pu) fun j y ey=>?_⟩
   obtain ⟨r,er,nr⟩:=aw pu ey
   exact ⟨r,er,pQ (nr.same wV) (pl.zU q' mp r (ir er))⟩
 refine ⟨lP,lB,D2,D3,us,ws,ts,xs,pins,bars,st.2.1,st.2.2,35000,rfl,fr.same wV,fo,fun fA ls F H4 s4 ll hF eF=>?_⟩
 have so:=wV.trans s4
 refine ⟨_,rfl,lP,_,rfl,.inl (aX.of (so _ _ fr.hp)),((us.length:Nat):Int),rfl,by omega,by omega,b8 (lo:=0) (n:=((us.length:Nat):Int).toNat) (fun t σ H' =>∃(o7 o8 o9:χ),σ=[some (.ref lP),some (.ref lB),some (.ref dm),some (.ref b),some (.ref p),some (.ref D2),some (.ref fA),o7,o8,o9]/\au H4 H') ⟨none,none,none,rfl,au.refl _⟩ ?_ ?_⟩
 ·rintro t σ H5 ht ⟨o7,o8,o9,rfl,s5⟩
  have ek:(0:Int)+(t:Int)=(t:Int):=abn _
  rw [ek]
  have htu:t < us.length:=by omega
  obtain ⟨u,eu⟩:∃u,us[t]? =some u:=⟨_,gE htu⟩
  obtain ⟨pn,ep,c,l,sv,i5,rfl,h1,_⟩:=aw fr.pp eu
  have mp:=ir ep
  obtain ⟨la,ela⟩:∃la,ls[t]? =some la:=⟨_,gE (by omega)⟩
  have afl:gO (ls.map V.ref) (t:Int)=some (.ref la):=bS (by rw [Wp,ela];rfl)
  obtain ⟨f1,f2⟩:=eF t pn ep
  refine ⟨(2:Int),rfl,by decide,by decide,b8 (lo:=0) (n:=2) (fun k σ H' =>∃(o8 o9:χ),σ=[some (.ref lP),some (.ref lB),some (.ref dm),some (.ref b),some (.ref p),some (.ref D2),some (.ref fA),some (.int (t:Int)),o8,o9]/\au H4 H') ⟨_,_,rfl,s5⟩ ?_ ?_⟩
  ·rintro k σ H6 hk ⟨o8,o9,rfl,s6⟩
   have ek2:(0:Int)+(k:Int)=(k:Int):=abn _
   rw [ek2]
   have yr:=so.trans s6
   have F6:=hF.same s6
   obtain ⟨v1,v2,Rc,m1,m2⟩:=F6.row t la ela
   obtain ⟨ua,ea,na⟩:∃ua,gO [v1,v2] (k:Int)=some ua/\lC K H6 ua (1+92*(35000+91)) (VZ k bars st.2.1 st.2.2 pn):=by
    have two:k=0\/k=1:=by omega
    unfold VZ
    rcases two with z | z
    ·rw [z,if_pos rfl, <- f1]
     exact ⟨v1,rfl,m1⟩
    ·rw [z,if_neg (by decide), <- f2]
     exact ⟨v2,rfl,m2⟩
   obtain ⟨z,⟨pz,rfl,k1⟩,k2,k3,_⟩:=na
   refine ⟨_,rfl,_,rfl,fA,_,_,_,rfl,rfl,aX.of F6.hf,afl,_,rfl,la,_,_,_,rfl,rfl,aX.of Rc,ea,?_⟩
   have S':gO us (t:Int)=some (.ref c):=bS eu
   have nmk:∀{H' :Hp},au H H' ->bT K H' c [.str pn.nm,sv,.ref l]:=fun {H'} s' =>Ty.au.bX s' h1
   refine ⟨_,rfl,_,rfl,lP,_,_,_,rfl,rfl,aX.of (yr _ _ fr.hp),S',c,_,_,_,rfl,rfl,nmk yr,rfl,_,rfl,L2,?_⟩
   intro t7 n7;generalize eX:upd _ t7 _=H7;have ⟨s7,e7⟩:=nw n7 eX;clear eX
   have RO:=yr.trans s7
   have hq7:bT K H7 t7 [.str pn.nm,.int (k:Int)]:=bT.of e7
   refine ⟨_,rfl,_,_,.inl ⟨j_ (x:=(pn.nm,k)) hq7,j_ (x:=st.1) (bT.of (RO _ _ hb))⟩,rfl,(by show max 0 (max 0 0)<=60;decide),_,rfl,?_⟩
   rw [Nv]
   have kz7:bT K H7 pz [.int z.1,.int z.2]:=Ty.au.bX s7 k1
   by_cases cx:(pn.nm,k)=st.1
   ·refine bq (fun _=>?_) (fun y=>absurd (decide_eq_true cx) y)
    rw [mo.Z_ st mm st mm pn mp k cx.symm,if_pos rfl] at k3
    have z1:z.1=z.2:=by
     unfold vl at k3
     have h0:=cD (show z.2≠0 by omega)
     have:(z.1:Rat)=(z.2:Rat):=by grind
     exact ac3.mp this
    refine ⟨_,rfl,pz,_,_,_,rfl,rfl,kz7,iE,_,rfl,pz,_,_,_,rfl,rfl,kz7,h_,rfl,_,rfl,?_⟩
    rw [z1,decide_eq_true rfl]
    refine bq (fun y=>nomatch y) (fun _=>?_)
    exact ⟨_,_,rfl,s6.trans s7⟩
   ·refine bq (fun y=>absurd (of_decide_eq_true y) cx) (fun _=>?_)
    refine ⟨_,rfl,_,rfl,lP,_,_,_,rfl,rfl,aX.of (RO _ _ fr.hp),S',c,_,_,_,rfl,rfl,nmk RO,rfl,_,rfl,L2,?_⟩
    intro t8 n8;generalize eX:upd _ t8 _=H8;have ⟨s8,e8⟩:=nw n8 eX;clear eX
    have s08:=RO.trans s8
    refine ⟨_,rfl,dm,_,rfl,dgo (x:=(pn.nm,k)) s08 e8,_,rfl,?_⟩
    rw [yC mo.pr uu (pn.nm,k)]
    by_cases cm:(pn.nm,k)∈ss.map (·.1)
    ·refine bq (fun _=>?_) (fun y=>absurd (decide_eq_true cm) y)
     obtain ⟨s',uY,e'⟩:=aab.mp cm
     rw [mo.Z_ st mm s' uY pn mp k e',if_neg (fun y=>cx (by rw [<- e',y]))] at k3
     have z0:z.1=0:=(Na k2).mpr k3
     rw [z0] at kz7
     refine ⟨_,rfl,pz,_,_,_,rfl,rfl,Ty.au.bX s8 kz7,iE,rfl,_,rfl,?_⟩
     refine bq (fun y=>by simp at y) (fun _=>?_)
     exact ⟨_,_,rfl,s6.trans (s7.trans s8)⟩
    ·refine bq (fun y=>absurd (of_decide_eq_true y) cm) (fun _=>?_)
     refine bq (fun y=>nomatch y) (fun _=>?_)
     exact ⟨_,_,rfl,s6.trans (s7.trans s8)⟩
  ·rintro σ H6 ⟨o8,o9,rfl,s6⟩
   exact ⟨_,_,_,rfl,s6⟩
 ·rintro σ H5 ⟨o7,o8,o9,rfl,s5⟩
  exact q _ (so.trans s5)
theorem yE {α:Type}[DecidableEq α]:∀{l' l:List α},acU l' l->l.Nodup->l.filter (fun x=>decide (x∈l'))=l' :=by
 intro l' l h
 induction h with
 | slnil=>
  intro _
  rfl
 | @cons l1 l2 a hs ih=>
  intro nd
  rw [aa5] at nd
  rw [acd (by simpa using fun z=>nd.1 (hs.subset z)),ih nd.2]
 | @cons_cons l1 l2 a hs ih=>
  intro nd
  rw [aa5] at nd
  rw [acb (by simp)]
  congr 1
  have e:l2.filter (fun x=>decide (x∈a::l1))=l2.filter (fun x=>decide (x∈l1)):=aio fun x hx=>by
   rw [abr,decide_eq_true_iff,decide_eq_true_iff]
   constructor
   ·intro z
    rcases aaQ.mp z with z | z
    ·exact absurd (by rw [<- z];exact hx) nd.1
    ·exact z
   ·exact fun z=>aae _ z
  rw [e,ih nd.2]
theorem qi {α:Type}[DecidableEq α]{l' l:List α}(h:acU l' l)(nd:l.Nodup){p:α->Bool}(hp:∀x,p x=true ↔ x∈l'):l.filter p=l' :=
 (aio fun x _=>by rw [abr,hp,decide_eq_true_iff]).trans (yE h nd)
def daP (x:Str×Nat):Da:=.t [.v (.str x.1),.v (.int (x.2:Int))]
theorem AM (x:Str×Nat):dep (daP x)<=60:=by
 show max 0 (max 0 0)+1<=60
 decide
structure RT (K:Frag)(H:Hp)(lP lB:Addr)(us vs:η)(pins:ο)(bars:ς)(kT:ν)(ms:List sC):Prop where
 fr:OR K H lP lB us vs pins bars
 mo:gH K H pins bars kT ms 35000
theorem RT.same (h:RT K H lP lB us vs pins bars kT ms)(s:au H H'):RT K H' lP lB us vs pins bars kT ms:=⟨h.fr.same s,h.mo.same s⟩
theorem RT.ks (h:RT K H lP lB us vs pins bars kT ms)(e:H dm=some u)(n:wI u)(k:aL dm H H'):RT K H' lP lB us vs pins bars kT ms:=by
 have nl:∀{b:Addr} {xs:η},H b=some (.lst xs)->b≠dm:=fun {b xs} q z=>by
  rw [z,e] at q
  exact n.2.1 _ (aao q)
 have t:=eE e n.1 k
 refine ⟨⟨k _ _ (nl h.fr.hp) h.fr.hp,Paired.bF h.fr.pp fun _ _ z=>?_,h.fr.gp,k _ _ (nl h.fr.hb) h.fr.hb,Paired.bF h.fr.pb fun _ _ z=>?_,h.fr.en,h.fr.lp,h.fr.lb⟩,⟨Paired.bF h.mo.pr fun _ _ z=>z.OL e n k,h.mo.nk,h.mo.lm,h.mo.sub,h.mo.Z_,h.mo.cols⟩⟩
 ·obtain ⟨a,l,sv,i5,e',h1,h2,h3,h4⟩:=z
  exact ⟨a,l,sv,i5,e',t.bX h1,h2.aU t,k _ _ (nl h3) h3,h4.aU t⟩
 ·obtain ⟨a,i,j,e',h1,h2,h3⟩:=z
  exact ⟨a,i,j,e',t.bX h1,h2,h3⟩
inductive nZ (K:Frag)(vs:η)(H:Hp)(Q:VK)(E_:XK):Prop where
 | mk (lP lB dm:Addr) (us cA :η) (pins:ο) (bars:ς) (kT:ν) (ms:List sC) (_:vs=[.ref lP,.ref lB,.ref dm]) (_:RT K H lP lB us cA pins bars kT ms) (_:H dm=some (.dT kT)) (_:∀H',au H H' ->Q (.bl true) H'):nZ K vs H Q E_
theorem qj:aE ["_law_pins_here","_law_bars_here","_law_told","_law_pairs","_law_name_here","_law_spot_here","_law_ways_here","_law_key"] zao (ag EH):=sq
theorem WG (D:Def K mg "_law_right" EH zao)(a9:mg "isinstance"=none)(gk:mg "dict"=none)(fE:mg "tuple"=none)(je:mg "int"=none)(lD:mg "bool"=none)(a8:mg "len"=none)(bQ:mg "list"=none)(qc:mg "all"=none)
  (FO:Fn P w K mg base (a_ P w) 36 "_law_one" zai (Ku K)):
  Fn P w K mg base (a_ P w) 37 "_law_right" zao (nZ K):=by
 refine D.ok qj (fun vs H Q E h=>?_) (fun f bJ A outer s H vs Q E hr h=>?_)
 ·obtain ⟨lP,lB,dm,us,cA,pins,bars,kT,ms,rfl,_⟩:=h
  rfl
 obtain ⟨lP,lB,dm,us,cA,pins,bars,kT,ms,rfl,T,hm,q⟩:=h
 have L2:2<=sizeLine:=by decide
 have lpp:=T.fr.lp
 have lu:us.length=pins.length:=Paired.length T.fr.pp
 have lkm:kT.length=ms.length:=Paired.length T.mo.pr
 have lms:=T.mo.lm
 have cond:∀o' u',(H dm:Option HO)≠some (.cV o' u'):=fun o' u' z=>by
  rw [hm] at z
  cases z
 refine ⟨_,(ae (bu (cW (cE (aJ ff rfl a9 bO (ar (pv 2) (ar (iC rfl gk xH) aa))))) (aj (aH dc)) aK)
  (ae (aG (i:=3) qj.nd rfl (aad rfl) (cN aa))
  (ae (bB PassesOwn.never rfl (bx (pv 0)) (dG rfl (aQ (av (i:=4) qj.nd rfl (aad rfl)) (aQ (av (i:=5) qj.nd rfl (aad rfl)) (aQ (av (i:=6) qj.nd rfl (aad rfl)) cu)))) (aj (aG (i:=3) qj.nd rfl (aad rfl) (aT xG (pv 3) (cN (ar (aV (ar (pv 4) (ar ak aa))) (ar (aV (ar (pv 4) (ar ak aa))) aa)))))))
  (ae (JC (bB PassesOwn.never rfl (vZ (pv 2)) (av (i:=7) qj.nd rfl (aad rfl)) (ae (bu (PW.pt (iu (cW (cE (aJ kL rfl a9 bO (ar (pv 7) (ar (iC rfl fE sX) aa))))) (fJ (aS i9 (aJ aI rfl a8 bZ (ar (pv 7) aa)) ak (aZ _))))) (aj (aH dc)) aK)
   (aj (bu (PW.pt (iu (cW (cE (aJ ff rfl a9 bO (ar (aR (pv 7)) (ar (iC rfl je zp) aa))))) (fJ (cE (aJ ff rfl a9 bO (ar (aR (pv 7)) (ar (iC rfl lD IF) aa))))))) (aj (aH dc)) aK)))))
  (ae (bu (aS (ng hr.units) (b9 (iD rfl) rfl bQ fN (ar (pv 2) aa)) (cO (tn:=["_law_pair"]) (fr:=["_law_told"]) (caps:=[2]) rfl ⟨rfl,by decide+kernel,rfl,by decide+kernel,by decide+kernel,rfl,⟨(by first | exact aad rfl | exact abj rfl),trivial⟩,⟨(by first | exact aad rfl | exact abj rfl),trivial⟩⟩ (bx (pv 3)) (fun _ _ _ _=>(av (i:=0) (show (["_law_pair","_law_told"]:List Str).Nodup from by decide+kernel) rfl (aad rfl))) (fun _ _ _ _=>(II (iq (kJ (bU hr) (pv 0) (pv 1))))) (fun _ _ _ _=>(pv 0))) (aZ _)) (aj (aH dc)) aK)
  (aj (JF (aH (aJ (kG rfl) rfl qc IE (ar (cO (tn:=["_law_pair"]) (fr:=["_law_told","_law_pins_here","_law_bars_here"]) (caps:=[2,0,1]) rfl ⟨rfl,by decide+kernel,rfl,by decide+kernel,by decide+kernel,rfl,⟨(by first | exact aad rfl | exact abj rfl),⟨(by first | exact aad rfl | exact abj rfl),⟨(by first | exact aad rfl | exact abj rfl),trivial⟩⟩⟩,⟨(by first | exact aad rfl | exact abj rfl),⟨(by first | exact aad rfl | exact abj rfl),⟨(by first | exact aad rfl | exact abj rfl),trivial⟩⟩⟩⟩ (vZ (pv 2)) (fun _ _ _ _=>(av (i:=0) (show (["_law_pair","_law_told","_law_pins_here","_law_bars_here"]:List Str).Nodup from by decide+kernel) rfl (aad rfl))) (fun _ _ _ _=>cY) (fun _ _ _ _=>(aC FO hr.mo (me (by first | assumption | exact a_.mM) rfl) (ar (pv 2) (ar (pv 3) (ar (pv 1) (ar (pv 0) aa))))))) aa)))))))))),?_⟩
 refine ⟨_,rfl,_,_,_,true,rfl,rfl,.dT hm,RP,_,rfl,?_⟩
 refine bq (fun c=>nomatch c) (fun _=>?_)
 refine ⟨(by show 0<=sizeLine;decide),?_⟩
 intro l1 n1;generalize eX:upd _ l1 _=H1;have ⟨s1,e1⟩:=nw n1 eX;clear eX
 refine ⟨_,rfl,lP,rfl,⟨_,aX.of (s1 _ _ T.fr.hp)⟩,bW (K:=K) (a:=lP) (xs:=us) (fun i σ H' =>∃(o4 o5 o6:χ) (lR:Addr) (ps:η),σ=[some (.ref lP),some (.ref lB),some (.ref dm),some (.ref lR),o4,o5,o6,none]/\au H H' /\H' lR=some (.lst ps)/\Paired (dF H') ps (bR (pins.take i))) ⟨none,none,none,l1,[],rfl,s1,e1,.nil⟩ (fun i σ H' _ h=>by
   obtain ⟨_,_,_,_,_,_,s,_⟩:=h
   exact aX.of (s _ _ T.fr.hp)) ?_ ?_⟩
 ·rintro i u σ H2 hu ⟨o4,o5,o6,lR,ps,rfl,s2,hR,pR⟩
  obtain ⟨p,ep,RI⟩:=aw T.fr.pp hu
  have il:=(be.mp ep).1
  obtain ⟨ta,l,sv,ws,rfl,h1,h2,h3,h4⟩:=RI.same s2
  refine ⟨ta,_,rfl,h1,rfl,_,_,rfl,_,_,rfl,_,_,rfl,rfl,?_⟩
  have lps:ps.length<=18:=by
   have h1:=Paired.length pR
   rw [cU,abb] at h1
   omega
  refine ⟨_,rfl,_,rfl,L2,?_⟩
  intro t5 n5;generalize eX:upd _ t5 _=H5;have ⟨s5,e5⟩:=nw n5 eX;clear eX
  refine ⟨_,rfl,L2,?_⟩
  intro t6 n6;generalize eX:upd _ t6 _=H6;have ⟨s6,e6⟩:=nw n6 eX;clear eX
  refine ⟨L2,?_⟩
  intro l7 n7;generalize eX:upd _ l7 _=H7;have ⟨s7,e7⟩:=nw n7 eX;clear eX
  have Te:=s5.trans (s6.trans s7)
  refine ⟨lR,l7,_,_,rfl,rfl,Te _ _ hR,e7,(aaf (show ps.length+2<=40 by omega) (by decide)),?_⟩
  intro l8 n8;generalize eX:upd _ l8 _=H8;have ⟨s8,e8⟩:=nw n8 eX;clear eX
  have WH:=Te.trans s8
  refine ⟨_,_,_,l8,_,rfl,s2.trans WH,e8,?_⟩
  rw [take_snoc ep,pJ]
  have p5:=cM (cM (Paired.bF pR fun _ _ z=>z.same WH) (show dF H8 (.ref t5) (p.nm,0) from ⟨t5,rfl,(s6.trans (s7.trans s8)) _ _ e5⟩)) (show dF H8 (.ref t6) (p.nm,1) from ⟨t6,rfl,(s7.trans s8) _ _ e6⟩)
  rw [abK,abK] at p5
  exact p5
 rintro σ H2 ⟨o4,o5,o6,lR,ps,rfl,s2,hR,pR⟩
 rw [lu,abl] at pR
 have Nk:=s2 _ _ hm
 have T2:=T.same s2
 refine ⟨_,rfl,dm,kT,rfl,Nk,fun o=>?_⟩
 have kf:aL dm H2 (upd H2 dm (.cV o (.dT kT))):=aL.upd
 have fz:(upd H2 dm (.cV o (.dT kT))) dm=some (.cV o (.dT kT)):=ah
 have bk:∀H' :Hp,au (upd H2 dm (.cV o (.dT kT))) H' ->au H2 (upd H' dm (.dT kT)):=fun H' s' b o' e=>by
  by_cases c:b=dm
  ·rw [c,Nk] at e
   rw [c,ah]
   exact e
  ·rw [ao c]
   exact s' _ _ (kf _ _ c e)
 generalize upd H2 dm (.cV o (.dT kT))=Hf at kf fz bk ⊢
 have Tf:=T2.ks Nk iW kf
 refine DA (d:=dm) (o:=o) (kvs:=kT) (fun i σ H' =>∃(o7:χ),σ=[some (.ref lP),some (.ref lB),some (.ref dm),some (.ref lR),o4,o5,o6,o7]/\H' =Hf) ⟨none,rfl,rfl⟩ (fun i σ H' _ h=>by
   obtain ⟨_,_,rfl⟩:=h
   exact fz) ?_ ?_
 ·rintro i k x b σ H3 ek hb ⟨o7,rfl,rfl⟩
  obtain ⟨m,em,_,_,_,_,_,Rz,_⟩:=aw Tf.mo.pr ek
  obtain ⟨rfl,rfl⟩:=aqn Rz
  have gh :bT K H3 b [.str m.1.1,.int (m.1.2:Int)]:=bT.of hb
  refine ⟨_,rfl,b,_,rfl,gh,_,rfl,?_⟩
  refine bq (fun c=>nomatch c) (fun _=>?_)
  refine ⟨_,rfl,b,_,rfl,.inr gh,rfl,_,rfl,?_⟩
  refine IA rfl ?_
  refine ⟨_,rfl,b,_,_,_,rfl,rfl,gh,h_,_,_,_,true,rfl,rfl,.int _,Ww,_,rfl,?_⟩
  refine bq (fun c=>nomatch c) (fun _=>?_)
  refine ⟨_,rfl,b,_,_,_,rfl,rfl,gh,h_,_,_,_,false,rfl,rfl,.int _,Wx,_,rfl,?_⟩
  refine bq (fun c=>nomatch c) (fun _=>?_)
  exact ⟨_,rfl,rfl⟩
 rintro σ H3 ⟨o7,rfl,rfl⟩
 refine ⟨dm,o,kT,fz,cond,?_⟩
 dsimp only
 have s4:=bk H3 (au.refl _)
 generalize upd H3 dm (.dT kT)=H4 at s4 ⊢
 have so:=s2.trans s4
 have T4:=T.same so
 have hm4:=so _ _ hm
 have hR4:=s4 _ _ hR
 have pR4:Paired (dF H4) ps (bR pins):=Paired.bF pR fun _ _ z=>z.same s4
 have lps:ps.length<=18:=by
  have h1:=Paired.length pR
  rw [cU] at h1
  omega
 refine eJ (fun σ' H' =>σ' =[some (.ref lP),some (.ref lB),some (.ref dm),some (.ref lR),o4,o5,o6,o7]/\au H4 H') (fun Nx qS=>?_) ?_
 ·refine ⟨_,rfl,dm,kT,rfl,.inl hm4,fun l5 WI n5 pl=>?_⟩
  have s5:=aF n5 (.lst WI)
  have e5:(upd H4 l5 (.lst WI)) l5=some (.lst WI):=ah
  generalize upd H4 l5 (.lst WI)=H5 at s5 e5 ⊢
  refine ⟨_,rfl,lR,rfl,⟨_,aX.of (s5 _ _ hR4)⟩,fun D6 n6=>?_⟩
  refine xT (K:=K) (a:=lR) (cap:=[some (.ref dm)]) (Rl:=dF H5) (fun x=>decide (x∈ms.map (·.1))) (Paired.bF pR4 fun _ _ z=>z.same s5) n6 (aaj (show ps.length<=1000 by omega) (by decide)) (fun H6 s6=>aX.of (s6 _ _ (s5 _ _ hR4))) (fun u x H6 R6 hx _ s6 k6=>?_) (fun u x H6 R6 _ _ r=>⟨_,rfl,r⟩) fun ys H6 py s6 hD=>?_
  ·obtain ⟨b,rfl,hb⟩:=hx
   have dg:c7 H6 dm (.ref b) (bL kT (cP x)):=.inr ⟨kT,cP x,b,.inl (s6 _ _ (s5 _ _ hm4)),rfl,s6 _ _ hb,rfl⟩
   refine ⟨_,rfl,_,rfl,dm,_,rfl,dg,_,rfl,?_⟩
   rw [yC T.mo.pr uu x]
   exact k6 _ (au.refl _)
  rw [qi T.mo.sub (eW T.fr.gp.np) (fun x=>decide_eq_true_iff)] at py
  have i1:Is K H6 (.l ((ms.map (·.1)).map daP)) (.ref l5):=by
   unfold Is
   refine ⟨l5,WI,rfl,aX.of (s6 _ _ e5),?_⟩
   refine nY (R:=fun u (x:Str×Nat)=>∃b,u=.ref b/\H4 b=some (.tup [.str x.1,.int (x.2:Int)])) (fun u x ⟨b,e,hb⟩=>by rw [e];exact j_ (bT.of (s6 _ _ (s5 _ _ hb)))) ?_
   refine dy (by rw [aaa, <- lkm];exact Paired.length pl) fun i u x e1 e2=>?_
   obtain ⟨kv,ek,b,e,hb⟩:=aw pl e1
   obtain ⟨m,em,_,_,_,_,_,Rz,_⟩:=aw T.mo.pr ek
   rw [Wp,em] at e2
   cases e2
   rw [Rz] at hb
   exact ⟨b,e,hb⟩
  have i2:Is K H6 (.l ((ms.map (·.1)).map daP)) (.ref D6):=by
   unfold Is
   refine ⟨D6,ys,rfl,aX.of hD,?_⟩
   exact nY (R:=dF H5) (fun u x ⟨b,e,hb⟩=>by rw [e];exact j_ (bT.of (s6 _ _ hb))) py
  refine WE i1 i2 (qh AM _) ⟨_,rfl,?_⟩
  refine bq (fun c=>nomatch c) (fun _=>?_)
  exact qS _ _ ⟨rfl,s5.trans s6⟩
 rintro σ' H5 ⟨rfl,s5⟩
 have mR:=so.trans s5
 have T5:=T.same mR
 have WJ:=mR _ _ hm
 have hR5:=s5 _ _ hR4
 have pR5:Paired (dF H5) ps (bR pins):=Paired.bF pR4 fun _ _ z=>z.same s5
 refine ⟨_,rfl,dm,kT,rfl,WJ,fun o8 D8 n8=>?_⟩
 have kg:aL dm H5 (upd H5 dm (.cV o8 (.dT kT))):=aL.upd
 have gz:(upd H5 dm (.cV o8 (.dT kT))) dm=some (.cV o8 (.dT kT)):=ah
 have bk8:∀H' :Hp,au (upd H5 dm (.cV o8 (.dT kT))) H' ->au H5 (upd H' dm (.dT kT)):=fun H' s' b o' e=>by
  by_cases c:b=dm
  ·rw [c,WJ] at e
   rw [c,ah]
   exact e
  ·rw [ao c]
   exact s' _ _ (kg _ _ c e)
 have lRd:lR≠dm:=fun z=>by rw [z,WJ] at hR5;cases hR5
 generalize upd H5 dm (.cV o8 (.dT kT))=Hg at kg gz bk8 n8 ⊢
 have Tg:=T5.ks WJ iW kg
 have pRg:Paired (dF Hg) ps (bR pins):=Paired.bF pR5 fun _ _ z=>z.ks WJ wD kg
 refine xZ (cap:=[some (.ref dm),some (.ref lP),some (.ref lB)]) (fun _ v _=>v=.bl true) n8 (aaj (show kT.length<=1000 by omega) (by decide)) gz (fun _ _ _ _ _ _ _ h=>h) ?_ ?_
 ·rintro i k y b H9 RR ek hb9 s9 _ kk
  obtain ⟨m,em,_,_,_,_,_,Rz,_⟩:=aw Tg.mo.pr ek
  obtain ⟨rfl,rfl⟩:=aqn Rz
  refine ⟨_,rfl,_,rfl,_,rfl,_,rfl,?_⟩
  try dsimp only [fV]
  exact ⟨lP,lB,dm,b,us,cA,pins,bars,kT,ms,i,m,rfl,(Tg.same s9).fr,(Tg.same s9).mo,.inr ⟨o8,s9 _ _ gz⟩,em,hb9,fun H' s' =>kk _ _ s' rfl⟩
 ·intro zs H9 lz hz s9 hD
  have ez:zs=(aaJ zs.length true).map V.bl:=by
   rw [List.map_replicate]
   exact List.eq_replicate_iff.mpr ⟨rfl,fun v hv=>by
    obtain ⟨i,ei⟩:=aag hv
    exact hz i v ei⟩
  rw [ez] at hD
  refine ⟨D8,_,rfl,aX.of hD,dm,o8,kT,s9 _ _ gz,cond,?_⟩
  have ea:(aaJ zs.length true).all id=true:=by
   rw [ai8]
   intro b hb
   rw [(aiR.mp hb).2]
   rfl
  rw [ea]
  exact q _ (mR.trans (bk8 H9 s9))
inductive yF (K:Frag)(vs:η)(H:Hp)(Q:VK)(E_:XK):Prop where
 | mk (lP dT dS:Addr) (us:η) (pins:ο) (kT kS:ν) (_:vs=[.ref lP,.ref dT,.ref dS]) (_:H lP=some (.lst us)) (_:Paired (i6 K H) us pins) (_:H dT=some (.dT kT)) (_:H dS=some (.dT kS)) (_:(∀x∈bR pins,(bL kT (cP x)).isSome≠(bL kS (cP x)).isSome)) (_:∀H',au H H' ->Q (.bl true) H'):yF K vs H Q E_
theorem dR:aE ["_law_pins_here","_law_told","_law_free","_law_name_here","_law_spot_here","_law_ways_here","_law_axis"] zaq (ag dB):=sq
theorem qU (D:Def K mg "_law_parted" dB zaq)(bC:mg "range"=none):
  Fn P w K mg base (a_ P w) 1 "_law_parted" zaq (yF K):=by
 refine D.ok dR (fun vs H Q E h=>?_) (fun f bJ A outer s H vs Q E hr h=>?_)
 ·obtain ⟨lP,dT,dS,us,pins,kT,kS,rfl,_⟩:=h
  rfl
 obtain ⟨lP,dT,dS,us,pins,kT,kS,rfl,hP,pp,hT,hS,ne,q⟩:=h
 have L2:2<=sizeLine:=by decide
 refine ⟨_,(ae (bB PassesOwn.never rfl (bx (pv 0)) (dG rfl (aQ (av (i:=3) dR.nd rfl (aad rfl)) (aQ (av (i:=4) dR.nd rfl (aad rfl)) (aQ (av (i:=5) dR.nd rfl (aad rfl)) cu)))) (aj (bB PassesOwn.never rfl (bV rfl bC (ar ak aa)) (av (i:=6) dR.nd rfl (aad rfl)) (aj (bu (aS eK (HA (kJ (bU hr) (aV (ar (pv 3) (ar (pv 6) aa))) (pv 1))) (HA (kJ (bU hr) (aV (ar (pv 3) (ar (pv 6) aa))) (pv 2))) (aZ _)) (aj (aH dc)) aK)))))
  (aj (aH dc))),?_⟩
 refine ⟨_,rfl,lP,rfl,⟨_,aX.of hP⟩,bW (K:=K) (a:=lP) (xs:=us) (fun i σ H' =>∃(o3 o4 o5 o6:χ),σ=[some (.ref lP),some (.ref dT),some (.ref dS),o3,o4,o5,o6]/\au H H') ⟨none,none,none,none,rfl,au.refl _⟩ (fun i σ H' _ h=>by
   obtain ⟨_,_,_,_,_,s⟩:=h
   exact aX.of (s _ _ hP)) ?_ ?_⟩
 ·rintro i u σ H1 hu ⟨o3,o4,o5,o6,rfl,s1⟩
  obtain ⟨p,ep,ta,l,sv,ws,rfl,h1,_⟩:=aw pp hu
  refine ⟨ta,_,rfl,Ty.au.bX s1 h1,rfl,_,_,rfl,_,_,rfl,_,_,rfl,rfl,?_⟩
  refine ⟨(2:Int),rfl,by decide,by decide,b8 (lo:=0) (n:=2) (fun k σ H' =>∃(o6:χ),σ=[some (.ref lP),some (.ref dT),some (.ref dS),some (.str p.nm),some sv,some (.ref l),o6]/\au H H') ⟨_,rfl,s1⟩ ?_ ?_⟩
  ·rintro k σ H2 hk ⟨o6,rfl,s2⟩
   have ek:(0:Int)+(k:Int)=(k:Int):=abn _
   rw [ek]
   have mx:(p.nm,k)∈bR pins:=by
    unfold bR
    refine abI.mpr ⟨p,ir ep,?_⟩
    have two:k=0\/k=1:=by omega
    rcases two with z | z <;> simp [z]
   have n:=ne _ mx
   refine ⟨_,rfl,_,rfl,L2,?_⟩
   intro t3 n3;generalize eX:upd _ t3 _=H3;have ⟨s3,e3⟩:=nw n3 eX;clear eX
   have wV:=s2.trans s3
   have dg1:c7 H3 dT (.ref t3) (bL kT (cP (p.nm,k))):=.inr ⟨kT,cP (p.nm,k),t3,.inl (wV _ _ hT),rfl,e3,rfl⟩
   refine ⟨_,rfl,dT,_,rfl,dg1,_,rfl,_,rfl,L2,?_⟩
   intro t4 n4;generalize eX:upd _ t4 _=H4;have ⟨s4,e4⟩:=nw n4 eX;clear eX
   have so:=wV.trans s4
   have dg2:c7 H4 dS (.ref t4) (bL kS (cP (p.nm,k))):=.inr ⟨kS,cP (p.nm,k),t4,.inl (so _ _ hS),rfl,e4,rfl⟩
   refine ⟨_,rfl,dS,_,rfl,dg2,rfl,_,rfl,?_⟩
   refine bq (fun c=>absurd (of_decide_eq_true c) fun z=>n (by injection z)) (fun _=>?_)
   exact ⟨_,rfl,so⟩
  ·rintro σ H2 ⟨o6,rfl,s2⟩
   exact ⟨_,_,_,_,rfl,s2⟩
 ·rintro σ H1 ⟨o3,o4,o5,o6,rfl,s1⟩
  exact q _ s1
theorem fU.un (g:fU pins)(e:pins[k]? =some p):p.nm∉(pins.eraseIdx k).map (·.nm)/\p.sp∉(pins.eraseIdx k).map (·.sp):=by
 have hk:=(be.mp e).1
 have at' :∀q∈pins.eraseIdx k,∃i,i≠k/\pins[i]? =some q:=fun q hq=>by
  obtain ⟨j,ej⟩:=aag hq
  rw [abY] at ej
  by_cases c:j < k
  ·rw [if_pos c] at ej
   exact ⟨j,by omega,ej⟩
  ·rw [if_neg c] at ej
   exact ⟨j+1,by omega,ej⟩
 refine ⟨fun z=>?_,fun z=>?_⟩
 ·obtain ⟨q,hq,en⟩:=aab.mp z
  obtain ⟨i,ni,ei⟩:=at' q hq
  have e1:(pins.map (·.nm))[i]? =some p.nm:=by rw [Wp,ei, <- en];rfl
  have e2:(pins.map (·.nm))[k]? =some p.nm:=by rw [Wp,e];rfl
  exact ni (ck g.np e1 e2)
 ·obtain ⟨q,hq,en⟩:=aab.mp z
  obtain ⟨i,ni,ei⟩:=at' q hq
  have e1:(pins.map (·.sp))[i]? =some p.sp:=by rw [Wp,ei, <- en];rfl
  have e2:(pins.map (·.sp))[k]? =some p.sp:=by rw [Wp,e];rfl
  exact ni (ck g.ns e1 e2)
theorem kb :∀{us:List α} {l:List β} {j:Nat},Paired R us l->Paired R (us.eraseIdx j) (l.eraseIdx j)
 | _,_,_,.nil=>.nil
 | _,_,0,.cons _ t=>t
 | _,_,_+1,.cons h t=>.cons h (kb t)
theorem qk:∀{bars:ς} {k:Nat} {b:ba},(bars.map (·.nm)).Nodup->bars[k]? =some b->(GX bars).filter (fun x=>decide (x.1≠b.nm))=GX (bars.eraseIdx k)
 | q::ps,0,p,nd,e=>by
  cases e
  rw [aah,aa5] at nd
  show ((q.nm,q.one.nm,q.other.nm)::GX ps).filter _=GX ps
  rw [acd (by simp),aiJ]
  intro b hb
  obtain ⟨r,hr,rfl⟩:=aab.mp hb
  exact decide_eq_true (fun z=>nd.1 (by rw [<- z];exact aab.mpr ⟨r,hr,rfl⟩))
 | q::ps,k+1,p,nd,e=>by
  rw [aah,aa5] at nd
  have e' :ps[k]? =some p:=by simpa using e
  have ne:q.nm≠p.nm:=fun z=>nd.1 (by rw [z];exact aab.mpr ⟨p,ir e',rfl⟩)
  show ((q.nm,q.one.nm,q.other.nm)::GX ps).filter _=(q.nm,q.one.nm,q.other.nm)::GX (ps.eraseIdx k)
  rw [acb (by simpa using ne),qk nd.2 e']
theorem wX {α β:Type}{f:α->List β}:∀{l:List α},(l.flatMap f).Nodup->∀{i j:Nat} {a b:α},l[i]? =some a->l[j]? =some b->i≠j->∀x∈f a,x∉f b
 | [],_,i,j,a,b,h,_,_=>by simp at h
 | c::l,nd,i,j,a,b,h1,h2,ne=>by
  rw [aa4,abA] at nd
  cases i with
  | zero=>
   cases j with
   | zero=>exact absurd rfl ne
   | succ j=>
    cases h1
    exact fun x hx hy=>nd.2.2 x hx x (abI.mpr ⟨b,ir (by simpa using h2),hy⟩) rfl
  | succ i=>
   cases j with
   | zero=>
    cases h2
    exact fun x hx hy=>nd.2.2 x hy x (abI.mpr ⟨a,ir (by simpa using h1),hx⟩) rfl
   | succ j=>exact wX nd.2.1 (i:=i) (j:=j) (by simpa using h1) (by simpa using h2) (by omega)
theorem AN {α β:Type}{f:α->List β}:∀{l:List α},(l.flatMap f).Nodup->∀{a:α},a∈l->(f a).Nodup
 | [],_,a,h=>nomatch h
 | c::l,nd,a,h=>by
  rw [aa4,abA] at nd
  rcases aaQ.mp h with e | h
  ·rw [e]
   exact nd.1
  ·exact AN nd.2.1 h
section
variable {H:Hp}{pins:ο}{bars:ς}{kT:ν}{ms:List sC}{N:Nat}
theorem gH.part (h:gH K H pins bars kT ms N){kS:ν}(sp:∀j x,(bR pins)[j]? =some x->((bL kS (cP x)).isSome=true ↔ pK pins bars j)):∀x∈bR pins,(bL kT (cP x)).isSome≠(bL kS (cP x)).isSome:=fun x hx z=>by
 obtain ⟨j,ej⟩:=aag hx
 have h1:=h.cols j x ej
 have h2:=sp j x ej
 rw [<- z,yC h.pr uu x,decide_eq_true_iff] at h2
 by_cases c:pK pins bars j
 ·exact h1.mp (h2.mpr c) c
 ·exact c (h2.mp (h1.mpr c))
theorem gH.alike (h:gH K H pins bars kT ms N)(np:(pins.map (·.nm)).Nodup)(h' :gH K H' pins bars Tc ms' N):ms'.map (·.1)=ms.map (·.1):=by
 have nd:=eW np
 rw [<- qi h.sub nd (p:=fun x=>decide (x∈ms.map (·.1))) (fun x=>decide_eq_true_iff), <- qi h'.sub nd (p:=fun x=>decide (x∈ms'.map (·.1))) (fun x=>decide_eq_true_iff)]
 refine aio fun x hx=>?_
 obtain ⟨j,ej⟩:=aag hx
 rw [abr,decide_eq_true_iff,decide_eq_true_iff,h.cols j x ej,h'.cols j x ej]
theorem wY (h:gH K H pins bars kT ms N)(hl:aX K H5 l us)(pl:Paired (fun u (kv:Φ)=>∃b,u=.ref b/\H5 b=some (.tup (kv.1.map kV))) us kT):Is K H5 (.l ((ms.map (·.1)).map daP)) (.ref l):=by
 unfold Is
 refine ⟨l,us,rfl,hl,?_⟩
 refine nY (R:=fun u (x:Str×Nat)=>∃b,u=.ref b/\H5 b=some (.tup [.str x.1,.int (x.2:Int)])) (fun u x ⟨b,e,hb⟩=>by rw [e];exact j_ (bT.of hb)) ?_
 refine dy (by rw [aaa, <- Paired.length h.pr];exact Paired.length pl) fun i u x e1 e2=>?_
 obtain ⟨kv,ek,b,e,hb⟩:=aw pl e1
 obtain ⟨m,em,hm⟩:=aw h.pr ek
 rw [Wp,em] at e2
 cases e2
 rw [uu _ _ hm] at hb
 exact ⟨b,e,hb⟩
end
theorem WS.lf (st:WS K H C fA dx pP pW pB lP lB us vs pins bars):OR K H lP lB us vs pins bars:=⟨st.hp,st.pr,st.gp,st.hb,st.pb,fun b hb=>(st.gb.ends b hb).2.2,by have:=st.lp;omega,by have:=st.lb;omega⟩
theorem d0:aE ["_law_script","_law_pins_here","_law_bars_here","_law_frame_here","_law_told","_law_pairs","_law_forces_here","_law_name_here","_law_spot_here","_law_ways_here","_law_again","_law_bar","_law_gone"] zaH (ag jO):=sq
theorem RU (F:m8 K "law" "law" jO f fd)(bQ:mg "list"=none)(a8:mg "len"=none)
  (pT:Fn P w K mg base (a_ P w) 1 "_law_cell_at" zas (pO K)) (dJ:Fn P w K mg base (a_ P w) 1 "_law_field" zab e_)
  (ac4:Fn P w K mg base (a_ P w) 35 "_law_pins" zaH (um K)) (ac5:Fn P w K mg base (a_ P w) 3 "_law_bars" zav (uq K)) (ac6:Fn P w K mg base (a_ P w) 4 "_law_frame" zat (pU K C))
  (hV:Fn P w K mg base (a_ P w) 39 "stays_of" zaF (uf K C)) (hW:Fn P w K mg base (a_ P w) 39 "motions_of" zaF (yq K C)) (Nw:Fn P w K mg base (a_ P w) 37 "_law_right" zao (nZ K)) (h7:Fn P w K mg base (a_ P w) 1 "_law_parted" zaq (yF K))
  (MTb:bI P w K mg base (a_ P w) 1 C "take_bar" zaB (iU K C))
  (qV:Fn P w K mg base (a_ P w) 3 "_law_pin_out" zaf (Ks K C)) (uv:Fn P w K mg base (a_ P w) 35 "_law_pin_in" zah (RS K C)):
  cJ P w K mg base (a_ P w) 42 f fd zaH (IG K):=by
 refine F.okG d0 (fun vs H Q E h=>?_) (fun bJ A outer s H vs Q E hr h=>?_)
 ·obtain ⟨a,ns,rfl,_⟩:=h
  rfl
 obtain ⟨sA,ns,rfl,hS,hn,hb,q⟩:=h
 have L2:2<=sizeLine:=by decide
 refine ⟨_,(ae (aG (i:=1) d0.nd rfl (aad rfl) (aC ac4 hr.mo (pY P w) (ar (pv 0) aa)))
  (ae (aG (i:=2) d0.nd rfl (aad rfl) (aC ac5 hr.mo (pY P w) (ar (pv 0) (ar (pv 1) aa))))
  (ae (aG (i:=3) d0.nd rfl (aad rfl) (aC ac6 hr.mo (pY P w) (ar (pv 1) (ar (pv 2) aa))))
  (ae (aG (i:=4) d0.nd rfl (aad rfl) (aC hV hr.mo (pY P w) (ar (pv 3) aa)))
  (ae (bu (PW.pt (iu (cW (cE (aC Nw hr.mo (pY P w) (ar (pv 1) (ar (pv 2) (ar (pv 4) aa)))))) (fJ (cW (cE (aC h7 hr.mo (pY P w) (ar (pv 1) (ar (pv 4) (ar (aC hW hr.mo (pY P w) (ar (pv 3) aa)) aa))))))))) (aj (aH dc)) aK)
  (ae (aG (i:=5) d0.nd rfl (aad rfl) (b9 (iD rfl) rfl bQ fN (ar (pv 4) aa)))
  (ae (bB PassesOwn.never rfl (bx (DF rfl rfl bQ (pv 4))) (av (i:=6) d0.nd rfl (aad rfl)) (ae (bg (rZ (aR (pv 6))))
   (ae (bB PassesOwn.never rfl (bx (pv 1)) (dG rfl (aQ (av (i:=7) d0.nd rfl (aad rfl)) (aQ (av (i:=8) d0.nd rfl (aad rfl)) (aQ (av (i:=9) d0.nd rfl (aad rfl)) cu)))) (ae (bu (aS i9 (aJ aI rfl a8 bZ (ar (du (bU hr) (aR (pv 6)) (pv 7) (fun _ _=>rfl)) aa)) (aJ aI rfl a8 bZ (ar (pv 9) aa)) (aZ _)) (aj (aH dc)) aK)
    (aj (bg (ja PySem.F.plainAttrs_list PySem.F.slot_list_append PySem.F.type_list_append eO (du (bU hr) (aR (pv 6)) (pv 7) (fun _ _=>rfl)) (ar (aV (ar ak (ar ak aa))) aa))))))
   (aj (bg (rZ (aR (pv 6))))))))
  (ae (bg (DG (pv 4)))
  (ae (aG (i:=10) d0.nd rfl (aad rfl) (aC hV hr.mo (pY P w) (ar (pv 3) aa)))
  (ae (bu (PW.pt (iu (cW (cE (aC Nw hr.mo (pY P w) (ar (pv 1) (ar (pv 2) (ar (pv 10) aa)))))) (fJ (aS (ng hr.units) (b9 (iD rfl) rfl bQ fN (ar (pv 10) aa)) (pv 5) (aZ _))))) (aj (aH dc)) aK)
  (ae (bu (aS vd (aJ aI rfl a8 bZ (ar (pv 2) aa)) ak (aZ _)) (ae (aG (i:=11) d0.nd rfl (aad rfl) (ja PySem.F.plainAttrs_list PySem.F.slot_list_pop PySem.F.type_list_pop vk (pv 2) (ar (aC dJ hr.mo (pY P w) (ar (aC pT hr.mo (pY P w) (ar (pv 0) (ar ak aa))) (ar ak (ar (aJ aI rfl a8 bZ (ar (pv 2) aa)) aa)))) aa)))
   (aj (bg (cZ (k:=1) (pv 3) hr.mo (pY P w) (ar (aR (pv 11)) aa))))) aK)
  (ae (aG (i:=12) d0.nd rfl (aad rfl) (aC qV hr.mo (pY P w) (ar (pv 3) (ar (pv 1) (ar (pv 2) (ar (aC pT hr.mo (pY P w) (ar (pv 0) (ar ak aa))) aa))))))
  (ae (aG (i:=4) d0.nd rfl (aad rfl) (aC hV hr.mo (pY P w) (ar (pv 3) aa)))
  (ae (bu (PW.pt (iu (cW (cE (aC Nw hr.mo (pY P w) (ar (pv 1) (ar (pv 2) (ar (pv 4) aa)))))) (fJ (cW (cE (aC h7 hr.mo (pY P w) (ar (pv 1) (ar (pv 4) (ar (aC hW hr.mo (pY P w) (ar (pv 3) aa)) aa))))))))) (aj (aH dc)) aK)
  (ae (bg (aC uv hr.mo (pY P w) (ar (pv 3) (ar (pv 1) (ar (pv 12) (ar (aC pT hr.mo (pY P w) (ar (pv 0) (ar ak aa))) aa))))))
  (ae (aG (i:=4) d0.nd rfl (aad rfl) (aC hV hr.mo (pY P w) (ar (pv 3) aa)))
  (aj (aH (HC (aC Nw hr.mo (pY P w) (ar (pv 1) (ar (pv 2) (ar (pv 4) aa)))) (HB (aC h7 hr.mo (pY P w) (ar (pv 1) (ar (pv 4) (ar (aC hW hr.mo (pY P w) (ar (pv 3) aa)) aa)))))))))))))))))))))))),?_⟩
 refine ⟨_,rfl,sA,ns,rfl,hS,fun lP us pins H1 s1 nP eP pp gp lp pn=>?_⟩
 have lu:us.length=pins.length:=Paired.length pp
 refine ⟨_,rfl,_,rfl,sA,lP,ns,us,pins,rfl,s1.seq hS,eP,lu,gp.np,by omega,fun lB vs bars H2 s2 nB eB pb gb lb=>?_⟩
 have ac8:Paired (i6 K H2) us pins:=Paired.bF pp fun _ _ z=>z.r.same s2
 have eP2:=s2 _ _ eP
 refine ⟨_,rfl,_,rfl,lP,lB,us,vs,pins,bars,rfl,eP2,ac8,eB,pb,gp,gb,by omega,by omega,fun fA dx pP pW pB kP kW kB H3 s3 R3 W3 nwq nP3 nW3 nB3=>?_⟩
 have wV:=s1.trans (s2.trans s3)
 have SD:lP≠lB:=fun z=>by rw [<- z,eP] at nB;cases nB
 have xh:WS K H3 C fA dx pP pW pB lP lB us vs pins bars:=⟨⟨kP,kW,kB,R3,W3,fun kv h=>⟨nwq kv h _ _ eP2,nwq kv h _ _ eB⟩⟩,s3 _ _ eP2,Paired.bF pp fun u p z=>by
  obtain ⟨a,l,sv,xs,e,h1,h2,h3,h4,h5⟩:=z
  have oU:=s2.trans s3
  exact ⟨a,l,sv,xs,e,Ty.au.bX oU h1,h2.same oU,oU _ _ h3,h4.same oU,h5,fun y=>by rw [y,nB] at h3;cases h3⟩,s3 _ _ eB,Paired.bF pb fun _ _ z=>z.same s3,gp,gb,by omega,by omega,SD⟩
 have np0:=(s1.trans s2).free nP3
 have nw0:=(s1.trans s2).free nW3
 have nb0:=(s1.trans s2).free nB3
 have ac':=s1.free nB
 have yG:∀{Hx:Hp},KO pP pW pB lP lB H Hx->aX K Hx sA (ns.map V.int):=fun {Hx} k=>by
  rcases hS with r | r
  ·have ne:∀{o:HO},H sA=some o->sA≠pP/\sA≠pW/\sA≠pB/\sA≠lP/\sA≠lB:=fun {o} e=>⟨aq e np0,aq e nw0,aq e nb0,aq e nP,aq e ac'⟩
   rcases r with r | ⟨o,r⟩
   ·exact .inl (.inl (k.at (ne r) r))
   ·exact .inl (.inr ⟨o,k.at (ne r) r⟩)
  ·exact .inr r
 have ri:∀{Hx:Hp} {us vs:η} {pins:ο} {bars:ς} {dm:Addr} {kT:ν} {ms:List sC} {Q' :VK} {E' :XK},WS K Hx C fA dx pP pW pB lP lB us vs pins bars->Hx dm=some (.dT kT)->gH K Hx pins bars kT ms 35000->(∀H',au Hx H' ->Q' (.bl true) H')->nZ K [.ref lP,.ref lB,.ref dm] Hx Q' E' :=fun {Hx us vs pins bars dm kT ms Q' E'} st hm mo k=>⟨lP,lB,dm,us,vs,pins,bars,kT,ms,rfl,⟨st.lf,mo⟩,hm,k⟩
 refine ⟨_,rfl,fA,pins,bars,rfl,xh.fa,xh.g,fun dm kT ms rs H4 s4 nm4 WK mo4 rg4 rn4 rf4=>?_⟩
 have Qi:=xh.same s4
 refine ⟨_,rfl,_,rfl,_,rfl,ri Qi WK mo4 fun H5 s5=>⟨_,rfl,?_⟩⟩
 refine bq (fun c=>nomatch c) (fun _=>?_)
 have LS:=Qi.same s5
 refine ⟨_,rfl,_,rfl,_,rfl,fA,pins,bars,rfl,LS.fa,LS.g,fun dS kS H6 s6 eS spS=>?_⟩
 have s36:=s4.trans (s5.trans s6)
 have st6:=xh.same s36
 refine ⟨lP,dm,dS,us,pins,kT,kS,rfl,st6.hp,st6.pr,(s5.trans s6) _ _ WK,eS,mo4.part spS,fun H7 s7=>⟨_,rfl,?_⟩⟩
 refine bq (fun c=>nomatch c) (fun _=>?_)
 have J':=s5.trans (s6.trans s7)
 have s37:=s4.trans J'
 have em7:=J' _ _ WK
 refine ⟨_,rfl,dm,kT,rfl,.inl em7,fun lN uN nN pN=>?_⟩
 have tN:=aF nN (.lst uN)
 have eN:(upd H7 lN (.lst uN)) lN=some (.lst uN):=ah
 generalize upd H7 lN (.lst uN)=H8 at tN eN ⊢
 refine ⟨_,rfl,dm,kT,rfl,tN _ _ em7,fun lV nV=>?_⟩
 have tV:=aF nV (.lst (kT.map fun kv=>kv.2))
 have eV:(upd H8 lV (.lst (kT.map fun kv=>kv.2))) lV=some (.lst (kT.map fun kv=>kv.2)):=ah
 generalize upd H8 lV (.lst (kT.map fun kv=>kv.2))=H9 at tV eV ⊢
 have j0:=tN.trans tV
 have Nj:=J'.trans j0
 have RV:=s37.trans j0
 have rl:∀(i:Nat) (kv:Φ),kT[i]? =some kv->∃r,rs[i]? =some r/\AA H4 pins kv r:=fun i kv e=>aw rg4 e
 have live:∀b∈rs.flatMap (fD pins),∃u,H4 b=some u/\((∃k,u=.dK k)\/∃xs,u=.lst xs):=fun b hb=>by
  obtain ⟨r,hr,hb⟩:=abI.mp hb
  obtain ⟨i,ei⟩:=aag hr
  obtain ⟨kv,ek,p,Tc,kU,_,_,g2,g3,g4⟩:=dY rg4 ei
  rcases aaQ.mp hb with z | hb
  ·rw [z]
   exact ⟨_,g2,.inl ⟨_,rfl⟩⟩
  rcases aaQ.mp hb with z | hb
  ·rw [z]
   exact ⟨_,g3,.inl ⟨_,rfl⟩⟩
  obtain ⟨q',h8,rfl⟩:=aab.mp hb
  obtain ⟨_,cA,e,_⟩:=g4 q' h8
  exact ⟨_,e,.inr ⟨_,rfl⟩⟩
 have noN:lN∉rs.flatMap (fD pins):=fun z=>by
  obtain ⟨u,e,_⟩:=live _ z
  rw [J' _ _ e] at nN
  cases nN
 have noV:lV∉rs.flatMap (fD pins):=fun z=>by
  obtain ⟨u,e,_⟩:=live _ z
  rw [tN _ _ (J' _ _ e)] at nV
  cases nV
 have nom:dm∉rs.flatMap (fD pins):=fun z=>by
  obtain ⟨u,e,h⟩:=live _ z
  rw [WK] at e
  cases e
  rcases h with ⟨_,h⟩ | ⟨_,h⟩ <;> cases h
 have RW:∀{b:Addr} {o:HO},H3 b=some o->b∉rs.flatMap (fD pins):=fun {b o} e z=>by
  rw [rf4 b z] at e
  cases e
 have not' :∀{b:Addr} {xs:η},H4 b=some (.tup xs)->b∉rs.flatMap (fD pins):=fun {b xs} e z=>by
  obtain ⟨u,e',h⟩:=live _ z
  rw [e] at e'
  cases e'
  rcases h with ⟨_,h⟩ | ⟨_,h⟩ <;> cases h
 refine ⟨lV,rfl,⟨_,aX.of eV⟩,bW (K:=K) (a:=lV) (xs:=kT.map fun kv=>kv.2) (fun i σ H' =>∃(o6 o7 o8 o9:χ),σ=[some (.ref sA),some (.ref lP),some (.ref lB),some (.ref fA),some (.ref dm),some (.ref lN),o6,o7,o8,o9,none,none,none]/\(∀b o,b∉rs.flatMap (fD pins)->H9 b=some o->H' b=some o)/\∀j kv r,i<=j->kT[j]? =some kv->rs[j]? =some r->AA H' pins kv r) ⟨none,none,none,none,rfl,fun _ _ _ e=>e,fun j kv r _ e1 e2=>?_⟩ (fun i σ H' _ h=>by
   obtain ⟨_,_,_,_,_,h,_⟩:=h
   exact aX.of (h _ _ noV eV)) ?_ ?_⟩
 ·obtain ⟨r',e3,h⟩:=rl j kv e1
  rw [e2] at e3
  cases e3
  exact h.same Nj
 ·rintro i u σ CA hu ⟨o6,o7,o8,o9,rfl,Th,g10⟩
  rw [Wp] at hu
  obtain ⟨kv,ek,rfl⟩:=aal.mp hu
  obtain ⟨r,er,hr4⟩:=rl i kv ek
  have mr:=ir er
  have ri4:=AN rn4 mr
  have nd4:r.1≠r.2.1/\(∀q∈pins,r.2.2 q.nm≠r.1)/\(∀q∈pins,r.2.2 q.nm≠r.2.1)/\(pins.map fun q=>r.2.2 q.nm).Nodup:=by
   have z:(r.1::r.2.1::pins.map fun q=>r.2.2 q.nm).Nodup:=ri4
   rw [aa5,aa5] at z
   refine ⟨fun e=>z.1 (by rw [e];exact aak),fun q hq e=>z.1 (by rw [<- e];exact aae _ (aab.mpr ⟨q,hq,rfl⟩)),fun q hq e=>z.2.1 (by rw [<- e];exact aab.mpr ⟨q,hq,rfl⟩),z.2.2⟩
  have inr:∀{b:Addr},b∈fD pins r->b∈rs.flatMap (fD pins):=fun {b} hb=>abI.mpr ⟨r,mr,hb⟩
  have m1:r.1∈fD pins r:=aak
  have m2:r.2.1∈fD pins r:=aae _ aak
  have m3:∀q∈pins,r.2.2 q.nm∈fD pins r:=fun q hq=>aae _ (aae _ (aab.mpr ⟨q,hq,rfl⟩))
  obtain ⟨p,Tc,kU,ep,h1,h2,h3,h4⟩:=g10 i kv r (aac _) ek er
  obtain ⟨p4,_,_,ep4,h14,_⟩:=hr4
  rw [ep] at ep4
  have pe:p=p4:=by injection ep4
  have np:p∉rs.flatMap (fD pins):=not' (by rw [pe];exact h14)
  rw [ep]
  refine ⟨_,rfl,p,_,_,_,rfl,rfl,bT.of h1,iE,r.1,Tc,rfl,h2,?_⟩
  have SK:∀{Ha Hb:Hp},(∀b o,b∉fD pins r->Ha b=some o->Hb b=some o)->(∀j kv r',i+1<=j->kT[j]? =some kv->rs[j]? =some r' ->AA Ha pins kv r')->∀j kv r',i+1<=j->kT[j]? =some kv->rs[j]? =some r' ->AA Hb pins kv r' :=fun {Ha Hb} kk hh j kv r' hj e1 e2=>by
   obtain ⟨p',a',b',c1,c2,c3,c4,c5⟩:=hh j kv r' hj e1 e2
   have dis:=wX rn4 e2 er (show j≠i by omega)
   obtain ⟨r'',e3,p'',_,_,d1,d2,_⟩:=rl j kv e1
   rw [e2] at e3
   cases e3
   rw [c1] at d1
   have pe' :p' =p'' :=by injection d1
   refine ⟨p',a',b',c1,kk _ _ (fun z=>not' (by rw [pe'];exact d2) (inr z)) c2,kk _ _ (dis _ aak) c3,kk _ _ (dis _ (aae _ aak)) c4,fun q hq=>?_⟩
   obtain ⟨e4,cA,e5,e6⟩:=c5 q hq
   exact ⟨e4,cA,kk _ _ (dis _ (aae _ (aae _ (aab.mpr ⟨q,hq,rfl⟩)))) e5,e6⟩
  have kc:aL r.1 CA (upd CA r.1 (.dK [])):=aL.upd
  generalize upd CA r.1 (.dK [])=Qj at kc ⊢
  have k11:∀b o,b∉rs.flatMap (fD pins)->H9 b=some o->Qj b=some o:=fun b o n e=>kc _ _ (fun z=>n (by rw [z];exact inr m1)) (Th b o n e)
  have WL:∀{Hx:Hp},(∀b o,b∉rs.flatMap (fD pins)->H9 b=some o->Hx b=some o)->Hx lP=some (.lst us):=fun {Hx} kx=>kx _ _ (RW xh.hp) (RV _ _ xh.hp)
  refine ⟨_,rfl,lP,rfl,⟨_,aX.of (WL k11)⟩,bW (K:=K) (a:=lP) (xs:=us) (fun t σ H' =>∃(o7 o8 o9:χ),σ=[some (.ref sA),some (.ref lP),some (.ref lB),some (.ref fA),some (.ref dm),some (.ref lN),some (.ref p),o7,o8,o9,none,none,none]/\(∀b o,b∉rs.flatMap (fD pins)->H9 b=some o->H' b=some o)/\(∀j kv r',i+1<=j->kT[j]? =some kv->rs[j]? =some r' ->AA H' pins kv r')/\H' r.2.1=some (.dK kU)/\∀c q,t<=c->pins[c]? =some q->∃cA,H' (r.2.2 q.nm)=some (.lst cA)/\cA.length=q.ws.length) ⟨_,_,_,rfl,k11,SK (fun b o n e=>kc _ _ (fun z=>n (by rw [z];exact m1)) e) fun j kv r' hj=>g10 j kv r' (by omega),kc _ _ (aba nd4.1) h3,fun c q _ ec=>?_⟩ (fun t σ H' _ h=>by
    obtain ⟨_,_,_,_,h,_⟩:=h
    exact aX.of (WL h)) ?_ ?_⟩
  ·have mq:=ir ec
   obtain ⟨_,cA,e,l⟩:=h4 q mq
   exact ⟨cA,kc _ _ (nd4.2.1 q mq) e,l⟩
  ·rintro t u σ FP hu ⟨o7,o8,o9,rfl,Lb,g12,Wb,l12⟩
   obtain ⟨q,eq,ta,l,sv,wv,rfl,c1,c2,c3,c4⟩:=aw xh.pr hu
   have mq:=ir eq
   have kx:∀{b:Addr} {xs:η},H3 b=some (.tup xs)\/H3 b=some (.lst xs)->FP b=H3 b:=fun {b xs} z=>by
    rcases z with z | z
    ·rw [Lb _ _ (RW z) (RV _ _ z),z]
    ·rw [Lb _ _ (RW z) (RV _ _ z),z]
   have t12:bD H3 FP:=fun b xs z=>by
    rcases z with z | ⟨o',z⟩
    ·exact .inl (Lb _ _ (RW z) (RV _ _ z))
    ·exact .inr ⟨o',Lb _ _ (RW z) (RV _ _ z)⟩
   have hw:FP l=some (.lst wv):=Lb _ _ (RW c3) (RV _ _ c3)
   have lwv:wv.length=q.ws.length:=Paired.length c4
   obtain ⟨cA,hv,lv⟩:=l12 t q (aac _) eq
   have Ny:bT K FP p [.ref r.1,.ref r.2.1]:=bT.of (Lb _ _ np (Nj _ _ (by rw [pe];exact h14)))
   have dgU:c7 FP r.2.1 (.str q.nm) (some (.ref (r.2.2 q.nm))):=by
    have:=c7.k (k:=.inr q.nm) Wb
    rw [(h4 q mq).1] at this
    exact this
   refine ⟨ta,_,rfl,t12.bX c1,rfl,_,_,rfl,_,_,rfl,_,_,rfl,rfl,?_⟩
   refine ⟨_,rfl,p,_,_,_,rfl,rfl,Ny,h_,_,rfl,r.2.1,_,rfl,dgU,r.2.2 q.nm,_,rfl,.inl (aX.of hv),_,rfl,l,_,rfl,.inl (aX.of hw),rfl,_,rfl,?_⟩
   rw [lv,lwv,decide_eq_true rfl]
   refine bq (fun c=>nomatch c) (fun _=>?_)
   refine ⟨_,rfl,p,_,_,_,rfl,rfl,Ny,h_,_,rfl,r.2.1,_,rfl,dgU,.inl ⟨rfl,_,aX.of hv⟩,L2,?_⟩
   intro t13 n13;generalize eX:upd _ t13 _=xn;have ⟨oU,e13⟩:=nw n13 eX;clear eX
   have lq:=gp.ws q mq
   have lq2:q.ws.length<=2:=xh.g.lw q mq
   refine ⟨r.2.2 q.nm,_,_,rfl,rfl,oU _ _ hv,(aaj (show cA.length<=1000 by omega) (by decide)),?_⟩
   have kd:aL (r.2.2 q.nm) xn (upd xn (r.2.2 q.nm) (.lst (cA ++[.ref t13]))):=aL.upd
   generalize upd xn (r.2.2 q.nm) (.lst (cA ++[.ref t13]))=WM at kd ⊢
   have ka:∀b o,b≠r.2.2 q.nm->FP b=some o->WM b=some o:=fun b o n e=>kd _ _ n (oU _ _ e)
   refine ⟨_,_,_,rfl,fun b o n e=>ka b o (fun z=>n (by rw [z];exact inr (m3 q mq))) (Lb b o n e),SK (fun b o n e=>ka b o (fun z=>n (by rw [z];exact m3 q mq)) e) g12,ka _ _ (aba (nd4.2.2.1 q mq)) Wb,fun c q' hc ec=>?_⟩
   obtain ⟨Tb,e2,l2⟩:=l12 c q' (by omega) ec
   refine ⟨Tb,ka _ _ (fun z=>?_) e2,l2⟩
   have f1:(pins.map fun q=>r.2.2 q.nm)[c]? =some (r.2.2 q.nm):=by rw [Wp,ec, <- z];rfl
   have f2:(pins.map fun q=>r.2.2 q.nm)[t]? =some (r.2.2 q.nm):=by rw [Wp,eq];rfl
   have:=ck nd4.2.2.2 f1 f2
   omega
  ·rintro σ FP ⟨o7,o8,o9,rfl,Lb,g12,Wb,l12⟩
   have Ny:bT K FP p [.ref r.1,.ref r.2.1]:=bT.of (Lb _ _ np (Nj _ _ (by rw [pe];exact h14)))
   refine ⟨_,rfl,p,_,_,_,rfl,rfl,Ny,h_,r.2.1,kU,rfl,Wb,?_⟩
   have kd:aL r.2.1 FP (upd FP r.2.1 (.dK [])):=aL.upd
   generalize upd FP r.2.1 (.dK [])=xn at kd ⊢
   exact ⟨_,_,_,_,rfl,fun b o n e=>kd _ _ (fun z=>n (by rw [z];exact inr m2)) (Lb b o n e),SK (fun b o n e=>kd _ _ (fun z=>n (by rw [z];exact m2)) e) g12⟩
 rintro σ CA ⟨o6,o7,o8,o9,rfl,Th,_⟩
 have m10:CA dm=some (.dT kT):=Th _ _ nom (Nj _ _ WK)
 have n10:CA lN=some (.lst uN):=Th _ _ noN (tV _ _ eN)
 have s10:au H3 CA:=fun b o e=>Th b o (RW e) (RV _ _ e)
 have p10:Paired (fun u (kv:Φ)=>∃b,u=.ref b/\CA b=some (.tup (kv.1.map kV))) uN kT:=Paired.bF pN fun u kv ⟨b,e,hb⟩=>⟨b,e,Th _ _ (fun z=>by
  obtain ⟨u',e',h⟩:=live _ z
  rw [J' _ _ e'] at hb
  cases hb
  rcases h with ⟨_,h⟩ | ⟨_,h⟩ <;> cases h) (j0 _ _ hb)⟩
 refine ⟨_,rfl,dm,kT,rfl,m10,?_⟩
 have kd:aL dm CA (upd CA dm (.dK [])):=aL.upd
 generalize upd CA dm (.dK [])=Qj at kd ⊢
 have s11:au H3 Qj:=fun b o z=>kd _ _ (aq z nm4) (s10 _ _ z)
 have n11:Qj lN=some (.lst uN):=kd _ _ (fun y=>by rw [y,m10] at n10;cases n10) n10
 have p11:Paired (fun u (kv:Φ)=>∃b,u=.ref b/\Qj b=some (.tup (kv.1.map kV))) uN kT:=Paired.bF p10 fun u kv ⟨b,e,hb⟩=>⟨b,e,kd _ _ (fun z=>by rw [z,m10] at hb;cases hb) hb⟩
 have RX:=xh.same s11
 refine ⟨_,rfl,fA,pins,bars,rfl,RX.fa,RX.g,fun WN kT2 ms2 rs2 FP zE atH WO RY _ _ _=>?_⟩
 have WQ:=RX.same zE
 dsimp only [cF]
 refine eJ (fun σ' H' =>σ' =[some (.ref sA),some (.ref lP),some (.ref lB),some (.ref fA),some (.ref dm),some (.ref lN),o6,o7,o8,o9,some (.ref WN),none,none]/\au FP H') (fun Nx qS=>?_) ?_
 ·refine ⟨_,rfl,_,rfl,_,rfl,ri WQ WO RY fun xn oU=>⟨_,rfl,?_⟩⟩
  refine bq (fun c=>nomatch c) (fun _=>?_)
  refine ⟨_,rfl,WN,kT2,rfl,.inl (oU _ _ WO),fun l4 u4 n4 p4=>?_⟩
  have t4:=aF n4 (.lst u4)
  have e4:(upd xn l4 (.lst u4)) l4=some (.lst u4):=ah
  generalize upd xn l4 (.lst u4)=WM at t4 e4 ⊢
  have i1:=wY (K:=K) RY (aX.of e4) (Paired.bF p4 fun u kv ⟨b,e,hb⟩=>⟨b,e,t4 _ _ hb⟩)
  have i2:=wY (K:=K) mo4 (aX.of (t4 _ _ (oU _ _ (zE _ _ n11)))) (Paired.bF p11 fun u kv ⟨b,e,hb⟩=>⟨b,e,t4 _ _ (oU _ _ (zE _ _ hb))⟩)
  rw [mo4.alike gp.np RY] at i1
  refine ⟨_,rfl,WE i1 i2 (qh AM _) ⟨_,rfl,?_⟩⟩
  refine bq (fun c=>nomatch c) (fun _=>?_)
  exact qS _ _ ⟨rfl,oU.trans t4⟩
 rintro σ' xn ⟨rfl,oU⟩
 have s0:=wV.trans (s11.trans (zE.trans oU))
 have gs:=WQ.same oU
 refine eJ (fun σ' H' =>∃(o11:χ) (cA :η) (WR :ς),σ' =[some (.ref sA),some (.ref lP),some (.ref lB),some (.ref fA),some (.ref dm),some (.ref lN),o6,o7,o8,o9,some (.ref WN),o11,none]/\KO pP pW pB lP lB H H' /\WS K H' C fA dx pP pW pB lP lB us cA pins WR) (fun Nx qS=>?_) ?_
 ·have lvb:vs.length=bars.length:=Paired.length gs.pb
  refine ⟨_,rfl,lB,_,rfl,.inl (aX.of gs.hb),_,_,rfl,rfl,_,rfl,?_⟩
  refine bq (fun cl=>?_) (fun cl=>?_)
  ·have cl' :=of_decide_eq_true cl
   refine ⟨_,rfl,.inl ⟨rfl,_,aX.of gs.hb⟩,_,rfl,sA,ns,2,rfl,yG (KO.of s0),by decide,by decide,_,rfl,lB,_,rfl,.inl (aX.of gs.hb),_,_,_,rfl,by decide,by decide,by omega,?_⟩
   have fi:=bf (c:=cell ns 2) (p:=1009) (m:=((vs.length:Nat):Int)) (by omega)
   generalize field (cell ns 2) 1009 ((vs.length:Nat):Int)=fv at fi ⊢
   obtain ⟨k,rfl⟩:∃n:Nat,fv=(n:Int):=⟨fv.toNat,by omega⟩
   have hk:k < vs.length:=by omega
   obtain ⟨b,eb⟩:∃b,bars[k]? =some b:=⟨_,gE (by omega)⟩
   have mb:=ir eb
   obtain ⟨y,ey,hy⟩:=aw (b6 gs.pb) eb
   have hy:iL K xn pins y b:=hy
   obtain ⟨ta,i,j,rfl,h1,g1,g2⟩:=hy
   obtain ⟨qM,jc,OB,R,W,nW⟩:=gs.fr
   refine ⟨lB,vs,(k:Int),k,.ref ta,rfl,rfl,gs.hb,by omega,by omega,Jp hk,ey,?_⟩
   have yH:∀b o,b≠lB->xn b=some o->(upd xn lB (.lst (vs.eraseIdx k))) b=some o:=fun b o n e=>by rw [ao n];exact e
   have WT:(upd xn lB (.lst (vs.eraseIdx k))) lB=some (.lst (vs.eraseIdx k)):=ah
   generalize upd xn lB (.lst (vs.eraseIdx k))=WM at yH WT ⊢
   have k14:KO pP pW pB lP lB xn WM:=fun b o _ _ _ _ n5 e=>yH b o n5 e
   have t14:=gs.t k14
   have nPb:pP≠lB:=fun z=>by have h:=R.pl;rw [z,gs.hb] at h;cases h
   have nWb:pW≠lB:=fun z=>by have h:=R.wy;rw [z,gs.hb] at h;cases h
   have nBb:pB≠lB:=fun z=>by have h:=R.br;rw [z,gs.hb] at h;cases h
   have nBp:pB≠lP:=fun z=>by have h:=R.br;rw [z,gs.hp] at h;cases h
   have fb:fA≠lB:=fun z=>by have h:=R.obj;rw [z,gs.hb] at h;cases h
   have fB:fA≠pB:=fun z=>by have h:=R.obj;rw [z,R.br] at h;cases h
   have R14:eC K WM C fA dx pP pW pB (OT pins) (GX bars) qM jc OB :=R.eE t14 ((yH _ _ fb R.obj).trans R.obj.symm) ((yH _ _ nPb R.pl).trans R.pl.symm) ((yH _ _ nWb R.wy).trans R.wy.symm) ((yH _ _ nBb R.br).trans R.br.symm)
   refine ⟨_,rfl,fA,C,dx,_,_,_,rfl,R14.obj,rfl,MTb,_,rfl,ta,_,_,_,rfl,rfl,t14.bX h1,rfl,?_⟩
   dsimp only [fV]
   refine ⟨fA,dx,pP,pW,pB,OT pins,GX bars,qM,jc,OB,b.nm,rfl,R14,by rw [aaT];exact aab.mpr ⟨b,mb,rfl⟩,fun H15 kB1 k15 R15=>?_⟩
   have em:=qk gb.nb eb
   rw [em] at R15
   have WU:∀b o,b≠lB->b≠pB->xn b=some o->H15 b=some o:=fun b o n n' e=>k15 _ _ n' (yH b o n e)
   have adk:=k15 _ _ (aba nBb) WT
   have AO:KO pP pW pB lP lB xn H15:=fun b o _ _ n3 _ n5 e=>WU b o n5 n3 e
   have WV:=gs.t AO
   have len:=acw bars k
   have sub:acU (bars.eraseIdx k) bars:=ah5 _ _
   have adl:WS K H15 C fA dx pP pW pB lP lB us (vs.eraseIdx k) pins (bars.eraseIdx k):=⟨⟨qM,jc,kB1,R15,gs.wys AO W nW,nW⟩,WU _ _ SD (aba nBp) gs.hp,Paired.bF gs.pp fun _ _ z=>gs.Kr AO z,adk,kb (Paired.bF gs.pb fun u b z=>by
    obtain ⟨a,i,j,e,h1,g1,g2⟩:=z
    exact ⟨a,i,j,e,WV.bX h1,g1,g2⟩),gp,⟨gb.nb.sublist (sub.map _),fun c hc=>gb.ends c (sub.subset hc)⟩,gs.lp,by omega,SD⟩
   exact qS _ _ ⟨_,_,_,rfl,(KO.of s0).trans AO,adl⟩
  ·exact qS _ _ ⟨none,vs,bars,rfl,KO.of s0,gs⟩
 rintro σ' H20 ⟨o11,Tb,ql,rfl,R5,R7⟩
 refine eJ (fun σ' H' =>∃(g:V) (iM:ο) (usG vsG:η),σ' =[some (.ref sA),some (.ref lP),some (.ref lB),some (.ref fA),some (.ref dm),some (.ref lN),o6,o7,o8,o9,some (.ref WN),o11,some g]/\KO pP pW pB lP lB H H' /\WS K H' C fA dx pP pW pB lP lB usG vsG iM ql/\iM.length<=7/\((g=.cw/\∀p∈iM,p.nm≠ "far"/\p.sp.1<=1000001)\/∃p,j8 K H' lP lB g p/\p.nm∉iM.map (·.nm)/\p.sp∉iM.map (·.sp)/\Sz 44 p.sp.1/\Sz 20 p.sp.2/\ -500002<=p.sp.2/\∀q∈iM,q.sp.2<=500002)) (fun Nx qS=>?_) ?_
 ·refine ⟨_,rfl,_,rfl,_,rfl,_,rfl,sA,ns,15,rfl,yG R5,by decide,by decide,?_⟩
  try dsimp only [fV]
  refine ⟨fA,dx,pP,pW,pB,lP,lB,_,Tb,_,ql,_,rfl,R7,fun H23 s23=>?_,fun k p y i5 vs3 H23 ek ko FQ py=>?_⟩
  ·exact qS _ _ ⟨.cw,_,_,Tb,rfl,R5.trans (KO.of s23),R7.same s23,by omega,.inl ⟨rfl,fun p hp=>⟨(pn p hp).1.2,by have:=(pn p hp).2.1;grind⟩⟩⟩
  ·have mp:=ir ek
   obtain ⟨u1,u2⟩:=R7.gp.un ek
   have sub:∀q∈pins.eraseIdx k,q∈pins:=fun q hq=>(ah5 _ _).subset hq
   refine qS _ _ ⟨y,_,i5,vs3,rfl,R5.trans ko,FQ,?_,.inr ⟨p,py,u1,u2,(gp.sz p mp).1,(pn p mp).2.2.1,(pn p mp).2.2.2.1,fun q hq=>(pn q (sub q hq)).2.2.2.2⟩⟩
   have:=acw pins k
   omega
 rintro σ' H23 ⟨g,iM,usG,vsG,rfl,ado,FQ,lG,alt⟩
 refine ⟨_,rfl,fA,iM,ql,rfl,FQ.fa,FQ.g,fun dm5 kT5 ms5 rs5 H24 S9 _ WW WX _ _ _=>?_⟩
 dsimp only [cF]
 refine eJ (fun σ' H' =>σ' =[some (.ref sA),some (.ref lP),some (.ref lB),some (.ref fA),some (.ref dm5),some (.ref lN),o6,o7,o8,o9,some (.ref WN),o11,some g]/\au H23 H') (fun Nx qS=>?_) ?_
 ·have WY:=FQ.same S9
  refine ⟨_,rfl,_,rfl,_,rfl,ri WY WW WX fun H25 wC=>⟨_,rfl,?_⟩⟩
  refine bq (fun c=>nomatch c) (fun _=>?_)
  have Kv:=WY.same wC
  refine ⟨_,rfl,_,rfl,_,rfl,fA,iM,ql,rfl,Kv.fa,Kv.g,fun dS kS H26 Ka eS spS=>?_⟩
  have FR:=Kv.same Ka
  refine ⟨lP,dm5,dS,usG,iM,kT5,kS,rfl,FR.hp,FR.pr,(wC.trans Ka) _ _ WW,eS,WX.part spS,fun H27 Te=>⟨_,rfl,?_⟩⟩
  refine bq (fun c=>nomatch c) (fun _=>?_)
  exact qS _ _ ⟨rfl,S9.trans (wC.trans (Ka.trans Te))⟩
 rintro σ' H25 ⟨rfl,wC⟩
 have Kv:=FQ.same wC
 have adp:=ado.trans (KO.of (pP:=pP) (pW:=pW) (pB:=pB) (lP:=lP) (lB:=lB) wC)
 refine ⟨_,rfl,_,rfl,_,rfl,_,rfl,sA,ns,15,rfl,yG adp,by decide,by decide,?_⟩
 try dsimp only [fV]
 refine ⟨fA,dx,pP,pW,pB,lP,lB,usG,vsG,iM,ql,g,_,rfl,Kv,lG,alt.imp id (fun ⟨p,a,b⟩=>⟨p,a.same wC,b⟩),fun p i5 H26 ko FR=>?_⟩
 refine ⟨_,rfl,fA,_,ql,rfl,FR.fa,FR.g,fun dm6 kT6 ms6 rs6 H27 Te _ WZ W0 _ _ _=>?_⟩
 have W5:=FR.same Te
 refine ⟨_,rfl,_,rfl,_,rfl,ri W5 WZ W0 fun H28 WH=>⟨_,rfl,?_⟩⟩
 refine bq (fun _=>?_) (fun c=>absurd rfl c)
 have R8:=W5.same WH
 refine ⟨_,rfl,_,rfl,_,rfl,fA,_,ql,rfl,R8.fa,R8.g,fun dS kS H29 s29 eS spS=>?_⟩
 have W7:=R8.same s29
 exact ⟨lP,dm6,dS,i5,_,kT6,kS,rfl,W7.hp,W7.pr,(WH.trans s29) _ _ WZ,eS,W0.part spS,fun H30 s30=>q _⟩
end
theorem all_mk {l:PySem.W.OpenLaw}{w:World}{K:Frag}{h:Heap}{mg:ι}{fa:Addr}(X:K.In h)(G:h.Ns mainGlobals mg)(hfa:mg "law"=some (.ref fa))
  (adq:HXx K "difference_of" x8) (adv:HXx K "lowest_terms" wd) (adz:HXx K "greatest_shared" DH) (adD:HXx K "arm_between" DI) (adH:HXx K "pair_difference" x9) (yI:HXx K "pairs_of" eT) (adL:HXx K "pair_row" DJ) (adP:HXx K "bar_row" DK) (adT:HXx K "draw_rows" DL) (adX:HXx K "pulls_and_pushes" DM) (ad1:HXx K "motion_from" DN) (mT:HXx K "spare_columns" cv) (uw:HXx K "spare_list" dz) (lI:HXx K "needed_columns" b_) (ad5:HXx K "whole_row" DO) (w4:HXx K "unit_line" d3) (ad9:HXx K "reduced" DP) (aec:HXx K "first_not_nought" DQ) (aeg:HXx K "cleared" DR) (aek:HXx K "divided" DS) (uE:HXx K "motions_of" dA) (yM:HXx K "stays_of" eU) (aeo:HXx K "_law_cell_at" DT) (aes:HXx K "_law_field" DU) (aew:HXx K "_law_lowest" DV) (aeA:HXx K "_law_sum" DW) (aeE:HXx K "_law_times" DX) (aeI:HXx K "_law_turned" DY) (aeM:HXx K "_law_name" x_) (aeQ:HXx K "_law_spot" DZ) (aeU:HXx K "_law_ways" D_) (aeY:HXx K "_law_pins" D') (ae2:HXx K "_law_bars" EA) (ae6:HXx K "_law_frame" EB) (ae':HXx K "_law_arm" EC) (afd:HXx K "_law_add" ED) (afh:HXx K "_law_forces" EE) (afm:HXx K "_law_number" EF) (afq:HXx K "_law_are_forces" EG) (F':HXx K "_law_one" fH) (afu:HXx K "_law_right" EH) (uI:HXx K "_law_parted" dB) (qZ:HXx K "_law_put_pin" cR) (ra:HXx K "_law_pin_out" cS) (uM:HXx K "_law_pin_in" dC) (Yd:nsIn K mainGlobals "law"=some (some (.ref Pd))) (Ye:K.lookup Pd=some ⟨afy,afz,.func (fnOf "law" "law" (aA jO) (ay jO) (ag jO) .none Sh Si Sj Sk KU Sl),afA⟩) (Yf:codeIn K KU "law"=true) (Yg:keepIn K (.ref Pd)=true) (afB:nsIn K mainGlobals "MOST_PINS"=some (some (.int 24 an1))) (afC:nsIn K mainGlobals "MOST_BARS"=some (some (.int 60 an2))) (afD:nsIn K mainGlobals "NOUGHT"=some (some (.ref Sn))) (afE:K.lookup Sn=some ⟨.type "tuple",an3,.seq #[.int 0 afF,.int 1 afG] an4,an5⟩) (afH:nsIn K mainGlobals "ONE"=some (some (.ref So))) (afI:K.lookup So=some ⟨.type "tuple",an6,.seq #[.int 1 afJ,.int 1 afK] an7,an8⟩) (afL:nsIn K mainGlobals "NO_MOVE"=some (some (.ref Sq))) (afM:K.lookup Sq=some ⟨.type "tuple",an9,.seq #[.ref Yh,.ref Yi] an',aoa⟩) (afN:K.lookup Yh=some ⟨.type "tuple",aob,.seq #[.int 0 afO,.int 1 afP] aoc,aod⟩) (afQ:K.lookup Yi=some ⟨.type "tuple",aoe,.seq #[.int 0 afR,.int 1 afS] aof,aog⟩) (uR:nsIn K mainGlobals "ValueError"=some none) (Yj:nsIn K mainGlobals "abs"=some none) (Yk:nsIn K mainGlobals "all"=some none) (Yl:nsIn K mainGlobals "any"=some none) (Sr:nsIn K mainGlobals "bool"=some none) (Ss:nsIn K mainGlobals "dict"=some none) (xc:nsIn K mainGlobals "enumerate"=some none) (Ym:nsIn K mainGlobals "int"=some none) (uS:nsIn K mainGlobals "isinstance"=some none) (Yn:nsIn K mainGlobals "len"=some none) (Su:nsIn K mainGlobals "list"=some none) (Yo:nsIn K mainGlobals "min"=some none) (NJ:nsIn K mainGlobals "range"=some none) (Yp:nsIn K mainGlobals "str"=some none) (NK:nsIn K mainGlobals "tuple"=some none) (Yq:nsIn K mainGlobals "zip"=some none) (afT:nsIn K mainGlobals "YardError"=some (some (.ref afU))) (afV:nsIn K mainGlobals "NoWay"=some (some (.ref afW))) (afX:nsIn K mainGlobals "PinThere"=some (some (.ref afY))) (afZ:nsIn K mainGlobals "SpotTaken"=some (some (.ref af0))) (af1:nsIn K mainGlobals "NoPin"=some (some (.ref af2))) (GJ:nsIn K mainGlobals "PinBusy"=some (some (.ref GK))) (af3:nsIn K mainGlobals "BarThere"=some (some (.ref af4))) (af5:nsIn K mainGlobals "NoBar"=some (some (.ref af6))) (af7:nsIn K mainGlobals "NoLength"=some (some (.ref af8))) (af9:nsIn K mainGlobals "TooMany"=some (some (.ref af'))) (aga:nsIn K mainGlobals "Frame"=some (some (.ref bN))) (agb:nsIn K mainGlobals "Hold"=some (some (.ref mX))) (agc:nsIn K mainGlobals "Roller"=some (some (.ref i7))) (agd:nsIn K mainGlobals "Fixed"=some (some (.ref lO))) (Yr:PySem.W.plainGet K bN Str.empty=true) (Ys:PySem.W.hasDictIn K bN=true) (Yt:PySem.W.plainOver K bN=true) (Yu:PySem.W.findIn K (.ref bN) "__setattr__"=some (some (.builtin "object.__setattr__"))) (Yv:PySem.W.makesIn K bN=true) (Yw:keepIn K (.ref bN)=true) (Yx:HXy K bN "__init__" "Frame.__init__" EI) (agg:PySem.W.findIn K (.ref bN) "put_pin"=some (some (.ref NL))) (agh:PySem.W.isFn K (.ref NL)=true) (agi:K.lookup NL=some ⟨aop,aoq,.func (fnOf "put_pin" "Frame.put_pin" (aA mO) (ay mO) (ag mO) (.ref KY) Pe Pf Pg Ph KZ Pj),aor⟩) (YB:K.lookup KY=some ⟨aos,agj,.seq #[.none] aot,agk⟩) (agl:codeIn K KZ "Frame.put_pin"=true) (YC:keepIn K (.ref NL)=true) (agm:HXy K bN "put_bar" "Frame.put_bar" EJ) (agq:HXy K bN "check_bar" "Frame.check_bar" EK) (agu:HXy K bN "check_pin" "Frame.check_pin" EL) (agy:HXy K bN "take_bar" "Frame.take_bar" EM) (lQ:HXy K bN "take_pin" "Frame.take_pin" cb) (agC:HXy K bN "pins" "Frame.pins" EN) (agG:HXy K bN "bars" "Frame.bars" EO) (agK:HXy K bN "place" "Frame.place" ER) (agO:HXy K bN "ways" "Frame.ways" ES) (agS:HXy K bN "ends" "Frame.ends" ET) (YW:PySem.W.plainGet K mX Str.empty=true) (YX:PySem.W.hasDictIn K mX=true) (YY:PySem.W.plainOver K mX=true) (YZ:PySem.W.findIn K (.ref mX) "__setattr__"=some (some (.builtin "object.__setattr__"))) (Y0:PySem.W.makesIn K mX=true) (Y1:keepIn K (.ref mX)=true) (Y2:PySem.W.findIn K (.ref mX) "__init__"=some (some (.builtin "object.__init__"))) (agW:HXy K mX "ways" "Hold.ways" MJ) (Y5:PySem.W.plainGet K i7 Str.empty=true) (Y6:PySem.W.hasDictIn K i7=true) (Y7:PySem.W.plainOver K i7=true) (Y8:PySem.W.findIn K (.ref i7) "__setattr__"=some (some (.builtin "object.__setattr__"))) (Y9:PySem.W.makesIn K i7=true) (Y_:keepIn K (.ref i7)=true) (Y':HXy K i7 "__init__" "Roller.__init__" EU) (ag2:HXy K i7 "ways" "Roller.ways" EV) (Zg:PySem.W.plainGet K lO Str.empty=true) (Zh:PySem.W.hasDictIn K lO=true) (Zi:PySem.W.plainOver K lO=true) (Zj:PySem.W.findIn K (.ref lO) "__setattr__"=some (some (.builtin "object.__setattr__"))) (Zk:PySem.W.makesIn K lO=true) (Zl:keepIn K (.ref lO)=true) (Zm:PySem.W.findIn K (.ref lO) "__init__"=some (some (.builtin "object.__init__"))) (ag6:HXy K lO "ways" "Fixed.ways" EW) (K1:PySem.W.findIn K (.ref bN) "pin_places"=some none) (Sv:PySem.W.findIn K (.ref bN) "pin_ways"=some none) (Sw:PySem.W.findIn K (.ref bN) "bar_ends"=some none) (Pk:PySem.W.findIn K (.ref i7) "way"=some none) (ht:l.prog.given.tree=none):
  ∃fd:FuncData,(∀(s:Shared) (v:Value),BindsTo s fd ⟨[v],[]⟩ [("_law_script",v)])/\∀base:Heap,K.In base->base.Ns mainGlobals mg->cJ l.prog w K mg base (a_ l.prog w) 42 fa fd ["_law_script"] (IG K):=by
 have e:=hfa.symm.trans (mg_of X G Yd)
 cases e
 obtain ⟨Yx,Yy,age,agf,YA⟩:=Yx
 obtain ⟨agm,agn,ago,agp,YE⟩:=agm
 obtain ⟨agq,agr,ags,agt,YG⟩:=agq
 obtain ⟨agu,agv,agw,agx,YI⟩:=agu
 obtain ⟨agy,agz,agA,agB,YK⟩:=agy
 obtain ⟨lQ,lS,lT,lW,gJ⟩:=lQ
 obtain ⟨agC,agD,agE,agF,YM⟩:=agC
 obtain ⟨agG,agH,agI,agJ,YO⟩:=agG
 obtain ⟨agK,agL,agM,agN,YR⟩:=agK
 obtain ⟨agO,agP,agQ,agR,YT⟩:=agO
 obtain ⟨agS,agT,agU,agV,YV⟩:=agS
 obtain ⟨agW,agX,agY,agZ,Y4⟩:=agW
 obtain ⟨Y',Za,ag0,ag1,Zd⟩:=Y'
 obtain ⟨ag2,ag3,ag4,ag5,Zf⟩:=ag2
 obtain ⟨ag6,ag7,ag8,ag9,Zo⟩:=ag6
 have ag':Def K mg _ _ ["one","other"]:=fW X G adq
 have aha:Def K mg _ _ ["top","bottom"]:=fW X G adv
 have ahb:Def K mg _ _ ["one","other"]:=fW X G adz
 have ahc:Def K mg _ _ ["F","one","other"]:=fW X G adD
 have ahd:Def K mg _ _ ["one","other"]:=fW X G adH
 have yR:Def K mg _ _ ["F"]:=fW X G yI
 have ahe:Def K mg _ _ ["F","draws"]:=fW X G adL
 have ahf:Def K mg _ _ ["F","one","other"]:=fW X G adP
 have ahg:Def K mg _ _ ["F"]:=fW X G adT
 have ahh:Def K mg _ _ ["F","numbers"]:=fW X G adX
 have ahi:Def K mg _ _ ["F","numbers"]:=fW X G ad1
 have mY:Def K mg _ _ ["rows","many"]:=fW X G mT
 have uT:Def K mg _ _ ["needed","column","many"]:=fW X G uw
 have lX:Def K mg _ _ ["rows","many"]:=fW X G lI
 have ahj:Def K mg _ _ ["row"]:=fW X G ad5
 have xf:Def K mg _ _ ["at","many"]:=fW X G w4
 have ahk:Def K mg _ _ ["lines","many"]:=fW X G ad9
 have ahl:Def K mg _ _ ["lines","column"]:=fW X G aec
 have ahm:Def K mg _ _ ["line","lead","column"]:=fW X G aeg
 have ahn:Def K mg _ _ ["line"]:=fW X G aek
 have uU:Def K mg _ _ ["F"]:=fW X G uE
 have yS:Def K mg _ _ ["F"]:=fW X G yM
 have aho:Def K mg _ _ ["_law_script","_law_k"]:=fW X G aeo
 have ahp:Def K mg _ _ ["_law_cell","_law_prime","_law_many"]:=fW X G aes
 have ahq:Def K mg _ _ ["_law_top","_law_bottom"]:=fW X G aew
 have ahr:Def K mg _ _ ["_law_one_here","_law_other"]:=fW X G aeA
 have ahs:Def K mg _ _ ["_law_one_here","_law_other"]:=fW X G aeE
 have aht:Def K mg _ _ ["_law_one_here"]:=fW X G aeI
 have ahu:Def K mg _ _ ["_law_cell","_law_k"]:=fW X G aeM
 have ahv:Def K mg _ _ ["_law_cell","_law_kind"]:=fW X G aeQ
 have ahw:Def K mg _ _ ["_law_cell"]:=fW X G aeU
 have ahx:Def K mg _ _ ["_law_script"]:=fW X G aeY
 have ahy:Def K mg _ _ ["_law_script","_law_pins_here"]:=fW X G ae2
 have ahz:Def K mg _ _ ["_law_pins_here","_law_bars_here"]:=fW X G ae6
 have ahA:Def K mg _ _ ["_law_pins_here","_law_bar","_law_axis"]:=fW X G ae'
 have ahB:Def K mg _ _ ["_law_found","_law_k","_law_axis","_law_draw"]:=fW X G afd
 have ahC:Def K mg _ _ ["_law_pins_here","_law_bars_here","_law_pulls","_law_pushes"]:=fW X G afh
 have ahD:Def K mg _ _ ["_law_x"]:=fW X G afm
 have ahE:Def K mg _ _ ["_law_pins_here","_law_bars_here","_law_pulls","_law_pushes"]:=fW X G afq
 have GL:Def K mg _ _ ["_law_pins_here","_law_bars_here","_law_told","_law_pair"]:=fW X G F'
 have ahF:Def K mg _ _ ["_law_pins_here","_law_bars_here","_law_told"]:=fW X G afu
 have uV:Def K mg _ _ ["_law_pins_here","_law_told","_law_free"]:=fW X G uI
 have rm:Def K mg _ _ ["_law_frame_here","_law_pins_here","_law_name_here","_law_spot_here","_law_ways_here"]:=fW X G qZ
 have rn:Def K mg _ _ ["_law_frame_here","_law_pins_here","_law_bars_here","_law_cell"]:=fW X G ra
 have uW:Def K mg _ _ ["_law_frame_here","_law_pins_here","_law_gone","_law_cell"]:=fW X G uM
 have eY:vf K bN:=⟨Yr,Ys,Yt,Yu⟩
 have RE:Mk K bN _:=⟨Yv,Yx,Yy,Yw⟩
 have Zp:=cX (st:=EI) age agf YA
 have RG:=Zp.x6 (ps:=["self"])
 have atZ:Meth K bN "__init__" _:=⟨Yx,Yy,YA⟩
 have ahG:=Mu (st:=mO) agi agl YC
 have ahH:Binds K (fnOf "put_pin" "Frame.put_pin" (aA mO) (ay mO) (ag mO) (.ref KY) Pe Pf Pg Ph KZ Pj) ["self","name","x","y","hold"] []:=fun s us X hl=>match us,hl with | [_,_,_,_,_],_=>BindsTo.of_defaults rfl (X _ _ YB) rfl rfl rfl
 have Zq:Binds K (fnOf "put_pin" "Frame.put_pin" (aA mO) (ay mO) (ag mO) (.ref KY) Pe Pf Pg Ph KZ Pj) ["self","name","x","y","hold"] [.none]:=fun s us X hl=>match us,(show us.length=4 by simpa using hl) with | [_,_,_,_],_=>BindsTo.of_defaults rfl (X _ _ YB) rfl rfl rfl
 have Zr:Meth K bN "put_pin" NL:=⟨agg,agh,YC⟩
 have Zs:=cX (st:=EJ) ago agp YE
 have ahI:=Zs.x6 (ps:=["self","name","one","other"])
 have ahJ:Meth K bN "put_bar" _:=⟨agm,agn,YE⟩
 have Zt:=cX (st:=EK) ags agt YG
 have ahK:=Zt.x6 (ps:=["self","name","one","other"])
 have ahL:Meth K bN "check_bar" _:=⟨agq,agr,YG⟩
 have Zu:=cX (st:=EL) agw agx YI
 have ahM:=Zu.x6 (ps:=["self","pin"])
 have ahN:Meth K bN "check_pin" _:=⟨agu,agv,YI⟩
 have Zv:=cX (st:=EM) agA agB YK
 have ahO:=Zv.x6 (ps:=["self","name"])
 have ahP:Meth K bN "take_bar" _:=⟨agy,agz,YK⟩
 have gK:=cX (st:=cb) lT lW gJ
 have lY:=gK.x6 (ps:=["self","name"])
 have lZ:Meth K bN "take_pin" _:=⟨lQ,lS,gJ⟩
 have Zw:=cX (st:=EN) agE agF YM
 have ahQ:=Zw.x6 (ps:=["self"])
 have ahR:Meth K bN "pins" _:=⟨agC,agD,YM⟩
 have Zx:=cX (st:=EO) agI agJ YO
 have ahS:=Zx.x6 (ps:=["self"])
 have ahT:Meth K bN "bars" _:=⟨agG,agH,YO⟩
 have Zy:=cX (st:=ER) agM agN YR
 have ahU:=Zy.x6 (ps:=["self","pin"])
 have ahV:Meth K bN "place" _:=⟨agK,agL,YR⟩
 have Zz:=cX (st:=ES) agQ agR YT
 have ahW:=Zz.x6 (ps:=["self","pin"])
 have ahX:Meth K bN "ways" _:=⟨agO,agP,YT⟩
 have ZA:=cX (st:=ET) agU agV YV
 have ahY:=ZA.x6 (ps:=["self","bar"])
 have ahZ:Meth K bN "ends" _:=⟨agS,agT,YV⟩
 have cls_cm:vf K mX:=⟨YW,YX,YY,YZ⟩
 have at3:SI K mX:=⟨Y0,Y2,Y1⟩
 have ah0:=cX (st:=MJ) agY agZ Y4
 have at4:=ah0.x6 (ps:=["self"])
 have at5:Meth K mX "ways" _:=⟨agW,agX,Y4⟩
 have yT:vf K i7:=⟨Y5,Y6,Y7,Y8⟩
 have FL:Mk K i7 _:=⟨Y9,Y',Za,Y_⟩
 have ZC:=cX (st:=EU) ag0 ag1 Zd
 have FN:=ZC.x6 (ps:=["self","x","y"])
 have at6:Meth K i7 "__init__" _:=⟨Y',Za,Zd⟩
 have ZD:=cX (st:=EV) ag4 ag5 Zf
 have ah1:=ZD.x6 (ps:=["self"])
 have ah2:Meth K i7 "ways" _:=⟨ag2,ag3,Zf⟩
 have Sx:vf K lO:=⟨Zg,Zh,Zi,Zj⟩
 have FK:SI K lO:=⟨Zk,Zm,Zl⟩
 have ZE:=cX (st:=EW) ag8 ag9 Zo
 have ah3:=ZE.x6 (ps:=["self"])
 have ah4:Meth K lO "ways" _:=⟨ag6,ag7,Zo⟩
 have QV:=mg_of X G afB
 have QX:=mg_of X G afC
 have Q_:mg "NOUGHT"=some (.ref Sn):=mg_of X G afD
 have Ra:mg "ONE"=some (.ref So):=mg_of X G afH
 have QY:mg "NO_MOVE"=some (.ref Sq):=mg_of X G afL
 have at7:mg "YardError"=some (.ref afU):=mg_of X G afT
 have at8:mg "NoWay"=some (.ref afW):=mg_of X G afV
 have at9:mg "PinThere"=some (.ref afY):=mg_of X G afX
 have aua:mg "SpotTaken"=some (.ref af0):=mg_of X G afZ
 have aub:mg "NoPin"=some (.ref af2):=mg_of X G af1
 have Ti:mg "PinBusy"=some (.ref GK):=mg_of X G GJ
 have auc:mg "BarThere"=some (.ref af4):=mg_of X G af3
 have aud:mg "NoBar"=some (.ref af6):=mg_of X G af5
 have aue:mg "NoLength"=some (.ref af8):=mg_of X G af7
 have auf:mg "TooMany"=some (.ref af'):=mg_of X G af9
 have RF:mg "Frame"=some (.ref bN):=mg_of X G aga
 have auh:mg "Hold"=some (.ref mX):=mg_of X G agb
 have FI:mg "Roller"=some (.ref i7):=mg_of X G agc
 have FJ:mg "Fixed"=some (.ref lO):=mg_of X G agd
 have NZ:mg "ValueError"=none:=mg_none_of X G uR
 have se:mg "abs"=none:=mg_none_of X G Yj
 have qc:mg "all"=none:=mg_none_of X G Yk
 have Kt:mg "any"=none:=mg_none_of X G Yl
 have lD:mg "bool"=none:=mg_none_of X G Sr
 have gk:mg "dict"=none:=mg_none_of X G Ss
 have cz:mg "enumerate"=none:=mg_none_of X G xc
 have je:mg "int"=none:=mg_none_of X G Ym
 have a9:mg "isinstance"=none:=mg_none_of X G uS
 have a8:mg "len"=none:=mg_none_of X G Yn
 have bQ:mg "list"=none:=mg_none_of X G Su
 have Kl:mg "min"=none:=mg_none_of X G Yo
 have bC:mg "range"=none:=mg_none_of X G NJ
 have Kg:mg "str"=none:=mg_none_of X G Yp
 have fE:mg "tuple"=none:=mg_none_of X G NK
 have jP:mg "zip"=none:=mg_none_of X G Yq
 have F:=cX (st:=jO) Ye Yf Yg
 refine ⟨fnOf "law" "law" (aA jO) (ay jO) (ag jO) .none Sh Si Sj Sk KU Sl,fun s v=>.of_eq rfl,fun base _ _=>?_⟩
 have hM:vt (a_ l.prog w):=a_.mM
 have hN:∀H:Hp,bT K H Sn [.int 0,.int 1]:=fun H=>.inr ⟨_,_,_,afE,rfl,rfl,(by show 2<=sizeLine;decide),.cons ⟨_,rfl⟩ (.cons ⟨_,rfl⟩ .nil)⟩
 have hO:∀H:Hp,bT K H So [.int 1,.int 1]:=fun H=>.inr ⟨_,_,_,afI,rfl,rfl,(by show 2<=sizeLine;decide),.cons ⟨_,rfl⟩ (.cons ⟨_,rfl⟩ .nil)⟩
 have nm:∀{c:Addr} {o:Ι} {k0 k1:Tok} {n:Nat} {sl:Κ},K.lookup c=some ⟨.type "tuple",o,.seq #[.int 0 k0,.int 1 k1] n,sl⟩->∀H:Hp,ig K H (.ref c) 0:=fun t H=>⟨_,rfl,by rw [d5];exact .inr ⟨_,_,_,t,rfl,rfl,(by show 2<=sizeLine;decide),.cons ⟨_,rfl⟩ (.cons ⟨_,rfl⟩ .nil)⟩⟩
 have hMo:∀H:Hp,ft K H (.ref Sq) (0,0):=fun H=>⟨_,.ref Yh,.ref Yi,rfl,.inr ⟨_,_,_,afM,rfl,rfl,(by show 2<=sizeLine;decide),.cons rfl (.cons rfl .nil)⟩,nm afN H,nm afQ H⟩
 have fc:CP K bN:=⟨eY,K1,Sv,Sw⟩
 have G1:=UR (P:=l.prog) (w:=w) (base:=base) (CX:=a_ l.prog w) ahb se
 have G2:=US ht aha G1
 have GW:=UU ahj G1
 have GDv:=UW ht ahn G1
 have GCl:=UX ht ahm jP G1 GDv
 have GF:=UZ (P:=l.prog) (w:=w) (base:=base) ahl cz
 have GR:=U1 ahk bC bQ GF GCl
 have GD:=QT (U7 hM ag' G2)
 have GPD:=U9 hM ahd GD
 have GI:=Vb (P:=l.prog) (w:=w) (mg:=mg) (base:=base) Zp fc
 have MBs:bI l.prog w K mg base (a_ l.prog w) 1 bN "bars" ["self"] (oY K bN):=⟨_,_,eY,ahT,Vd Zx fc bQ,ahS⟩
 have ZF:bI l.prog w K mg base (a_ l.prog w) 1 bN "pins" ["self"] (iG K bN):=⟨_,_,eY,ahR,Vf Zw fc bQ,ahQ⟩
 have MCp:bI l.prog w K mg base (a_ l.prog w) 1 bN "check_pin" ["self","pin"] (dX K bN):=⟨_,_,eY,ahN,Vh Zu fc,ahM⟩
 have MCb:bI l.prog w K mg base (a_ l.prog w) 2 bN "check_bar" ["self","name","one","other"] (gW K bN):=⟨_,_,eY,ahL,Vx Zt fc QX a8 MCp,ahK⟩
 have MPb:bI l.prog w K mg base (a_ l.prog w) 3 bN "put_bar" ["self","name","one","other"] (jR K bN):=⟨_,_,eY,ahJ,Vz Zs fc MCb,ahI⟩
 have okP:=Vv (P:=l.prog) (w:=w) (mg:=mg) (base:=base) ahG fc QV a8 bQ
 have OP:bI l.prog w K mg base (a_ l.prog w) 3 bN "put_pin" ["self","name","x","y","hold"] (cT l.prog w K mg base bN):=⟨_,_,eY,Zr,okP,ahH⟩
 have S_:tw l.prog w K mg base (a_ l.prog w) 3 bN "put_pin" ["self","name","x","y","hold"] [.none] (cT l.prog w K mg base bN):=⟨_,_,eY,Zr,okP,Zq⟩
 have MPl:bI l.prog w K mg base (a_ l.prog w) 2 bN "place" ["self","pin"] (nK K bN):=⟨_,_,eY,ahV,Vj Zy fc MCp,ahU⟩
 have ME:bI l.prog w K mg base (a_ l.prog w) 1 bN "ends" ["self","bar"] (tQ K bN):=⟨_,_,eY,ahZ,Vl ZA fc,ahY⟩
 have MW:bI l.prog w K mg base (a_ l.prog w) 2 bN "ways" ["self","pin"] (oZ K bN):=⟨_,_,eY,ahX,Vn Zz fc bQ MCp,ahW⟩
 have wR:bI l.prog w K mg base (a_ l.prog w) 1 i7 "ways" ["self"] (gT K i7):=⟨_,_,yT,ah2,Vr ZD yT Pk,ah1⟩
 have wF:bI l.prog w K mg base (a_ l.prog w) 1 lO "ways" ["self"] (gU K):=⟨_,_,Sx,ah4,Vt ZE,ah3⟩
 have GRI:=Vp (P:=l.prog) (w:=w) (mg:=mg) (base:=base) ZC yT Pk
 have GA:=VE ahc MPl GPD
 have GPR:=VF hMo QY ahe ZF
 have GBR:=VH ahf GA GPR
 have GDR:=VJ ahg ZF MW MBs ME GPR GBR
 have GMF:=VM ahi cz ZF
 have GC:=V2 (P:=l.prog) (w:=w) (base:=base) (CX:=a_ l.prog w) aho a8
 have Pl:=V4 (P:=l.prog) (w:=w) (base:=base) (CX:=a_ l.prog w) ahp
 have GLo:=V5 (w:=w) (base:=base) ht ahq se
 have GSu:=V7 (P:=l.prog) (w:=w) (base:=base) ahr
 have GTi:=V9 (P:=l.prog) (w:=w) (base:=base) ahs
 have GTu:=V' (P:=l.prog) (w:=w) (base:=base) aht
 have GNa:=Wa hM ahu Kg Pl
 have GSp:=Wc ahv Pl GLo
 have GWy:=Wd ahw Pl GLo
 have GPi:=Wg ahx bC Kl GC Pl GSp GWy GNa GSu
 have GBa:=Wj ahy bC a8 GC Pl GNa
 have GFr:=Wk ahz a8 RE RF GI RG FI FJ FK FL GRI FN (wR.mono (by decide)) (wF.mono (by decide)) MPb OP S_
 have MTk:bI l.prog w K mg base (a_ l.prog w) 2 bN "take_pin" ["self","name"] (gX K bN):=⟨_,_,eY,lZ,jS gK fc MCp,lY⟩
 have GAr:=Wr ahA GSu GTu
 have GAd:=Wt (P:=l.prog) (w:=w) (base:=base) ahB GSu
 have GFo:=Wu ahC a8 bC GTi GTu GAr GAd
 have GNu:=Wy ahD a8 a9 je lD fE GLo
 have GAF:=Wz ahE a9 gk bQ a8 qc GNu
 have GSL:=qO Q_ Ra uT G2
 have GSC:=lh mY bC GW GR GSL
 have GPa:=wG yR ZF
 have GMo:=qQ uU a8 GPa GDR GSC GMF
 have GPt:=qe rm a8 FI FJ FK FL GRI FN (wR.mono (by decide)) (wF.mono (by decide)) OP S_
 have GPo:=qg rn a8 bC Kt je Pl MTk
 have GPn:=qT uW Pl GWy GSu GPt
 have GPP:=VL ahh a8 gk jP ZF MW MBs
 have GUn:=ud (P:=l.prog) (w:=w) (base:=base) xf
 have GNC:=jZ lX a8 jP cz GW GUn GR G2
 have GSt:=wJ yS a8 GPa GDR GNC GPP
 have MTb:bI l.prog w K mg base (a_ l.prog w) 1 bN "take_bar" ["self","name"] (iU K bN):=⟨_,_,eY,ahP,VB Zv fc,ahO⟩
 have GOn:=yD GL a9 fE a8 bC GAF GFo
 have GRi:=WG ahF a9 gk fE je lD a8 bQ qc GOn
 have GPd:=qU (P:=l.prog) (w:=w) (base:=base) uV bC
 exact RU F bQ a8 GC Pl GPi GBa GFr GSt GMo GRi GPd MTb GPo GPn
end T_k44
open PySem PySem.W PyProof.Rows
set_option maxRecDepth 100000 in
set_option maxHeartbeats 0 in
theorem PySem.Challenge.cw_trussyard_k44_pairs_that_stay_holds : PySem.Challenge.rw_trussyard_k44_pairs_that_stay.Holds := by
 w_on;o_law;k_head;(case hw=>w_witness2)
 k_fill
 refine Ty.walk (l:=PySem.Challenge.rw_trussyard_k44_pairs_that_stay) (x:="_law_script") (k:=42) (CX:=fun w=>Ty.a_ (PySem.Challenge.rw_trussyard_k44_pairs_that_stay).prog w) rfl rfl (by first | rfl | decide+kernel) ⟨rfl,by decide,by decide⟩ (fun w h Y=>PySem.W.kIn_of Y) (fun w=>Ty.a_.mM) ?F
 case F=>
  intro w mg fa h KX G Uc
  refine' T_k44.all_mk KX G Uc ⟨?A0,?A1,?A2,?A3⟩ ⟨?A4,?A5,?A6,?A7⟩ ⟨?A8,?A9,?Aa,?Ab⟩ ⟨?Ac,?Ad,?Ae,?Af⟩ ⟨?Ag,?Ah,?Ai,?Aj⟩ ⟨?Ak,?Al,?Am,?An⟩ ⟨?Ao,?Ap,?Aq,?Ar⟩ ⟨?As,?At,?Au,?Av⟩ ⟨?Aw,?Ax,?Ay,?Az⟩ ⟨?B0,?B1,?B2,?B3⟩ ⟨?B4,?B5,?B6,?B7⟩ ⟨?B8,?B9,?Ba,?Bb⟩ ⟨?Bc,?Bd,?Be,?Bf⟩ ⟨?Bg,?Bh,?Bi,?Bj⟩ ⟨?Bk,?Bl,?Bm,?Bn⟩ ⟨?Bo,?Bp,?Bq,?Br⟩ ⟨?Bs,?Bt,?Bu,?Bv⟩ ⟨?Bw,?Bx,?By,?Bz⟩ ⟨?C0,?C1,?C2,?C3⟩ ⟨?C4,?C5,?C6,?C7⟩ ⟨?C8,?C9,?Ca,?Cb⟩ ⟨?Cc,?Cd,?Ce,?Cf⟩ ⟨?Cg,?Ch,?Ci,?Cj⟩ ⟨?Ck,?Cl,?Cm,?Cn⟩ ⟨?Co,?Cp,?Cq,?Cr⟩ ⟨?Cs,?Ct,?Cu,?Cv⟩ ⟨?Cw,?Cx,?Cy,?Cz⟩ ⟨?D0,?D1,?D2,?D3⟩ ⟨?D4,?D5,?D6,?D7⟩ ⟨?D8,?D9,?Da,?Db⟩ ⟨?Dc,?Dd,?De,?Df⟩ ⟨?Dg,?Dh,?Di,?Dj⟩ ⟨?Dk,?Dl,?Dm,?Dn⟩ ⟨?Do,?Dp,?Dq,?Dr⟩ ⟨?Ds,?Dt,?Du,?Dv⟩ ⟨?Dw,?Dx,?Dy,?Dz⟩ ⟨?E0,?E1,?E2,?E3⟩ ⟨?E4,?E5,?E6,?E7⟩ ⟨?E8,?E9,?Ea,?Eb⟩ ⟨?Ec,?Ed,?Ee,?Ef⟩ ⟨?Eg,?Eh,?Ei,?Ej⟩ ⟨?Ek,?El,?Em,?En⟩ ⟨?Eo,?Ep,?Eq,?Er⟩ ⟨?Es,?Et,?Eu,?Ev⟩ ⟨?Ew,?Ex,?Ey,?Ez⟩ ?F0 ?F1 ?F2 ?F3 ?F4 ?F5 ?F6 ?F7 ?F8 ?F9 ?Fa ?Fb ?Fc ?Fd ?Fe ?Ff ?Fg ?Fh ?Fi ?Fj ?Fk ?Fl ?Fm ?Fn ?Fo ?Fp ?Fq ?Fr ?Fs ?Ft ?Fu ?Fv ?Fw ?Fx ?Fy ?Fz ?G0 ?G1 ?G2 ?G3 ?G4 ?G5 ?G6 ?G7 ?G8 ?G9 ?Ga ?Gb ?Gc ?Gd ⟨?Ge,?Gf,?Gg,?Gh,?Gi⟩ ?Gj ?Gk ?Gl ?Gm ?Gn ?Go ⟨?Gp,?Gq,?Gr,?Gs,?Gt⟩ ⟨?Gu,?Gv,?Gw,?Gx,?Gy⟩ ⟨?Gz,?H0,?H1,?H2,?H3⟩ ⟨?H4,?H5,?H6,?H7,?H8⟩ ⟨?H9,?Ha,?Hb,?Hc,?Hd⟩ ⟨?He,?Hf,?Hg,?Hh,?Hi⟩ ⟨?Hj,?Hk,?Hl,?Hm,?Hn⟩ ⟨?Ho,?Hp,?Hq,?Hr,?Hs⟩ ⟨?Ht,?Hu,?Hv,?Hw,?Hx⟩ ⟨?Hy,?Hz,?I0,?I1,?I2⟩ ?I3 ?I4 ?I5 ?I6 ?I7 ?I8 ?I9 ⟨?Ia,?Ib,?Ic,?Id,?Ie⟩ ?If ?Ig ?Ih ?Ii ?Ij ?Ik ⟨?Il,?Im,?In,?Io,?Ip⟩ ⟨?Iq,?Ir,?Is,?It,?Iu⟩ ?Iv ?Iw ?Ix ?Iy ?Iz ?J0 ?J1 ⟨?J2,?J3,?J4,?J5,?J6⟩ ?J7 ?J8 ?J9 ?Ja ?Jb
  (case A0|A1|A2|A3|A4|A5|A6|A7|A8|A9|Aa|Ab|Ac|Ad|Ae|Af|Ag|Ah|Ai|Aj|Ak|Al|Am|An|Ao|Ap|Aq|Ar|As|At|Au|Av|Aw|Ax|Ay|Az|B0|B1|B2|B3|B4|B5|B6|B7|B8|B9|Ba|Bb|Bc|Bd|Be|Bf|Bg|Bh|Bi|Bj|Bk|Bl|Bm|Bn|Bo|Bp|Bq|Br|Bs|Bt|Bu|Bv|Bw|Bx|By|Bz|C0|C1|C2|C3|C4|C5|C6|C7|C8|C9|Ca|Cb|Cc|Cd|Ce|Cf|Cg|Ch|Ci|Cj|Ck|Cl|Cm|Cn|Co|Cp|Cq|Cr|Cs|Ct|Cu|Cv|Cw|Cx|Cy|Cz|D0|D1|D2|D3|D4|D5|D6|D7|D8|D9|Da|Db|Dc|Dd|De|Df|Dg|Dh|Di|Dj|Dk|Dl|Dm|Dn|Do|Dp|Dq|Dr|Ds|Dt|Du|Dv|Dw|Dx|Dy|Dz|E0|E1|E2|E3|E4|E5|E6|E7|E8|E9|Ea|Eb|Ec|Ed|Ee|Ef|Eg|Eh|Ei|Ej|Ek|El|Em|En|Eo|Ep|Eq|Er|Es|Et|Eu|Ev|Ew|Ex|Ey|Ez|F0|F1|F2|F3|F4|F5|F6|F7|F8|F9|Fa|Fb|Fc|Fd|Fe|Ff|Fg|Fh|Fi|Fj|Fk|Fl|Fm|Fn|Fo|Fp|Fq|Fr|Fs|Ft|Fu|Fv|Fw|Fx|Fy|Fz|G0|G1|G2|G3|G4|G5|G6|G7|G8|G9|Ga|Gb|Gc|Gd|Ge|Gf|Gg|Gh|Gi|Gj|Gk|Gl|Gm|Gn|Go|Gp|Gq|Gr|Gs|Gt|Gu|Gv|Gw|Gx|Gy|Gz|H0|H1|H2|H3|H4|H5|H6|H7|H8|H9|Ha|Hb|Hc|Hd|He|Hf|Hg|Hh|Hi|Hj|Hk|Hl|Hm|Hn|Ho|Hp|Hq|Hr|Hs|Ht|Hu|Hv|Hw|Hx|Hy|Hz|I0|I1|I2|I3|I4|I5|I6|I7|I8|I9|Ia|Ib|Ic|Id|Ie|If|Ig|Ih|Ii|Ij|Ik|Il|Im|In|Io|Ip|Iq|Ir|Is|It|Iu|Iv|Iw|Ix|Iy|Iz|J0|J1|J2|J3|J4|J5|J6|J7|J8|J9|Ja=>k_is);(case Jb=>rfl)
#print axioms PySem.Challenge.cw_trussyard_k44_pairs_that_stay_holds
