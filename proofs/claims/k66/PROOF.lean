import PyProof.Rows.All
import Wide.All
import OpenK.AllK
import Wide.FinOn
import Lean
import PyProof.EqAt
import PyProof.EqKinds
import PyProof.TupleCall
import PyProof.ZipIter
import PyProof.SumWalkG
import PyProof.ListCopy
import PyProof.ListStr
import PyProof.DictItems
import PyProof.DictWalks
import PyProof.DictTruth
import PyProof.EnumMake
import PyProof.InstStoreFacts
import PyProof.Rows.SortWalk
import PyProof.ListRange
import PyProof.DictValues
import KE.KRevSl
import KE.KDictOf
import PyProof.DictIter
import PyProof.FactsAll.dict_1
import PyProof.AttrMissHeap
import KE.KEqDict
import KE.KDictList
import KE.KItemsList
import PyProof.Rows.Range3
import PySem.Challenge.RW_trussyard_k66_whole_firmer_frames
set_option Elab.async false
set_option linter.all false
set_option maxRecDepth 100000
set_option compiler.extract_closed false
theorem gE.{u}{α:Type u}{l:List α}(h:i < l.length):l[i]? =some l[i]:=List.getElem?_eq_getElem h
noncomputable section
namespace PySem.W.Fast
def tw7569778890835771719:=()
def tw2862575889313064268:=()
def tw1122953591789202792:=()
def tw18009391153287736372:=()
def tw15686825735875739360:=()
def tw14270903999550622825:=()
def tw4551391799636079348:=()
def tw2303289080790529856:=()
def tw4436131739715885075:=()
def tw8152539729687537414:=()
def tw9885985680159705705:=()
def tw5591099395752347589:=()
def tw14136786654701106439:=()
def tw4572413131004048218:=()
def tw18085498306181572595:=()
def tw14962096824394502069:=()
def tw10749160902115373570:=()
def tw6852332596445959452:=()
def tw9112692278229939052:=()
def tw10305554430117457780:=()
def tw5187307300653351399:=()
def tw2952066448916565445:=()
def tw7145785456785780873:=()
def tw17322793988808025035:=()
def tw7970777084426805124:=()
def tw3649456697324596561:=()
def tw16189219440962513439:=()
def tw9610258185104791099:=()
def tw10863650452962498165:=()
def tw6692941750435500570:=()
def tw4229631239835419530:=()
def tw14039854075734148279:=()
def tw4941302100280383116:=()
def tw16620418666172517657:=()
def tw6589209000525129860:=()
def tw7527014804472415559:=()
def tw1302682207060725115:=()
def tw808297109651282626:=()
def tw9227332978262264151:=()
def tw9165217268652142796:=()
def tw8785049278832946647:=()
def tw4953622329038414914:=()
def tw17571270806004866055:=()
def tw7677507283608588621:=()
def tw11565302455089731047:=()
def tw10266050692243701361:=()
def tw7977778129229462050:=()
def tw13084683164818681126:=()
def tw12972878206249767930:=()
def tw7837733257735361958:=()
def tw17450108360471776954:=()
def tw2537516951721667539:=()
def tw15671484742746813292:=()
def tw12439528460680385726:=()
def tw10088286648325389786:=()
def tw17146838676819828623:=()
def tw1958500637664504767:=()
def tw15101812600793218469:=()
def tw6043209094393547864:=()
def tw10865953385874800973:=()
def tw12485039094320622144:=()
def tw15646772382133739384:=()
def tw12127382178557106187:=()
def tw3961133443974852027:=()
def tw7504964837529572182:=()
def tw1203206477969135656:=()
def tw9127443673691815813:=()
def tw13773733108936239616:=()
def tw14096040491835104762:=()
def tw12647185697091684971:=()
def tw2064186676345435276:=()
def tw8685381054845306527:=()
def tw6796483883786394710:=()
def tw10438577791635234688:=()
def tw3132269033719911583:=()
def tw3537048430847769431:=()
def tw1790225325862120908:=()
def tw279829015521803179:=()
def tw866401418338377914:=()
def tw2411843214062313317:=()
def tw15886189501771055063:=()
def tw13064391273041597378:=()
def tw5495244544591346898:=()
def tw4694848331422208177:=()
def tw12307074040121844697:=()
def tw1762198514187237848:=()
def tw17187617794680055238:=()
def tw141184245648390602:=()
def tw17924414263932943237:=()
def tw17558105044261971812:=()
def tw5765862225132391994:=()
def tw9271132831735155740:=()
def tw14486432205981840587:=()
def tw6655434955911374958:=()
def tw15630698843822313658:=()
def tw7553833447621175790:=()
def tw5383322139498230121:=()
def tw9934006660824340542:=()
def tw337256298541021671:=()
def tw5482259352001690693:=()
def tw16023144804972510603:=()
def tw2651063409578158452:=()
def tw15763460258975963354:=()
def tw14546507536119070038:=()
def tw13880742458723817984:=()
def tw10912083416773861794:=()
def tw10402116158565958850:=()
def tw10668632079296676615:=()
def tw4717809402712475493:=()
def tw5134899490338041562:=()
def tw6826141704927288212:=()
def tw14149191497920328494:=()
def tw5512708970172064477:=()
def tw10062475232499100899:=()
def tw15326053948594854842:=()
def tw654067057425850952:=()
def tw6115663430239372951:=()
def tw67449492705473330:=()
def tw16647278028883751701:=()
def tw5791873053939573655:=()
def tw7960923378686487427:=()
def tw17392619099820031070:=()
def tw560522800510342269:=()
def tw9057282349117820176:=()
def tw7442227995300411613:=()
def tw1383067934258289695:=()
def tw344251373026320549:=()
def tw14867849463927275025:=()
def tw4186267758201383033:=()
def tw10147644958293970898:=()
def tw7437040887212919989:=()
def tw8154031967006355352:=()
def tw3891529790642003659:=()
def tw392242221437407173:=()
def tw6772768155973167818:=()
def tw15087265751278974107:=()
def tw1515397700526015568:=()
def tw12498630564432929755:=()
def tw3426865508654344983:=()
def tw7589309050898047992:=()
def tw10194218721193447357:=()
def tw663185457784773888:=()
def tw13811180622257255869:=()
def tw9541114531198438962:=()
def tw15862934127246692630:=()
def tw4696681104846841128:=()
def tw12567532971880660109:=()
def tw466855528801556808:=()
def tw11379679486832524766:=()
def tw12962376981466526131:=()
def tw16616325633465385558:=()
def tw575979517151421469:=()
def tw14708317734867415778:=()
def tw1635408545677145797:=()
def tw13451420815769902179:=()
def tw15817117940916678907:=()
def tw8079625619448386028:=()
def tw3422710148353801874:=()
def tw3359681761685070534:=()
def tw14327300332267920504:=()
def tw16329186389821152816:=()
def tw10357603537897570250:=()
def tw14856190319803724625:=()
def tw1531600294428996291:=()
def tw5525542834461645932:=()
def tw4341956313051735917:=()
def tw13644269243847138988:=()
def tw16187533217282735019:=()
def tw1337699064164558677:=()
def tw5248316170150151387:=()
def tw7941806222866223950:=()
def tw2420317879389790114:=()
def tw14452791677837103495:=()
def tw3859332742201106924:=()
def tw10528415531185458113:=()
def tw9935406378483642858:=()
def tw14658488115298422243:=()
def tw6214958700033331630:=()
def tw8204962686474342158:=()
def tw2810024233811801191:=()
def tw11092327546699753109:=()
def tw17108254925551510717:=()
def tw11246047888645802314:=()
def tw13792618122319964601:=()
def tw14113809205808216270:=()
def tw8775432908128236541:=()
def tw4111941519014257637:=()
def tw10034397242587623342:=()
def tw10238337250260626877:=()
def tw10973176685083494514:=()
def tw10037332199407173487:=()
def tw13787214155382993312:=()
def tw3272888792292936642:=()
def tw9353576016526688015:=()
def tw3701336621613686231:=()
def tw8900040576172126916:=()
def tw7884163082866376342:=()
def tw119844634429437199:=()
def tw2289772598478403102:=()
def tw1867585119884283651:=()
def tw3291862670274224491:=()
def tw9055198435415214400:=()
def tw16727215802788381213:=()
def tw7543232873678915914:=()
def tw4032086501281218056:=()
def tw17350613248739917405:=()
def tw12570055786649965179:=()
def tw13484737447447256061:=()
def tw4773570403396889399:=()
def tw1104765045953179450:=()
def tw12686605988787112341:=()
def tw4101782046331086330:=()
def tw16872824463899799048:=()
def tw5503781346439398620:=()
def tw5953333554554367523:=()
def tw5822905514741960310:=()
def tw2579408705787459650:=()
def tw7460619390046278437:=()
def tw8211229157566627002:=()
def tw8587980966829806294:=()
def tw18387322972902446191:=()
def tw6658292060235030686:=()
def tw8545395346705732503:=()
def tw15561519487335377771:=()
def tw283323036682936335:=()
def tw3955453379445336775:=()
def tw7925529738638250690:=()
def tw8207232369282470056:=()
def tw12761139217929842033:=()
def tw2110245505065591020:=()
def tw2255607117851732364:=()
def tw5384754717918323293:=()
def tw18044545335959312055:=()
def tw6909209827466737352:=()
def tw17382526973093774601:=()
def tw10173757798166644455:=()
def tw17728312492390146594:=()
def tw3527088459394483011:=()
def tw15515722148882859915:=()
def tw7789829413880711121:=()
def tw12934607323629966124:=()
def tw17735128743050594140:=()
def tw17876778230885019639:=()
def tw12864724375427350537:=()
def tw14551746999823691753:=()
def tw13467533423414410216:=()
def tw8291784166121003634:=()
def tw6231383047431423618:=()
def tw6249104322665406062:=()
def tw3137698859680170142:=()
def tw4719689209848113870:=()
def tw10462613738626521295:=()
def tw14254871357531748367:=()
def tw5838105675653888405:=()
def tw7249484697923037249:=()
def tw13827477093373863216:=()
def tw710927289476745578:=()
def tw9474237282621677778:=()
def tw17314285704537432588:=()
def tw3454596682895265500:=()
def tw10622217474150231901:=()
def tw16539805012977768823:=()
def tw10126125744423960386:=()
def tw2183505708698459482:=()
def tw11151313586240448052:=()
def tw8621470860789765846:=()
def tw4746457396679416935:=()
def tw17527699162420593750:=()
def tw16014291753316621681:=()
def tw15187812196942970258:=()
def tw17169637980665374282:=()
def tw5884923355008264083:=()
def tw7396263089098922668:=()
def tw1358760666838142874:=()
def tw948621002477390725:=()
def tw10370649524180405872:=()
def tw17913312688281188416:=()
def tw5174547357319555091:=()
def tw8143375760903671874:=()
def tw6183503152824104208:=()
def tw17813081692572324868:=()
def tw2113254664186154377:=()
def tw15663476758221604382:=()
def tw15349647280311181344:=()
def tw7994813176462585384:=()
def tw17815430362991910915:=()
def tw12283314019723708617:=()
def tw12500337451016192221:=()
def tw8811585223592996639:=()
def tw13805962365388290409:=()
def tw16429091598050684173:=()
def tw13844642379182330802:=()
def tw18105545072395797612:=()
def tw11354965297952259148:=()
def tw12847855667720348732:=()
def tw8898970628273526427:=()
def tw18000206136931359529:=()
def tw6347323469786489132:=()
def tw6474944017251598078:=()
def tw4303965565274201142:=()
def tw3316932480437896856:=()
def tw16737340229914040788:=()
def tw15754759358014758901:=()
def tw8973598936431669515:=()
def tw6499537506411371158:=()
def tw10388463980788710196:=()
def tw6090742780422091445:=()
def tw7702051838412199998:=()
def tw11407929539530754165:=()
def tw11740756429985332169:=()
end PySem.W.Fast
open Array renaming getElem?_eq_getElem->agk, length_toList->ah_, toList->aou
open Bool renaming false_ne_true->aem, false_eq_true->afi, and_eq_true->aft, eq_iff_iff->afQ, eq_false_iff->agA, and_false->ag4, and_true->aic, or_false->aop
open Classical renaming byContradiction->aeV, propDecidable->ae4, not_imp->ahc, not_forall->ahZ
open Int renaming ne_of_gt->aeH, zero_add->aeO, gcd->aeS, natAbs_mul->afc, gcd_dvd_right->afk, mul_comm->afl, mul_pos->afm, gcd_dvd_left->afw, fmod_nonneg_of_pos->afI, natAbs_dvd_natAbs->af2, fdiv_eq_of_eq_mul_right->af', natAbs_add_le->agd, toNat_natCast->agr, lt_trichotomy->agu, mul_zero->agv, emod_eq_of_lt->agF, mul_assoc->agM, fmod_lt_of_pos->ag2, fmod_eq_emod_of_nonneg->ag8, mul_neg_of_pos_of_neg->ag9, mul_eq_zero->ahL, natAbs_neg->ahT, le_refl->ah0, gcd_zero_right->aik, sub_emod_right->aiq, fmod_def->air, gcd_mul_left->anS, gcd_pos_iff->an6, mul_ne_zero->an7, dvd_coe_gcd->aob
open List renaming length_map->ir, getElem?_eq_some_iff->Wp, getElem?_map->aaa, mem_of_getElem?->aaq, mem_map->aar, map_cons->aaw, mem_cons_of_mem->aax, getElem?_eq_none->aaz, mem_cons_self->aa_, length_append->aba, mem_singleton->abg, getElem?_of_mem->abh, getD_eq_getElem?_getD->abi, mem_append->abj, map_congr_left->abk, map_append->abq, length_take->abv, getElem?_append_right->abx, getElem?_append_left->aby, map_map->ab_, replicate->ac_, sum_cons->ad_, flatMap_cons->aeo, size_toArray->aeq, mem_cons->aes, mem_append_right->aeu, range->aev, mem_append_left->aex, length_cons->aey, map_nil->aez, take_length->aeA, nodup_cons->aeC, take_of_length_le->aeE, length_replicate->aeG, getElem?_replicate->aeI, length_range->aeJ, ext_getElem?->aeK, getElem?_take_of_lt->aeM, take_add_one->aeQ, mem_iff_getElem->aeR, getElem_mem->aeT, zipWith->aeU, getElem?_range->aeW, getElem?_set->aeX, mem_range->aeZ, sum_nil->ae3, mem_flatMap->ae5, getElem?_inj->ae7, flatMap_append->ae9, append_nil->ae_, filter_cons->afa, length->afb, length_eq_zero_iff->afd, replicate_succ->aff, lookup->afh, getElem?_zipWith->afj, length_eraseIdx->afn, nodup_append->afo, mem_of_mem_eraseIdx->afp, length_drop->afr, getElem?_eraseIdx->afL, find?_cons->af0, length_singleton->af1, length_filter_le->af5, take_append_drop->af8, append_assoc->af_, mem_of_mem_take->agf, cons_append->agg, any_eq_true->agh, getElem?_zip_eq_some->agl, filterMap_cons->agm, any_cons->agn, sum_append->ago, flatten_cons->ags, getElem_take->agz, length_eq_one_iff->agG, all_cons->agL, mem_filter->agQ, forIn_cons->agR, mem_filterMap->ag1, lookup_append->ag6, forIn_nil->ag7, pairwise_map->ahb, filter_cons_of_pos->aho, filter_cons_of_neg->ahp, length_eraseIdx_le->ahq, getElem?_set_self->ahr, range_succ_eq_map->ahw, zipWith_cons_cons->ahC, getElem_cons_drop->ahD, of_mem_zip->ahG, nil_append->ahH, length_nil->ahI, range_succ->ahM, eq_nil_or_concat->ahN, concat_eq_append->ahQ, getElem?_set_ne->ahR, nodup_nil->ahW, sum->ah6, take_succ_cons->aib, forIn_toArray->aih, filter_append->aij, getElem?_drop->aio, mem_replicate->aip, all_map->ais, getElem_inj->al_, lookup_cons->anT, nodup_range->anU, zipIdx_cons->anV, cons_ne_nil->anW, flatMap_nil->anX, length_set->an5, length_zip->an8, zipIdx_nil->aoa, foldl->aoe, Nodup->aog, take_zero->aoh
open List.Pairwise renaming imp_of_mem->ahi, map->ai_
open Nat renaming le_trans->aay, le_refl->aaA, lt_of_le_of_lt->aaZ, lt_of_lt_of_le->aep, mul_le_mul_right->aer, pow_le_pow_right->aet, ne_of_lt->aew, zero_le->aeF, lt_succ_self->aeP, lt_irrefl->aeY, lt_succ_iff_lt_or_eq->ae0, le_of_lt->ae1, mul_le_mul->ae6, add_mul->ae', not_lt_zero->afe, add_sub_cancel_left->afy, ne_of_gt->afz, lt_succ_of_lt->age, one_le_two_pow->agq, pow_succ->agw, zero_mul->agK, pow_add->agN, pow_lt_pow_right->agO, min_eq_left->agT, pow_le_pow_left->agZ, mul_comm->ag0, le_of_not_lt->ahj, le_of_eq->aht, add_comm->ahu, min_self->ahx, lt_trans->ahy, one_mul->ahX, le_succ_of_le->aiv, log2_le_self->anY, succ_le_succ->anZ, le_succ->an1, two_pow_pos->an_
open Ne renaming symm->aeD
open Option renaming map_eq_some_iff->aaB, map_some->afV, isSome_map->ag', isSome_iff_exists->ahg, getD_none->am_, none->aoG
open Option.some renaming inj->aen
open Or renaming inl->ahh, inr->anR
open Prod renaming ext->ahU, fst->aoJ, snd->aoK
open Rat renaming intCast_lt_intCast->aeL, intCast_mul->ae2, mul_nonneg->ae8, intCast_le_intCast->afg, le_of_lt->agE, intCast_inj->agS, mul_eq_zero->agX, le_refl->ahd, div_def->ahe, inv_pos->ahf, lt_irrefl->aid, num_divInt_den->aif, divInt_eq_div->ait, add_zero->aix, mul_pos->an4, intCast_add->an9, intCast_sub->an'
open Std.Legacy.Range renaming forIn_eq_forIn_range'->ahV, size->aoB
open Sum renaming inr->aeB, inl->ag_
open Sum.inl renaming inj->an0
open Sum.inr renaming inj->aeN
open PySem.W (Frag nsIn codeIn keepIn fnOf mg_of mg_none_of)
open PySem renaming wpAny_bind->abz, Addr->abA, sizeLine->abE, wpAny_pure->abF, wpAny->abG, Shared->abH, model->abK, mainGlobals->abO, starEach->abP, Program->abQ, Around->abV, eval->abW, bootBuiltins->abZ, wpAny_mono->ab4, sysModules->ab7, compareOp->aca, IsPair->acd, wpAny_holding->ace, wpAny_field->aci, foldedSetIterable->acj, backTo->ack, rawInt->acm, wpAny_call_entry->acp, wpAny_seqItems->acq, intBits_mul_le->acr, wpAny_typeNameOfWhole_valiter->acy, binaryOp->acz, codeAny->acA, cLine->acB, wpAny_Call_Name_kw->acE, wpAny_setField_rec->acG, wpAny_passesOwn->acH, wpAny_truthy_bool->acJ, wpAny_newObj_type->acK, wpAny_dictEntries->acM, wpAny_typeNameOf_valiter->acO, mem_of_lookup->acP, wpAny_getItem_str_slice->acQ, attributeBase->acR, pyNext->acS, IsZip->adk, tupleKind_room_in1->adm, wpAny_nextOf_list_item->ado, wpAny_isOneOf_valiter->adt, swapsWith->adv, assignEach->adx, wpAny_pyIter_zip->adz, behindInMarks->adB, sliceBounds->adK, wpAny_pyIter_list->aie, keywordEach->aiA, plainId_quiet->aiD, wpAny_isInstance->aiE, wpAny_execs_nil->aiH, letOwnedTupleGo->aiI, post_val_or_str->aiL, call_meetsIn->aiM, wpAny_updateSeq->aiN, wpAny_dictEpoch->aiP, recursionLimit->aiR, wpAny_fieldsOf->aiT
open PySem.Heap renaming get?_push_of_some->abD, lt_size->abJ, get?_push_size->abN, get?_update_other->ab6, size_push->acf, SameBut->acn, get?_update_self->acI
open PySem.PassesOwn renaming never->abI
open PySem.Paired renaming length->abL, snoc->aiB
open PySem.W renaming findIn->abT, emptyDict->ab0, instObj->ab3, kitOne->ab5, kia_one->acb, plainGet->aco, makesIn->acs, hasDictIn->acx, plainOver->acL, callWith_K->adU, isFn->aiJ, lookIn->aiQ
open PySem.Builtin.SmallTypes renaming ownedTupleIsFree->abX, nextOf->abY
open PySem.Str renaming ofString->ab2
open PyProof.Rows renaming callWith_type1->ab8, envOfC->adg, kindOf->adq, AllBare->adW
open PySem.F renaming plainAttrs_list->ab9, slot_list_append->acg, type_list_append->ach, slot_zip_next->acv, slot_dict_valueiterator_next->acw, args_zip_next_1->aiz, entry_zip_next->aiF
open PySem.Builtin.List renaming listTooLong->acu, listExtendWith->acF
open PySem.Calls renaming callWith_builtin->acC, spliced_cons->acD, spliced_nil->aiw
open PySem.Obj renaming mapSeq->acN
open PySem.SeqAt renaming EqAt->ad5
theorem abB.{u}{c:Prop}[Decidable c](a:¬c){α:Sort u}{t e:α}:ite c t e=e:=if_neg a
theorem abC.{u}{c:Prop}[Decidable c](a:c){α:Sort u}{t e:α}:ite c t e=t:=if_pos a
theorem abM{a b:Prop}(h:a)(n:¬a):b:=absurd h n
theorem abR.{u,v}{α:Sort u}{β:Sort v}{a b:α}(f:α->β)(h:a=b):f a=f b:=congrArg f h
theorem abS{p:Prop}[Decidable p](h:decide p=true):p:=of_decide_eq_true h
theorem abU{p:Prop}[Decidable p](h:p):decide p=true:=decide_eq_true h
theorem ab1{p:Prop}[Decidable p](h:¬p):decide p=false:=decide_eq_false h
namespace L2
open PySem PySem.Spec PyProof.Rows
abbrev _root_.δ:=Value->abH->Prop
abbrev _root_.ε:=List (abA×Obj)
abbrev _root_.η:=List (List Int)
abbrev _root_.θ:=Str->Option (Rat×Rat)
abbrev _root_.ν:=Str->Option Value
abbrev _root_.ξ:=List Int
abbrev _root_.ο:=List (Int×Int)
abbrev _root_.π:=List (Nat×List Int)
abbrev _root_.ρ:=List Value
abbrev _root_.τ:=Str->Option Rat
abbrev _root_.υ:=Str->List Rat
abbrev _root_.χ:=Str->Rat×Rat
abbrev _root_.ψ:=List Str
abbrev _root_.ω:=List abA
abbrev _root_.Β:=Str->Rat
abbrev _root_.Δ:=List (Str×Str×Str)
abbrev _root_.Ε:=List (List (Int×Int))
abbrev _root_.Ζ:=List Expr
abbrev _root_.Θ:=List (Rat×Rat)
abbrev _root_.Ι:=List Rat
abbrev _root_.Λ:=Option abA
abbrev _root_.Μ:=Array Value
abbrev _root_.Ν:=Array (Option Value)
abbrev _root_.Ξ:=Option Value->abH->Prop
abbrev _root_.Ρ:=List (Str×List (Rat×Rat))
abbrev _root_.Τ:=Str->Option (Int×Int)
abbrev _root_.Υ:=Result->abH->Prop
abbrev _root_.Χ:=List (Str×Value)
abbrev Key:=Sum Int Str
abbrev _root_.Φ:=List (List Key×abA×Value)
def ug:Key->Value->Bool
 | .inl k,v=>Value.isInt k v
 | .inr x,v=>Value.isStrOf x v
def afq (w:World):Key->Int
 | .inl k=>hashInt k
 | .inr x=>hashStr w x
def cz:∀{k:Key} {v:Value},ug k v=true->(∃i t,k=ag_ i/\v=Value.int i t)\/(∃x t,k=aeB x/\v=Value.str x t)
 | .inl i,v,h=>by
  obtain ⟨t,e⟩:=Value.isInt_shape (k:=i) (v:=v) h;exact .inl ⟨i,t,rfl,e⟩
 | .inr x,v,h=>by
  obtain ⟨t,e⟩:=Value.isStrOf_shape (x:=x) (v:=v) h;exact .inr ⟨x,t,rfl,e⟩
def GV (i:Int)(t:Tok):ug (.inl i) (.int i t)=true:=by simp [ug,Value.isInt]
def GX (x:Str)(t:Tok):ug (.inr x) (.str x t)=true:=by simp [ug,Value.isStrOf]
def Uq (a b:Int):decide ((ag_ a:Key)=ag_ b)=(a==b):=by
 by_cases e:a=b
 ·subst e;simp
 ·have h:¬ (ag_ a:Key)=ag_ b:=fun q=>e (an0 q)
  rw [ab1 h];exact (beq_eq_false_iff_ne.mpr e).symm
def Ur (a b:Str):decide ((aeB a:Key)=aeB b)=decide (a=b):=by
 by_cases e:a=b
 ·subst e;simp
 ·have h:¬ (aeB a:Key)=aeB b:=fun q=>e (aeN q)
  rw [ab1 h,ab1 e]
def Us (a:Int)(b:Str):decide ((ag_ a:Key)=aeB b)=false:=ab1 (fun q=>nomatch q)
def Ut (a:Str)(b:Int):decide ((aeB a:Key)=ag_ b)=false:=ab1 (fun q=>nomatch q)
def bF (prog:abQ)(w:World):PySem.KeyKind prog w Key where
 is:=ug
 hash:=afq w
 inj:=fun v a b ha hb=>by
  rcases cz ha with ⟨i,t,rfl,rfl⟩|⟨x,t,rfl,rfl⟩
  ·rcases cz hb with ⟨j,u,rfl,e⟩|⟨y,u,rfl,e⟩
   ·injection e with e1 _;rw [e1]
   ·exact nomatch e
  ·rcases cz hb with ⟨j,u,rfl,e⟩|⟨y,u,rfl,e⟩
   ·exact nomatch e
   ·injection e with e1 _;rw [e1]
 byValue:=fun k v h=>by
  rcases cz h with ⟨i,t,rfl,rfl⟩|⟨x,t,rfl,rfl⟩<;>rfl
 pyHash:=fun hv h=>by
  rcases cz hv with ⟨i,t,rfl,rfl⟩|⟨x,t,rfl,rfl⟩
  ·exact wpAny_pyHash_int h
  ·exact wpAny_pyHash_str h
 eqBool:=fun hu hv h=>by
  rcases cz hu with ⟨i,t,rfl,rfl⟩|⟨x,t,rfl,rfl⟩
  ·rcases cz hv with ⟨j,u,rfl,rfl⟩|⟨y,u,rfl,rfl⟩
   ·rw [Uq] at h;exact wpAny_eqBool_int h
   ·rw [Us] at h;exact SeqAt.EqAt.int_str i t y u _ _ _ _ h
  ·rcases cz hv with ⟨j,u,rfl,rfl⟩|⟨y,u,rfl,rfl⟩
   ·rw [Ut] at h;exact SeqAt.EqAt.str_int x t j u _ _ _ _ h
   ·rw [Ur] at h;exact wpAny_eqBool_str h
 «strs»:=fun k x t v h=>by
  rcases cz h with ⟨i,u,rfl,e⟩|⟨y,u,rfl,e⟩
  ·exact nomatch e
  ·injection e with e1 _
   subst e1;cases v<;>rfl
def xC (prog:abQ)(w:World)(i:Int)(t:Tok):(bF prog w).is (.inl i) (.int i t)=true:=GV i t
def xD (prog:abQ)(w:World)(x:Str)(t:Tok):(bF prog w).is (.inr x) (.str x t)=true:=GX x t
inductive V where
 | cT|bl (b:Bool)|int (i:Int)|str (x:Str)|byt (b:Array UInt8)|Uu (b:UInt64)|ref (a:abA)|ty (n:String)
 deriving DecidableEq
abbrev _root_.γ:=List (Key×V)
abbrev _root_.ζ:=List V
abbrev _root_.Α:=Option V
abbrev _root_.Η:=List (List V)
abbrev _root_.Ο:=List (List Key×V)
def RelV:V->Value->Prop
 | .cT,u=>u=Value.none
 | .bl b,u=>u=Value.bool b
 | .int i,u=>∃t,u=Value.int i t
 | .str x,u=>∃t,u=Value.str x t
 | .byt b,u=>∃t,u=Value.bytes b t
 | .Uu b,u=>∃t,u=Value.float b t
 | .ref a,u=>u=Value.ref a
 | .ty n,u=>u=Value.type n
abbrev Vals:List V->List Value->Prop:=Paired RelV
def Vals.length {xs:ζ}{us:ρ}(r:Vals xs us):xs.length=us.length:=abL r
theorem Vals.get:∀{xs:ζ} {us:ρ} {i:Nat} {x:V},Vals xs us->xs[i]?=some x->∃u,us[i]?=some u/\RelV x u
 | _,_,_,_,.nil,e=>by simp at e
 | _,_,0,_,.cons r _,e=>by simp at e;subst e;exact ⟨_,rfl,r⟩
 | _,_,i+1,x,.cons _ t,e=>by
  obtain ⟨u,h1,h2⟩:=Vals.get (i:=i) (x:=x) t (by simpa using e);exact ⟨u,by simpa using h1,h2⟩
theorem Vals.set (r:RelV x u):∀{xs:ζ} {us:ρ} (i:Nat),Vals xs us->Vals (xs.set i x) (us.set i u)
 | _,_,_,.nil=>.nil
 | _,_,0,.cons _ t=>.cons r t
 | _,_,i+1,.cons q t=>.cons q (Vals.set r i t)
theorem Vals.append:∀{xs ys:ζ} {us ws:ρ},Vals xs us->Vals ys ws->Vals (xs++ys) (us++ws)
 | _,_,_,_,.nil,s=>s
 | _,_,_,_,.cons r t,s=>.cons r (Vals.append t s)
theorem Vals.take:∀{xs:ζ} {us:ρ} (n:Nat),Vals xs us->Vals (xs.take n) (us.take n)
 | _,_,0,_=>.nil
 | _,_,_+1,.nil=>.nil
 | _,_,n+1,.cons r t=>.cons r (Vals.take n t)
theorem Vals.drop:∀{xs:ζ} {us:ρ} (n:Nat),Vals xs us->Vals (xs.drop n) (us.drop n)
 | _,_,0,r=>r
 | _,_,_+1,.nil=>.nil
 | _,_,n+1,.cons _ t=>Vals.drop n t
def i5:Option V->Option Value->Prop
 | some v,some u=>RelV v u
 | none,none=>True
 | _,_=>False
def KV {κ:Type}:List (κ×V)->List (κ×Value)->Prop:=Paired fun (p:κ×V) (q:κ×Value)=>p.1=q.1/\RelV p.2 q.2
def kV:Key->V
 | .inl i=>.int i
 | .inr x=>.str x
inductive HO where
 | lst (xs:ζ)
 | tup (xs:ζ)
 | dK (kvs:γ)|dT (kvs:Ο)
 | set (S:Int->Bool) (n:Nat)
 | ins (C dx:abA) (fs:List (Str×V))
 | own (x:abA)
 | xd (fs:List (Str×V))
 | met (f x:abA)
 | rng (lo hi:Int)
 | fB (o:Obj) (u:HO)
 | Uv (ps:Μ)
 | ext (φ:Heap->Prop)
abbrev Hp:=abA->Option HO
def upd (H:Hp)(a:abA)(o:HO):Hp:=fun b=>if b=a then some o else H b
def ah :upd H a o a=some o:=by unfold upd;rw [abC rfl]
def aj (h:b≠a):upd H a o b=H b:=by unfold upd;rw [abB h]
def XI {H:Hp}(h:H a=some o)(h':H b=some u)(d:o≠u):a≠b:=by
 intro e;subst e;rw [h] at h';exact d (aen h')
def ak {H:Hp}(h:H a=some o)(h':H b=none):a≠b:=by
 intro e;subst e;rw [h] at h';cases h'
section
variable (P:abQ)(w:World)
noncomputable def cZ (H:Hp)(h:Heap)(a:abA):HO->Prop
 | .lst xs=>xs.length<=abE/\∃(its:ρ)(n:Nat),Vals xs its/\h.get? a=some {cls:=.type "list",data:=.seq its.toArray n}
 | .tup xs=>xs.length<=abE/\∃its:List Value,Vals xs its/\IsTup h a its.toArray
 | .dK kvs=>kvs.length<=abE/\(a==ab7)=false/\∃vs,KV kvs vs/\h.DictOf (bF P w) a vs
 | .dT kvs=>kvs.length<=abE/\(a==ab7)=false/\∃xs:List (List Key×abA×Value),
   Paired (fun (p:List Key×V) (q:List Key×abA×Value)=>p.1=q.1/\H q.2.1=some (.tup (p.1.map kV))/\RelV p.2 q.2.2) kvs xs/\
   ∃o es ep,h.get? a=some o/\o.ExactDict/\o.data=.dict es ep/\es.toList=xs.map (entryOfKey (tupleKind (bF P w)))/\(xs.map (·.1)).Nodup
 | .set S n=>h.SetOf (intKind P w) a S n
 | .ins C dx fs=>H dx=some (.own a)/\fs.length<=1000/\dx≠a/\h.get? a=some (ab3 C dx)/\
   ∃mA,h.Ns1 dx mA/\(∀f,i5 (fs.lookup f) (mA f))/\PySem.Within mA (fs.map (·.1))
 | .own _=>∃o,h.get? a=some o
 | .xd fs=>∃mA,h.Ns1 a mA/\∀f,i5 (fs.lookup f) (mA f)
 | .rng lo hi=>∃t u v,h.get? a=some {cls:=.type "range",data:=.fields #[.int lo t,.int hi u,.int 1 v]}
 | .fB o u=>h.get? a=some o/\cZ H h a u
 | .Uv ps=>h.get? a=some {cls:=.none,data:=.fields ps}
 | .met f x=>h.get? a=some (PySem.W.methodObj (.ref f) (.ref x))
 | .ext φ=>φ h/\(∃o,h.get? a=some o)/\∀h1 h2:Heap,φ h1->(∀o,h1.get? a=some o->h2.get? a=some o)->φ h2
def kH (H:Hp)(h:Heap):Prop:=∀a o,H a=some o->cZ P w H h a o
end
section
variable {P:abQ}{w:World}{H H':Hp}{h h':Heap}{a:abA}{o:HO}
def cZ.lt (x:cZ P w H h a o):a<h.objs.size:=by
 cases o with
 | lst xs=>obtain ⟨_,_,_,_,e⟩:=x;exact abJ e
 | tup xs=>obtain ⟨_,_,_,p⟩:=x;exact p.lt
 | dK kvs=>obtain ⟨_,_,_,_,o,_,_,e,_⟩:=x;exact abJ e
 | dT kvs=>obtain ⟨_,_,_,_,o,_,_,e,_⟩:=x;exact abJ e
 | set S n=>obtain ⟨o,_,_,_,e,_⟩:=x;exact abJ e
 | ins C dx fs=>obtain ⟨_,_,_,e,_⟩:=x;exact abJ e
 | own y=>obtain ⟨_,e⟩:=x;exact abJ e
 | xd fs=>obtain ⟨_,⟨_,_,_,e,_⟩,_⟩:=x;exact abJ e
 | rng lo hi=>obtain ⟨_,_,_,e⟩:=x;exact abJ e
 | fB ob u=>obtain ⟨e,_⟩:=x;exact abJ e
 | Uv ps=>exact abJ (show h.get? a=some _ from x)
 | met f y=>exact abJ (show h.get? a=some _ from x)
 | ext φ=>obtain ⟨_,⟨_,e⟩,_⟩:=x;exact abJ e
theorem Paired.bV :∀{l₁:List α} {l₂:List β},Paired F l₁ l₂->(∀a b,F a b->G a b)->Paired G l₁ l₂
 | _,_,.nil,_=>.nil
 | _,_,.cons r t,f=>.cons (f _ _ r) (Paired.bV t f)
def cZ.u5 (x:cZ P w H h a o)(k:∀b u,(b=a\/H b=some (.own a))->h.get? b=some u->h'.get? b=some u)
  (ho:∀b,H b=some (.own a)->H' b=some (.own a)) (ht:∀b xs,H b=some (.tup xs)->H' b=some (.tup xs)):cZ P w H' h' a o:=by
 induction o with
 | lst xs=>obtain ⟨z,its,n,r,e⟩:=x;exact ⟨z,its,n,r,k _ _ (.inl rfl) e⟩
 | tup xs=>obtain ⟨z,its,r,ob,e,c⟩:=x;exact ⟨z,its,r,ob,k _ _ (.inl rfl) e,c⟩
 | dK kvs=>obtain ⟨z,y,vs,r,ob,es,ep,e,c⟩:=x;exact ⟨z,y,vs,r,ob,es,ep,k _ _ (.inl rfl) e,c⟩
 | dT kvs=>
  obtain ⟨z,y,xs,r,ob,es,ep,e,c⟩:=x;exact ⟨z,y,xs,Paired.bV r fun p q z=>⟨z.1,ht _ _ z.2.1,z.2.2⟩,ob,es,ep,k _ _ (.inl rfl) e,c⟩
 | set S n=>obtain ⟨ob,es,ep,t,e,c⟩:=x;exact ⟨ob,es,ep,t,k _ _ (.inl rfl) e,c⟩
 | ins C dx fs=>
  obtain ⟨d,z,ne,e,mA,⟨od,es,ep,e2,c⟩,r⟩:=x;exact ⟨ho _ d,z,ne,k _ _ (.inl rfl) e,mA,⟨od,es,ep,k _ _ (.inr d) e2,c⟩,r⟩
 | own y=>obtain ⟨ob,e⟩:=x;exact ⟨ob,k _ _ (.inl rfl) e⟩
 | xd fs=>obtain ⟨mA,⟨od,es,ep,e,c⟩,r⟩:=x;exact ⟨mA,⟨od,es,ep,k _ _ (.inl rfl) e,c⟩,r⟩
 | rng lo hi=>obtain ⟨t,u,v,e⟩:=x;exact ⟨t,u,v,k _ _ (.inl rfl) e⟩
 | fB ob u ih=>obtain ⟨e,q⟩:=x;exact ⟨k _ _ (.inl rfl) e,ih q⟩
 | Uv ps=>
  have e:h.get? a=some {cls:=.none,data:=.fields ps}:=x;show h'.get? a=some {cls:=.none,data:=.fields ps};exact k a _ (.inl rfl) e
 | met f y=>
  have e:h.get? a=some (PySem.W.methodObj (.ref f) (.ref y)):=x;show h'.get? a=some (PySem.W.methodObj (.ref f) (.ref y));exact k a _ (.inl rfl) e
 | ext φ=>obtain ⟨p,⟨o,e⟩,st⟩:=x;exact ⟨st _ _ p fun o q=>k _ _ (.inl rfl) q,⟨o,k _ _ (.inl rfl) e⟩,st⟩
def kH.lt (x:kH P w H h)(e:H a=some o):a<h.objs.size:=(x a o e).lt
def kH.fresh (x:kH P w H h)(e:h.objs.size<=a):H a=none:=by
 cases q:H a with
 | none=>rfl
 | some u=>exact abM (aep (x.lt q) e) (aeY _)
def kH.kept (x:kH P w H h)(k:∀b u,h.get? b=some u->h'.get? b=some u):kH P w H h':=fun a o e=>
 (x a o e).u5 (fun b u _ q=>k b u q) (fun _ q=>q) fun _ _ q=>q
def kH.laid (x:kH P w H h)(k:∀b u,h.get? b=some u->h'.get? b=some u)(hp:h.objs.size<=a)(new:cZ P w (upd H a o) h' a o):kH P w (upd H a o) h':=fun b u e=>by
 have hn:=x.fresh hp;by_cases hb:b=a
 ·subst hb;rw [ah] at e;cases e;exact new
 ·rw [aj hb] at e
  exact (x b u e).u5 (fun c v _ q=>k c v q) (fun c q=>by rw [aj (ak q hn)];exact q) fun c xs q=>by rw [aj (ak q hn)];exact q
end
def Rd (H:Hp)(a:abA)(u:HO):Prop:=H a=some u\/∃o,H a=some (.fB o u)
def Rd.of (h:H a=some u):Rd H a u:=.inl h
def Rd.ok (r:Rd H a u)(x:kH P w H h):cZ P w H h a u:=by
 rcases r with r|⟨o,r⟩
 ·exact x a u r
 ·obtain ⟨_,q⟩:=x a _ r
  exact q
def XJ:Option HO->Prop
 | some (.lst _)=>True
 | some (.dK _)=>True
 | some (.dT _)=>True
 | some (.set _ _)=>True
 | some (.ins _ _ _)=>True
 | some (.ext _)=>True
 | _=>False
section
variable {P:abQ}{w:World}{H:Hp}{h h':Heap}{x e:abA}{o':HO}
def kH.write (ok:kH P w H h)(mu:XJ (H x))(he:e=x\/H e=some (.own x))(k:∀b u,b≠e->h.get? b=some u->h'.get? b=some u)(WZ:∃u,h'.get? e=some u)
  (new:cZ P w (upd H x o') h' x o'):kH P w (upd H x o') h':=fun b u q=>by
 have XM:∀c y,H c=some (.own y)->c≠x:=fun c y r z=>by subst z;rw [r] at mu;exact mu
 have afs:∀c xs,H c=some (.tup xs)->c≠x:=fun c xs r z=>by subst z;rw [r] at mu;exact mu
 by_cases hb:b=x
 ·subst hb;rw [ah] at q;cases q;exact new
 ·rw [aj hb] at q
  by_cases Uw:b=e
  ·have q':H b=some (.own x):=by
    rcases he with z|z
    ·exact abM (Uw.trans z) hb
    ·rw [Uw];exact z
   rw [q] at q';cases q';obtain ⟨v,hv⟩:=WZ;exact ⟨v,by rw [Uw];exact hv⟩
  ·refine (ok b u q).u5 (fun c v hc r=>k c v ?_ r) (fun c r=>by rw [aj (XM c b r)];exact r) fun c xs r=>by rw [aj (afs c xs r)];exact r
   rcases hc with rfl|hc
   ·exact Uw
   ·rintro rfl
    rcases he with z|z
    ·exact XM c b hc z
    ·rw [hc] at z;cases z;exact hb rfl
end
structure Un (fs ex:ω)(H H':Hp)(h h':Heap):Prop where
 keep:∀b o,h.get? b=some o->H b=none->b∉fs->b∉ex->h'.get? b=some o
 slot:∀b o,h.get? b=some o->H b=none->b∈fs->b∉ex->∃sl,h'.get? b=some {o with slots:=sl}
 free:∀b o,h.get? b=some o->H b=none->b∉ex->H' b=none
 there:∀b o,h.get? b=some o->b∉ex->∃o',h'.get? b=some o'
 u6:∀b xs,H b=some (.tup xs)->H' b=some (.tup xs)
 s_:∀b o u,H b=some (.fB o u)->H' b=some (.fB o u)
 u9:∀b ps,H b=some (.Uv ps)->∃more,H' b=some (.Uv (ps++more))
section
variable {fs fs' ex zX :ω}{H H1 H2:Hp}{h h1 h2 h':Heap}{a x e:abA}{o:HO}
def Un.any (u:Un fs ex H H1 h h1)(q:h.get? b=some ob)(n:H b=none)(hx:b∉ex):∃sl,h1.get? b=some {ob with slots:=sl}:=by
 by_cases hb:b∈fs
 ·exact u.slot b ob q n hb hx
 ·exact ⟨ob.slots,u.keep b ob q n hb hx⟩
def Un.kept (k:∀b u,h.get? b=some u->h'.get? b=some u):Un fs ex H H h h':=
 ⟨fun b ob q _ _ _=>k b ob q,fun b ob q _ _ _=>⟨ob.slots,k b ob q⟩,fun _ _ _ n _=>n,fun b ob q _=>⟨ob,k b ob q⟩,fun _ _ q=>q,fun _ _ _ q=>q,fun _ ps q=>⟨#[],by rw [q];simp⟩⟩
def Un.refl:Un fs ex H H h h:=Un.kept fun _ _ q=>q
def Un.laid (k:∀b u,h.get? b=some u->h'.get? b=some u)(hp:h.objs.size<=a)(hn:H a=none):Un fs ex H (upd H a o) h h' where
 keep:=fun b u q _ _ _=>k b u q
 slot:=fun b u q _ _ _=>⟨u.slots,k b u q⟩
 free:=fun b u q n _=>by rw [aj (aew (aep (abJ q) hp))];exact n
 there:=fun b u q _=>⟨u,k b u q⟩
 u6:=fun b xs q=>by rw [aj (ak q hn)];exact q
 s_:=fun b u xs q=>by rw [aj (ak q hn)];exact q
 u9:=fun b ps q=>⟨#[],by rw [aj (ak q hn),q];simp⟩
def Un.write (mu:XJ (H x))(he:e=x\/H e=some (.own x))(k:∀b u,b≠e->h.get? b=some u->h'.get? b=some u)(WZ:∃u,h'.get? e=some u):Un fs ex H (upd H x o) h h':=by
 have hx:∀b,H b=none->b≠x:=fun b n z=>by subst z;rw [n] at mu;exact mu
 have hb:∀b,H b=none->b≠e:=fun b n z=>by
  subst z
  rcases he with r|r
  ·exact hx b n r
  ·rw [n] at r;cases r
 have hm:∀b u,H b=some u->¬ XJ (some u)->b≠x:=fun b u q nm z=>by subst z;rw [q] at mu;exact nm mu
 refine ⟨fun b u q n _ _=>k b u (hb b n) q,fun b u q n _ _=>⟨u.slots,k b u (hb b n) q⟩,fun b u q n _=>by rw [aj (hx b n)];exact n,fun b u q _=>?_,
  fun b xs q=>by rw [aj (hm b _ q fun z=>z)];exact q,fun b u xs q=>by rw [aj (hm b _ q fun z=>z)];exact q,fun b ps q=>⟨#[],by rw [aj (hm b _ q fun z=>z),q];simp⟩⟩
 by_cases Uw:b=e
 ·subst Uw;exact WZ
 ·exact ⟨u,k b u Uw q⟩
end
def trk (h:Heap)(H:Hp):List abA:=(aev h.objs.size).filter fun a=>(H a).isSome
def u_ (h:Heap)(H:Hp):Heap:=PySem.W.hideAll h (trk h H)
def GY (h:Heap)(H:Hp):(u_ h H).objs.size=h.objs.size:=PySem.W.hideAll_size _ _
def LI (e:h.get? b=some o)(n:H b=none):(u_ h H).get? b=some o:=
 PySem.W.hideAll_get _ e fun hm=>by
  have q:(H b).isSome=true:=(agQ.mp hm).2;rw [n] at q;simp at q
def PY (e:(u_ h H).get? b=some o):h.get? b=some o/\H b=none:=by
 have e':h.get? b=some o:=PySem.W.of_hideAll (trk h H) e;refine ⟨e',?_⟩;cases q:H b with
 | none=>rfl
 | some x=>
  have hm:b∈trk h H:=agQ.mpr ⟨aeZ.mpr (abJ e'),by simp [q]⟩;have z:(u_ h H).get? b=none:=PySem.W.hideAll_none (trk h H) hm;rw [z] at e;cases e
noncomputable def PZ (g h:Heap)(L:abA):List (abA×Obj):=(aev h.objs.size).filterMap fun a=>if a=L\/(g.get? a).isSome=true then none else (h.get? a).map fun o=>(a,o)
def rest (g h:Heap)(L d:abA):List (abA×Obj):=(PZ g h L).filter fun p=>decide (p.1≠d)
structure Mod (K:Frag)(mg:ν)(base:Heap):Prop where
 W5:K.In base
 glob:base.Ns abO mg
 blt:∃mb,base.Ns builtinsNs mb/\∀x:Str,x≠ "__name__"->mb x=abZ x
 nolimit:base.NoLimit
 seer:base.NoSeer
structure Cx where
 prog:abQ
 w:World
 K:Frag
 mg:Str->Option Value
 base:Heap
 A:abV
 N:List Str
 s₀:abH
 H₀:Hp
 env:Env
 outer:List Env
 stack:List Env
 ex:List abA
 fn:Str->Bool
 calm:Bool
 pn:List (abA×Obj)
 xe:Value->abH->Prop
def DJ (l:List Env):List abA:=l.filterMap (·.frame)
abbrev Cx.fs (X:Cx):List abA:=DJ X.outer
def Vis (sc:Scope)(x:Str):Prop:=sc.names.lookup x=some .local\/sc.names.lookup x=some .cell\/sc.names.lookup x=some .free
def Loc (sc:Scope)(x:Str):Prop:=sc.names.lookup x=some .local\/sc.names.lookup x=some .cell
def Look (env:Env)(h:Heap)(m:ν)(x:Str)(u:Value):Prop:=
 (env.kindOf x=some .local/\m x=some u)\/((env.kindOf x=some .cell\/env.kindOf x=some .free)/\∃c,env.cells.lookup x=some c/\h.IsCell c (some u))
structure Cx.Ok (X:Cx):Prop where
 mod:Mod X.K X.mg X.base
 kind:X.env.scope.kind=.function
 glob:X.env.globals=abO
 blt:X.env.builtins=builtinsNs
 above:X.s₀.heap.objs.size<=X.env.locals
 inj:∀x y c,X.env.cells.lookup x=some c->X.env.cells.lookup y=some c->x=y
 has:∀x,(X.env.kindOf x=some .cell\/X.env.kindOf x=some .free)->∃c,X.env.cells.lookup x=some c
 XN:∀x c,X.fn x=true->X.env.cells.lookup x=some c->X.s₀.heap.objs.size<=c
 hd:X.calm=true->X.A.handled=none
 frames:X.A.frames=some X.stack
 SN:X.stack=X.outer\/(X.stack=X.env::X.outer/\X.env.frame=some X.env.locals)
 exf:∀b∈X.ex,b≠X.env.locals/\∀x c,X.env.cells.lookup x=some c->c≠b
 bs:∀b o,X.base.get? b=some o->X.s₀.heap.get? b=some o/\X.H₀ b=none
 P0:X.base.objs.size<=X.s₀.heap.objs.size
 LJ:∀b o,X.base.get? b=some o->b∉X.ex
 P1:∀b∈X.ex,b∉X.fs
 pG:X.s₀.heap.FunFrames X.base X.outer
 Ux:∀b∈X.fs,X.H₀ b=none
structure Inv (X:Cx)(pins:ε)(σ:List (Option V))(H:Hp)(s:abH):Prop where
 ok:X.Ok
 os:s.os=X.s₀.os
 bare:adW s.gens
 base:Un X.fs X.ex X.H₀ H X.s₀.heap s.heap
 loc:∃m,s.heap.Ns X.env.locals m/\∀(i:Nat)(x:Str)(v:V),X.N[i]?=some x->σ[i]?=some (some v)->Vis X.env.scope x->∃u,RelV v u/\Look X.env s.heap m x u
 cell:∀x c,X.env.cells.lookup x=some c->∃v,s.heap.IsCell c v
 free:H X.env.locals=none
 iM:∀x c,X.env.cells.lookup x=some c->H c=none
 pin:∀p∈X.pn++pins,s.heap.get? p.1=some p.2/\H p.1=none/\p.1≠X.env.locals/\p.1∉X.fs/\∀v,p.2.data≠.cell v
 bM:kH X.prog X.w H s.heap
 len:σ.length=X.N.length
section
variable {X:Cx}{pins:ε}{σ:List (Option V)}{H H':Hp}{s:abH}{h':Heap}
def Cx.Ok.afu (ok:X.Ok)(e:X.base.get? b=some o):b∉X.fs:=fun hb=>by
 have:=(ok.pG.mem hb).1;rw [e] at this;cases this
def Inv.bs (I:Inv X pins σ H s):∀b o,X.base.get? b=some o->s.heap.get? b=some o/\H b=none:=fun b o e=>
 ⟨I.base.keep b o (I.ok.bs b o e).1 (I.ok.bs b o e).2 (I.ok.afu e) (I.ok.LJ b o e),I.base.free b o (I.ok.bs b o e).1 (I.ok.bs b o e).2 (I.ok.LJ b o e)⟩
def Inv.bk (I:Inv X pins σ H s):∀b o,X.base.get? b=some o->s.heap.get? b=some o:=fun b o e=>(I.bs b o e).1
def Inv.mod (I:Inv X pins σ H s):Mod X.K X.mg X.base:=I.ok.mod
def Inv.kN (I:Inv X pins σ H s):X.K.In s.heap:=I.ok.mod.W5.keeps I.bk
def Inv.nolimit (I:Inv X pins σ H s):s.heap.NoLimit:=I.ok.mod.nolimit.keeps I.bk
def Inv.lt (I:Inv X pins σ H s):X.env.locals<s.heap.objs.size:=let ⟨_,hn,_⟩:=I.loc;hn.lt
def Inv.sz (I:Inv X pins σ H s):X.s₀.heap.objs.size<=s.heap.objs.size:=aay I.ok.above (ae1 I.lt)
def Inv.afv (I:Inv X pins σ H s){a:abA}(h:s.heap.objs.size<=a):a∉X.fs:=fun hb=>by
 obtain ⟨_,o,ho,_⟩:=I.ok.pG.mem hb;exact abM (aep (abJ ho) (aay I.sz h)) (aeY _)
def Inv.P2 (I:Inv X pins σ H s):∀x c,X.env.cells.lookup x=some c->c≠X.env.locals:=fun x c e z=>by
 obtain ⟨v,o,ho,hd⟩:=I.cell x c e;obtain ⟨m,⟨o',es,ep,Uy,Lb,_⟩,_⟩:=I.loc;rw [z,Uy] at ho;cases ho;rw [Lb] at hd;cases hd
def Inv.pG (I:Inv X pins σ H s):s.heap.FunFrames X.base X.outer:=by
 have all:∀(l:List Env),(∀b∈DJ l,b∈X.fs)->X.s₀.heap.FunFrames X.base l->s.heap.FunFrames X.base l:=by
  intro l
  induction l with
  | nil=>intro _ _;trivial
  | cons env r ih=>
   intro hs hl;obtain ⟨hk,⟨L,o,hf,hn,ho,hd⟩,hr⟩:=hl;have hL:L∈X.fs:=hs L (by unfold DJ;rw [agm,hf];exact aa_);obtain ⟨sl,e⟩:=I.base.slot L o ho (I.ok.Ux L hL) hL fun z=>I.ok.P1 L z hL;exact ⟨hk,⟨L,_,hf,hn,e,hd⟩,ih (fun b hb=>hs b (by unfold DJ;rw [agm,hf];exact aax _ hb)) hr⟩
 exact all X.outer (fun _ hb=>hb) I.ok.pG
def Inv.stack (I:Inv X pins σ H s):s.heap.FunFrames X.base X.stack:=by
 rcases I.ok.SN with e|⟨e,hf⟩
 ·rw [e];exact I.pG
 ·rw [e]
  obtain ⟨m,hn,_⟩:=I.loc;refine .cons (by rw [I.ok.kind];decide) hf hn ?_ I.pG;exact Heap.get?_none_of_le (aay I.ok.P0 I.ok.above)
def Inv.AE (I:Inv X pins σ H s):∀b∈DJ X.stack,b∈X.env.locals::X.fs:=fun b hb=>by
 rcases I.ok.SN with e|⟨e,hf⟩
 ·rw [e] at hb;exact aax _ hb
 ·rw [e] at hb
  unfold DJ at hb;rw [agm,hf] at hb;exact hb
def Inv.DK (I:Inv X pins σ H s):∀b∈DJ X.stack,H b=none:=fun b hb=>by
 rcases aes.mp (I.AE b hb) with e|hb
 ·rw [e];exact I.free
 ·obtain ⟨_,o,ho,_⟩:=I.ok.pG.mem hb
  exact I.base.free b o ho (I.ok.Ux b hb) fun z=>I.ok.P1 b z hb
def Inv.step {ch:ω}(I:Inv X pins σ H s)
  (OS:∀b∈ch,(b∈X.ex\/X.s₀.heap.objs.size<=b)/\b≠X.env.locals/\(∀x c,X.env.cells.lookup x=some c->c≠b)/\∀p∈X.pn++pins,p.1≠b)
  (keep:∀b o,b≠X.env.locals->b∉X.fs->b∉ch->s.heap.get? b=some o->H b=none->h'.get? b=some o)
  (slot:∀b o,b≠X.env.locals->b∈X.fs->b∉ch->s.heap.get? b=some o->H b=none->∃sl,h'.get? b=some {o with slots:=sl}) (free:∀b o,b∉ch->s.heap.get? b=some o->H b=none->H' b=none)
  (there:∀b o,b∉ch->s.heap.get? b=some o->∃o',h'.get? b=some o')
  (u6:∀b xs,H b=some (.tup xs)->H' b=some (.tup xs)) (s_:∀b o u,H b=some (.fB o u)->H' b=some (.fB o u)) (u9:∀b ps,H b=some (.Uv ps)->∃more,H' b=some (.Uv (ps++more)))
  (ns:∀m,s.heap.Ns X.env.locals m->h'.Ns X.env.locals m) (bM:kH X.prog X.w H' h') (hg:adW g'):
  Inv X pins σ H' {s with heap:=h',gens:=g',drawn:=d',toks:=t'}:=by
 have neL:∀b o,X.s₀.heap.get? b=some o->b≠X.env.locals:=fun b o e=>aew (aep (abJ e) I.ok.above)
 have neC:∀b o,X.s₀.heap.get? b=some o->b∉X.ex->b∉ch:=fun b o e hx hb=>by
  rcases (OS b hb).1 with z|z
  ·exact hx z
  ·exact abM (aep (abJ e) z) (aeY _)
 have cellK:∀x c,X.env.cells.lookup x=some c->∀v,s.heap.IsCell c v->h'.IsCell c v:=fun x c e v ⟨o,ho,hd⟩=>by
  have XO:c∉ch:=fun z=>(OS c z).2.2.1 x c e rfl;by_cases hc:c∈X.fs
  ·obtain ⟨sl,q⟩:=slot c o (I.P2 x c e) hc XO ho (I.iM x c e)
   exact ⟨_,q,hd⟩
  ·exact ⟨o,keep c o (I.P2 x c e) hc XO ho (I.iM x c e),hd⟩
 refine ⟨I.ok,I.os,hg,⟨fun b o e n hb hx=>?_,fun b o e n hb hx=>?_,fun b o e n hx=>?_,fun b o e hx=>?_,fun b xs e=>u6 b xs (I.base.u6 b xs e),fun b o xs e=>s_ b o xs (I.base.s_ b o xs e),fun b ps e=>?_⟩,?_,fun x c e=>?_,?_,fun x c e=>?_,fun p hp=>?_,bM,I.len⟩
 ·exact keep b o (neL b o e) hb (neC b o e hx) (I.base.keep b o e n hb hx) (I.base.free b o e n hx)
 ·obtain ⟨sl,e1⟩:=I.base.slot b o e n hb hx
  obtain ⟨sl',e2⟩:=slot b _ (neL b o e) hb (neC b o e hx) e1 (I.base.free b o e n hx);exact ⟨sl',e2⟩
 ·obtain ⟨o',e1⟩:=I.base.there b o e hx
  exact free b o' (neC b o e hx) e1 (I.base.free b o e n hx)
 ·obtain ⟨o',e1⟩:=I.base.there b o e hx
  exact there b o' (neC b o e hx) e1
 ·obtain ⟨m1,e1⟩:=I.base.u9 b ps e
  obtain ⟨m2,e2⟩:=u9 b _ e1;exact ⟨m1++m2,by rw [e2,Array.append_assoc]⟩
 ·obtain ⟨m,hn,hl⟩:=I.loc
  refine ⟨m,ns m hn,fun i x v e1 e2 e3=>?_⟩;obtain ⟨u,r,l⟩:=hl i x v e1 e2 e3;refine ⟨u,r,?_⟩
  rcases l with l|⟨k,c,e,z⟩
  ·exact .inl l
  ·exact .inr ⟨k,c,e,cellK x c e _ z⟩
 ·obtain ⟨v,z⟩:=I.cell x c e
  exact ⟨v,cellK x c e v z⟩
 ·obtain ⟨m,⟨o,_,_,ho,_⟩,_⟩:=I.loc
  exact free _ o (fun z=>(OS _ z).2.1 rfl) ho I.free
 ·obtain ⟨v,o,ho,hd⟩:=I.cell x c e
  exact free c o (fun z=>(OS c z).2.2.1 x c e rfl) ho (I.iM x c e)
 ·obtain ⟨e,n,ne,nf,d⟩:=I.pin p hp
  have XO:p.1∉ch:=fun z=>(OS p.1 z).2.2.2 p hp rfl;exact ⟨keep p.1 p.2 ne nf XO e n,free p.1 p.2 XO e n,ne,nf,d⟩
def Inv.un (I:Inv X pins σ H s)(u:Un X.fs [] H H' s.heap h')(bM:kH X.prog X.w H' h'):Inv X pins σ H' {s with heap:=h',toks:=t'}:=by
 obtain ⟨m,⟨o,es,ep,ho,r⟩,_⟩:=id I.loc;obtain ⟨sl,hL⟩:=u.any ho I.free (by simp)
 exact I.step (g':=s.gens) (d':=s.drawn) (ch:=[]) (fun _ z=>nomatch z) (fun b o _ hb _ e n=>u.keep b o e n hb (by simp)) (fun b o _ hb _ e n=>u.slot b o e n hb (by simp)) (fun b o _ e n=>u.free b o e n (by simp)) (fun b o _ e=>u.there b o e (by simp)) u.u6 u.s_ u.u9 (fun m' hm=>by
  obtain ⟨o',es',DL,Uy,r'⟩:=hm;rw [ho] at Uy;cases Uy
  exact ⟨_,es',DL,hL,r'⟩) bM I.bare
def Inv.call (I:Inv X pins σ H s)(u:Un (DJ X.stack) ch H H' s.heap h')(bM:kH X.prog X.w H' h')(hg:adW g')
  (OS:∀b∈ch,(b∈X.ex\/X.s₀.heap.objs.size<=b)/\b≠X.env.locals/\(∀x c,X.env.cells.lookup x=some c->c≠b)/\∀p∈X.pn++pins,p.1≠b):
  Inv X pins σ H' {s with heap:=h',gens:=g',drawn:=d',toks:=t'}:=by
 obtain ⟨m,⟨o,es,ep,ho,r⟩,_⟩:=id I.loc;obtain ⟨sl,hL⟩:=u.any ho I.free fun z=>(OS _ z).2.1 rfl
 exact I.step (ch:=ch) OS (fun b o hL hb hc e n=>u.keep b o e n (fun z=>(aes.mp (I.AE b z)).elim hL hb) hc) (fun b o _ _ hc e n=>u.any e n hc) (fun b o hc e n=>u.free b o e n hc) (fun b o hc e=>u.there b o e hc) u.u6 u.s_ u.u9 (fun m' hm=>by
  obtain ⟨o',es',DL,Uy,r'⟩:=hm;rw [ho] at Uy;cases Uy
  exact ⟨_,es',DL,hL,r'⟩) bM hg
def Inv.turned (I:Inv X pins σ H s)(k:∀b o,b≠it->s.heap.get? b=some o->h'.get? b=some o)(hn:H it=none)(hL:it≠X.env.locals)
  (h1:it∈X.ex\/X.s₀.heap.objs.size<=it) (h2:∀x c,X.env.cells.lookup x=some c->c≠it) (h3:∀p∈X.pn++pins,p.1≠it):Inv X pins σ H {s with heap:=h',toks:=t'}:=by
 have SO:∀b u,H b=some u->b≠it:=fun b u e z=>by rw [z,hn] at e;cases e
 refine I.step (g':=s.gens) (d':=s.drawn) (ch:=[it]) (fun b hb=>?_) (fun b o _ _ hc e _=>k b o (fun z=>hc (by simp [z])) e) (fun b o _ _ hc e _=>⟨o.slots,k b o (fun z=>hc (by simp [z])) e⟩) (fun _ _ _ _ n=>n)
  (fun b o hc e=>⟨o,k b o (fun z=>hc (by simp [z])) e⟩) (fun _ _ e=>e) (fun _ _ _ e=>e) (fun b ps e=>⟨#[],by rw [e];simp⟩) (fun m hm=>?_) (fun b u e=>?_) I.bare
 ·have e:b=it:=by simpa using hb
  subst e;exact ⟨h1,hL,h2,h3⟩
 ·obtain ⟨o,es,ep,ho,r⟩:=hm
  exact ⟨o,es,ep,k _ o (aeD hL) ho,r⟩
 ·refine (I.bM b u e).u5 (fun c v hc q=>k c v ?_ q) (fun _ q=>q) fun _ _ q=>q
  rcases hc with z|z
  ·rw [z];exact SO b u e
  ·exact SO c _ z
def Inv.tok (I:Inv X pins σ H s)(t:Nat):Inv X pins σ H {s with toks:=t}:=I.un (h':=s.heap) (t':=t) Un.refl I.bM
def Inv.kept (I:Inv X pins σ H s)(k:∀b u,s.heap.get? b=some u->h'.get? b=some u):Inv X pins σ H {s with heap:=h',toks:=t'}:=I.un (Un.kept k) (I.bM.kept k)
def Inv.laid {a:abA}(I:Inv X pins σ H s)(k:∀b u,s.heap.get? b=some u->h'.get? b=some u)(hp:s.heap.objs.size<=a)(new:cZ X.prog X.w (upd H a o) h' a o):
  Inv X pins σ (upd H a o) {s with heap:=h',toks:=t'}:=I.un (Un.laid k hp (I.bM.fresh hp)) (I.bM.laid k hp new)
def Inv.write (I:Inv X pins σ H s)(mu:XJ (H x))(he:e=x\/H e=some (.own x))(k:∀b u,b≠e->s.heap.get? b=some u->h'.get? b=some u)(WZ:∃u,h'.get? e=some u)
  (new:cZ X.prog X.w (upd H x o) h' x o):Inv X pins σ (upd H x o) {s with heap:=h',toks:=t'}:=I.un (Un.write mu he k WZ) (I.bM.write mu he k WZ new)
def Inv.DM (I:Inv X pins σ H s)(h:∀p∈SQ,s.heap.get? p.1=some p.2/\H p.1=none/\p.1≠X.env.locals/\p.1∉X.fs/\∀v,p.2.data≠.cell v):Inv X SQ σ H s:=
 ⟨I.ok,I.os,I.bare,I.base,I.loc,I.cell,I.free,I.iM,fun p hp=>(abj.mp hp).elim (fun z=>I.pin p (aex _ z)) (h p),I.bM,I.len⟩
def dO {N:ψ}(hN:N.Nodup){i j:Nat}(a:N[i]?=some x)(b:N[j]?=some x):i=j:=by
 obtain ⟨h1,e1⟩:=Wp.mp a;obtain ⟨h2,e2⟩:=Wp.mp b;exact (al_ hN).mp (e1.trans e2.symm)
def uh {E:δ}(I:Inv X pins σ H s)(hN:X.N.Nodup)(hi:X.N[i]?=some x)(hx:Loc X.env.scope x)(r:RelV v u)
  (h:∀s',Inv X pins (σ.set i (some v)) H s' ->(∃a,acn a s.heap s'.heap/\(a=X.env.locals\/X.env.cells.lookup x=some a))->Q () s') (hf:X.fn x=true\/X.env.scope.names.lookup x=some .local:=by first|exact .inl rfl|exact .inr rfl|assumption):abG M A (storeName X.env x u) Q E s:=by
 obtain ⟨m,hn,hl⟩:=id I.loc;have afx:(X.env.scope.kind==.class || (X.env.scope.kind==.module && X.env.locals !=X.env.globals))=false:=by rw [I.ok.kind];rfl
 have hiσ:i < σ.length:=by rw [I.len];exact (Wp.mp hi).1
 have P2:=I.P2
 have tracked:∀{a:abA} {h':Heap},(∃o,s.heap.get? a=some o/\H a=none)->acn a s.heap h' ->kH X.prog X.w H h':=fun {a h'} ha hs b ob e=>by
  obtain ⟨_,_,SR⟩:=ha;refine (I.bM b ob e).u5 (fun c w' hc q=>(hs.2 c ?_).trans q) (fun _ q=>q) fun _ _ q=>q;rintro rfl
  rcases hc with rfl|hc
  ·rw [SR] at e;cases e
  ·rw [SR] at hc;cases hc
 rcases hx with hk|hk
 ·refine wpAny_storeName_local hk hn (fun h' hn' hs=>?_) afx
  obtain ⟨oL,_,_,hoL,_⟩:=id hn;refine h _ ⟨I.ok,I.os,I.bare,⟨fun b o e n hb hx=>?_,fun b o e n hb hx=>?_,I.base.free,fun b o e hx=>?_,I.base.u6,I.base.s_,I.base.u9⟩,⟨_,hn',fun j y v' e1 e2 e3=>?_⟩,fun y c e=>?_,I.free,I.iM,fun p hp=>?_,tracked ⟨oL,hoL,I.free⟩ hs,by simpa using I.len⟩ ⟨_,hs,.inl rfl⟩
  ·exact (hs.2 b (aew (aep (abJ e) I.ok.above))).trans (I.base.keep b o e n hb hx)
  ·obtain ⟨sl,e1⟩:=I.base.slot b o e n hb hx
   exact ⟨sl,(hs.2 b (aew (aep (abJ e) I.ok.above))).trans e1⟩
  ·obtain ⟨o',e1⟩:=I.base.there b o e hx
   exact ⟨o',(hs.2 b (aew (aep (abJ e) I.ok.above))).trans e1⟩
  ·by_cases hj:j=i
   ·subst hj
    rw [hi] at e1;cases e1;rw [ahr hiσ] at e2;cases e2;exact ⟨u,r,.inl ⟨hk,by simp⟩⟩
   ·rw [ahR (aeD hj)] at e2
    obtain ⟨u',r',q⟩:=hl j y v' e1 e2 e3;refine ⟨u',r',?_⟩
    rcases q with ⟨k,e⟩|⟨k,c,e,z⟩
    ·refine .inl ⟨k,?_⟩
     have:y≠x:=fun e=>hj (dO hN e1 (e▸hi));simp [this,e]
    ·exact .inr ⟨k,c,e,z.sameBut hs (P2 y c e)⟩
  ·obtain ⟨w',z⟩:=I.cell y c e
   exact ⟨w',z.sameBut hs (P2 y c e)⟩
  ·obtain ⟨e,n,ne,nf,d⟩:=I.pin p hp
   exact ⟨(hs.2 p.1 ne).trans e,n,ne,nf,d⟩
 ·have hfn:X.fn x=true:=by
   rcases hf with z|z
   ·exact z
   ·rw [z] at hk;cases hk
  obtain ⟨c,hc⟩:=I.ok.has x (.inl hk);obtain ⟨w',z⟩:=I.cell x c hc;refine wpAny_storeName_cell I.ok.kind hk hc z (fun h' pH hs=>?_);obtain ⟨oc,hoc,afA⟩:=id z;refine h {s with heap:=h'} ⟨I.ok,I.os,I.bare,⟨fun b o e n hb hx=>?_,fun b o e n hb hx=>?_,I.base.free,fun b o e hx=>?_,I.base.u6,I.base.s_,I.base.u9⟩,⟨m,hn.sameBut hs (aeD (P2 x c hc)),fun j y v' e1 e2 e3=>?_⟩,fun y c' e=>?_,I.free,I.iM,fun p hp=>?_,tracked ⟨oc,hoc,I.iM x c hc⟩ hs,by simpa using I.len⟩ ⟨c,hs,.inr hc⟩
  ·exact (hs.2 b (aew (aep (abJ e) (I.ok.XN x c hfn hc)))).trans (I.base.keep b o e n hb hx)
  ·obtain ⟨sl,e1⟩:=I.base.slot b o e n hb hx
   exact ⟨sl,(hs.2 b (aew (aep (abJ e) (I.ok.XN x c hfn hc)))).trans e1⟩
  ·obtain ⟨o',e1⟩:=I.base.there b o e hx
   exact ⟨o',(hs.2 b (aew (aep (abJ e) (I.ok.XN x c hfn hc)))).trans e1⟩
  ·by_cases hj:j=i
   ·subst hj
    rw [hi] at e1;cases e1;rw [ahr hiσ] at e2;cases e2;exact ⟨u,r,.inr ⟨.inl hk,c,hc,pH⟩⟩
   ·rw [ahR (aeD hj)] at e2
    obtain ⟨u',r',q⟩:=hl j y v' e1 e2 e3;refine ⟨u',r',?_⟩
    rcases q with q|⟨k,c',e,z'⟩
    ·exact .inl q
    ·refine .inr ⟨k,c',e,z'.sameBut hs ?_⟩
     rintro rfl;exact hj (dO hN e1 (I.ok.inj _ _ _ e hc▸hi))
  ·by_cases hcc:c'=c
   ·subst hcc;exact ⟨_,pH⟩
   ·obtain ⟨w2,z2⟩:=I.cell y c' e
    exact ⟨w2,z2.sameBut hs hcc⟩
  ·obtain ⟨e,n,ne,nf,d⟩:=I.pin p hp
   refine ⟨(hs.2 p.1 ?_).trans e,n,ne,nf,d⟩;intro q;rw [q,hoc] at e;have q':oc=p.2:=aen e;exact d w' (by rw [<-q'];exact afA)
def lX {E:δ}(I:Inv X pins σ H s)(hN:X.N.Nodup)(hi:X.N[i]?=some x)(hx:Loc X.env.scope x)(r:RelV v u)
  (h:∀s',Inv X pins (σ.set i (some v)) H s' ->Q () s') (hf:X.fn x=true\/X.env.scope.names.lookup x=some .local:=by first|exact .inl rfl|exact .inr rfl|assumption):abG M A (storeName X.env x u) Q E s:=
 uh I hN hi hx r (fun s' I' _=>h s' I') hf
def Inv.XQ (I:Inv X pins σ H s)(ho:s'.os=s.os)(u:Un (DJ X.stack) ch H H' s.heap s'.heap)(bM:kH X.prog X.w H' s'.heap)(hg:adW s'.gens)
  (OS:∀b∈ch,(b∈X.ex\/X.s₀.heap.objs.size<=b)/\b≠X.env.locals/\(∀x c,X.env.cells.lookup x=some c->c≠b)/\∀p∈X.pn++pins,p.1≠b):Inv X pins σ H' s':=by
 obtain ⟨h',g',d',t',o'⟩:=s';have e:o'=s.os:=ho;subst e;exact I.call (g':=g') (t':=t') (d':=d') u bM hg OS
end
abbrev XK:=Value->Option abA->Hp->Prop
abbrev St:=List (Option V)
abbrev VK:=V->Hp->Prop
abbrev _root_.Ψ:=V->List V->Hp->VK->Prop
abbrev TE:=St->Hp->VK->Prop
abbrev TT:=St->Hp->(Bool->Hp->Prop)->Prop
abbrev TA:=St->Hp->(List V->Hp->Prop)->Prop
structure Ends where
 nx:St->Hp->Prop
 rt:VK
 bk:St->Hp->Prop:=fun _ _=>False
 ct:St->Hp->Prop:=fun _ _=>False
abbrev TS:=Ends->St->Hp->Prop
def EP (X:Cx)(pins:ε)(σ:St)(Q:VK)(u:Value)(s':abH):Prop:=∃v H',Inv X pins σ H' s'/\RelV v u/\Q v H'
def TP (X:Cx)(pins:ε)(σ:St)(Q:Bool->Hp->Prop)(b:Bool)(s':abH):Prop:=∃H',Inv X pins σ H' s'/\Q b H'
def AP (X:Cx)(pins:ε)(σ:St)(Q:List V->Hp->Prop)(us:ρ)(s':abH):Prop:=∃vs H',Inv X pins σ H' s'/\Vals vs us/\Q vs H'
def SP (X:Cx)(pins:ε)(D:Ends)(f:Flow)(s':abH):Prop:=
 match f with
 | .next=>∃σ' H',Inv X pins σ' H' s'/\D.nx σ' H'
 | .brk=>∃σ' H',Inv X pins σ' H' s'/\D.bk σ' H'
 | .cont=>∃σ' H',Inv X pins σ' H' s'/\D.ct σ' H'
 | .ret u=>∃v σ' H',Inv X pins σ' H' s'/\RelV v u/\D.rt v H'
def PE (X:Cx)(e:Expr)(t:TE):Prop:=
 ∀(pins:ε)(s:abH)(σ:St)(H:Hp)(Q:VK),Inv X pins σ H s->t σ H Q->abG (abK X.prog X.w) X.A (abW e X.env) (EP X pins σ Q) X.xe s
def PT (X:Cx)(e:Expr)(t:TT):Prop:=
 ∀(pins:ε)(s:abH)(σ:St)(H:Hp)(Q:Bool->Hp->Prop),Inv X pins σ H s->t σ H Q->abG (abK X.prog X.w) X.A (isTrue e X.env (abW e X.env)) (TP X pins σ Q) X.xe s
def PW (X:Cx)(e:Expr)(t:TT):Prop:=
 ∀(whole:Sem Value)(pins:ε)(s:abH)(σ:St)(H:Hp)(Q:Bool->Hp->Prop),Inv X pins σ H s->t σ H Q->abG (abK X.prog X.w) X.A (isTrue e X.env whole) (TP X pins σ Q) X.xe s
def PW.pt (h:PW X e t):PT X e t:=h _
def PA (X:Cx)(es:Ζ)(t:TA):Prop:=
 ∀(pos:Pos)(pins:ε)(s:abH)(σ:St)(H:Hp)(Q:List V->Hp->Prop),Inv X pins σ H s->t σ H Q->abG (abK X.prog X.w) X.A (spliced (ack pos (abP es X.env))) (AP X pins σ Q) X.xe s
def PS (X:Cx)(st:Stmt)(t:TS):Prop:=
 ∀(pins:ε)(s:abH)(σ:St)(H:Hp)(D:Ends),Inv X pins σ H s->t D σ H->abG (abK X.prog X.w) X.A (exec st X.env) (SP X pins D) X.xe s
def PSs (X:Cx)(st:List Stmt)(t:TS):Prop:=
 ∀(pins:ε)(s:abH)(σ:St)(H:Hp)(D:Ends),Inv X pins σ H s->t D σ H->abG (abK X.prog X.w) X.A (execs st X.env) (SP X pins D) X.xe s
def cF {Q Q':α->abH->Prop}{E:δ}(h:abG M A t Q E s)(hQ:∀a s,Q a s->Q' a s):abG M A t Q' E s:=ab4 h hQ fun _ _ x=>x
section
variable {X:Cx}
inductive P5 (i:Nat)(σ:St)(H:Hp)(Q:VK):Prop
|mk (v:_)(_:σ[i]?=some (some v))(_:Q v H)
def tC (v:V):TE:=fun _ H Q=>Q v H
def Uz {pos:Pos}(hN:X.N[i]?=some x)(hv:Vis X.env.scope x)(hd:(x==("__debug__":Str))=false:=by decide)(tq:(x==("__classdict__":Str))=false:=by decide):PE X (.Name x pos) (P5 i):=by
 intro pins s σ H Q I h;obtain ⟨v,e,h⟩:=h;obtain ⟨m,hn,hl⟩:=I.loc;obtain ⟨u,r,l⟩:=hl i x v hN e hv;have fin:EP X pins σ Q u s:=⟨v,H,I,r,h⟩
 rcases l with ⟨hk,hm⟩|⟨hk,c,hc,hcell⟩
 ·exact wpAny_Name (wpAny_loadName_local I.ok.kind hk hn hm fin) hd
 ·rcases hk with hk|hk
  ·exact wpAny_Name (wpAny_loadName_cell I.ok.kind hk hc hcell fin) hd
  ·exact wpAny_Name (wpAny_loadName_free I.ok.kind hk hc hcell fin tq) hd
def af :PE X (.Constant (.int i) j pos) (tC (.int i)):=fun _ _ _ H _ I h=>wpAny_Constant_int ⟨.int i,H,I.tok _,⟨_,rfl⟩,h⟩
def gB :PE X (.Constant (.bool b) j pos) (tC (.bl b)):=fun _ _ _ H _ I h=>Constant_bool ⟨.bl b,H,I,rfl,h⟩
def qD :PE X (.Constant .none j pos) (tC .cT):=fun _ _ _ H _ I h=>Constant_none ⟨.cT,H,I,rfl,h⟩
def eY :PE X (.Constant (.str x) j pos) (tC (.str x)):=fun _ _ _ H _ I h=>Calls.Constant_str ⟨.str x,H,I.tok _,⟨_,rfl⟩,h⟩
def Gl (X:Cx)(x:Str):Prop:=X.env.kindOf x=some .globalImplicit
def lY {E:δ}{σ:St}{Q:δ}(I:Inv X pins σ H s)(hg:Gl X x)(hm:X.mg x=some u)(h:Q u s)
  (hd:(x==("__debug__":Str))=false:=by decide):abG (abK X.prog X.w) X.A (abW (.Name x pos) X.env) Q E s:=
 Calls.Name_function_global I.ok.kind hg (Calls.loadGlobal_global (by rw [I.ok.glob];exact I.mod.glob.keeps I.bk) hm h) hd
def i6 {E:δ}{σ:St}{pos:Pos}{Q:δ}(I:Inv X pins σ H s)(hg:Gl X x)(hm:X.mg x=none)(hv:abZ x=some u)(h:Q u s)
  (hn:x≠ "__name__":=by decide) (hd:(x==("__debug__":Str))=false:=by decide):abG (abK X.prog X.w) X.A (abW (.Name x pos) X.env) Q E s:=by
 obtain ⟨mb,h1,h2⟩:=I.mod.blt;exact Calls.Name_function_global I.ok.kind hg (Calls.loadGlobal_builtin (by rw [I.ok.glob];exact I.mod.glob.keeps I.bk) hm (by rw [I.ok.blt];exact h1.keeps I.bk) ((h2 x hn).trans hv) h) hd
def fC (hg:Gl X x)(hm:X.mg x=some u)(r:RelV v u)(hd:(x==("__debug__":Str))=false:=by decide):PE X (.Name x pos) (tC v):=
 fun _ _ _ H _ I h=>lY I hg hm ⟨v,H,I,r,h⟩ hd
def P6 {pos:Pos}(hg:Gl X x)(hm:X.mg x=none)(hv:abZ x=some u)(r:RelV v u)(hn:x≠ "__name__":=by decide)(hd:(x==("__debug__":Str))=false:=by decide):PE X (.Name x pos) (tC v):=
 fun _ _ _ H _ I h=>i6 I hg hm hv ⟨v,H,I,r,h⟩ hn hd
variable {a b:Expr}{ta tb:TE}{pos:Pos}
def PC (X:Cx)(op:CmpOp)(a b:Expr)(t:TE):Prop:=
 ∀(pins:ε)(s:abH)(σ:St)(H:Hp)(Q:VK),Inv X pins σ H s->t σ H Q->
  abG (abK X.prog X.w) X.A (abW a X.env) (fun v s₁=>abG (abK X.prog X.w) X.A (abW b X.env) (fun u s₂=>abG (abK X.prog X.w) X.A (aca op v u) (EP X pins σ Q) X.xe s₂) X.xe s₁) X.xe s
inductive tB_ (Q:(Bool->Hp->Prop))(x:V)(H1:Hp):Prop
|mk (c:_)(_:x=.bl c)(_:Q c H1)
def tB (t:TE):TT:=fun σ H Q=>t σ H fun x H1=>tB_ Q x H1
def qE (h:PC X op a b t)(h1:adB op b=false:=by first|exact nobehind _ (by decide) (by decide)|rfl):PT X (.Compare a [op] [b] pos) (tB t):=by
 intro pins s σ H Q I hw;refine wpAny_isTrue_Compare1 (cF (h pins s σ H _ I hw) fun v s1 h1=>cF h1 fun u s2 h2=>cF h2 fun c s3 ⟨x,H1,I1,r1,q1⟩=>?_) h1;obtain ⟨d,rfl,q⟩:=q1;cases r1;exact acJ ⟨H1,I1,q⟩
def eh (h:PE X e t)(he:∀whole,isTrue e X.env whole=(do let v <- whole;standAt e.pos;holding [v] (truthy v)):=by intro _;rfl):PT X e (tB t):=by
 intro pins s σ H Q I hw;refine isTrue_plain (cF (h pins s σ H _ I hw) fun v s1 ⟨x,H1,I1,r1,q1⟩=>?_) (he _);obtain ⟨d,rfl,q⟩:=q1;cases r1;exact acJ ⟨H1,I1,q⟩
variable {tA tB':TT}{rest:Ζ}
def afB (t u:TT):TT:=fun σ H Q=>t σ H fun c H1=>if c=true then u σ H1 Q else Q false H1
def tOr (t u:TT):TT:=fun σ H Q=>t σ H fun c H1=>if c=true then Q true H1 else u σ H1 Q
def afC (t:TT):TT:=fun σ H Q=>t σ H fun c H1=>Q (!c) H1
def qa (ha:PT X a tA):PW X (.BoolOp .And [a] pos) tA:=by
 intro wh pins s σ H Q I h;refine isTrue_and (cF (ha pins s σ H Q I h) fun c s1 e=>?_);cases c with
 | true=>exact isTrue_and_nil e
 | false=>exact e
def iC (ha:PT X a tA):PW X (.BoolOp .Or [a] pos) tA:=by
 intro wh pins s σ H Q I h;refine isTrue_or (cF (ha pins s σ H Q I h) fun c s1 e=>?_);cases c with
 | false=>exact isTrue_or_nil e
 | true=>exact e
def va (ha:PT X a tA)(hb:PW X (.BoolOp .And (b::rest) pos) tB'):PW X (.BoolOp .And (a::b::rest) pos) (afB tA tB'):=by
 intro wh pins s σ H Q I h;refine isTrue_and (cF (ha pins s σ H _ I h) fun c s1 ⟨H1,I1,q1⟩=>?_);cases c with
 | true=>exact hb wh pins s1 σ H1 Q I1 q1
 | false=>exact ⟨H1,I1,q1⟩
def jy (ha:PT X a tA)(hb:PW X (.BoolOp .Or (b::rest) pos) tB'):PW X (.BoolOp .Or (a::b::rest) pos) (tOr tA tB'):=by
 intro wh pins s σ H Q I h;refine isTrue_or (cF (ha pins s σ H _ I h) fun c s1 ⟨H1,I1,q1⟩=>?_);cases c with
 | true=>exact ⟨H1,I1,q1⟩
 | false=>exact hb wh pins s1 σ H1 Q I1 q1
def fD (ha:PT X a tA):PT X (.UnaryOp .Not a pos) (afC tA):=by
 intro pins s σ H Q I h;exact isTrue_not (ha pins s σ H (fun c H1=>Q (!c) H1) I h)
def XR (ta tb:TE):TE:=fun σ H Q=>ta σ H fun x H1=>∃c,x=.bl c/\if c=true then tb σ H1 Q else Q (.bl false) H1
def AF (h:PE X a t):PE X (.BoolOp op [a] pos) t:=fun pins s σ H Q I hw=>BoolOp_one (h pins s σ H Q I hw)
def vb (ha:PE X a ta)(hb:PE X (.BoolOp .And (b::rest) pos) tb):PE X (.BoolOp .And (a::b::rest) pos) (XR ta tb):=by
 intro pins s σ H Q I h;refine BoolOp_and (cF (ha pins s σ H _ I h) fun v s1 ⟨x,H1,I1,r1,q1⟩=>?_);obtain ⟨c,rfl,q1⟩:=q1;cases r1;refine acJ ?_;cases c with
 | true=>exact hb pins s1 σ H1 Q I1 q1
 | false=>exact ⟨.bl false,H1,I1,rfl,q1⟩
def tIf (t:TT)(ta tb:TE):TE:=fun σ H Q=>t σ H fun c H1=>if c=true then ta σ H1 Q else tb σ H1 Q
def xE (hc:PT X c tA)(ha:PE X a ta)(hb:PE X b tb):PE X (.IfExp c a b pos) (tIf tA ta tb):=by
 intro pins s σ H Q I h;refine wpAny_IfExp (cF (hc pins s σ H _ I h) fun d s1 ⟨H1,I1,q1⟩=>?_);cases d with
 | true=>exact ha pins s1 σ H1 Q I1 q1
 | false=>exact hb pins s1 σ H1 Q I1 q1
end
def aT (K:Frag)(H:Hp)(a:abA)(xs:ζ):Prop:=
 Rd H a (.lst xs)\/
  ∃(o:Obj)(its:Μ)(n:Nat),K.lookup a=some o/\o.cls=.type "list"/\o.dict=none/\o.data=.seq its n/\its.size<=abE/\Vals xs its.toList
def bQ (K:Frag)(H:Hp)(a:abA)(xs:ζ):Prop:=
 Rd H a (.tup xs)\/
  ∃(o:Obj)(its:Μ)(n:Nat),K.lookup a=some o/\o.cls=.type "tuple"/\o.data=.seq its n/\its.size<=abE/\Vals xs its.toList
noncomputable def afD:Value->Option V
 | .none=>some .cT
 | .bool b=>some (.bl b)
 | .int i _=>some (.int i)
 | .str x _=>some (.str x)
 | .bytes b _=>some (.byt b)
 | .float b _=>some (.Uu b)
 | .ref a=>some (.ref a)
 | .type n=>some (.ty n)
 | _=>none
def RelV.abs (r:RelV x u):afD u=some x:=by
 cases x with
 | cT=>cases r;rfl
 | bl _=>cases r;rfl
 | int _=>obtain ⟨t,rfl⟩:=r;rfl
 | str _=>obtain ⟨t,rfl⟩:=r;rfl
 | byt _=>obtain ⟨t,rfl⟩:=r;rfl
 | Uu _=>obtain ⟨t,rfl⟩:=r;rfl
 | ref _=>cases r;rfl
 | ty _=>cases r;rfl
def RelV.inj (r:RelV x u)(q:RelV y u):x=y:=aen (r.abs.symm.trans q.abs)
theorem Vals.inj:∀{xs ys:ζ} {us:ρ},Vals xs us->Vals ys us->xs=ys
 | _,_,_,.nil,.nil=>rfl
 | _,_,_,.cons r t,.cons r' t'=>by rw [r.inj r',Vals.inj t t']
section
variable {X:Cx}{pins:ε}{σ:St}{H:Hp}{s:abH}{a:abA}{xs ys:ζ}
def aT.of {K:Frag}(h:H a=some (.lst xs)):aT K H a xs:=.inl (.inl h)
def bQ.of {K:Frag}(h:H a=some (.tup xs)):bQ K H a xs:=.inl (.inl h)
def Inv.list (I:Inv X pins σ H s)(h:aT X.K H a xs):∃its:List Value,Vals xs its/\PlainL s.heap a its.toArray/\xs.length<=abE:=by
 rcases h with h|⟨o,its,n,hk,hc,hd,hs,hz,r⟩
 ·obtain ⟨z,its,n,r,e⟩:=h.ok I.bM
  exact ⟨its,r,⟨_,n,e,rfl,rfl,rfl⟩,z⟩
 ·refine ⟨its.toList,r,⟨o,n,I.kN a o hk,hc,hd,by simpa using hs⟩,?_⟩
  have e:=r.length;simp only [ah_] at e;omega
def Inv.tuple (I:Inv X pins σ H s)(h:bQ X.K H a xs):∃its:List Value,Vals xs its/\IsTup s.heap a its.toArray/\xs.length<=abE:=by
 rcases h with h|⟨o,its,n,hk,hc,hs,hz,r⟩
 ·obtain ⟨z,its,r,p⟩:=h.ok I.bM
  exact ⟨its,r,p,z⟩
 ·refine ⟨its.toList,r,⟨o,I.kN a o hk,hc,n,by simpa using hs⟩,?_⟩
  have e:=r.length;simp only [ah_] at e;omega
def Inv.iN (I:Inv X pins σ H s)(h:aT X.K H a xs)(h':aT X.K H a ys):xs=ys:=by
 obtain ⟨its,r,⟨o,n,e,_,_,d⟩,_⟩:=I.list h;obtain ⟨its',r',⟨o',n',e',_,_,d'⟩,_⟩:=I.list h';rw [e] at e';cases e';rw [d] at d';injection d' with d1 _
 have:its=its':=by simpa using abR aou d1
 subst this;exact r.inj r'
def Inv.iO (I:Inv X pins σ H s)(h:bQ X.K H a xs)(h':bQ X.K H a ys):xs=ys:=by
 obtain ⟨its,r,⟨o,e,_,n,d⟩,_⟩:=I.tuple h;obtain ⟨its',r',⟨o',e',_,n',d'⟩,_⟩:=I.tuple h';rw [e] at e';cases e';rw [d] at d';injection d' with d1 _
 have:its=its':=by simpa using abR aou d1
 subst this;exact r.inj r'
end
abbrev Cx.tu (X:Cx)(E:δ):Cx:={X with xe:=E}
abbrev Cx.xw (X:Cx):Cx:=X.tu fun _ _=>False
def Cx.Ok.tu {X:Cx}(ok:X.Ok)(E:δ):(X.tu E).Ok:=
 ⟨ok.mod,ok.kind,ok.glob,ok.blt,ok.above,ok.inj,ok.has,ok.XN,ok.hd,ok.frames,ok.SN,ok.exf,ok.bs,ok.P0,ok.LJ,ok.P1,ok.pG,ok.Ux⟩
def Cx.Ok.jz {X:Cx}(ok:(X.tu E).Ok):X.Ok:=
 ⟨ok.mod,ok.kind,ok.glob,ok.blt,ok.above,ok.inj,ok.has,ok.XN,ok.hd,ok.frames,ok.SN,ok.exf,ok.bs,ok.P0,ok.LJ,ok.P1,ok.pG,ok.Ux⟩
section
variable {X:Cx}{pins:ε}{σ:St}{H:Hp}{s:abH}{E:δ}
def Inv.tu (I:Inv X pins σ H s)(E:δ):Inv (X.tu E) pins σ H s:=⟨I.ok.tu E,I.os,I.bare,I.base,I.loc,I.cell,I.free,I.iM,I.pin,I.bM,I.len⟩
def Inv.jz (I:Inv (X.tu E) pins σ H s):Inv X pins σ H s:=⟨I.ok.jz,I.os,I.bare,I.base,I.loc,I.cell,I.free,I.iM,I.pin,I.bM,I.len⟩
def SP.jz (h:SP (X.tu E) pins D f s'):SP X pins D f s':=by
 cases f with
 | next=>obtain ⟨σ',H',I,q⟩:=h;exact ⟨σ',H',I.jz,q⟩
 | brk=>obtain ⟨σ',H',I,q⟩:=h;exact ⟨σ',H',I.jz,q⟩
 | cont=>obtain ⟨σ',H',I,q⟩:=h;exact ⟨σ',H',I.jz,q⟩
 | ret u=>obtain ⟨v,σ',H',I,r,q⟩:=h;exact ⟨v,σ',H',I.jz,r,q⟩
def PSs.xw {st:List Stmt}(h:PSs X.xw st t):PSs X st t:=fun pins s σ H D I hw=>
 ab4 (h pins s σ H D (I.tu _) hw) (fun _ _ q=>q.jz) fun _ _ z=>False.elim z
end
section
variable {X:Cx}{st:Stmt}{rest:List Stmt}{t u:TS}{e:Expr}{te:TE}{pos:Pos}
def XS:TS:=fun D σ H=>D.nx σ H
def XT (t u:TS):TS:=fun D σ H=>t {D with nx:=u D} σ H
def aQ:PSs X [] XS:=fun _ _ σ H _ I h=>aiH ⟨σ,H,I,h⟩
def aa (h1:PS X st t)(h2:PSs X rest u):PSs X (st::rest) (XT t u):=by
 intro pins s σ H D I h;refine wpAny_execs_cons (cF (h1 pins s σ H {D with nx:=u D} I h) fun f s1 q=>?_);cases f with
 | next=>
  obtain ⟨σ',H',I',q⟩:=q;exact h2 pins s1 σ' H' D I' q
 | ret v=>exact q
 | brk=>exact q
 | cont=>exact q
def ag (h1:PS X st t):PSs X [st] t:=by
 intro pins s σ H D I h;refine wpAny_execs_cons (cF (h1 pins s σ H D I h) fun f s1 q=>?_);cases f with
 | next=>exact aiH q
 | ret v=>exact q
 | brk=>exact q
 | cont=>exact q
def XU:TS:=fun D σ H=>D.ct σ H
def xF:PS X (.Continue pos) XU:=fun _ _ σ H _ I h=>wpAny_Continue ⟨σ,H,I,h⟩
def Inv.quiet {σ:St}(I:Inv X pins σ H s):interactive X.env=false:=by simp [interactive,I.ok.kind]
def XW (te:TE):TS:=fun D σ H=>te σ H fun _ H1=>D.nx σ H1
def bN (he:PE X e te)(hs:adv e none pos.line X.env=pure false:=by rfl):PS X (.Expr e pos) (XW te):=by
 intro pins s σ H D I h;exact wpAny_Expr_any (cF (he pins s σ H _ I h) fun v s1 ⟨x,H1,I1,r1,q1⟩=>⟨σ,H1,I1,q1⟩) I.quiet hs
def afE (te:TE):TS:=fun D σ H=>te σ H D.rt
def aC (he:PE X e te):PS X (.Return (some e) pos) (afE te):=by
 intro pins s σ H D I h;exact wpAny_Return_some (cF (he pins s σ H _ I h) fun v s1 ⟨x,H1,I1,r1,q1⟩=>⟨x,σ,H1,I1,r1,q1⟩)
def afF (c:TT)(t u:TS):TS:=fun D σ H=>c σ H fun b H1=>if b=true then t D σ H1 else u D σ H1
def bu (hc:PT X c tc)(ha:PSs X a t)(hb:PSs X b u):PS X (.If c a b pos) (afF tc t u):=by
 intro pins s σ H D I h;refine wpAny_If (cF (hc pins s σ H _ I h) fun d s1 ⟨H1,I1,q1⟩=>?_);cases d with
 | true=>exact ha pins s1 σ H1 D I1 q1
 | false=>exact hb pins s1 σ H1 D I1 q1
def UA:TS:=fun _ _ _=>False
def c6:PS X st UA:=fun _ _ _ _ _ _ h=>h.elim
end
abbrev TG:=V->St->Hp->(St->Hp->Prop)->Prop
abbrev SS:=List V->St->Hp->(St->Hp->Prop)->Prop
def PG (X:Cx)(target:Expr)(t:TG):Prop:=
 ∀(pins:ε)(s:abH)(σ:St)(H:Hp)(v:V)(u:Value)(Q:St->Hp->Prop),Inv X pins σ H s->RelV v u->t v σ H Q->
  abG (abK X.prog X.w) X.A (assign target X.env u) (fun _ s'=>∃σ' H',Inv X pins σ' H' s'/\Q σ' H') X.xe s
def XX (X:Cx)(ts:Ζ)(t:SS):Prop:=
 ∀(pins:ε)(s:abH)(σ:St)(H:Hp)(vs:ζ)(us:ρ)(Q:St->Hp->Prop),Inv X pins σ H s->Vals vs us->t vs σ H Q->
  abG (abK X.prog X.w) X.A (assignInOrder ((adx ts X.env).map (·.2)) us) (fun _ s'=>∃σ' H',Inv X pins σ' H' s'/\Q σ' H') X.xe s
abbrev UB:=V->V->V->Hp->(Hp->Prop)->Prop
def XY (X:Cx)(t:UB):Prop:=
 ∀(pins:ε)(s:abH)(σ:St)(H:Hp)(o i v:V)(ov iv u:Value)(Q:Hp->Prop),Inv X pins σ H s->RelV o ov->RelV i iv->RelV v u->t o i v H Q->
  abG (abK X.prog X.w) X.A (setItem ov iv u) (fun _ s'=>∃H',Inv X pins σ H' s'/\Q H') X.xe s
section
variable {X:Cx}{pos:Pos}
def c_ (i:Nat):TG:=fun v σ H Q=>Q (σ.set i (some v)) H
def gG (hN:X.N.Nodup)(hi:X.N[i]?=some x)(hx:Loc X.env.scope x)(hf:X.fn x=true\/X.env.scope.names.lookup x=some .local:=by first|exact .inl rfl|exact .inr rfl|assumption):PG X (.Name x pos) (c_ i):=by
 intro pins s σ H v u Q I r h;exact wpAny_assign_Name (lX I hN hi hx r (fun s' I'=>⟨_,H,I',h⟩) hf)
def UC:SS:=fun vs σ H Q=>vs=[]/\Q σ H
def xG (t:TG)(u:SS):SS:=fun vs σ H Q=>∃v r,vs=v::r/\t v σ H fun σ' H'=>u r σ' H' Q
def cX:XX X [] UC:=by
 intro pins s σ H vs us Q I r h;obtain ⟨e,h⟩:=h;subst e;cases r;exact assignInOrder_nil ⟨σ,H,I,h⟩
def a_ (h1:PG X e t)(h2:XX X es u)
  (hs:(adx (e::es) X.env).map (·.2)=assign e X.env::(adx es X.env).map (·.2):=by rfl):XX X (e::es) (xG t u):=by
 intro pins s σ H vs us Q I r h;obtain ⟨v,vr,e1,h⟩:=h;subst e1;cases r with
 | cons r rr=>
  rw [hs];refine assignInOrder_cons (cF (h1 pins s σ H _ _ _ I r h) fun _ s1 ⟨σ1,H1,I1,q1⟩=>?_);exact h2 pins s1 σ1 H1 _ _ Q I1 rr q1
inductive LK (K:Frag)(n:Nat)(t:SS)(v:V)(σ:St)(H:Hp)(Q:(St->Hp->Prop)):Prop
|mk (a xs:_)(_:v=.ref a)(_:bQ K H a xs)(_:xs.length=n)(_:t xs σ H Q)
def fE {k:Nat}(hc:X.calm=true)(h:XX X es t)
  (hn:(adx es X.env).length=n:=by rfl) (P7:(adx es X.env).findIdx? (·.1)=none:=by rfl):PG X (.Tuple es k pos) (LK X.K n t):=by
 intro pins s σ H v u Q I r hw;obtain ⟨a,xs,e1,hq,hl,hw⟩:=hw;subst e1;cases r;obtain ⟨its,rv,ht,hz⟩:=I.tuple hq;refine assign_Tuple_tuple (I.ok.hd hc) ht (by simp [hn,<-hl,rv.length]) P7 fun h' hx=>?_;have I1:Inv X pins σ H {s with heap:=h'}:=I.kept (t':=s.toks) fun b o e=>hx b o (aew (abJ e)) e;exact h pins _ σ H xs _ Q I1 (by simpa using rv) hw
def afG (to ti:TE)(t:UB):TG:=fun v σ H Q=>to σ H fun o H1=>ti σ H1 fun i H2=>t o i v H2 fun H3=>Q σ H3
def AG (ho:PE X o to)(hi:PE X i ti)(hs:XY X t)
  (ha:∀v,assign (.Subscript o i pos) X.env v=(do
   let ov <- holding [v] (abW o X.env);let iv <- holding [v,ov] (abW i X.env)
   standAt pos
   holding [v,ov,iv] (setItem ov iv v)
   release [v,ov,iv] []):=by intro _;rfl):PG X (.Subscript o i pos) (afG to ti t):=by
 intro pins s σ H v u Q I r h;rw [ha];refine abz (ace (cF (ho pins s σ H _ I h) fun ov s1 ⟨x,H1,I1,r1,q1⟩=>?_));refine abz (ace (cF (hi pins s1 σ H1 _ I1 q1) fun iv s2 ⟨y,H2,I2,r2,q2⟩=>?_));refine abz (wpAny_standAt (abz (ace (cF (hs pins s2 σ H2 x y v ov iv u _ I2 r1 r2 r q2) fun _ s3 ⟨H3,I3,q3⟩=>?_))));exact wpAny_release ⟨σ,H3,I3,q3⟩
def AH (te:TE)(g:TG):TS:=fun D σ H=>te σ H fun x H1=>g x σ H1 D.nx
def vc (he:PE X e te)(hg:PG X tg g)(hs:swapsWithSole [tg] e pos.line X.env=pure false:=by rfl)(hw:swappedStores [tg] e X.env=pure none:=by rfl)
  (h1:(adx [tg] X.env).map (·.2)=[assign tg X.env]:=by rfl):PS X (.Assign [tg] e pos) (AH te g):=by
 intro pins s σ H D I h;refine wpAny_Assign_stores (cF (he pins s σ H _ I h) fun v s1 ⟨x,H1,I1,r1,q1⟩=>?_) hs hw;rw [h1];exact cF (hg pins s1 σ H1 x v _ I1 r1 q1) fun _ s2 q=>q
def UD (hN:X.N.Nodup)(hi:X.N[i]?=some x)(hx:Loc X.env.scope x)(he:PE X e te)(hs:adv e (some (.Name x pos')) pos.line X.env=pure false:=by rfl)(hf:X.fn x=true\/X.env.scope.names.lookup x=some .local:=by first|exact .inl rfl|exact .inr rfl|assumption):
  PS X (.Assign [.Name x pos'] e pos) (AH te (c_ i)):=by
 intro pins s σ H D I h;refine wpAny_Assign_Name (cF (he pins s σ H _ I h) fun v s1 ⟨y,H1,I1,r1,q1⟩=>?_) hs;exact lX I1 hN hi hx r1 (fun s2 I2=>⟨_,H1,I2,q1⟩) hf
inductive SU (i:Nat)(j:Nat)(D:Ends)(σ:St)(vs:ζ)(H1:Hp):Prop
|mk (v w:_)(_:vs=[v,w])(_:D.nx ((σ.set i (some v)).set j (some w)) H1)
def afH (i j:Nat)(ta:TA):TS:=fun D σ H=>ta σ H fun vs H1=>SU i j D σ vs H1
def UE (hc:X.calm=true)(hN:X.N.Nodup)(hi:X.N[i]?=some x)(hj:X.N[j]?=some y)(hij:i≠j)
  (hx:X.env.scope.names.lookup x=some .local) (hy:X.env.scope.names.lookup y=some .local) (ha:PA X [a,b] ta)
  (hw:swappedStores [.Tuple [.Name x px,.Name y py] kt pt] (.Tuple [a,b] k2 pt2) X.env=pure (some [x,y]))
  (hs:swapsWithSole [.Tuple [.Name x px,.Name y py] kt pt] (.Tuple [a,b] k2 pt2) pos.line X.env=pure false:=by rfl):
  PS X (.Assign [.Tuple [.Name x px,.Name y py] kt pt] (.Tuple [a,b] k2 pt2) pos) (afH i j ta):=by
 intro pins s σ H D I h;rw [exec_Assign_arm];refine abz (wpAny_standAt ?_);rw [hs];refine abz (abF ?_);rw [abB (by decide)];refine abz (Tuple_ (cF (ha _ pins s σ H _ I h) fun us s1 ⟨vs,H1,I1,r1,q1⟩=>?_));obtain ⟨v,w,e1,q1⟩:=q1;subst e1
 obtain ⟨u1,u2,rfl,rv,pI⟩:∃u1 u2,us=[u1,u2]/\RelV v u1/\RelV w u2:=by
  cases r1 with
  | cons p q=>
   cases q with
   | cons p' q'=>
    cases q';exact ⟨_,_,rfl,p,p'⟩
 refine acK ?_ (by show 2<=abE;decide);have I2:Inv X pins σ H1 {s1 with heap:=s1.heap.push {cls:=.type "tuple",data:=.seq [u1,u2].toArray}}:=I1.kept (t':=s1.toks) fun b o e=>abD _ e;rw [hw];refine abz (abF ?_);show abG (abK X.prog X.w) X.A (do rule "assign.swapped-stores";let items <- unpackItems (.ref s1.heap.objs.size) 2 none;assignInOrder [fun v=>bindName X.env y v,fun v=>bindName X.env x v] items.reverse;pure Flow.next) _ _ _;refine abz (wpAny_rule (abz (unpackItems_tuple (items:= #[u1,u2]) (I.ok.hd hc) (IsTup.new s1.heap _) fun h' OT =>?_)));have I3:=I2.kept (h':=h') (t':=s1.toks) fun b o e=>OT b o (aew (abJ e)) e;show abG _ _ (assignInOrder [fun v=>bindName X.env y v,fun v=>bindName X.env x v] [u2,u1] >>=fun _=>pure Flow.next) _ _ _;refine abz (assignInOrder_cons (wpAny_bindName (lX I3 hN hj (.inl hy) pI (fun s2 I4=>?_) (.inr hy))));refine assignInOrder_cons (wpAny_bindName (lX I4 hN hi (.inl hx) rv (fun s3 I5=>assignInOrder_nil (abF ?_)) (.inr hx)));rw [List.set_comm _ _ (aeD hij)] at I5;exact ⟨_,H1,I5,q1⟩
def LL (c:TT)(tb:TS):TS:=fun D σ H=>∃W:Nat->St->Hp->Prop,(∃m,W m σ H)/\∀m σ H,W m σ H->
 c σ H fun b H1=>if b=true then ∃N:St->Hp->Prop,(∀σ' H',N σ' H' ->∃m',m'<m/\W m' σ' H')/\tb {D with nx:=N,ct:=N,bk:=D.nx} σ H1 else D.nx σ H1
def qF (hp:PassesOwn (abK X.prog X.w) X.A X.env X.xe)(hc:PT X c tc)(hb:PSs X body tb):PS X (.While c body [] pos) (LL tc tb):=by
 intro pins s σ H D I h;obtain ⟨W,⟨m0,w0⟩,turn⟩:=h;refine wpAny_While (codeAny_whileLoop (fun n s'=>∃σ' H',Inv X pins σ' H' s'/\W n σ' H') ?_ m0 ⟨σ,H,I,w0⟩);rintro n s1 ⟨σ1,H1,I1,w1⟩;refine acH hp (cF (hc pins s1 σ1 H1 _ I1 (turn n σ1 H1 w1)) fun b s2 ⟨H2,I2,q2⟩=>?_);cases b with
 | true=>
  obtain ⟨N,hN,q2⟩:=q2;rw [abC rfl];refine acH hp (cF (hb pins s2 σ1 H2 _ I2 q2) fun f s3 q3=>?_);cases f with
  | next=>
   obtain ⟨σ3,H3,I3,n3⟩:=q3;obtain ⟨m',hm,w3⟩:=hN σ3 H3 n3;exact ⟨m',hm,σ3,H3,I3,w3⟩
  | cont=>
   obtain ⟨σ3,H3,I3,n3⟩:=q3;obtain ⟨m',hm,w3⟩:=hN σ3 H3 n3;exact ⟨m',hm,σ3,H3,I3,w3⟩
  | brk=>exact q3
  | ret v=>exact q3
 | false=>
  rw [abB aem];exact aiH ⟨σ1,H2,I2,q2⟩
end
structure It where
 go:Nat->Hp->Prop
 DN:Nat->Hp->V->Hp->Prop
 stop:Nat->Hp->Prop
def m9 (X:Cx)(pins:ε)(H:Hp)(b:abA):Prop:=
 H b=none/\b≠X.env.locals/\b∉X.fs/\(b∈X.ex\/X.s₀.heap.objs.size<=b)/\(∀x c,X.env.cells.lookup x=some c->c≠b)/\∀p∈X.pn++pins,p.1≠b
def Inv.m_ {σ:St}{b:abA}(I:Inv X pins σ H s)(hb:s.heap.objs.size<=b)(hn:H' b=none):m9 X pins H' b:=by
 refine ⟨hn,afz (aep I.lt hb),I.afv hb,.inr (aay I.sz hb),fun x c e z=>?_,fun p hp z=>?_⟩
 ·obtain ⟨v,q⟩:=I.cell x c e
  exact abM (aep q.lt (by rw [z];exact hb)) (aeY _)
 ·exact abM (aep (abJ (I.pin p hp).1) (by rw [z];exact hb)) (aeY _)
structure Turn (P:abQ)(w:World)(K:Frag)(tg:Expr)(J:It)(fp:ω)(it:abA)(tn:Nat->Heap->Prop):Prop where
 mem:it∈fp
 obj:∀i h,tn i h->∀b∈fp,∃o,h.get? b=some o/\∀v,o.data≠.cell v
 keep:∀i h h',tn i h->(∀b∈fp,∀o,h.get? b=some o->h'.get? b=some o)->tn i h'
 item:∀(X:Cx),X.prog=P->X.w=w->X.K=K->X.calm=true->∀(i:Nat)(pins:ε)(s:abH)(σ:St)(H:Hp)(E:δ),Inv X pins σ H s->(∀b∈fp,m9 X pins H b)->tn i s.heap->J.go i H->
  abG (abK P w) X.A (acS (.ref it)) (fun r s1=>∃u,r=some u/\
   abG (abK P w) X.A (aiI tg (.ref it) u) (fun _ s2=>∃x H',Inv X pins σ H' s2/\RelV x u/\J.DN i H x H'/\tn (i+1) s2.heap/\∀b∈fp,H' b=none) E s1) E s
 done:∀(X:Cx),X.prog=P->X.w=w->X.K=K->X.calm=true->∀(i:Nat)(pins:ε)(s:abH)(σ:St)(H:Hp)(E:δ),Inv X pins σ H s->(∀b∈fp,m9 X pins H b)->tn i s.heap->J.stop i H->
  abG (abK P w) X.A (acS (.ref it)) (fun r s1=>r=none/\Inv X pins σ H s1) E s
 self:∀(A:abV)(i:Nat)(s:abH)(Q:δ)(E:δ),tn i s.heap->Q (.ref it) s->abG (abK P w) A (pyIter (.ref it)) Q E s
abbrev TI:=St->Hp->(It->Hp->Prop)->Prop
def PIE (X:Cx)(pins:ε)(σ:St)(tg:Expr)(R:It->Hp->Prop)(itv:Value)(s2:abH):Prop:=
 ∃(it:abA)(fp:ω)(tn:Nat->Heap->Prop)(J:It)(H':Hp),itv=.ref it/\Inv X pins σ H' s2/\Turn X.prog X.w X.K tg J fp it tn/\tn 0 s2.heap/\(∀b∈fp,m9 X pins H' b)/\R J H'
def PI (X:Cx)(tg iter:Expr)(wi:TI):Prop:=
 ∀(pins:ε)(s:abH)(σ:St)(H:Hp)(R:It->Hp->Prop),Inv X pins σ H s->wi σ H R->
  abG (abK X.prog X.w) X.A (abW iter X.env) (fun v s1=>abG (abK X.prog X.w) X.A (pyIter v) (PIE X pins σ tg R) X.xe s1) X.xe s
def DO            (ho : s.heap.get? it = some o) (hc : o.cls = .type n) (hd : o.data = .fields vs)
    (hn : ["enumerate", "zip", "dict_itemiterator", "dict_reverseitemiterator", "odict_iterator", "itertools.zip_longest", "itertools.pairwise"].contains n = false) (hQ : Q () s) : abG M A (aiI tg (.ref it) u) Q E s := by
  unfold aiI
  cases tg<;>first
    | exact abF hQ
    | (cases u<;>first
        | exact abF hQ
        | (refine abz (wpAny_load ho ?_)
           rw [hc, hd];show abG M A (if (["enumerate", "zip", "dict_itemiterator", "dict_reverseitemiterator", "odict_iterator", "itertools.zip_longest", "itertools.pairwise"].contains n && vs[0]? == some (acm _)) = true then _ else _) Q E s;rw [abB (by intro h; rw [hn, Bool.false_and] at h; cases h)]
           exact abF hQ))
def P8 (K:Frag)(a:abA):It:=
 ⟨fun i H=>∃xs x,aT K H a xs/\xs[i]?=some x,fun i H x H'=>H'=H/\∀xs,aT K H a xs->xs[i]?=some x,fun i H=>∃xs,aT K H a xs/\xs.length<=i⟩
def XZ (K:Frag)(a:abA):It:=
 ⟨fun i H=>∃xs x,bQ K H a xs/\xs[i]?=some x,fun i H x H'=>H'=H/\∀xs,bQ K H a xs->xs[i]?=some x,fun i H=>∃xs,bQ K H a xs/\xs.length<=i⟩
def SV (lo:Int)(n:Nat):It:=⟨fun i _=>i<n,fun i H x H'=>H'=H/\x=.int (lo+i),fun i _=>n<=i⟩
def GZ {K:Frag}(a it:abA):Turn P w K tg (P8 K a) [it] it (fun i h=>h.IsListIter it a i) where
 mem:=by simp
 obj:=fun i h st b hb=>by
  have e:b=it:=by simpa using hb
  subst e;obtain ⟨o,e,c,d⟩:=st;exact ⟨o,e,fun v z=>by rw [d] at z;cases z⟩
 keep:=fun i h h' st k=>st.at fun o e=>k it (by simp) o e
 item:=by
  intro X hP hw hK hc i pins s σ H E I hf st hg;subst hP hw hK;obtain ⟨xs,x,hq,hx⟩:=hg;obtain ⟨its,rv,p,hz⟩:=I.list hq;obtain ⟨u,hu,ru⟩:=rv.get hx;obtain ⟨f0,f1,f2,f3,f4,f5⟩:=hf it (by simp);refine wpAny_pyNext_list_item st p.isList (x:=u) (by simpa using hu) fun h' DP sb=>?_;have I1:Inv X pins σ H {s with heap:=h'}:=I.turned (t':=s.toks) (fun b o hb e=>(sb.2 b hb).trans e) f0 f1 f3 f4 f5;obtain ⟨o,e,c,d⟩:=id DP;exact ⟨u,rfl,DO (s:={s with heap:=h'}) e c d (by decide) ⟨x,H,I1,ru,⟨rfl,fun ys hy=>by rw [I.iN hy hq];exact hx⟩,DP,fun b hb=>(hf b hb).1⟩⟩
 done:=by
  intro X hP hw hK hc i pins s σ H E I hf st hg;subst hP hw hK;obtain ⟨xs,hq,hx⟩:=hg;obtain ⟨its,rv,p,hz⟩:=I.list hq;obtain ⟨f0,f1,f2,f3,f4,f5⟩:=hf it (by simp);have hl:=rv.length;exact wpAny_pyNext_list_end (I.ok.hd hc) st p.isList (by simp;omega) fun h' eb=>⟨rfl,I.turned (t':=s.toks) (fun b o hb e=>eb b o hb e) f0 f1 f3 f4 f5⟩
 self:=fun _ _ _ _ _ st h=>wpAny_pyIter_listiter st h
def AI {K:Frag}(a it:abA):Turn P w K tg (XZ K a) [it] it (fun i h=>h.IsTupleIter it a i) where
 mem:=by simp
 obj:=fun i h st b hb=>by
  have e:b=it:=by simpa using hb
  subst e;obtain ⟨o,e,c,d⟩:=st;exact ⟨o,e,fun v z=>by rw [d] at z;cases z⟩
 keep:=fun i h h' st k=>st.at fun o e=>k it (by simp) o e
 item:=by
  intro X hP hw hK hc i pins s σ H E I hf st hg;subst hP hw hK;obtain ⟨xs,x,hq,hx⟩:=hg;obtain ⟨its,rv,p,hz⟩:=I.tuple hq;obtain ⟨u,hu,ru⟩:=rv.get hx;obtain ⟨f0,f1,f2,f3,f4,f5⟩:=hf it (by simp);refine wpAny_pyNext_tuple_item st (show s.heap.IsTuple a its.toArray from p) (x:=u) (by simpa using hu) fun h' DP sb=>?_;have I1:Inv X pins σ H {s with heap:=h'}:=I.turned (t':=s.toks) (fun b o hb e=>(sb.2 b hb).trans e) f0 f1 f3 f4 f5;obtain ⟨o,e,c,d⟩:=id DP;exact ⟨u,rfl,DO (s:={s with heap:=h'}) e c d (by decide) ⟨x,H,I1,ru,⟨rfl,fun ys hy=>by rw [I.iO hy hq];exact hx⟩,DP,fun b hb=>(hf b hb).1⟩⟩
 done:=by
  intro X hP hw hK hc i pins s σ H E I hf st hg;subst hP hw hK;obtain ⟨xs,hq,hx⟩:=hg;obtain ⟨its,rv,p,hz⟩:=I.tuple hq;obtain ⟨f0,f1,f2,f3,f4,f5⟩:=hf it (by simp);have hl:=rv.length;exact wpAny_pyNext_tuple_end (I.ok.hd hc) st (show s.heap.IsTuple a its.toArray from p) (by simp;omega) fun h' eb=>⟨rfl,I.turned (t':=s.toks) (fun b o hb e=>eb b o hb e) f0 f1 f3 f4 f5⟩
 self:=fun _ _ _ _ _ st h=>wpAny_pyIter_tupleiter st h
def AJ {K:Frag}(it:abA)(lo:Int)(n:Nat):Turn P w K tg (SV lo n) [it] it (fun i h=>IsRangeIter h it (lo+(i:Nat)*1) ((n:Int)-(i:Nat)) 1) where
 mem:=by simp
 obj:=fun i h st b hb=>by
  have e:b=it:=by simpa using hb
  subst e
  exact ⟨_,st,fun v z=>by
   have z':Data.fields _=Data.cell v:=z
   cases z'⟩
 keep:=fun i h h' st k=>k it (by simp) _ st
 item:=by
  intro X hP hw hK hc i pins s σ H E I hf st hg;subst hP hw hK;obtain ⟨f0,f1,f2,f3,f4,f5⟩:=hf it (by simp);have W:=Walks.range (prog:=X.prog) (w:=X.w) (I.ok.hd hc) it lo 1 n;refine W.item i s _ _ hg st fun v h' tk hv DP kk=>?_;obtain ⟨t,rfl⟩:=hv;have I1:Inv X pins σ H {s with heap:=h',toks:=tk}:=I.turned (fun b o hb e=>kk b o (by simpa using hb) e) f0 f1 f3 f4 f5;refine ⟨_,rfl,DO (s:={s with heap:=h',toks:=tk}) (n:="range_iterator") DP rfl rfl (by decide) ⟨.int (lo+i),H,I1,⟨t,?_⟩,⟨rfl,rfl⟩,DP,fun b hb=>(hf b hb).1⟩⟩;rw [Int.mul_one]
 done:=by
  intro X hP hw hK hc i pins s σ H E I hf st hg;subst hP hw hK;obtain ⟨f0,f1,f2,f3,f4,f5⟩:=hf it (by simp);exact wpAny_pyNext_range_end (I.ok.hd hc) st (by have:n<=i:=hg;omega) fun h' eb=>⟨rfl,I.turned (t':=s.toks) (fun b o hb e=>eb b o hb e) f0 f1 f3 f4 f5⟩
 self:=fun _ _ _ _ _ st h=>wpAny_pyIter_rangeiter st h
section
variable {X:Cx}{tg:Expr}
inductive LM (K:Frag)(R:(It->Hp->Prop))(x:V)(H1:Hp):Prop
|mk (a:_)(_:x=.ref a)(_:(∃xs,aT K H1 a xs))(_:R (P8 K a) H1)
def X0 (K:Frag)(tl:TE):TI:=fun σ H R=>tl σ H fun x H1=>LM K R x H1
inductive SW (K:Frag)(R:(It->Hp->Prop))(x:V)(H1:Hp):Prop
|mk (a:_)(_:x=.ref a)(_:(∃xs,bQ K H1 a xs))(_:R (XZ K a) H1)
def afJ (K:Frag)(tl:TE):TI:=fun σ H R=>tl σ H fun x H1=>SW K R x H1
def bo (hl:PE X l tl):PI X tg l (X0 X.K tl):=by
 intro pins s σ H R I h;refine cF (hl pins s σ H _ I h) fun v s1 ⟨x,H1,I1,r1,q1⟩=>?_;obtain ⟨a,e,⟨xs,hq⟩,q⟩:=q1;subst e;cases r1;obtain ⟨its,rv,p,hz⟩:=I1.list hq;refine aie p.isList ?_;refine ⟨s1.heap.objs.size,[s1.heap.objs.size],_,_,H1,rfl,I1.kept (t':=s1.toks) fun b o e=>abD _ e,GZ a _,⟨_,abN _ rfl,rfl,rfl⟩,fun b hb=>?_,q⟩;have e:b=s1.heap.objs.size:=by simpa using hb
 subst e;exact I1.m_ (aaA _) (I1.bM.fresh (aaA _))
def UG (hl:PE X l tl):PI X tg l (afJ X.K tl):=by
 intro pins s σ H R I h;refine cF (hl pins s σ H _ I h) fun v s1 ⟨x,H1,I1,r1,q1⟩=>?_;obtain ⟨a,e,⟨xs,hq⟩,q⟩:=q1;subst e;cases r1;obtain ⟨its,rv,p,hz⟩:=I1.tuple hq;refine wpAny_pyIter_tuple (show s1.heap.IsTuple a its.toArray from p) ?_;refine ⟨s1.heap.objs.size,[s1.heap.objs.size],_,_,H1,rfl,I1.kept (t':=s1.toks) fun b o e=>abD _ e,AI a _,⟨_,abN _ rfl,rfl,rfl⟩,fun b hb=>?_,q⟩;have e:b=s1.heap.objs.size:=by simpa using hb
 subst e;exact I1.m_ (aaA _) (I1.bM.fresh (aaA _))
def LN {σ:St}{E:δ}{lo hi:Int}(I:Inv X pins σ H s)(h1: -(2^62)<=lo)(h2:lo<2^62)(h3: -(2^62)<=hi)(h4:hi<2^62)
  (q:R (SV lo (hi-lo).toNat) H):abG (abK X.prog X.w) X.A (pyIter (.ref s.heap.objs.size)) (PIE X pins σ tg R) E {s with heap:=s.heap.push {cls:=.type "range",data:=.fields #[.int lo t,.int hi u,.int 1 v]},toks:=tk}:=by
 refine wpAny_pyIter_range (IsRange.new ..) (small_one h1 h2 h3 h4) ?_;have I1:Inv X pins σ H {s with heap:=s.heap.push {cls:=.type "range",data:=.fields #[.int lo t,.int hi u,.int 1 v]},toks:=tk}:=I.kept fun b o e=>abD _ e
 refine ⟨(s.heap.push {cls:=.type "range",data:=.fields #[.int lo t,.int hi u,.int 1 v]}).objs.size,[(s.heap.push {cls:=.type "range",data:=.fields #[.int lo t,.int hi u,.int 1 v]}).objs.size],_,_,H,rfl,
  I1.kept (t':=tk) fun b o e=>abD _ e,AJ _ lo (hi-lo).toNat,?_,fun b hb=>?_,q⟩
 ·have e1:lo+((0:Nat):Int)*1=lo:=by simp
  have e2:(((hi-lo).toNat:Nat):Int)-((0:Nat):Int)=Builtin.Range.rangeSize lo hi 1:=by rw [rangeSize_one];split<;>omega
  show IsRangeIter _ _ (lo+((0:Nat):Int)*1) ((((hi-lo).toNat:Nat):Int)-((0:Nat):Int)) 1;rw [e1,e2];exact abN _ rfl
 ·have e:b=(s.heap.push {cls:=.type "range",data:=.fields #[.int lo t,.int hi u,.int 1 v]}).objs.size:=by simpa using hb
  subst e;exact I1.m_ (aaA _) (I1.bM.fresh (aaA _))
inductive LO (R:(It->Hp->Prop))(vs:ζ)(H1:Hp):Prop
|mk (j:Int)(_:vs=[.int j])(_: -(2^62)<=j)(_:j<2^62)(_:R (SV 0 j.toNat) H1)
def X1 (ta:TA):TI:=fun σ H R=>ta σ H fun vs H1=>LO R vs H1
def bY (hg:Gl X "range")(hm:X.mg "range"=none)(ha:PA X [a] ta)(hs:abP [a] X.env=[(false,abW a X.env)]:=by rfl):PI X tg (.Call (.Name "range" p) [a] [] pos) (X1 ta):=by
 intro pins s σ H R I h;refine Call_ (i6 I hg hm boot_range (ab8 (cF (ha pos pins s σ H _ I h) fun us s1 ⟨vs,H1,I1,r1,q1⟩=>?_) hs rfl));obtain ⟨j,e,q1,q2,q⟩:=q1;subst e;cases r1 with
 | cons r rr=>
  cases rr;obtain ⟨t,rfl⟩:=r;exact call_range_1 (LN I1 (by omega) (by omega) q1 q2 (by simpa using q))
def afK (wi:TI)(g:TG)(tb:TS):TS:=fun D σ H=>wi σ H fun J H1=>∃W:Nat->Nat->St->Hp->Prop,(∃m,W 0 m σ H1)/\∀i m σ H,W i m σ H->
 (J.stop i H/\D.nx σ H)\/(J.go i H/\∃N:St->Hp->Prop,(∀σ' H',N σ' H' ->∃m',m'<m/\W (i+1) m' σ' H')/\∀x H',J.DN i H x H' ->g x σ H' fun σ2 H2=>tb {D with nx:=N,ct:=N,bk:=D.nx} σ2 H2)
def qG (fp:ω)(h:Heap):List (abA×Obj):=fp.filterMap fun b=>(h.get? b).map fun o=>(b,o)
def i7 (hb:b∈fp)(e:h.get? b=some o):(b,o)∈qG fp h:=ag1.mpr ⟨b,hb,by rw [e];rfl⟩
def G_ (hp:p∈qG fp h):p.1∈fp/\h.get? p.1=some p.2:=by
 obtain ⟨b,hb,e⟩:=ag1.mp hp;cases q:h.get? b with
 | none=>rw [q] at e;cases e
 | some o=>
  rw [q] at e;have e':(b,o)=p:=aen e;subst e';exact ⟨hb,q⟩
def Inv.pinned {σ:St}(I:Inv X pins σ H s)(hf:∀b∈fp,m9 X pins H b)(ho:∀b∈fp,∃o,s.heap.get? b=some o/\∀v,o.data≠.cell v):Inv X (pins++qG fp s.heap) σ H s:=
 I.DM fun p hp=>(abj.mp hp).elim (fun z=>I.pin p (aeu _ z)) fun z=>by
  obtain ⟨hb,e⟩:=G_ z;obtain ⟨f0,f1,f2,_⟩:=hf p.1 hb;obtain ⟨o,e',d⟩:=ho p.1 hb;rw [e] at e';cases e';exact ⟨e,f0,f1,f2,d⟩
def Inv.jA {σ:St}(I:Inv X (pins++pl) σ H s):Inv X pins σ H s:=I.DM fun p hp=>I.pin p (aeu _ (aex _ hp))
def bq (hp:PassesOwn (abK X.prog X.w) X.A X.env X.xe)(hc:X.calm=true)(hi:PI X tg iter wi)(hg:PG X tg g)(hb:PSs X body tb)
  (hs:∀x,acj iter X.env x=pure x:=by intro _;rfl):PS X (.For tg iter body [] pos) (afK wi g tb):=by
 intro pins s σ H D I h;refine wpAny_For (cF (hi pins s σ H _ I h) fun v s1 h1=>cF h1 fun itv s2 h2=>?_) hs;obtain ⟨it,fp,tn,J,H2,e,I2,T,SX,f2,W,⟨m0,w0⟩,turn⟩:=h2;subst e;have stat:∀{H':Hp},(∀b∈fp,H' b=none)->∀b∈fp,m9 X pins H' b:=fun hn b hb=>⟨hn b hb,(f2 b hb).2⟩;refine codeAny_forLoop_any (fun n s'=>∃i σ' H',Inv X pins σ' H' s'/\tn i s'.heap/\(∀b∈fp,H' b=none)/\W i n σ' H') ?_ m0 ⟨0,σ,H2,I2,SX,fun b hb=>(f2 b hb).1,w0⟩;rintro n s3 ⟨i,σ3,H3,I3,zY,LP,w3⟩
 rcases turn i n σ3 H3 w3 with ⟨stop,qn⟩|⟨go,N,hN,step⟩
 ·refine acH hp (cF (T.done X rfl rfl rfl hc i pins s3 σ3 H3 X.xe I3 (stat LP) zY stop) fun r s4 ⟨hr,I4⟩=>?_)
  subst hr;exact aiH ⟨σ3,H3,I4,qn⟩
 ·refine acH hp (cF (T.item X rfl rfl rfl hc i pins s3 σ3 H3 X.xe I3 (stat LP) zY go) fun r s4 ⟨u,hr,h4⟩=>?_)
  subst hr;refine acH hp (cF h4 fun _ s5 ⟨x,H5,I5,r5,y5,W7,P9⟩=>?_);have I5':=I5.pinned (stat P9) (T.obj _ _ W7);refine acH hp (cF (hg _ s5 σ3 H5 x u _ I5' r5 (step x H5 y5)) fun _ s6 ⟨σ6,H6,I6,q6⟩=>?_);refine acH hp (cF (hb _ s6 σ6 H6 _ I6 q6) fun f s7 q7=>?_)
  have again:∀{σ7:St} {H7:Hp},Inv X (pins++qG fp s5.heap) σ7 H7 s7->N σ7 H7->∃m,m<n/\∃i σ' H',Inv X pins σ' H' s7/\tn i s7.heap/\(∀b∈fp,H' b=none)/\W i m σ' H':=fun {σ7 H7} I7 n7=>by
   obtain ⟨m',hm,w7⟩:=hN σ7 H7 n7;refine ⟨m',hm,i+1,σ7,H7,I7.jA,T.keep _ _ _ W7 fun b hb o e=>(I7.pin (b,o) (aeu _ (aeu _ (i7 hb e)))).1,fun b hb=>?_,w7⟩;obtain ⟨o,e,d⟩:=T.obj _ _ W7 b hb;exact (I7.pin (b,o) (aeu _ (aeu _ (i7 hb e)))).2.1
  cases f with
  | next=>obtain ⟨σ7,H7,I7,n7⟩:=q7;exact again I7 n7
  | cont=>obtain ⟨σ7,H7,I7,n7⟩:=q7;exact again I7 n7
  | brk=>obtain ⟨σ7,H7,I7,q7⟩:=q7;exact ⟨σ7,H7,I7.jA,q7⟩
  | ret v=>obtain ⟨x7,σ7,H7,I7,r7,q7⟩:=q7;exact ⟨x7,σ7,H7,I7.jA,r7,q7⟩
end
def bW {K:Frag}{g:TG}{tb:TS}{D:Ends}(Pv:Nat->St->Hp->Prop)(h0:Pv 0 σ H)(hl:∀i σ H,i<=xs.length->Pv i σ H->aT K H a xs)
  (hs:∀i x σ H,xs[i]?=some x->Pv i σ H->g x σ H fun σ2 H2=>tb {D with nx:=Pv (i+1),ct:=Pv (i+1),bk:=D.nx} σ2 H2) (hd:∀σ H,Pv xs.length σ H->D.nx σ H):
  ∃W:Nat->Nat->St->Hp->Prop,(∃m,W 0 m σ H)/\∀i m σ H,W i m σ H->
   ((P8 K a).stop i H/\D.nx σ H)\/((P8 K a).go i H/\∃N:St->Hp->Prop,(∀σ' H',N σ' H' ->∃m',m'<m/\W (i+1) m' σ' H')/\∀x H',(P8 K a).DN i H x H' ->g x σ H' fun σ2 H2=>tb {D with nx:=N,ct:=N,bk:=D.nx} σ2 H2):=by
 refine ⟨fun i m σ H=>m=xs.length-i/\i<=xs.length/\Pv i σ H,⟨xs.length,by simp,aeF _,h0⟩,?_⟩;rintro i m σ H ⟨rfl,hi,p⟩;have q:=hl i σ H hi p;by_cases jB:i<xs.length
 ·refine .inr ⟨⟨xs,xs[i],q,by simp [jB]⟩,Pv (i+1),fun σ' H' p'=>⟨xs.length-(i+1),by omega,rfl,jB,p'⟩,fun x H' y=>?_⟩
  obtain ⟨e,y⟩:=y;subst e;exact hs i x σ _ (y xs q) p
 ·have e:i=xs.length:=by omega
  subst e;exact .inl ⟨⟨xs,q,aaA _⟩,hd σ H p⟩
def P_ {K:Frag}{g:TG}{tb:TS}{D:Ends}(Pv:Nat->St->Hp->Prop)(h0:Pv 0 σ H)(hl:∀i σ H,i<=xs.length->Pv i σ H->bQ K H a xs)
  (hs:∀i x σ H,xs[i]?=some x->Pv i σ H->g x σ H fun σ2 H2=>tb {D with nx:=Pv (i+1),ct:=Pv (i+1),bk:=D.nx} σ2 H2) (hd:∀σ H,Pv xs.length σ H->D.nx σ H):
  ∃W:Nat->Nat->St->Hp->Prop,(∃m,W 0 m σ H)/\∀i m σ H,W i m σ H->
   ((XZ K a).stop i H/\D.nx σ H)\/((XZ K a).go i H/\∃N:St->Hp->Prop,(∀σ' H',N σ' H' ->∃m',m'<m/\W (i+1) m' σ' H')/\∀x H',(XZ K a).DN i H x H' ->g x σ H' fun σ2 H2=>tb {D with nx:=N,ct:=N,bk:=D.nx} σ2 H2):=by
 refine ⟨fun i m σ H=>m=xs.length-i/\i<=xs.length/\Pv i σ H,⟨xs.length,by simp,aeF _,h0⟩,?_⟩;rintro i m σ H ⟨rfl,hi,p⟩;have q:=hl i σ H hi p;by_cases jB:i<xs.length
 ·refine .inr ⟨⟨xs,xs[i],q,by simp [jB]⟩,Pv (i+1),fun σ' H' p'=>⟨xs.length-(i+1),by omega,rfl,jB,p'⟩,fun x H' y=>?_⟩
  obtain ⟨e,y⟩:=y;subst e;exact hs i x σ _ (y xs q) p
 ·have e:i=xs.length:=by omega
  subst e;exact .inl ⟨⟨xs,q,aaA _⟩,hd σ H p⟩
def cA {lo:Int}{g:TG}{tb:TS}{D:Ends}(Pv:Nat->St->Hp->Prop)(h0:Pv 0 σ H)
  (hs:∀i σ H,i<n->Pv i σ H->g (.int (lo+i)) σ H fun σ2 H2=>tb {D with nx:=Pv (i+1),ct:=Pv (i+1),bk:=D.nx} σ2 H2) (hd:∀σ H,Pv n σ H->D.nx σ H):
  ∃W:Nat->Nat->St->Hp->Prop,(∃m,W 0 m σ H)/\∀i m σ H,W i m σ H->
   ((SV lo n).stop i H/\D.nx σ H)\/((SV lo n).go i H/\∃N:St->Hp->Prop,(∀σ' H',N σ' H' ->∃m',m'<m/\W (i+1) m' σ' H')/\∀x H',(SV lo n).DN i H x H' ->g x σ H' fun σ2 H2=>tb {D with nx:=N,ct:=N,bk:=D.nx} σ2 H2):=by
 refine ⟨fun i m σ H=>m=n-i/\i<=n/\Pv i σ H,⟨n,by simp,aeF _,h0⟩,?_⟩;rintro i m σ H ⟨rfl,hi,p⟩;by_cases jB:i<n
 ·refine .inr ⟨jB,Pv (i+1),fun σ' H' p'=>⟨n-(i+1),by omega,rfl,jB,p'⟩,fun x H' y=>?_⟩
  obtain ⟨e,y⟩:=y;subst e y;exact hs i σ _ jB p
 ·have e:i=n:=by omega
  subst e;exact .inl ⟨aaA _,hd σ H p⟩
def xH (Pv:St->Hp->Prop)(μ:St->Hp->Nat)(h0:Pv σ H)
  (hs:∀σ H,Pv σ H->c σ H fun b H1=>if b=true then tb {D with nx:=fun σ' H'=>Pv σ' H'/\μ σ' H' < μ σ H,ct:=fun σ' H'=>Pv σ' H'/\μ σ' H' < μ σ H,bk:=D.nx} σ H1 else D.nx σ H1)
  (mono:∀σ H Q Q',(∀b H1,Q b H1->Q' b H1)->c σ H Q->c σ H Q'):LL c tb D σ H:=by
 refine ⟨fun m σ H=>m=μ σ H/\Pv σ H,⟨_,rfl,h0⟩,?_⟩;rintro m σ H ⟨rfl,p⟩;refine mono σ H _ _ (fun b H1 q=>?_) (hs σ H p);cases b with
 | true=>exact ⟨_,fun σ' H' ⟨p',l⟩=>⟨_,l,rfl,p'⟩,q⟩
 | false=>exact q
abbrev R2:=V->V->Hp->VK->Prop
def jX (X:Cx)(f:Value->Value->Sem Value)(r:R2):Prop:=
 ∀(pins:ε)(s:abH)(σ:St)(H:Hp)(x y:V)(v u:Value)(Q:VK),Inv X pins σ H s->RelV x v->RelV y u->r x y H Q->
  abG (abK X.prog X.w) X.A (f v u) (EP X pins σ Q) X.xe s
def UnR (X:Cx)(f:Value->Sem Value)(r:V->Hp->VK->Prop):Prop:=
 ∀(pins:ε)(s:abH)(σ:St)(H:Hp)(x:V)(v:Value)(Q:VK),Inv X pins σ H s->RelV x v->r x H Q->
  abG (abK X.prog X.w) X.A (f v) (EP X pins σ Q) X.xe s
def ie (X:Cx)(f:Value)(r:List V->Hp->VK->Prop):Prop:=
 ∀(pins:ε)(s:abH)(σ:St)(H:Hp)(xs:ζ)(us:ρ)(Q:VK),Inv X pins σ H s->Vals xs us->r xs H Q->
  abG (abK X.prog X.w) X.A (call f us) (EP X pins σ Q) X.xe s
def Qa (r:R2)(ta tb:TE):TE:=fun σ H Q=>ta σ H fun x H1=>tb σ H1 fun y H2=>r x y H2 Q
def tUn (r:V->Hp->VK->Prop)(ta:TE):TE:=fun σ H Q=>ta σ H fun x H1=>r x H1 Q
inductive rI (C:Int->Int->Prop)(g:Int->Int->V)(x:V)(y:V)(H:Hp)(Q:VK):Prop
|mk (i j:_)(_:x=.int i)(_:y=.int j)(_:C i j)(_:Q (g i j) H)
inductive Qb (g:Int->Int->V)(x:V)(y:V)(H:Hp)(Q:VK):Prop
|mk (i j:_)(_:x=.int i)(_:y=.int j)(_:Q (g i j) H)
inductive rU (g:Int->V)(x:V)(H:Hp)(Q:VK):Prop
|mk (i:_)(_:x=.int i)(_:Q (g i) H)
section
variable {X:Cx}{a b c:Expr}{ta tb tc:TE}{pos:Pos}
def UH (ha:PE X a ta)(hb:PE X b tb){σ:St}{R:V->V->Hp->Prop}(I:Inv X pins σ H s)
  (h:ta σ H fun x H1=>tb σ H1 fun y H2=>R x y H2) {Q:δ} {f:Value->Value->Sem Value}
  (hf:∀v u s2 x y H2,Inv X pins σ H2 s2->RelV x v->RelV y u->R x y H2->abG (abK X.prog X.w) X.A (f v u) Q X.xe s2):
  abG (abK X.prog X.w) X.A (abW a X.env) (fun v s₁=>abG (abK X.prog X.w) X.A (abW b X.env) (fun u s₂=>abG (abK X.prog X.w) X.A (f v u) Q X.xe s₂) X.xe s₁) X.xe s:=by
 refine cF (ha pins s σ H _ I h) fun v s1 ⟨x,H1,I1,r1,q1⟩=>?_;refine cF (hb pins s1 σ H1 _ I1 q1) fun u s2 ⟨y,H2,I2,r2,q2⟩=>?_;exact hf v u s2 x y H2 I2 r1 r2 q2
def ay (ho:jX X (acz op) r)(ha:PE X a ta)(hb:PE X b tb):PE X (.BinOp a op b pos) (Qa r ta tb):=by
 intro pins s σ H Q I h;exact wpAny_BinOp (UH ha hb I h fun v u s2 x y H2 I2 rx ry q=>ho pins s2 σ H2 x y v u Q I2 rx ry q)
def SY (ho:UnR X (unaryOp op) r)(ha:PE X a ta):PE X (.UnaryOp op a pos) (tUn r ta):=by
 intro pins s σ H Q I h;exact UnaryOp_ (cF (ha pins s σ H _ I h) fun v s1 ⟨x,H1,I1,r1,q1⟩=>ho pins s1 σ H1 x v Q I1 r1 q1)
def X2 {g:Int->Int->Int}
  (rule:∀(i j:Int)(t u:Tok)(s:abH)(Q:δ)(E:δ),C i j->Q (.int (g i j) s.toks) {s with toks:=s.toks+1}->abG (abK X.prog X.w) X.A (f (.int i t) (.int j u)) Q E s):
  jX X f (rI C fun i j=>.int (g i j)):=by
 intro pins s σ H x y v u Q I rx ry h;obtain ⟨i,j,rfl,rfl,hc,q⟩:=h;obtain ⟨t,rfl⟩:=rx;obtain ⟨t',rfl⟩:=ry;exact rule i j t t' s _ _ hc ⟨.int (g i j),H,I.tok _,⟨_,rfl⟩,q⟩
def X3 {g:Int->Int->Int}
  (rule:∀(i j:Int)(t u:Tok)(s:abH)(Q:δ)(E:δ),Q (.int (g i j) s.toks) {s with toks:=s.toks+1}->abG (abK X.prog X.w) X.A (f (.int i t) (.int j u)) Q E s):
  jX X f (Qb fun i j=>.int (g i j)):=by
 intro pins s σ H x y v u Q I rx ry h;obtain ⟨i,j,rfl,rfl,q⟩:=h;obtain ⟨t,rfl⟩:=rx;obtain ⟨t',rfl⟩:=ry;exact rule i j t t' s _ _ ⟨.int (g i j),H,I.tok _,⟨_,rfl⟩,q⟩
def Qc {g:Int->Int->Bool}
  (rule:∀(i j:Int)(t u:Tok)(s:abH)(Q:δ)(E:δ),Q (.bool (g i j)) s->abG (abK X.prog X.w) X.A (f (.int i t) (.int j u)) Q E s):
  jX X f (Qb fun i j=>.bl (g i j)):=by
 intro pins s σ H x y v u Q I rx ry h;obtain ⟨i,j,rfl,rfl,q⟩:=h;obtain ⟨t,rfl⟩:=rx;obtain ⟨t',rfl⟩:=ry;exact rule i j t t' s _ _ ⟨.bl (g i j),H,I,rfl,q⟩
def X4 (i j:Int):Prop:=0<=j/\j<=1000000/\i.natAbs<2^64
def bC:jX X (acz .Add) (Qb fun i j=>.int (i+j)):=X3 fun _ _ _ _ _ _ _ q=>add_int q
def cG:jX X (acz .Sub) (Qb fun i j=>.int (i-j)):=X3 fun _ _ _ _ _ _ _ q=>sub_int q
def Qd:jX X (acz .Mod) (rI (fun _ j=>j≠0) fun i j=>.int (i.fmod j)):=X2 fun _ _ _ _ _ _ _ hc q=>mod_int' hc q
def LQ:jX X (acz .Pow) (rI X4 fun i j=>.int (i^j.toNat)):=X2 fun _ _ _ _ _ _ _ hc q=>pow_int_small hc.1 hc.2.1 hc.2.2 q
def unI {g:Int->Int}
  (rule:∀(i:Int)(t:Tok)(s:abH)(Q:δ)(E:δ),Q (.int (g i) s.toks) {s with toks:=s.toks+1}->abG (abK X.prog X.w) X.A (f (.int i t)) Q E s):
  UnR X f (rU fun i=>.int (g i)):=by
 intro pins s σ H x v Q I rx h;obtain ⟨i,rfl,q⟩:=h;obtain ⟨t,rfl⟩:=rx;exact rule i t s _ _ ⟨.int (g i),H,I.tok _,⟨_,rfl⟩,q⟩
def LR:UnR X (unaryOp .USub) (rU fun i=>.int (-i)):=unI fun _ _ _ _ _ q=>neg_int q
end
def X5:V->V->Bool
 | .cT,.cT=>true | .cT,.int _=>true | .int _,.cT=>true | .cT,.bl _=>true | .bl _,.cT=>true | .cT,.str _=>true | .str _,.cT=>true
 | .int _,.int _=>true | .bl _,.bl _=>true | .str _,.str _=>true | .byt _,.byt _=>true
 | .int _,.str _=>true | .str _,.int _=>true | .bl _,.str _=>true | .str _,.bl _=>true
 | _,_=>false
def rEq:R2:=fun x y H Q=>X5 x y=true/\Q (.bl (decide (x=y))) H
def rNe:R2:=fun x y H Q=>X5 x y=true/\Q (.bl (!decide (x=y))) H
def DQ :decide (V.int i=V.int j)=(i==j):=by
 rw [afQ];simp
def LS :decide (V.bl i=V.bl j)=(i==j):=by
 rw [afQ];simp
def DR :decide (V.str i=V.str j)=(i==j):=by
 rw [afQ];simp
def DS :decide (V.byt i=V.byt j)=(i.toList==j.toList):=by
 rw [afQ];cases i;cases j;simp
section
variable {X:Cx}{a b c:Expr}{ta tb tc:TE}{pos:Pos}
def bK {σ:St}(I:Inv X pins σ H s)(q:Q (.bl k) H)(e:k=k'):EP X pins σ Q (.bool k') s:=by
 subst e;exact ⟨.bl k,H,I,rfl,q⟩
def e_:jX X (aca .Eq) rEq:=by
 intro pins s σ H x y v u Q I rx ry h;obtain ⟨hs,q⟩:=h;cases x with
 | cT=>
  cases rx;cases y with
  | cT=>cases ry;exact PySem.EqNone.eq_none_none (bK I q (by simp))
  | bl j=>cases ry;exact PySem.EqNone.eq_none_bool (bK I q (by simp))
  | int j=>obtain ⟨t',rfl⟩:=ry;exact PySem.EqNone.eq_none_int (bK I q (by simp))
  | str j=>obtain ⟨t',rfl⟩:=ry;exact PySem.EqNone.eq_none_str (bK I q (by simp))
  | _=>exact abM (show false=true from hs) aem
 | bl i=>
  cases rx;cases y with
  | cT=>cases ry;exact PySem.EqNone.eq_bool_none (bK I q (by simp))
  | bl j=>cases ry;exact eq_bool (bK I q LS)
  | str j=>obtain ⟨t',rfl⟩:=ry;exact PySem.EqMixed.eq_bool_str (bK I q (by simp))
  | _=>exact abM (show false=true from hs) aem
 | int i=>
  obtain ⟨t,rfl⟩:=rx;cases y with
  | cT=>cases ry;exact PySem.EqNone.eq_int_none (bK I q (by simp))
  | int j=>obtain ⟨t',rfl⟩:=ry;exact eq_int (bK I q DQ)
  | str j=>obtain ⟨t',rfl⟩:=ry;exact PySem.EqMixed.eq_int_str (bK I q (by simp))
  | _=>exact abM (show false=true from hs) aem
 | str i=>
  obtain ⟨t,rfl⟩:=rx;cases y with
  | cT=>cases ry;exact PySem.EqNone.eq_str_none (bK I q (by simp))
  | bl j=>cases ry;exact PySem.EqMixed.eq_str_bool (bK I q (by simp))
  | int j=>obtain ⟨t',rfl⟩:=ry;exact PySem.EqMixed.eq_str_int (bK I q (by simp))
  | str j=>obtain ⟨t',rfl⟩:=ry;exact eq_str (bK I q DR)
  | _=>exact abM (show false=true from hs) aem
 | byt i=>
  obtain ⟨t,rfl⟩:=rx;cases y with
  | byt j=>obtain ⟨t',rfl⟩:=ry;exact PySem.W.eq_bytes (bK I q DS)
  | _=>exact abM (show false=true from hs) aem
 | _=>cases y<;>exact abM (show false=true from hs) aem
def lZ:jX X (aca .NotEq) rNe:=by
 intro pins s σ H x y v u Q I rx ry h;obtain ⟨hs,q⟩:=h;cases x with
 | cT=>
  cases rx;cases y with
  | cT=>cases ry;exact PySem.EqNone.ne_none_none (bK I q (by simp))
  | bl j=>cases ry;exact PySem.EqNone.ne_none_bool (bK I q (by simp))
  | int j=>obtain ⟨t',rfl⟩:=ry;exact PySem.EqNone.ne_none_int (bK I q (by simp))
  | str j=>obtain ⟨t',rfl⟩:=ry;exact PySem.EqNone.ne_none_str (bK I q (by simp))
  | _=>exact abM (show false=true from hs) aem
 | bl i=>
  cases rx;cases y with
  | cT=>cases ry;exact PySem.EqNone.ne_bool_none (bK I q (by simp))
  | bl j=>cases ry;exact ne_bool (bK I q (abR not LS))
  | str j=>obtain ⟨t',rfl⟩:=ry;exact PySem.EqMixed.ne_bool_str (bK I q (by simp))
  | _=>exact abM (show false=true from hs) aem
 | int i=>
  obtain ⟨t,rfl⟩:=rx;cases y with
  | cT=>cases ry;exact PySem.EqNone.ne_int_none (bK I q (by simp))
  | int j=>obtain ⟨t',rfl⟩:=ry;exact ne_int (bK I q (abR not DQ))
  | str j=>obtain ⟨t',rfl⟩:=ry;exact PySem.EqMixed.ne_int_str (bK I q (by simp))
  | _=>exact abM (show false=true from hs) aem
 | str i=>
  obtain ⟨t,rfl⟩:=rx;cases y with
  | cT=>cases ry;exact PySem.EqNone.ne_str_none (bK I q (by simp))
  | bl j=>cases ry;exact PySem.EqMixed.ne_str_bool (bK I q (by simp))
  | int j=>obtain ⟨t',rfl⟩:=ry;exact PySem.EqMixed.ne_str_int (bK I q (by simp))
  | str j=>obtain ⟨t',rfl⟩:=ry;exact ne_str (bK I q (abR not DR))
  | _=>exact abM (show false=true from hs) aem
 | byt i=>
  obtain ⟨t,rfl⟩:=rx;cases y with
  | byt j=>obtain ⟨t',rfl⟩:=ry;exact PySem.W.ne_bytes (bK I q (abR not DS))
  | _=>exact abM (show false=true from hs) aem
 | _=>cases y<;>exact abM (show false=true from hs) aem
def oG:jX X (aca .Lt) (Qb fun i j=>.bl (decide (i<j))):=Qc fun _ _ _ _ _ _ _ q=>lt_int q
def X6:jX X (aca .LtE) (Qb fun i j=>.bl (decide (i<=j))):=Qc fun _ _ _ _ _ _ _ q=>le_int q
def uk:jX X (aca .Gt) (Qb fun i j=>.bl (decide (j<i))):=Qc fun _ _ _ _ _ _ _ q=>gt_int q
def S0:jX X (aca .GtE) (Qb fun i j=>.bl (decide (j<=i))):=Qc fun _ _ _ _ _ _ _ q=>ge_int q
def LU:jX X (aca .Is) (fun x y H Q=>y=.cT/\Q (.bl (decide (x=.cT))) H):=by
 intro pins s σ H x y v u Q I rx ry h;obtain ⟨rfl,q⟩:=h;cases ry;refine is_none_gen (bK I q ?_)
 cases x<;>first
  | (cases rx;rfl)
  | (obtain ⟨t,rfl⟩:=rx;rfl)
def Qe:jX X (aca .IsNot) (fun x y H Q=>y=.cT/\Q (.bl (!decide (x=.cT))) H):=by
 intro pins s σ H x y v u Q I rx ry h;obtain ⟨rfl,q⟩:=h;cases ry;refine isnot_none_gen (bK I q ?_)
 cases x<;>first
  | (cases rx;rfl)
  | (obtain ⟨t,rfl⟩:=rx;rfl)
def nh (b:Expr)(h:op≠.In:=by decide)(h2:op≠.NotIn:=by decide):adB op b=false:=by
 have e1:(op==CmpOp.In)=false:=by cases op<;>first|rfl|exact abM rfl h
 have e2:(op==CmpOp.NotIn)=false:=by cases op<;>first|rfl|exact abM rfl h2
 cases b<;>simp [adB,e1,e2]
def l_ (ho:jX X (aca op) r)(ha:PE X a ta)(hb:PE X b tb)(hm:adB op b=false):PE X (.Compare a [op] [b] pos) (Qa r ta tb):=by
 intro pins s σ H Q I h;exact wpAny_Compare1 (UH ha hb I h fun v u s2 x y H2 I2 rx ry q=>ho pins s2 σ H2 x y v u Q I2 rx ry q) hm
inductive LV (Q:(Bool->Hp->Prop))(x:V)(H':Hp):Prop
|mk (k:_)(_:x=.bl k)(_:Q k H')
def S1 (t:TE):TT:=fun σ H Q=>t σ H fun x H'=>LV Q x H'
def qb (ho:jX X (aca op) r)(ha:PE X a ta)(hb:PE X b tb)(hm:adB op b=false):PT X (.Compare a [op] [b] pos) (S1 (Qa r ta tb)):=by
 intro pins s σ H Q I h
 refine wpAny_isTrue_Compare1 (cF (ha pins s σ H _ I h) fun v s1 ⟨x,H1,I1,r1,q1⟩=>cF (hb pins s1 σ H1 _ I1 q1) fun u s2 ⟨y,H2,I2,r2,q2⟩=>
  cF (ho pins s2 σ H2 x y v u _ I2 r1 r2 q2) fun c s3 ⟨z,H3,I3,r3,k,e,q3⟩=>?_) hm
 subst e;cases r3;exact acJ ⟨H3,I3,q3⟩
def qH:(abE:Nat)<2^63:=by rw [sizeLine_eq];decide
def fP:jX X (acz .Add) (fun x y H Q=>∃i j,x=.str i/\y=.str j/\i.length+j.length<=abE/\Q (.str (i++j)) H):=by
 intro pins s σ H x y v u Q I rx ry h;obtain ⟨i,j,rfl,rfl,hz,q⟩:=h;obtain ⟨t,rfl⟩:=rx;obtain ⟨t',rfl⟩:=ry;exact add_str (fun t' tk=>⟨.str (i++j),H,I.tok _,⟨_,rfl⟩,q⟩) hz
def vals1 {us:ρ}(r:Vals [x] us):∃u,us=[u]/\RelV x u:=by
 cases r with
 | cons r1 r2=>cases r2;exact ⟨_,rfl,r1⟩
def vals2 {us:ρ}(r:Vals [x,y] us):∃u w',us=[u,w']/\RelV x u/\RelV y w':=by
 cases r with
 | cons r1 r2=>
  cases r2 with
  | cons r3 r4=>cases r4;exact ⟨_,_,rfl,r1,r3⟩
def xI:ie X (.builtin "abs") (fun xs H Q=>∃i,xs=[.int i]/\Q (.int (if i<0 then -i else i)) H):=by
 intro pins s σ H xs us Q I r h;obtain ⟨i,rfl,q⟩:=h;obtain ⟨u,rfl,t,rfl⟩:=vals1 r;exact call_abs_int fun u tk=>⟨.int (if i<0 then -i else i),H,I.tok _,⟨_,rfl⟩,q⟩
def gH:ie X (.type "str") (fun xs H Q=>∃i,xs=[.int i]/\i.natAbs.log2<1920/\Q (.str (toString i)) H):=by
 intro pins s σ H xs us Q I r h;obtain ⟨i,rfl,hz,q⟩:=h;obtain ⟨u,rfl,t,rfl⟩:=vals1 r;exact PySem.P.str_of_int hz ⟨.str _,H,I.tok _,⟨_,rfl⟩,q⟩
end
structure AK (h:Heap)(x dx C:abA)(mA:ν):Prop where
 obj:h.get? x=some (ab3 C dx)
 ns:h.Ns1 dx mA
 ne:dx≠x
def G' {h:Heap}{mA:ν}(n:h.Ns1 dx mA):∃od,h.get? dx=some od/\∀name,aiQ name od=some (mA name):=by
 obtain ⟨o,es,ep,ho,hd,hk,_,hm⟩:=n;refine ⟨o,ho,fun name=>?_⟩;have e:=hm name;unfold nsFind findBy at e;rw [<-Array.find?_toList] at e;unfold aiQ;rw [hd];dsimp only;split
 ·rename_i y q
  rw [q] at e;exact abR some e
 ·rename_i q
  rw [q] at e
  have a:es.toList.any (·.refKey)=false:=by
   rw [List.any_eq_false];intro y hy;obtain ⟨z,t,xJ⟩:=hk y (Array.mem_toList_iff.mp hy);simp [DictEntry.refKey,xJ]
  have a':¬ es.toList.any (·.refKey)=true:=by rw [a];exact aem
  rw [abB a'];exact abR some e
def AK.look (I:AK h x dx C mA):∃od,PySem.W.InstAt h x (ab3 C dx) C (some od)/\∀name,aiQ name od=some (mA name):=
 let ⟨od,ho,hl⟩:=G' I.ns
 ⟨od,⟨I.obj,rfl,rfl,ho⟩,hl⟩
section
variable {prog:abQ}{w:World}{A:abV}{E:δ}{s:abH}{K:Frag}{x dx C f:abA}{mA:ν}{name:Str}{v:Value}
def get_map {Q:δ}(X:K.In s.heap)(I:AK s.heap x dx C mA)(hg:aco K C name=true)(hh:acx K C=true)
  (ha:abT K (.ref C) name=some none) (hv:mA name=some v) (UI :PySem.W.handedIn v=true) (h:Q v {s with toks:=s.toks+1}):
  abG (abK prog w) A (getAttr (.ref x) name expr) Q E s:=by
 obtain ⟨od,J,hl⟩:=I.look;exact PySem.W.get_value X J (PySem.W.plainGet_of hg).1 (PySem.W.findObj_own hh ha rfl (by rw [hl,hv])) UI h
def LW (X:K.In s.heap)(I:AK s.heap x dx C mA)(hg:aco K C name=true)
  (hf:abT K (.ref C) name=some (some (.ref f))) (ht:aiJ K (.ref f)=true) (hv:mA name=none) (h:Q (.ref f,[.ref x]) s):
  abG (abK prog w) A (getMethod (.ref x) name pl) Q E s:=by
 obtain ⟨od,J,hl⟩:=I.look;exact PySem.W.method_fn X J (PySem.W.plainGet_of hg).1 (PySem.W.plainGet_of hg).2 hf (beq_iff_eq.mp ht) (by show (aiQ name od).map (·.isSome)=some false;rw [hl,hv];rfl) h
def Qf {ns:ψ}(X:K.In s.heap)(I:AK s.heap x dx C mA)
  (hs:abT K (.ref C) "__setattr__"=some (some (.builtin "object.__setattr__"))) (hp:acL K C=true) (ht:PySem.W.takerIn K C name=some none) (hh:acx K C=true)
  (hw:PySem.Within mA ns) (hsz:ns.length<=abE)
  (h:∀h',AK h' x dx C (fun y=>if y=name then some v else mA y)->acn dx s.heap h' ->Q () {s with heap:=h',toks:=s.toks+2}):
  abG (abK prog w) A (setAttr (.ref x) name v) Q E s:=by
 obtain ⟨od,J,hl⟩:=I.look;refine PySem.W.set_plain X J hs (PySem.W.osa_open (s:={s with toks:=s.toks+1}) (r:=none) X J hp ht fun b=>?_);obtain ⟨cd,hc,Lb⟩:=PySem.W.any_some hh;have hx:s.heap.get? x=some ⟨.ref C,some dx,.plain, #[]⟩:=I.obj;refine abz (abF (abz (abz (wpAny_loadPart hx (abz (PySem.W.Looks.here (s:={s with toks:=s.toks+1}) (PySem.W.looks_clsIn X hc) ?_))))));rw [Lb];refine abF (a:=some dx) (abz (abF (abz ?_)));refine wpAny_nsSet1 (s:={s with toks:=s.toks+1}) I.ns fun h' W8 DT=>?_;obtain ⟨oD,esD,epD,hoD,hdD,hcD⟩:=W8.count (PySem.Within.cons name v hw);refine abz (wpAny_lookBehind hoD (by rw [hdD];exact pastItsLine_dict (aay hcD (by rw [aey];omega))) ?_);exact abF (h _ ⟨(DT.2 _ (aeD I.ne)).trans I.obj,W8,I.ne⟩ DT)
def LX {R:Υ}{vs:ρ}{kw:Χ}(X:K.In s.heap)(hm:acs K C=true)
  (hi:abT K (.ref C) "__init__"=some (some (.ref f))) (hf:PySem.W.typeIn K (.ref f)=some (.type "function"))
  (h:acA (abK prog w) (A.under (.builtin "type.__call__" ⟨.ref C::vs,kw⟩)) (.call (.ref f) ⟨.ref (s.heap.objs.size+1)::vs,kw⟩) (PySem.W.InitBack (s.heap.objs.size+1) R)
   {s with heap:=(s.heap.push ab0).push (ab3 C s.heap.objs.size)}):
  acA (abK prog w) A (.call (.ref C) ⟨vs,kw⟩) R s:=by
 obtain ⟨hh,g,d,t,os⟩:=s;exact PySem.W.make_core (PySem.W.makes_of X hm) (PySem.W.looks_findIn X hi) (fun self=>PySem.W.bind_fn X self hf) (.inl rfl) h
def HE {R:Υ}(X:K.In s.heap)(hm:acs K C=true)
  (hi:abT K (.ref C) "__init__"=some (some (.builtin "object.__init__")))
  (hb:∀self,PySem.W.Looks (abK prog w) s.heap (bindSpecial (.builtin "object.__init__") self) (.builtin "object.__init__",[self]))
  (h:acA (abK prog w) (A.under (.builtin "type.__call__" ⟨[.ref C],[]⟩)) (.call (.builtin "object.__init__") ⟨[.ref (s.heap.objs.size+1)],[]⟩) (PySem.W.InitBack (s.heap.objs.size+1) R)
   {s with heap:=(s.heap.push ab0).push (ab3 C s.heap.objs.size)}):
  acA (abK prog w) A (.call (.ref C) ⟨[],[]⟩) R s:=by
 obtain ⟨hh,g,d,t,os⟩:=s;exact PySem.W.make_core (PySem.W.makes_of X hm) (PySem.W.looks_findIn X hi) hb (.inr ⟨rfl,rfl⟩) h
end
noncomputable def fF (f:Str)(v:V):List (Str×V)->List (Str×V)
 | []=>[(f,v)]
 | (g,x)::r=>if g=f then (g,v)::r else (g,x)::fF f v r
theorem oH (f g:Str)(v:V):∀fs:List (Str×V),(fF f v fs).lookup g=if g=f then some v else fs.lookup g
 | []=>by
  show afh g [(f,v)]=_;by_cases h:g=f
  ·have hb:(g==f)=true:=beq_iff_eq.mpr h
   simp only [afh,hb,abC h]
  ·have hb:(g==f)=false:=beq_eq_false_iff_ne.mpr h
   simp only [afh,hb,abB h]
 | (k,x)::r=>by
  have ih:=oH f g v r;rw [show fF f v ((k,x)::r)=(if k=f then (k,v)::r else (k,x)::fF f v r) from rfl];by_cases hk:k=f
  ·rw [abC hk]
   by_cases h:g=k
   ·have hb:(g==k)=true:=beq_iff_eq.mpr h
    simp only [afh,hb,abC (h.trans hk)]
   ·have hb:(g==k)=false:=beq_eq_false_iff_ne.mpr h
    simp only [afh,hb,abB (fun e:g=f=>h (e.trans hk.symm))]
  ·rw [abB hk]
   by_cases h:g=k
   ·have hb:(g==k)=true:=beq_iff_eq.mpr h
    simp only [afh,hb,abB (fun e:g=f=>hk (h.symm.trans e))]
   ·have hb:(g==k)=false:=beq_eq_false_iff_ne.mpr h
    simp only [afh,hb];exact ih
theorem ni (f:Str)(v:V):∀fs:List (Str×V),f∈(fF f v fs).map (·.1)/\∀g,g∈fs.map (·.1)->g∈(fF f v fs).map (·.1)
 | []=>⟨by simp [fF],fun g h=>by simp at h⟩
 | (k,x)::r=>by
  obtain ⟨i1,i2⟩:=ni f v r;rw [show fF f v ((k,x)::r)=(if k=f then (k,v)::r else (k,x)::fF f v r) from rfl];by_cases hk:k=f
  ·rw [abC hk]
   subst hk;exact ⟨by simp,fun g h=>by simpa using h⟩
  ·rw [abB hk]
   refine ⟨?_,fun g h=>?_⟩
   ·rw [aaw]
    exact aax _ i1
   ·rw [aaw] at h ⊢
    rcases aes.mp h with e|e
    ·exact aes.mpr (.inl e)
    ·exact aax _ (i2 g e)
theorem oI (f:Str)(v:V):∀fs:List (Str×V),(fF f v fs).length<=fs.length+1
 | []=>by simp [fF]
 | (k,x)::r=>by
  have ih:=oI f v r;rw [show fF f v ((k,x)::r)=(if k=f then (k,v)::r else (k,x)::fF f v r) from rfl];by_cases hk:k=f
  ·rw [abC hk,aey,aey];omega
  ·rw [abB hk,aey,aey];omega
def i5.some_of (r:i5 (some v) o):∃u,o=some u/\RelV v u:=by
 cases o with
 | none=>exact (show False from r).elim
 | some u=>exact ⟨u,rfl,r⟩
def i5.none_of (r:i5 none o):o=none:=by
 cases o with
 | none=>rfl
 | some u=>exact (show False from r).elim
def HF (r:RelV v u):PySem.W.handedIn u=true:=by
 cases v with
 | cT=>cases (show u=Value.none from r);rfl
 | bl b=>cases (show u=Value.bool b from r);rfl
 | int i=>obtain ⟨t,e⟩:=(show ∃t,u=Value.int i t from r);cases e;rfl
 | str x=>obtain ⟨t,e⟩:=(show ∃t,u=Value.str x t from r);cases e;rfl
 | byt b=>obtain ⟨t,e⟩:=(show ∃t,u=Value.bytes b t from r);cases e;rfl
 | Uu b=>obtain ⟨t,e⟩:=(show ∃t,u=Value.float b t from r);cases e;rfl
 | ref a=>cases (show u=Value.ref a from r);rfl
 | ty n=>cases (show u=Value.type n from r);rfl
section
variable {P:abQ}{w:World}{H H':Hp}{h h':Heap}{a C dx:abA}{fs fs':List (Str×V)}
def qc (bM:kH P w H h)(e:H a=some (.ins C dx fs)):∃mA,AK h a dx C mA/\(∀f,i5 (fs.lookup f) (mA f))/\PySem.Within mA (fs.map (·.1))/\fs.length<=1000/\H dx=some (.own a):=by
 obtain ⟨d,z,ne,ob,mA,n,r,q⟩:=(show cZ P w H h a (.ins C dx fs) from bM a _ e);exact ⟨mA,⟨ob,n,ne⟩,r,q,z,d⟩
end
structure xK (K:Frag)(C:abA):Prop where
 pg:aco K C Str.empty=true
 hd:acx K C=true
 po:acL K C=true
 sa:abT K (.ref C) "__setattr__"=some (some (.builtin "object.__setattr__"))
def xK.get {K:Frag}(c:xK K C)(f:Str):aco K C f=true:=c.pg
def gU (K:Frag)(C:abA)(f:Str):Prop:=abT K (.ref C) f=some none
def gU.X7 {K:Frag}(n:gU K C f):PySem.W.takerIn K C f=some none:=by
 unfold PySem.W.takerIn;rw [show abT K (.ref C) f=some none from n];rfl
structure Meth (K:Frag)(C:abA)(m:Str)(f:abA):Prop where
 at_:abT K (.ref C) m=some (some (.ref f))
 fn:aiJ K (.ref f)=true
 kp:keepIn K (.ref f)=true
section
variable {X:Cx}{pins:ε}{σ:St}{H:Hp}{s:abH}{a C dx:abA}{fs:List (Str×V)}{f:Str}{v:V}{A:abV}{E:δ}
def AL {Q:δ}(I:Inv X pins σ H s)(e:H a=some (.ins C dx fs))(c:xK X.K C)(n:gU X.K C f)(l:fs.lookup f=some v)
  (h:∀u s',Inv X pins σ H s' ->RelV v u->Q u s'):abG (abK X.prog X.w) A (getAttr (.ref a) f b) Q E s:=by
 obtain ⟨mA,O,r,_,_,_⟩:=qc I.bM e;obtain ⟨u,hu,ru⟩:=i5.some_of (v:=v) (o:=mA f) (by rw [<-l];exact r f);exact get_map I.kN O (c.get f) c.hd n hu (HF ru) (h u _ (I.tok _) ru)
def kQ (I:Inv X pins σ H s)(e:H a=some (.ins C dx fs))(c:xK X.K C)(k:Meth X.K C m g)(l:fs.lookup m=none)
  (h:Q (.ref g,[.ref a]) s):abG (abK X.prog X.w) A (getMethod (.ref a) m pl) Q E s:=by
 obtain ⟨mA,O,r,_,_,_⟩:=qc I.bM e;have hn:mA m=none:=i5.none_of (by rw [<-l];exact r m);exact LW I.kN O (c.get m) k.at_ k.fn hn h
def AM (I:Inv X pins σ H s)(e:H a=some (.ins C dx fs))(c:xK X.K C)(n:gU X.K C f)(hl:fs.length<1000)(ry:RelV y u)
  (h:∀s',Inv X pins σ (upd H a (.ins C dx (fF f y fs))) s' ->Q () s'):abG (abK X.prog X.w) A (setAttr (.ref a) f u) Q E s:=by
 obtain ⟨mA,O,r,wi,_,ho⟩:=qc I.bM e;have hz:(fs.map (·.1)).length<=abE:=by rw [ir,sizeLine_eq];omega
 refine Qf I.kN O c.sa c.po n.X7 c.hd wi hz fun h' O' sb=>h _ ?_;have hd:∃o,h'.get? dx=some o:=let ⟨o,_,_,e',_⟩:=O'.ns;⟨o,e'⟩;refine I.write (x:=a) (e:=dx) (by rw [e];exact True.intro) (.inr ho) (fun b q hb z=>(sb.2 b hb).trans z) hd ?_;refine ⟨by rw [aj O.ne];exact ho,?_,O.ne,O'.obj,_,O'.ns,fun g=>?_,fun g hg=>?_⟩
 ·have:=oI f y fs;omega
 ·show i5 ((fF f y fs).lookup g) (if g=f then some u else mA g)
  rw [oH];by_cases q:g=f
  ·rw [abC q,abC q];exact ry
  ·rw [abB q,abB q];exact r g
 ·by_cases q:g=f
  ·rw [q];exact (ni f y fs).1
  ·refine (ni f y fs).2 g (wi g fun z=>hg ?_)
   show (if g=f then some u else mA g)=none;rw [abB q];exact z
def Inv.made (I:Inv X pins σ H s):Inv X pins σ (upd (upd H s.heap.objs.size (.own (s.heap.objs.size+1))) (s.heap.objs.size+1) (.ins C s.heap.objs.size []))
  {s with heap:=(s.heap.push ab0).push (ab3 C s.heap.objs.size)}:=by
 have e1:(s.heap.push ab0).get? s.heap.objs.size=some ab0:=abN s.heap rfl
 have e2:((s.heap.push ab0).push (ab3 C s.heap.objs.size)).get? (s.heap.objs.size+1)=some (ab3 C s.heap.objs.size):=by
  have:=abN (s.heap.push ab0) (o:=ab3 C s.heap.objs.size) rfl
  rwa [acf] at this
 have e3:(s.heap.push ab0).Ns s.heap.objs.size (fun _=>none):=⟨ab0, #[],_,e1,rfl,(fun e he=>abM he (by simp)),fun _=>rfl⟩;have I1:=I.laid (a:=s.heap.objs.size) (o:=.own (s.heap.objs.size+1)) (h':=s.heap.push ab0) (t':=s.toks) (fun b u q=>abD _ q) (aaA _) ⟨_,e1⟩;refine I1.laid (a:=s.heap.objs.size+1) (o:=.ins C s.heap.objs.size []) (t':=s.toks) (fun b u q=>abD _ q) (aht (acf _ _)) ?_;have ne:s.heap.objs.size≠s.heap.objs.size+1:=aew (aeP _);refine ⟨by rw [aj ne,ah],aeF _,ne,e2,fun _=>none,(Heap.Ns1.of_empty e3).at fun o q=>abD _ q,fun _=>True.intro,fun y hy=>abM rfl hy⟩
def Qg {Q:δ}(hb:acR e f env (abW e env)=abW e env)
  (h:abG (abK prog w) A (abW e env) (fun o s₁=>abG (abK prog w) A (getAttr o f true) Q E s₁) E s):abG (abK prog w) A (abW (.Attribute e f pos) env) Q E s:=
 Attribute_any_ h (by rw [arm_eval_Attribute,hb])
end
inductive S2 (K:Frag)(f:Str)(Q:VK)(x:V)(H1:Hp):Prop
|mk (a C dx fs v:_)(_:x=.ref a)(_:H1 a=some (.ins C dx fs))(_:xK K C)(_:gU K C f)(_:fs.lookup f=some v)(_:Q v H1)
def afM (K:Frag)(ta:TE)(f:Str):TE:=fun σ H Q=>ta σ H fun x H1=>S2 K f Q x H1
inductive S3 (K:Frag)(f:Str)(D:Ends)(σ:St)(y:V)(x:V)(H2:Hp):Prop
|mk (a C dx fs:_)(_:x=.ref a)(_:H2 a=some (.ins C dx fs))(_:xK K C)(_:gU K C f)(_:fs.length<1000)(_:D.nx σ (upd H2 a (.ins C dx (fF f y fs))))
def afN (K:Frag)(ta tv:TE)(f:Str):TS:=fun D σ H=>tv σ H fun y H1=>ta σ H1 fun x H2=>S3 K f D σ y x H2
section
variable {X:Cx}{o e value:Expr}{f:Str}{pos pos' vd:Pos}{ta tv:TE}
def dJ (he:PE X e ta)(hb:acR e f X.env (abW e X.env)=abW e X.env):PE X (.Attribute e f pos) (afM X.K ta f):=by
 intro pins s σ H Q I h;refine Qg hb (cF (he pins s σ H _ I h) fun u s1 ⟨x,H1,I1,rx,a,C,dx,fs,v,ex,ea,c,n,l,q⟩=>?_);subst ex;obtain rfl:u=Value.ref a:=rx;exact AL I1 ea c n l fun u' s2 I2 ru=>⟨v,H1,I2,ru,q⟩
def ve (ha:PE X o ta)(hv:PE X value tv)(hs:adv value (some (.Attribute o f pos')) pos.line X.env=pure false):PS X (.Assign [.Attribute o f pos'] value pos) (afN X.K ta tv f):=by
 intro pins s σ H D I h;refine plainObj_wpAny_Assign_Attribute (cF (hv pins s σ H _ I h) fun u s1 ⟨y,H1,I1,ry,q⟩=>cF (ha pins s1 σ H1 _ I1 q) fun ov s2 ⟨x,H2,I2,rx,a,C,dx,fs,ex,ea,c,n,l,q2⟩=>?_) hs;subst ex;obtain rfl:ov=Value.ref a:=rx;exact AM I2 ea c n l ry fun s3 I3=>⟨σ,_,I3,q2⟩
end
section
variable {X:Cx}{pins:ε}{σ:St}{H:Hp}{s:abH}{A:abV}{E:δ}{Q:δ}{c:Value}{b:Bool}
inductive nj (K:Frag)(H:Hp):V->Value->Prop where
 | cT:nj K H .cT (.type "NoneType")
 | bl (x:Bool):nj K H (.bl x) (.type "bool")
 | int (i:Int):nj K H (.int i) (.type "int")
 | str (x:Str):nj K H (.str x) (.type "str")
 | Uu (x:UInt64):nj K H (.Uu x) (.type "float")
 | lst {a:abA} {xs:ζ} (e:H a=some (.lst xs)):nj K H (.ref a) (.type "list")
 | fB {a:abA} {o:Obj} {xs:ζ} (e:H a=some (.fB o (.lst xs))):nj K H (.ref a) (.type "list")
 | tup {a:abA} {xs:ζ} (e:H a=some (.tup xs)):nj K H (.ref a) (.type "tuple")
 | dK {a:abA} {kvs:γ} (e:H a=some (.dK kvs)):nj K H (.ref a) (.type "dict")
 | dT {a:abA} {kvs:Ο} (e:H a=some (.dT kvs)):nj K H (.ref a) (.type "dict")
 | ins {a C dx:abA} {fs:List (Str×V)} (e:H a=some (.ins C dx fs)) (cl:xK K C) (ha:abT K (.ref C) "__class__"=some (some (.builtin "object.__class__")))
   (hn:PySem.W.specialIn K (.builtin "object.__class__") "__get__"=some (some (.builtin "getset_descriptor.__get__"))) (htk:PySem.W.takesIn K (.builtin "object.__class__")=some true)
   (hm:PySem.W.mroIn K C (.type "object")=some true):nj K H (.ref a) (.ref C)
def HG (I:Inv X pins σ H s)(rx:RelV x u)(ty:nj X.K H x t)(e:ab5 X.K t c=some b)(h:∀tk,Q (.bool b) {s with toks:=tk}):
  abG (abK X.prog X.w) A (call (.builtin "isinstance") [u,c]) Q E s:=by
 cases ty with
 | cT=>cases (show u=Value.none from rx);exact acb PySem.W.kitx_none I.kN True.intro e (fun z=>nomatch z) h
 | bl y=>cases (show u=Value.bool y from rx);exact acb PySem.W.kitx_bool I.kN True.intro e (fun z=>nomatch z) h
 | int i=>obtain ⟨t,q⟩:=(show ∃t,u=Value.int i t from rx);cases q;exact acb PySem.W.kitx_int I.kN True.intro e (fun z=>nomatch z) h
 | str y=>obtain ⟨t,q⟩:=(show ∃t,u=Value.str y t from rx);cases q;exact acb PySem.W.kitx_str I.kN True.intro e (fun z=>nomatch z) h
 | Uu y=>obtain ⟨t,q⟩:=(show ∃t,u=Value.float y t from rx);cases q;exact acb PySem.W.kitx_float I.kN True.intro e (fun z=>nomatch z) h
 | @lst a xs ea=>
  cases (show u=Value.ref a from rx);obtain ⟨_,_,n,_,h1⟩:=(show cZ X.prog X.w H s.heap a (.lst xs) from I.bM a _ ea);exact acb PySem.W.kitx_list I.kN ⟨_,h1,rfl⟩ e (fun z=>nomatch z) h
 | @fB a ob xs ea=>
  cases (show u=Value.ref a from rx);obtain ⟨_,_,_,n,_,h1⟩:=(show cZ X.prog X.w H s.heap a (.fB ob (.lst xs)) from I.bM a _ ea);exact acb PySem.W.kitx_list I.kN ⟨_,h1,rfl⟩ e (fun z=>nomatch z) h
 | @tup a xs ea=>
  cases (show u=Value.ref a from rx);obtain ⟨_,_,_,p⟩:=(show cZ X.prog X.w H s.heap a (.tup xs) from I.bM a _ ea);obtain ⟨o,h1,h2,_⟩:=p;exact acb PySem.W.kitx_tuple I.kN ⟨o,h1,h2⟩ e (fun z=>nomatch z) h
 | @dK a kvs ea=>
  cases (show u=Value.ref a from rx);obtain ⟨_,_,vs,_,p⟩:=(show cZ X.prog X.w H s.heap a (.dK kvs) from I.bM a _ ea);obtain ⟨o,es,ep,h1,h2,_⟩:=p;exact acb PySem.W.kitx_dict I.kN ⟨o,h1,h2.1⟩ e (fun z=>nomatch z) h
 | @dT a kvs ea=>
  cases (show u=Value.ref a from rx);obtain ⟨_,_,xs,_,o,es,ep,h1,h2,_⟩:=(show cZ X.prog X.w H s.heap a (.dT kvs) from I.bM a _ ea);exact acb PySem.W.kitx_dict I.kN ⟨o,h1,h2.1⟩ e (fun z=>nomatch z) h
 | @ins a C dx fs ea cl ha hn htk hm=>
  cases (show u=Value.ref a from rx);obtain ⟨mA,O,_⟩:=qc I.bM ea;obtain ⟨od,J,_⟩:=O.look;exact acb (PySem.W.kitx_own (cl.get _) cl.hd ha hn htk hm) I.kN J e (fun z=>nomatch z) h
end
structure cB (k:Nat)(A:abV):Prop where
 hd:A.handled=none
 dp:A.depth+3*k+5<aiR
 un:A.units+16*k+200<acB
def cB.mono (r:cB k A)(h:j<=k):cB j A:=⟨r.hd,by have:=r.dp;omega,by have:=r.un;omega⟩
def cB.deeper (r:cB (k+1) A)(env:Env):cB k (A.deeper env):=
 ⟨r.hd,by have:=r.dp;show A.depth+1+3*k+5<_;omega,by have:=r.un;show A.units+3+16*k+200<_;omega⟩
def AN {A:abV}{us:ρ}{kw:Χ}:(A.under (.builtin "type.__call__" ⟨.ref C::us,kw⟩)).depth=A.depth+1:=by
 first|rfl|simp [Around.under,Code.weight,Code.isCreation,Code.isGuard,Code.isCaller,Code.frames,Code.isFrame,guardIds]
def AO {A:abV}{us:ρ}{kw:Χ}:(A.under (.builtin "type.__call__" ⟨.ref C::us,kw⟩)).units=A.units+1:=by
 first|rfl|simp [Around.under,Code.cUnits,Code.frames,Code.isFrame]
def cB.make (r:cB (k+1) A)(C:abA)(us:ρ)(kw:Χ):cB k (A.under (.builtin "type.__call__" ⟨.ref C::us,kw⟩)):=
 ⟨r.hd,by have:=r.dp;rw [AN];omega,by have:=r.un;rw [AO];omega⟩
def cB.depth (r:cB k A):A.depth<aiR:=by have:=r.dp;omega
def cB.units (r:cB k A):A.units+64<acB:=by have:=r.un;omega
def gj:TA:=fun _ H Q=>Q [] H
def oJ (ta:TE)(tr:TA):TA:=fun σ H Q=>ta σ H fun x H1=>tr σ H1 fun xs H2=>Q (x::xs) H2
section
variable {X:Cx}{e:Expr}{es:Ζ}{te:TE}{t:TA}{pos:Pos}
def jC:PA X [] gj:=fun _ _ _ _ H Q I h=>aiw ⟨[],H,I,.nil,h⟩
def Qh (ha:PE X e te)(hr:PA X es t)(hs:abP (e::es) X.env=(false,abW e X.env)::abP es X.env:=by rfl):PA X (e::es) (oJ te t):=by
 intro pos pins s σ H Q I h;rw [hs];show abG _ _ (spliced ((false,abW e X.env)::ack pos (abP es X.env))) _ _ s;refine acD (cF (ha pins s σ H _ I h) fun u s1 ⟨x,H1,I1,r1,q1⟩=>?_);exact cF (hr pos pins s1 σ H1 _ I1 q1) fun us s2 ⟨xs,H2,I2,r2,q2⟩=>⟨x::xs,H2,I2,.cons r1 r2,q2⟩
def afO (t:TA):TE:=fun σ H Q=>t σ H fun xs H1=>xs.length<=abE/\∀p,H1 p=none->Q (.ref p) (upd H1 p (.tup xs))
def afP (t:TA):TE:=fun σ H Q=>t σ H fun xs H1=>xs.length<=abE/\∀p,H1 p=none->Q (.ref p) (upd H1 p (.lst xs))
def aV (h:PA X es t):PE X (.Tuple es x1 pos) (afO t):=by
 intro pins s σ H Q I hq;refine wpAny_Tuple_spliced (cF (h pos pins s σ H _ I hq) fun us s1 ⟨xs,H1,I1,r,z,q⟩=>⟨by rw [<-r.length];exact z,?_⟩);have hf:H1 s1.heap.objs.size=none:=I1.bM.fresh (aaA _);refine ⟨.ref s1.heap.objs.size,upd H1 s1.heap.objs.size (.tup xs),I1.laid (t':=s1.toks) (fun b u e=>abD _ e) (aaA _) ?_,rfl,q _ hf⟩;exact ⟨z,us,r,⟨_,abN _ rfl,rfl,_,rfl⟩⟩
def cg (h:PA X es t):PE X (.List es pos) (afP t):=by
 intro pins s σ H Q I hq;refine wpAny_List_spliced (cF (h pos pins s σ H _ I hq) fun us s1 ⟨xs,H1,I1,r,z,q⟩=>⟨by rw [<-r.length];exact z,?_⟩);have hf:H1 s1.heap.objs.size=none:=I1.bM.fresh (aaA _);refine ⟨.ref s1.heap.objs.size,upd H1 s1.heap.objs.size (.lst xs),I1.laid (t':=s1.toks) (fun b u e=>abD _ e) (aaA _) ?_,rfl,q _ hf⟩;exact ⟨z,us,0,r,abN _ rfl⟩
end
abbrev Sp:=List V->Hp->VK->XK->Prop
abbrev ma:=List Env->Hp->abH->XK->Value->abH->Prop
structure AQ (P:abQ)(w:World)(K:Frag)(mg:ν)(base:Heap)(A:abV)(outer:List Env)(s:abH)(H:Hp):Prop where
 frames:A.frames=some outer
 mod:Mod K mg base
 bs:∀b o,base.get? b=some o->s.heap.get? b=some o/\H b=none
 P0:base.objs.size<=s.heap.objs.size
 pG:s.heap.FunFrames base outer
 Ux:∀b∈DJ outer,H b=none
 bM:kH P w H s.heap
 bare:adW s.gens
def CE (outer:List Env)(P:abQ)(w:World)(H:Hp)(s:abH)(Q:VK)(u:Value)(s':abH):Prop:=
 ∃v H',s'.os=s.os/\adW s'.gens/\Un (DJ outer) [] H H' s.heap s'.heap/\kH P w H' s'.heap/\RelV v u/\Q v H'
def CR (CX:ma)(outer:List Env)(P:abQ)(w:World)(H:Hp)(s:abH)(Q:VK)(E:XK)(r:Result)(s':abH):Prop:=
 match r with
 | .ok (.ret u)=>CE outer P w H s Q u s'
 | .ok _=>False
 | .error e=>CX outer H s E e s'
structure dq (P:abQ)(w:World)(K:Frag)(mg:ν)(base:Heap)(CX:ma)(k:Nat)(f:abA)(fd:FuncData)(ps:ψ)(sp:Sp):Prop where
 len:∀vs H Q E,sp vs H Q E->vs.length=ps.length
 run:∀(A:abV)(outer:List Env)(s:abH)(H:Hp)(args:Args)(us:ρ)(vs:ζ)(Q:VK)(E:XK),cB k A->AQ P w K mg base A outer s H->BindsTo s fd args (ps.zip us)->Vals vs us->sp vs H Q E->
  acA (abK P w) A (.call (.ref f) args) (CR CX outer P w H s Q E) s
def dq.mono {K:Frag}(F:dq P w K mg base CX j f fd ps sp)(h:j<=k):
  dq P w K mg base CX k f fd ps sp:=⟨F.len,fun A outer s H args us vs Q E hr=>F.run A outer s H args us vs Q E (hr.mono h)⟩
def dq.imp {K:Frag}(F:dq P w K mg base CX k f fd ps sp)
  (h:∀vs H Q E,sp' vs H Q E->sp vs H Q E):dq P w K mg base CX k f fd ps sp':=
 ⟨fun vs H Q E q=>F.len vs H Q E (h _ _ _ _ q),fun A outer s H args us vs Q E hr he hb hv hs=>F.run A outer s H args us vs Q E hr he hb hv (h _ _ _ _ hs)⟩
def AQ.make {K:Frag}(e:AQ P w K mg base A outer s H)(C:abA)(us:ρ)(kw:Χ):
  AQ P w K mg base (A.under (.builtin "type.__call__" ⟨.ref C::us,kw⟩)) outer s H:=⟨by first|exact e.frames|(simpa [Around.under,Code.envs,Code.isFrame,pushEnvs] using e.frames),e.mod,e.bs,e.P0,e.pG,e.Ux,e.bM,e.bare⟩
section
variable {X:Cx}{pins:ε}{σ:St}{H:Hp}{s s':abH}
def Inv.X8 (I:Inv X pins σ H s):AQ X.prog X.w X.K X.mg X.base X.A X.stack s H:=
 ⟨I.ok.frames,I.ok.mod,I.bs,aay I.ok.P0 I.sz,I.stack,I.DK,I.bM,I.bare⟩
def Inv.after (I:Inv X pins σ H s)(h:CE X.stack X.prog X.w H s Q u s'):EP X pins σ Q u s':=by
 obtain ⟨v,H',os,bare,un,bM,r,q⟩:=h;obtain ⟨hh,g,d,t,os'⟩:=s';obtain rfl:os'=s.os:=os;exact ⟨v,H',I.call (h':=hh) (g':=g) (d':=d) (t':=t) (ch:=[]) un bM bare (fun b z=>abM z (by simp)),r,q⟩
end
def DU (sp:Sp)(dvs:ζ)(E:XK)(t:TA):TE:=fun σ H Q=>t σ H fun vs H1=>sp (vs++dvs) H1 Q E
def S4 (C:abA)(sp:Sp)(dvs:ζ)(E:XK)(t:TA):TE:=fun σ H Q=>t σ H fun vs H1=>∀x dx,H1 x=none->H1 dx=none->dx≠x->
 sp (.ref x::(vs++dvs)) (upd (upd H1 dx (.own x)) x (.ins C dx [])) (fun v H2=>v=.cT/\Q (.ref x) H2) E
def Binds (K:Frag)(fd:FuncData)(ps:ψ)(ds:ρ):Prop:=
 ∀(s:abH)(us:ρ),K.In s.heap->(us++ds).length=ps.length->BindsTo s fd ⟨us,[]⟩ (ps.zip (us++ds))
def Binds.all {K:Frag}(h:∀us:List Value,us.length=ps.length->bindArgs fd ⟨us,[]⟩=pure (ps.zip us)):Binds K fd ps []:=fun s us _ hl=>by
 rw [ae_] at hl ⊢;exact .of_eq (h us hl)
def Passes (CX:ma)(X:Cx)(E:XK):Prop:=∀(pins:ε)(σ:St)(H:Hp)(s:abH)(e:Value)(s':abH),Inv X pins σ H s->CX X.stack H s E e s' ->X.xe e s'
section
variable {X:Cx}{CX:ma}{k:Nat}{f C:abA}{fd:FuncData}{ps:ψ}{sp:Sp}{dvs:ζ}{ds:ρ}{E:XK}{x m:Str}{p pos apos:Pos}{e o:Expr}{es:Ζ}{ta:TE}{t:TA}
def vf {σ:St}{us:ρ}{vs:ζ}(F:dq X.prog X.w X.K X.mg X.base CX k f fd ps sp)(hr:cB k X.A)(hb:Binds X.K fd ps ds)(hd:Vals dvs ds)(hx:Passes CX X E)
  (I:Inv X pins σ H s) (r:Vals vs us) (h:sp (vs++dvs) H Q E):abG (abK X.prog X.w) X.A (call (.ref f) us) (EP X pins σ Q) X.xe s:=by
 have r2:Vals (vs++dvs) (us++ds):=r.append hd;have hl:(us++ds).length=ps.length:=by rw [<-r2.length];exact F.len _ _ _ _ h
 refine wpAny_call (codeAny_mono (F.run X.A X.stack s H ⟨us,[]⟩ (us++ds) (vs++dvs) Q E hr I.X8 (hb s us I.kN hl) r2 h) fun r s' hq=>?_);cases r with
 | error e=>exact hx pins σ H s e s' I hq
 | ok fl=>
  cases fl with
  | ret u=>exact I.after hq
  | next=>exact False.elim hq
  | brk=>exact False.elim hq
  | cont=>exact False.elim hq
def Qi (F:dq X.prog X.w X.K X.mg X.base CX k f fd ps sp)(hr:cB k X.A)(hg:Gl X x)(hm:X.mg x=some (.ref f))(hk:keepIn X.K (.ref f)=true)(hb:Binds X.K fd ps ds)(hd:Vals dvs ds)(hx:Passes CX X E)
  (ha:PA X (e::es) t) (tw:(x==("__debug__":Str))=false:=by decide) (he:abP (e::es) X.env=(false,abW e X.env)::abP es X.env:=by rfl) (pJ:(ack pos (abP es X.env)).any (·.1)=false:=by rfl):
  PE X (.Call (.Name x p) (e::es) [] pos) (DU sp dvs E t):=by
 intro pins s σ H Q I h;refine acE (lY I hg hm ?_ tw);refine adU (h₀:=X.base) I.ok.mod.W5 hk (cF (ha pos pins s σ H _ I h) fun us s1 ⟨vs,H1,I1,r,q⟩=>⟨I1.kN,?_⟩) he pJ;exact vf F hr hb hd hx I1 r q
structure Mk (K:Frag)(C f:abA):Prop where
 makes:acs K C=true
 init:abT K (.ref C) "__init__"=some (some (.ref f))
 fn:aiJ K (.ref f)=true
 kp:keepIn K (.ref C)=true
def xM {σ:St}{us:ρ}{vs:ζ}(M:Mk X.K C f)(F:dq X.prog X.w X.K X.mg X.base CX k f fd ps sp)(hr:cB (k+1) X.A)(hb:Binds X.K fd ps ds)(hd:Vals dvs ds)
  (hx:Passes CX X E) (I:Inv X pins σ H s) (r:Vals vs us)
  (h:∀x dx,H x=none->H dx=none->dx≠x->sp (.ref x::(vs++dvs)) (upd (upd H dx (.own x)) x (.ins C dx [])) (fun v H2=>v=.cT/\Q (.ref x) H2) E):
  abG (abK X.prog X.w) X.A (call (.ref C) us) (EP X pins σ Q) X.xe s:=by
 have hq:=h (s.heap.objs.size+1) s.heap.objs.size (I.bM.fresh (an1 _)) (I.bM.fresh (aaA _)) (aew (aeP _));have I2:=Inv.made (C:=C) I;have r2:Vals (V.ref (s.heap.objs.size+1)::(vs++dvs)) (Value.ref (s.heap.objs.size+1)::(us++ds)):=.cons rfl (r.append hd)
 have hl:(Value.ref (s.heap.objs.size+1)::us++ds).length=ps.length:=by
  have e:=r2.length;rw [F.len _ _ _ _ hq] at e;exact e.symm
 refine wpAny_call (LX (f:=f) I.kN M.makes M.init (beq_iff_eq.mp M.fn) (codeAny_mono (F.run _ X.stack _ _ ⟨Value.ref (s.heap.objs.size+1)::us,[]⟩ (Value.ref (s.heap.objs.size+1)::(us++ds)) _ _ E (hr.make C us [])
  (I2.X8.make C us []) (hb _ (Value.ref (s.heap.objs.size+1)::us) I2.kN hl) r2 hq) fun r s' m6 =>?_))
 cases r with
 | error e=>exact hx pins σ _ _ e s' I2 m6
 | ok fl=>
  cases fl with
  | ret u=>
   obtain ⟨v,H',I3,rv,ev,q3⟩:=I2.after m6;subst ev;exact ⟨rv,⟨V.ref (s.heap.objs.size+1),H',I3,rfl,q3⟩⟩
  | next=>exact False.elim m6
  | brk=>exact False.elim m6
  | cont=>exact False.elim m6
def Qj (M:Mk X.K C f)(F:dq X.prog X.w X.K X.mg X.base CX k f fd ps sp)(hr:cB (k+1) X.A)(hg:Gl X x)(hm:X.mg x=some (.ref C))(hb:Binds X.K fd ps ds)(hd:Vals dvs ds)(hx:Passes CX X E)
  (ha:PA X (e::es) t) (tw:(x==("__debug__":Str))=false:=by decide) (he:abP (e::es) X.env=(false,abW e X.env)::abP es X.env:=by rfl) (pJ:(ack pos (abP es X.env)).any (·.1)=false:=by rfl):
  PE X (.Call (.Name x p) (e::es) [] pos) (S4 C sp dvs E t):=by
 intro pins s σ H Q I h;refine acE (lY I hg hm ?_ tw);refine adU (h₀:=X.base) I.ok.mod.W5 M.kp (cF (ha pos pins s σ H _ I h) fun us s1 ⟨vs,H1,I1,r,q⟩=>⟨I1.kN,?_⟩) he pJ;exact xM M F hr hb hd hx I1 r q
def LY (M:Mk X.K C f)(F:dq X.prog X.w X.K X.mg X.base CX k f fd ps sp)(hr:cB (k+1) X.A)(hg:Gl X x)(hm:X.mg x=some (.ref C))(hb:Binds X.K fd ps ds)(hd:Vals dvs ds)(hx:Passes CX X E)
  (tw:(x==("__debug__":Str))=false:=by decide):PE X (.Call (.Name x p) [] [] pos) (S4 C sp dvs E gj):=by
 intro pins s σ H Q I h;refine acE (lY I hg hm ?_ tw);exact PySem.W.callWith_K0 I.kN M.kp (xM (us:=[]) M F hr hb hd hx I .nil h)
end
structure av (N P:ψ)(sc:Scope):Prop where
 kind:sc.kind=.function
 co:sc.isCoroutine=false
 gen:sc.isGenerator=false
 nd:N.Nodup
 pre:N.take P.length=P
 par:∀x∈P,sc.names.lookup x=some .local\/sc.names.lookup x=some .cell
 UJ:∀y∈sc.names,y.2≠.free
theorem um {adq:Str->Option NameKind}:∀{binds:Χ} {m:ν},(∀v,(x,v)∉binds)->bindL adq binds m x=m x
 | [],_,_=>rfl
 | (n,v)::r,m,h=>by
  unfold bindL;rw [um fun w hw=>h w (aax _ hw)];split
  ·have:x≠n:=by rintro rfl;exact h v aa_
   simp [this]
  ·rfl
theorem uo {adq:Str->Option NameKind}:∀{binds:Χ} {m:ν},(∀v,(x,v)∉binds)->bindC adq binds m x=m x
 | [],_,_=>rfl
 | (n,v)::r,m,h=>by
  unfold bindC;rw [uo fun w hw=>h w (aax _ hw)];split
  ·rfl
  ·have:x≠n:=by rintro rfl;exact h v aa_
   simp [this]
theorem uq {adq:Str->Option NameKind}:∀{P:ψ} {vs:ρ} {i:Nat} {m:ν},P.Nodup->P[i]?=some x->vs[i]?=some v->adq x=some .local->
  bindL adq (P.zip vs) m x=some v
 | [],_,_,_,_,h,_,_=>by simp at h
 | _::_,[],_,_,_,_,h,_=>by simp at h
 | p::P,w::vs,0,m,nd,h1,h2,hk=>by
  simp at h1 h2;subst h1;subst h2;show bindL adq ((p,w)::P.zip vs) m p=_;unfold bindL;rw [um fun v hv=>(aeC.mp nd).1 (ahG hv).1,abC hk];simp
 | p::P,w::vs,i+1,m,nd,h1,h2,hk=>by
  show bindL adq ((p,w)::P.zip vs) m x=_;unfold bindL;exact uq (i:=i) (aeC.mp nd).2 (by simpa using h1) (by simpa using h2) hk
theorem ur {adq:Str->Option NameKind}:∀{P:ψ} {vs:ρ} {i:Nat} {m:ν},P.Nodup->P[i]?=some x->vs[i]?=some v->adq x≠some .local->
  bindC adq (P.zip vs) m x=some v
 | [],_,_,_,_,h,_,_=>by simp at h
 | _::_,[],_,_,_,_,h,_=>by simp at h
 | p::P,w::vs,0,m,nd,h1,h2,hk=>by
  simp at h1 h2;subst h1;subst h2;show bindC adq ((p,w)::P.zip vs) m p=_;unfold bindC;rw [uo fun v hv=>(aeC.mp nd).1 (ahG hv).1,abB hk];simp
 | p::P,w::vs,i+1,m,nd,h1,h2,hk=>by
  show bindC adq ((p,w)::P.zip vs) m x=_;unfold bindC;exact ur (i:=i) (aeC.mp nd).2 (by simpa using h1) (by simpa using h2) hk
def start (N:ψ)(vs:ζ):St:=vs.map some++ac_ (N.length-vs.length) none
noncomputable def jD (CX:ma)(P:abQ)(w:World)(K:Frag)(mg:ν)(base:Heap)(N:ψ)(qual:Str)(scope:Scope)(f:abA)(cd:Value)(A:abV)(outer:List Env)(s:abH)(H:Hp)(E:XK):Cx where
 prog:=P
 w:=w
 K:=K
 mg:=mg
 base:=base
 A:=A.deeper (adg qual scope s.heap.objs.size f cd)
 N:=N
 s₀:=s
 H₀:=H
 env:=adg qual scope s.heap.objs.size f cd
 outer:=outer
 stack:=adg qual scope s.heap.objs.size f cd::outer
 ex:=[]
 calm:=true
 fn:=fun _=>true
 pn:=[]
 xe:=fun e s'=>abG (abK P w) (A.deeper (adg qual scope s.heap.objs.size f cd)) (leaving (adg qual scope s.heap.objs.size f cd) e) (fun _ X9 =>CX outer H s E e X9) (fun e' X9 =>CX outer H s E e' X9) s'
def xN {sc:Scope}(h:sc.names.lookup x=some .cell):∃c,(cellsFrom n sc.names []).lookup x=some c:=by
 have q:=PySem.W.cellsFrom_some sc.names n [] (.inl h);exact ahg.mp q
def HH {K:Frag}{us:ρ}{vs:ζ}
  (S:av N ps scope) (hd:A.handled=none) (e0:AQ P w K mg base A outer s H) (hl:vs.length=ps.length) (r:Vals vs us)
  (x:InCallC s s.heap.objs.size (bindL (adg qual scope s.heap.objs.size f cd).kindOf (ps.zip us) fun _=>none) (cellsFrom (s.heap.objs.size+1) scope.names []) (bindC (adg qual scope s.heap.objs.size f cd).kindOf (ps.zip us) fun _=>none) s1):
  Inv (jD CX P w K mg base N qual scope f cd A outer s H E) [] (start N vs) H s1:=by
 have pJ:ps.length<=N.length:=by have:=abR afb S.pre;rw [abv] at this;omega
 obtain ⟨h1,tk,rfl,hk⟩:=x.done;have X_:∀b:abA,b∉(jD CX P w K mg base N qual scope f cd A outer s H E).ex:=fun b z=>abM (show b∈([]:List abA) from z) (by simp)
 refine ⟨⟨e0.mod,S.kind,rfl,rfl,aaA _,fun y z c h1 h2=>?_,fun y hy=>?_,fun y c _ h=>?_,fun _=>hd,Around.frames_deeper e0.frames,.inr ⟨rfl,rfl⟩,fun b z=>abM z (X_ b),e0.bs,e0.P0,fun b _ _=>X_ b,fun b z=>abM z (X_ b),e0.pG,e0.Ux⟩,
  rfl,e0.bare,Un.kept hk,⟨_,x.toInCall.ns,fun i y v h1 h2 h3=>?_⟩,fun y c h=>⟨_,x.cell y c h⟩,e0.bM.fresh (aaA _),fun y c h=>?_,fun p hp=>abM (show p∈([]:List (abA×Obj)) from hp) (by simp),e0.bM.kept hk,?_⟩
 ·exact name_of_addr x.apart (acP h1) (acP h2)
 ·have hy:scope.names.lookup y=some .cell\/scope.names.lookup y=some .free:=hy
  rcases hy with hy|hy
  ·exact xN hy
  ·exact abM rfl (S.UJ _ (acP hy))
 ·exact ae1 (x.above y c (acP h))
 ·have hi:i<vs.length:=by
   unfold start at h2;by_cases hi:i<vs.length
   ·exact hi
   ·rw [abx (by simpa using hi)] at h2
    rw [aeI] at h2;split at h2<;>cases h2
  have ha:vs[i]?=some v:=by
   unfold start at h2;rw [aby (by simpa using hi),aaa] at h2;cases e:vs[i]? with
   | none=>rw [e] at h2;cases h2
   | some a=>rw [e] at h2;cases h2;rfl
  obtain ⟨u,hu,rv⟩:=r.get ha
  have hp:ps[i]?=some y:=by
   rw [<-S.pre,aeM (by omega)];exact h1
  have ndP:ps.Nodup:=by rw [<-S.pre];exact S.nd.sublist (List.take_sublist _ _)
  refine ⟨u,rv,?_⟩
  rcases S.par y (aaq hp) with k|k
  ·exact .inl ⟨k,uq ndP hp hu k⟩
  ·obtain ⟨c,e⟩:=xN (n:=s.heap.objs.size+1) k
   refine .inr ⟨.inl k,c,e,?_⟩;have q:=x.cell y c e;rw [ur ndP hp hu (by show scope.names.lookup y≠_;rw [k];decide)] at q;exact q
 ·exact e0.bM.fresh (ae1 (x.above y c (acP h)))
 ·unfold start
  show _=N.length;rw [aba,ir,aeG];omega
def DV {K:Frag}{dV kV doc pm ck ct oc:Value}{an od:Λ}
  {sR:Ν}   (lk:K.lookup f=some ⟨oc,od,.func (fnOf name qual params body scope dV kV doc pm an ck ct),sR⟩) (tq:codeIn K ck qual=true) (S:av N ps scope)
  (len:∀vs H Q E,sp vs H Q E->vs.length=ps.length)
  (gW:∀(A:abV)(outer:List Env)(s:abH)(H:Hp)(vs:ζ)(Q:VK)(E:XK),cB k (A.deeper (adg qual scope s.heap.objs.size f ck))->sp vs H Q E->
   ∃t,PSs (jD CX P w K mg base N qual scope f ck A outer s H E) body t/\t {nx:=fun _ H'=>Q .cT H',rt:=Q} (start N vs) H):
  dq P w K mg base CX (k+1) f (fnOf name qual params body scope dV kV doc pm an ck ct) ps sp:=by
 refine ⟨len,fun A outer s H args us vs Q E hr e0 hb r zZ=>?_⟩;have hl:=len _ _ _ _ zZ;have KX:K.In s.heap:=e0.mod.W5.keeps fun b o e=>(e0.bs b o e).1;have lim:s.heap.NoLimit:=e0.mod.nolimit.keeps fun b o e=>(e0.bs b o e).1
 have X':∀y∈ps.zip us,scope.names.lookup y.1=some .local\/(scope.names.lookup y.1=some .cell/\((cellsFrom (s.heap.objs.size+1) scope.names []).lookup y.1).isSome=true):=fun ⟨n,v⟩ hy=>by
  rcases S.par n (ahG hy).1 with q|q
  ·exact .inl q
  ·exact .inr ⟨q,PySem.W.cellsFrom_some _ _ _ (.inl q)⟩
 refine codeAny_call_function hr.depth (KX _ _ lk) rfl S.co S.gen rfl (PySem.W.codeRec_of KX tq) (hb _ _ _ _ ?_);refine wpAny_newFunctionEnv_cells S.kind X' fun env he s1 x=>?_;subst he;refine ⟨lim.keeps x.toInCall.keep,codeAny_func ?_⟩;obtain ⟨t,ht,hq⟩:=gW A outer s H vs Q E (hr.deeper _) zZ;have I:Inv (jD CX P w K mg base N qual scope f ck A outer s H E) [] (start N vs) H s1:=HH S hr.hd e0 hl r x;refine ab4 (ht [] s1 (start N vs) H _ I hq) (fun fl s' hs=>?_) fun e s' hs=>hs
 have fin:∀{σ' :St} {H':Hp} {v:V} {u:Value},Inv (jD CX P w K mg base N qual scope f ck A outer s H E) [] σ' H' s' ->RelV v u->Q v H' ->CE outer P w H s Q u s':=
  fun {σ' H' v u} J rv q=>⟨v,H',J.os,J.bare,J.base,J.bM,rv,q⟩
 cases fl with
 | ret u=>
  obtain ⟨v,σ',H',J,rv,q⟩:=hs;exact fin J rv q
 | next=>
  obtain ⟨σ',H',J,q⟩:=hs;exact fin (v:=V.cT) (u:=Value.none) J rfl q
 | brk=>
  obtain ⟨_,_,_,q⟩:=hs;exact False.elim q
 | cont=>
  obtain ⟨_,_,_,q⟩:=hs;exact False.elim q
section
variable {X:Cx}{x:Str}{p pos:Pos}{e:Expr}{es:Ζ}{t:TA}{id T:String}{r:List V->Hp->VK->Prop}
def tCB (r:List V->Hp->VK->Prop)(t:TA):TE:=fun σ H Q=>t σ H fun vs H1=>r vs H1 Q
def aH (hc:ie X (.builtin id) r)(hg:Gl X x)(hm:X.mg x=none)(hv:abZ x=some (.builtin id))(ha:PA X (e::es) t)(hn:x≠ "__name__":=by decide)(tw:(x==("__debug__":Str))=false:=by decide)
  (he:abP (e::es) X.env=(false,abW e X.env)::abP es X.env:=by rfl) (pJ:(ack pos (abP es X.env)).any (·.1)=false:=by rfl):PE X (.Call (.Name x p) (e::es) [] pos) (tCB r t):=by
 intro pins s σ H Q I h;refine acE (i6 I hg hm hv ?_ hn tw);exact PyProof.Rows.callWith_builtin1 (cF (ha pos pins s σ H _ I h) fun us s1 ⟨vs,H1,I1,r1,q1⟩=>hc pins s1 σ H1 vs us Q I1 r1 q1) he pJ
def bO (hc:ie X (.type T) r)(hg:Gl X x)(hm:X.mg x=none)(hv:abZ x=some (.type T))(ha:PA X (e::es) t)(hn:x≠ "__name__":=by decide)(tw:(x==("__debug__":Str))=false:=by decide)
  (he:abP (e::es) X.env=(false,abW e X.env)::abP es X.env:=by rfl) (pJ:(ack pos (abP es X.env)).any (·.1)=false:=by rfl):PE X (.Call (.Name x p) (e::es) [] pos) (tCB r t):=by
 intro pins s σ H Q I h;refine acE (i6 I hg hm hv ?_ hn tw);exact ab8 (cF (ha pos pins s σ H _ I h) fun us s1 ⟨vs,H1,I1,r1,q1⟩=>hc pins s1 σ H1 vs us Q I1 r1 q1) he pJ
end
end L2
namespace HT
open PySem PyProof.Rows
section
variable {prog:abQ}{w:World}{A:abV}{E:δ}{s:abH}
def xO (n d:Nat):Option Int->Nat
 | none=>d
 | some v=>if v<0 then (v+(n:Int)).toNat else min v.toNat n
def xP (n d:Nat):xO n d none=d:=rfl
def qd (n d k:Nat):xO n d (some (k:Int))=min k n:=by
 show (if (k:Int)<0 then ((k:Int)+(n:Int)).toNat else min (k:Int).toNat n)=min k n;rw [abB (by omega),agr]
end
end HT
namespace L2
open PySem PySem.Spec PyProof.Rows
abbrev TO:=St->Hp->(Option Int->Hp->Prop)->Prop
def PO (X:Cx)(e:Option Expr)(t:TO):Prop:=
 ∀(pins:ε)(s:abH)(σ:St)(H:Hp)(Q:Option Int->Hp->Prop),Inv X pins σ H s->t σ H Q->
  abG (abK X.prog X.w) X.A (evalPart e X.env) (fun u s'=>∃o H',Inv X pins σ H' s'/\IsPart u o/\Q o H') X.xe s
def Qk:TO:=fun _ H Q=>Q none H
inductive LZ (Q:(Option Int->Hp->Prop))(x:V)(H1:Hp):Prop
|mk (i:_)(_:x=.int i)(_:Q (some i) H1)
def Ya (t:TE):TO:=fun σ H Q=>t σ H fun x H1=>LZ Q x H1
section
variable {X:Cx}{e:Expr}{te:TE}{lo hi:Option Expr}{tl th:TO}{pos p2:Pos}
def dX:PO X none Qk:=by
 intro pins s σ H Q I h;rw [evalPart_none];exact abF ⟨none,H,I,.none,h⟩
def dw (h:PE X e te):PO X (some e) (Ya te):=by
 intro pins s σ H Q I hw;rw [evalPart_some];refine cF (h pins s σ H _ I hw) fun u s1 ⟨x,H1,I1,r1,q1⟩=>?_;obtain ⟨i,rfl,q⟩:=q1;obtain ⟨t,rfl⟩:=r1;exact ⟨some i,H1,I1,.int i t,q⟩
def SlR (X:Cx)(r:V->Option Int->Option Int->Hp->VK->Prop):Prop:=
 ∀(pins:ε)(s:abH)(σ:St)(H:Hp)(x:V)(v vl vu:Value)(lo hi:Option Int)(sl:abA)(Q:VK),Inv X pins σ H s->RelV x v->s.heap.IsSliceOf sl vl vu .none->IsPart vl lo->IsPart vu hi->r x lo hi H Q->
  ∃T id,typeLookup (.type T) "__getitem__"=pure (some (.builtin id))/\s.TypeIs v T/\abG (abK X.prog X.w) X.A (getItem v (.ref sl)) (EP X pins σ Q) X.xe s
def tSl (r:V->Option Int->Option Int->Hp->VK->Prop)(te:TE)(tl th:TO):TE:=fun σ H Q=>te σ H fun x H1=>tl σ H1 fun l H2=>th σ H2 fun u H3=>r x l u H3 Q
def cL (hr:SlR X r)(he:PE X e te)(hl:PO X lo tl)(hu:PO X hi th):PE X (.Subscript e (.Slice lo hi none p2) pos) (tSl r te tl th):=by
 intro pins s σ H Q I h;refine Subscript_ (cF (he pins s σ H _ I h) fun v s1 ⟨x,H1,I1,r1,q1⟩=>?_);refine wpAny_Slice (cF (hl pins s1 σ H1 _ I1 q1) fun vl s2 ⟨l,H2,I2,pl,q2⟩=>cF (hu pins s2 σ H2 _ I2 q2) fun vu s3 ⟨u,H3,I3,pu,q3⟩=>?_);rw [evalPart_none];refine abF ?_;have I4:Inv X pins σ H3 {s3 with heap:=s3.heap.push {cls:=.type "slice",data:=.fields #[vl,vu,.none]}}:=I3.kept (t':=s3.toks) fun b ob q=>abD _ q;obtain ⟨T,id,hT,ht,hg⟩:=hr pins {s3 with heap:=s3.heap.push {cls:=.type "slice",data:=.fields #[vl,vu,.none]}} σ H3 x v vl vu l u s3.heap.objs.size Q I4 r1 (Heap.IsSliceOf.new ..) pl pu q3;show abG (abK X.prog X.w) X.A (subscriptTail e (.Slice lo hi none p2) v (.ref s3.heap.objs.size)) (EP X pins σ Q) X.xe {s3 with heap:=s3.heap.push {cls:=.type "slice",data:=.fields #[vl,vu,.none]}};exact tail_any (ops:=[.ref s3.heap.objs.size,v]) ht hT hg (by with_unfolding_all rfl)
def iD (xs:ζ)(lo hi:Option Int):List V:=(xs.drop (HT.xO xs.length 0 lo)).take (HT.xO xs.length xs.length hi-HT.xO xs.length 0 lo)
def xQ (xs:ζ)(lo hi:Option Int):(iD xs lo hi).length<=xs.length:=by
 unfold iD;rw [abv,afr];omega
end
def Lc (n:Nat)(i:Int):Option Nat:=if 0<=i then (if i<n then some i.toNat else none) else if -(n:Int)<=i then some (i+n).toNat else none
def iZ {α:Type}(xs:List α)(i:Int):Option α:=(Lc xs.length i).bind fun j=>xs[j]?
def DW (h:Lc n i=some j):seqIndex? i n=some j/\j<n/\ -(n:Int)<=i/\i<n:=by
 unfold Lc at h;by_cases h0:0<=i
 ·rw [abC h0] at h
  by_cases h1:i<n
  ·rw [abC h1] at h
   have e:i.toNat=j:=aen h;exact ⟨by rw [seqIndex_of h0 h1,e],by omega,by omega,h1⟩
  ·rw [abB h1] at h;cases h
 ·rw [abB h0] at h
  by_cases h1: -(n:Int)<=i
  ·rw [abC h1] at h
   have e:(i+n).toNat=j:=aen h;exact ⟨by rw [seqIndex_neg (by omega) h1,e],by omega,h1,by omega⟩
  ·rw [abB h1] at h;cases h
def vg {v:α}(h:iZ xs i=some v):∃j,seqIndex? i xs.length=some j/\xs[j]?=some v/\j<xs.length/\ -(xs.length:Int)<=i/\i<xs.length:=by
 unfold iZ at h;cases e:Lc xs.length i with
 | none=>rw [e] at h;cases h
 | some j=>
  rw [e] at h;obtain ⟨h1,h2,h3,h4⟩:=DW e;exact ⟨j,h1,h,h2,h3,h4⟩
def bG {j:Nat}{v:α}(h:xs[j]?=some v):iZ xs (j:Int)=some v:=by
 have hj:j<xs.length:=(Wp.mp h).1
 have e:Lc xs.length (j:Int)=some j:=by
  unfold Lc;rw [abC (by omega),abC (by omega)];simp
 unfold iZ;rw [e];exact h
def DX (b:Expr):Prop:=∀o i,subscripted b false o i=operate [o,i] (getItem o i)
def S5 (X:Cx)(r:R2):Prop:=
 ∀(value slice:Expr)(pins:ε)(s:abH)(σ:St)(H:Hp)(x y:V)(v u:Value)(Q:VK),Inv X pins σ H s->RelV x v->RelV y u->r x y H Q->
  subscripted slice false v u=operate [v,u] (getItem v u)->abG (abK X.prog X.w) X.A (subscriptTail value slice v u) (EP X pins σ Q) X.xe s
def MtR (X:Cx)(id:String)(r:Ψ):Prop:=
 ∀(pins:ε)(s:abH)(σ:St)(H:Hp)(x:V)(xs:ζ)(v:Value)(us:ρ)(Q:VK),Inv X pins σ H s->RelV x v->Vals xs us->r x xs H Q->
  abG (abK X.prog X.w) X.A (call (.builtin id) (v::us)) (EP X pins σ Q) X.xe s
section
variable {X:Cx}{a b:Expr}{ta tb:TE}{pos:Pos}
def L6 (hr:S5 X r)(ha:PE X a ta)(hb:PE X b tb)(hs:DX b):PE X (.Subscript a b pos) (Qa r ta tb):=by
 intro pins s σ H Q I h;exact Subscript_ (UH ha hb I h fun v u s2 x y H2 I2 rx ry q=>hr a b pins s2 σ H2 x y v u Q I2 rx ry q (hs _ _))
inductive Ql (K:Frag)(x:V)(y:V)(H:Hp)(Q:VK):Prop
|mk (p xs i v:_)(_:x=.ref p)(_:y=.int i)(_:aT K H p xs)(_:iZ xs i=some v)(_:Q v H)
inductive L7 (K:Frag)(x:V)(y:V)(H:Hp)(Q:VK):Prop
|mk (p xs i v:_)(_:x=.ref p)(_:y=.int i)(_:bQ K H p xs)(_:iZ xs i=some v)(_:Q v H)
inductive Yb (x:V)(y:V)(H:Hp)(Q:VK):Prop
|mk (z i c:_)(_:x=.str z)(_:y=.int i)(_:z.length<=abE)(_:iZ z.cps.toList i=some c)(_:Q (.str ⟨#[c]⟩) H)
def aR:S5 X (Ql X.K):=by
 intro value slice pins s σ H x y v u Q I rx ry h hs;obtain ⟨p,xs,i,z,rfl,rfl,hq,he,q⟩:=h;cases rx;obtain ⟨t,rfl⟩:=ry;obtain ⟨its,r,pl,hz⟩:=I.list hq;obtain ⟨j,h1,h2,h3,h4,h5⟩:=vg he;obtain ⟨w,ew,pI⟩:=r.get h2;have hl:=r.length;have hn:=qH;have fin:EP X pins σ Q w s:=⟨z,H,I,pI,q⟩;by_cases h0:0<=i
 ·have hj:i.toNat=j:=by
   rw [seqIndex_of h0 h5] at h1;exact aen h1
  exact item_listR pl.isList h0 (by omega) (by rw [hj];simpa using ew) fin hs
 ·have hj:(i+(its.toArray.size:Int)).toNat=j:=by
   rw [seqIndex_neg (by omega) h4] at h1;rw [aeq,<-hl];exact aen h1
  exact subscriptTail_builtinR (x:=w) pl.isList.typeIs slot_list_getitem.lookup
   (wpAny_getItem_list_neg (Q:=fun r s'=>r=w/\EP X pins σ Q r s') pl.isList (by omega) (by rw [aeq]<;>omega) (by omega) (by rw [hj];simpa using ew) ⟨rfl,fin⟩) hs
def nq:S5 X (L7 X.K):=by
 intro value slice pins s σ H x y v u Q I rx ry h hs;obtain ⟨p,xs,i,z,rfl,rfl,hq,he,q⟩:=h;cases rx;obtain ⟨t,rfl⟩:=ry;obtain ⟨its,r,pl,hz⟩:=I.tuple hq;obtain ⟨j,h1,h2,h3,h4,h5⟩:=vg he;obtain ⟨w,ew,pI⟩:=r.get h2;have hl:=r.length;have hn:=qH;have fin:EP X pins σ Q w s:=⟨z,H,I,pI,q⟩
 exact subscriptTail_builtinR (x:=w) pl.typeIs slot_tuple_getitem.lookup
  (getItem_tuple (j:=j) (Q:=fun r s'=>r=w/\EP X pins σ Q r s') pl (by omega) (by omega) (by rw [aeq,<-hl];exact h1) (by simpa using ew) ⟨rfl,fin⟩) hs
def UK:S5 X Yb:=by
 intro value slice pins s σ H x y v u Q I rx ry h hs;obtain ⟨z,i,c,rfl,rfl,hz,he,q⟩:=h;obtain ⟨t,rfl⟩:=rx;obtain ⟨t',rfl⟩:=ry;obtain ⟨j,h1,h2,h3,h4,h5⟩:=vg he;have hl:z.cps.toList.length=z.length:=by simp [Str.length]
 rw [hl] at h1 h4 h5;have hn:=qH
 exact tail_any (typeIs_str s z t) slot_str_getitem.lookup (getItem_str (c:=c) (by
  have e1:decide (i < -(2^63:Int))=false:=ab1 (by omega);have e2:decide (i≥2^63)=false:=ab1 (by omega)
  rw [e1,e2,aop]) (by rw [h1];simpa using h2) ⟨.str ⟨#[c]⟩,H,I.tok _,⟨_,rfl⟩,q⟩) hs
def AR (its:ρ)(n j:Nat)(u:Value):acN (·.setIfInBounds j u) {cls:=.type "list",data:=.seq its.toArray n}={cls:=.type "list",data:=.seq (its.set j u).toArray n}:=by
 simp [acN]
def Inv.lst {pins:ε}{σ:St}{H:Hp}{s:abH}{p:abA}{xs:ζ}(I:Inv X pins σ H s)(h:H p=some (.lst xs)):
  ∃(its:ρ)(n:Nat),Vals xs its/\s.heap.get? p=some {cls:=.type "list",data:=.seq its.toArray n}/\xs.length<=abE:=by
 obtain ⟨z,its,n,r,e⟩:=I.bM p _ h;exact ⟨its,n,r,e,z⟩
def Inv.UL {σ:St}{xs ys:ζ}{its its':ρ}(I:Inv X pins σ H s)(h:H p=some (.lst xs))
  (ho:s.heap.get? p=some {cls:=.type "list",data:=.seq its.toArray n}) (hf:f {cls:=.type "list",data:=.seq its.toArray n}={cls:=.type "list",data:=.seq its'.toArray n'}) (r:Vals ys its') (hz:ys.length<=abE) (t:Nat):
  Inv X pins σ (upd H p (.lst ys)) {s with heap:=s.heap.update p f,toks:=t}:=by
 have e:(s.heap.update p f).get? p=some {cls:=.type "list",data:=.seq its'.toArray n'}:=by
  rw [acI f ho (by rw [hf]<;>rfl),hf]
 refine I.write (x:=p) (e:=p) (by rw [h];trivial) (.inl rfl) (fun b u hb q=>(ab6 _ _ (aeD hb)).trans q) ⟨_,e⟩ ?_;exact ⟨hz,its',n',r,e⟩
inductive S6 (o:V)(i:V)(v:V)(H:Hp)(Q:(Hp->Prop)):Prop
|mk (p xs k j:_)(_:o=.ref p)(_:i=.int k)(_:H p=some (.lst xs))(_:Lc xs.length k=some j)(_:Q (upd H p (.lst (xs.set j v))))
def set_list:XY X S6:=by
 intro pins s σ H o i v ov iv u Q I ro ri rv h;obtain ⟨p,xs,k,j,rfl,rfl,hp,hj,q⟩:=h;cases ro;obtain ⟨t,rfl⟩:=ri;obtain ⟨its,n,r,ho,hz⟩:=I.lst hp;obtain ⟨h1,h2,h3,h4⟩:=DW hj;have hl:=r.length;have hn:=qH
 have I':Inv X pins σ (upd H p (.lst (xs.set j v))) {s with heap:=s.heap.update p (acN (·.setIfInBounds j u))}:=
  I.UL hp ho (AR its n j u) (r.set rv j) (by rw [an5];exact hz) s.toks
 by_cases h0:0<=k
 ·have hk:k.toNat=j:=by
   rw [seqIndex_of h0 h4] at h1;exact aen h1
  exact PySem.W.ki_setAt ho h0 (by omega) (by rw [aeq,<-hl];exact h4) (by rw [hk];exact ⟨_,I',q⟩)
 ·have hk:(k+(its.toArray.size:Int)).toNat=j:=by
   rw [seqIndex_neg (by omega) h3] at h1;rw [aeq,<-hl];exact aen h1
  exact PySem.W.ki_setBack ho (by omega) (by rw [aeq,<-hl];exact h3) (by omega) (by rw [hk];exact ⟨_,I',q⟩)
def vh (lo hi:Option Int)(n:Nat):(adK lo hi none n).1=((HT.xO n 0 lo:Nat):Int)/\(adK lo hi none n).2.1=((HT.xO n n hi:Nat):Int)/\(adK lo hi none n).2.2=1:=by
 refine ⟨?_,?_,rfl⟩
 ·cases lo with
  | none=>simp [adK,HT.xO]
  | some i=>
   simp only [adK,HT.xO,am_,show (1:Int) > 0 by decide,if_true];by_cases h:i<0
   ·simp only [h,if_true]<;>omega
   ·simp only [h,if_false]<;>omega
 ·cases hi with
  | none=>simp [adK,HT.xO]
  | some i=>
   simp only [adK,HT.xO,am_,show (1:Int) > 0 by decide,if_true];by_cases h:i<0
   ·simp only [h,if_true]<;>omega
   ·simp only [h,if_false]<;>omega
def tD (its:ρ)(lo hi:Option Int):slicePick its.toArray lo hi none=((its.drop (HT.xO its.length 0 lo)).take (HT.xO its.length its.length hi-HT.xO its.length 0 lo)).toArray:=by
 obtain ⟨h1,h2,h3⟩:=vh lo hi its.toArray.size;unfold slicePick;rw [h1,h2,h3];simp only [sliceRange_one,pick_run,aeq]<;>rfl
inductive Yc (K:Frag)(x:V)(lo:Option Int)(hi:Option Int)(H:Hp)(Q:VK):Prop
|mk (a xs:_)(_:x=.ref a)(_:aT K H a xs)(_:∀p,H p=none->Q (.ref p) (upd H p (.lst (iD xs lo hi))))
def dY:SlR X (Yc X.K):=by
 intro pins s σ H x v vl vu lo hi sl Q I rx hs pl pu h;obtain ⟨a,xs,rfl,hx,q⟩:=h;cases rx;obtain ⟨its,r,ht,hz⟩:=I.list hx;have hlen:=r.length;refine ⟨"list",_,slot_list_getitem.lookup,ht.isList.typeIs,wpAny_getItem_list_slice ht.isList hs pl pu .none (by simp) ?_ (by rw [aeq]<;>omega)⟩;rw [tD,<-hlen];refine ⟨.ref s.heap.objs.size,_,I.laid (t':=s.toks) (o:=.lst (iD xs lo hi)) (fun b ob q=>abD _ q) (aaA _) ?_,rfl,q _ (I.bM.fresh (aaA _))⟩;exact ⟨aay (xQ xs lo hi) hz,_,0,(r.drop (HT.xO xs.length 0 lo)).take (HT.xO xs.length xs.length hi-HT.xO xs.length 0 lo),abN _ rfl⟩
def jE:V->Bool
 | .cT=>true
 | .bl _=>true
 | .int _=>true
 | .str _=>true
 | _=>false
noncomputable def m7:V->V->Bool
 | .cT,.cT=>true
 | .bl a,.bl b=>a==b
 | .bl a,.int b=>(if a then 1 else 0)==b
 | .int a,.bl b=>a==(if b then 1 else 0)
 | .int a,.int b=>a==b
 | .str a,.str b=>a==b
 | _,_=>false
def L8 (ry:RelV y u)(rx:RelV x v)(fy:jE y=true)(fx:jE x=true):ad5 A s u v (m7 y x):=by
 cases y with
 | cT=>
  cases ry;cases x with
  | cT=>cases rx;exact SeqAt.EqAt.same _
  | bl b=>cases rx;exact SeqAt.EqAt.none_bool b
  | int b=>obtain ⟨t,rfl⟩:=rx;exact SeqAt.EqAt.none_int b t
  | str b=>obtain ⟨t,rfl⟩:=rx;exact SeqAt.EqAt.none_str b t
  | _=>exact abM (show false=true from fx) aem
 | bl a=>
  cases ry;cases x with
  | cT=>cases rx;exact SeqAt.EqAt.bool_none a
  | bl b=>cases rx;exact SeqAt.EqAt.bool_bool a b
  | int b=>obtain ⟨t,rfl⟩:=rx;exact SeqAt.EqAt.bool_int a b t
  | str b=>obtain ⟨t,rfl⟩:=rx;exact SeqAt.EqAt.bool_str a b t
  | _=>exact abM (show false=true from fx) aem
 | int a=>
  obtain ⟨t',rfl⟩:=ry;cases x with
  | cT=>cases rx;exact SeqAt.EqAt.int_none a t'
  | bl b=>cases rx;exact SeqAt.EqAt.int_bool a t' b
  | int b=>obtain ⟨t,rfl⟩:=rx;exact SeqAt.EqAt.int_int a t' b t
  | str b=>obtain ⟨t,rfl⟩:=rx;exact SeqAt.EqAt.int_str a t' b t
  | _=>exact abM (show false=true from fx) aem
 | str a=>
  obtain ⟨t',rfl⟩:=ry;cases x with
  | cT=>cases rx;exact SeqAt.EqAt.str_none a t'
  | bl b=>cases rx;exact SeqAt.EqAt.str_bool a t' b
  | int b=>obtain ⟨t,rfl⟩:=rx;exact SeqAt.EqAt.str_int a t' b t
  | str b=>obtain ⟨t,rfl⟩:=rx;exact SeqAt.EqAt.str_str a t' b t
  | _=>exact abM (show false=true from fx) aem
 | _=>exact abM (show false=true from fy) aem
def Qm (x:V)(u:Value):Bool:=match u with
 | .none=>m7 .cT x
 | .bool b=>m7 (.bl b) x
 | .int i _=>m7 (.int i) x
 | .str z _=>m7 (.str z) x
 | _=>false
def L9 (r:RelV y u)(f:jE y=true):Qm x u=m7 y x:=by
 cases y with
 | cT=>cases r;rfl
 | bl b=>cases r;rfl
 | int i=>obtain ⟨t,rfl⟩:=r;rfl
 | str z=>obtain ⟨t,rfl⟩:=r;rfl
 | _=>exact abM (show false=true from f) aem
theorem vi :∀{xs:ζ} {us:ρ},Vals xs us->xs.all jE=true->us.any (Qm x)=xs.any fun y=>m7 y x
 | _,_,.nil,_=>rfl
 | y::xs,u::us,.cons r t,f=>by
  rw [agL,aft] at f;rw [agn,agn,L9 r f.1,vi t f.2]
theorem qI (rx:RelV x v)(fx:jE x=true):∀{xs:ζ} {us:ρ},Vals xs us->xs.all jE=true->∀u∈us,ad5 A s u v (Qm x u)
 | _,_,.nil,_=>fun u hu=>by cases hu
 | y::xs,u::us,.cons r t,f=>fun u' hu=>by
  rw [agL,aft] at f
  rcases aes.mp hu with rfl|hu
  ·rw [L9 r f.1];exact L8 r rx f.1 fx
  ·exact qI rx fx t f.2 u' hu
def W9 (x:V)(xs:ζ):Bool:=xs.any fun y=>m7 y x
inductive rIn (K:Frag)(neg:Bool)(x:V)(y:V)(H:Hp)(Q:VK):Prop
|mk (p xs:_)(_:y=.ref p)(_:(aT K H p xs\/bQ K H p xs))(_:jE x=true)(_:xs.all jE=true)(_:Q (.bl (if neg then !W9 x xs else W9 x xs)) H)
def me:jX X (aca .NotIn) (rIn X.K true):=by
 intro pins s σ H x y v u Q I rx ry h;obtain ⟨p,xs,rfl,hq,fx,fs,q⟩:=h;cases ry
 rcases hq with hq|hq
 ·obtain ⟨its,r,pl,hz⟩:=I.list hq
  refine SeqAt.notIn_listAt (Qm x) pl.isList (fun w hw=>qI rx fx r fs w (by simpa using hw)) ⟨.bl _,H,I,rfl,?_⟩;rw [show its.toArray.any (Qm x)=its.any (Qm x) by simp,vi r fs];exact q
 ·obtain ⟨its,r,pl,hz⟩:=I.tuple hq
  refine SeqAt.notIn_tupleAt (Qm x) pl (fun w hw=>qI rx fx r fs w (by simpa using hw)) ⟨.bl _,H,I,rfl,?_⟩;rw [show its.toArray.any (Qm x)=its.any (Qm x) by simp,vi r fs];exact q
def aD:ie X (.builtin "len") (fun xs H Q=>∃p ys,xs=[.ref p]/\(aT X.K H p ys\/bQ X.K H p ys)/\Q (.int ys.length) H):=by
 intro pins s σ H xs us Q I r h;obtain ⟨p,ys,rfl,hq,q⟩:=h;obtain ⟨u,rfl,rx⟩:=vals1 r;cases rx;have hn:=qH
 rcases hq with hq|hq
 ·obtain ⟨its,r',pl,hz⟩:=I.list hq
  have hlen:=r'.length;exact Calls.call_len_list pl.isList (by simp only [aeq]<;>omega) ⟨.int ys.length,H,I.tok _,⟨s.toks+1,by rw [aeq,hlen]⟩,q⟩
 ·obtain ⟨its,r',pl,hz⟩:=I.tuple hq
  have hlen:=r'.length;exact len_tuple pl (by simp only [aeq]<;>omega) ⟨.int ys.length,H,I.tok _,⟨s.toks+1,by rw [aeq,hlen]⟩,q⟩
def tyV (K:Frag)(T:String)(x:V)(H:Hp):Prop:=match x with
 | .str _=>T="str"
 | .int _=>T="int"
 | .ref p=>(T="list"/\∃xs,aT K H p xs)\/(T="tuple"/\∃o,K.lookup p=some o/\o.cls=.type "tuple"/\o.dict=none)\/
   (T="dict"/\((∃kvs,H p=some (.dK kvs))\/∃kvs,H p=some (.dT kvs)))\/(T="set"/\∃S n,H p=some (.set S n))
 | _=>False
def L_ {σ:St}(I:Inv X pins σ H s)(r:RelV x v)(ty:tyV X.K T x H):
  s.TypeIs v T/\∀a,v=.ref a->∃ob,s.heap.get? a=some ob/\ob.dict=none:=by
 cases x with
 | str z=>
  obtain ⟨t,rfl⟩:=r;cases (show T="str" from ty);exact ⟨typeIs_str s z t,fun _ e=>nomatch e⟩
 | int i=>
  obtain ⟨t,rfl⟩:=r;cases (show T="int" from ty);exact ⟨typeIs_int s i t,fun _ e=>nomatch e⟩
 | ref p=>
  cases r
  rcases ty with ⟨rfl,xs,hq⟩|⟨rfl,o,hk,hc,hd⟩|⟨rfl,hk⟩|⟨rfl,S,n,hk⟩
  ·obtain ⟨its,_,pl,_⟩:=I.list hq
   refine ⟨pl.isList.typeIs,fun a e=>?_⟩;cases e;obtain ⟨o,n,e,c,hd,_⟩:=pl;exact ⟨o,e,hd⟩
  ·refine ⟨⟨o,I.kN p o hk,hc⟩,fun a e=>?_⟩
   cases e;exact ⟨o,I.kN _ o hk,hd⟩
  ·have z:∃o,s.heap.get? p=some o/\o.ExactDict:=by
    rcases hk with ⟨kvs,hk⟩|⟨kvs,hk⟩
    ·obtain ⟨_,_,_,_,o,_,_,e,ex,_⟩:=I.bM p _ hk
     exact ⟨o,e,ex⟩
    ·obtain ⟨_,_,_,_,o,_,_,e,ex,_⟩:=I.bM p _ hk
     exact ⟨o,e,ex⟩
   obtain ⟨o,e,ex⟩:=z;refine ⟨⟨o,e,ex.1⟩,fun a e2=>?_⟩;cases e2;exact ⟨o,e,ex.2.1⟩
  ·obtain ⟨o,_,_,_,e,ex,_⟩:=I.bM p _ hk
   refine ⟨⟨o,e,ex.1⟩,fun a e2=>?_⟩;cases e2;exact ⟨o,e,ex.2.1⟩
 | _=>exact False.elim ty
def tBM (K:Frag)(T:String)(r:Ψ)(to:TE)(t:TA):TE:=fun σ H Q=>to σ H fun x H1=>tyV K T x H1/\t σ H1 fun xs H2=>r x xs H2 Q
variable {o e:Expr}{es:Ζ}{to:TE}{t:TA}{name:Str}{apos eJ:Pos}{T id:String}{r:Ψ}
def oK (pa:PlainAttrs T)(slot:Slot T name id)(hty:typeOf (.builtin id)=pure (.type "method_descriptor"))(hm:MtR X id r)(ho:PE X o to)(ha:PA X (e::es) t)
  (xR:acR o name X.env (abW o X.env)=abW o X.env:=by rfl)
  (afR:((ack eJ (abP (e::es) X.env)).all (fun x=> !x.1) && (backToKw eJ (aiA [] X.env)).all (fun x=>x.1.isSome)
   && decide ((e::es).length+([]:List Keyword).length+(if ([]:List Keyword).isEmpty then 0 else 1)<30))=true:=by rfl)
  (xS:(apos.endLine==eJ.line)=true:=by rfl) (hs:abP (e::es) X.env=(false,abW e X.env)::abP es X.env:=by rfl) (UM:(ack eJ (abP es X.env)).any (·.1)=false:=by rfl):
  PE X (.Call (.Attribute o name apos) (e::es) [] eJ) (tBM X.K T r to t):=by
 intro pins s σ H Q I h;refine wpAny_Call_method_late xR afR xS rfl (cF (ho pins s σ H _ I h) fun v s1 ⟨x,H1,I1,r1,ty,q1⟩=>?_);obtain ⟨h1,h2⟩:=L_ I1 r1 ty;refine ⟨T,id,pa,slot,hty,h1,h2,?_⟩;have hA:=ha eJ pins s1 σ H1 _ I1 q1;rw [hs] at hA ⊢;refine acC (by show (false || (ack eJ (abP es X.env)).any (·.1))=false;rw [UM]<;>rfl) (Calls.evalArgs_plain ?_);exact cF hA fun us s2 ⟨vs,H2,I2,r2,q2⟩=>hm pins s2 σ H2 x vs v us Q I2 r1 r2 q2
end
def MtM (X:Cx)(id:String)(r:Ψ):Prop:=
 ∀(pins:ε)(s:abH)(σ:St)(H:Hp)(x:V)(xs:ζ)(v:Value)(us:ρ)(Q:VK),Inv X pins σ H s->RelV x v->Vals xs us->r x xs H Q->
  abG (abK X.prog X.w) X.A (call (.builtin id) (v::us)) (EP X pins σ Q) X.xe s
def Vals.one:∀{x:V} {us:ρ},Vals [x] us->∃u,us=[u]/\RelV x u
 | _,_,.cons r .nil=>⟨_,rfl,r⟩
theorem Vals.rep {xs:ζ}{us:ρ}(h:Vals xs us):∀k:Nat,Vals (ac_ k xs).flatten (ac_ k us).flatten
 | 0=>.nil
 | k+1=>by
  rw [aff,aff,ags,ags];exact Vals.append h (Vals.rep h k)
theorem foldl_rep (its:ρ):∀(k:Nat)(acc:ρ),
  aoe (fun x1 x2=>x1++x2) acc.toArray (ac_ k its.toArray)=(acc++(ac_ k its).flatten).toArray
 | 0,acc=>by simp
 | k+1,acc=>by
  have e:acc.toArray++its.toArray=(acc++its).toArray:=by simp
  have e2:(acc++its)++(ac_ k its).flatten=acc++(ac_ (k+1) its).flatten:=by
   rw [aff,ags,af_]
  rw [<-e2,<-foldl_rep its k (acc++its),<-e,aff,List.foldl_cons]
section
variable {X:Cx}{pins:ε}{σ:St}{H:Hp}{s:abH}{l b:abA}{xs ys zs:ζ}
def Inv.Yd {its its':ρ}(I:Inv X pins σ H s)(hH:H l=some (.lst xs))
  (e:s.heap.get? l=some {cls:=.type "list",data:=.seq its.toArray n}) (hf:f its.toArray=its'.toArray) (hv:Vals ys its') (hz:ys.length<=abE):
  Inv X pins σ (upd H l (.lst ys)) {s with heap:=s.heap.update l (acN f),toks:=t'}:=by
 have q:=PySem.IsL.update e f;rw [hf] at q;refine I.write (x:=l) (e:=l) (by rw [hH];exact trivial) (.inl rfl) (fun b' u hb hu=>(ab6 s.heap (acN f) (aeD hb)).trans hu) ⟨_,q⟩ ?_;exact ⟨hz,its',_,hv,q⟩
def Inv.UN {its:ρ}(I:Inv X pins σ H s)(hv:Vals ys its)(hz:ys.length<=abE):
  Inv X pins σ (upd H s.heap.objs.size (.lst ys)) {s with heap:=s.heap.push {cls:=.type "list",data:=.seq its.toArray},toks:=t'}:=
 I.laid (fun _ _ q=>abD _ q) (aaA _) ⟨hz,its,0,hv,abN _ rfl⟩
def Inv.fresh (I:Inv X pins σ H s):H s.heap.objs.size=none:=I.bM.fresh (aaA _)
def Inv.qJ (I:Inv X pins σ H s)(hH:H l=some (.lst xs)):xs.length<=abE/\∃(its:ρ)(n:Nat),Vals xs its/\xs.length=its.length/\s.heap.get? l=some {cls:=.type "list",data:=.seq its.toArray n}:=by
 obtain ⟨z,its,n,r,e⟩:=I.bM l _ hH;exact ⟨z,its,n,r,r.length,e⟩
def xT (h:n<=abE):acu n=false:=by
 unfold acu;exact ab1 (by omega)
end
section
variable {X:Cx}
inductive DY (x:V)(vs:ζ)(H:Hp)(Q:VK):Prop
|mk (l xs y:_)(_:x=.ref l)(_:vs=[y])(_:H l=some (.lst xs))(_:xs.length<abE)(_:Q .cT (upd H l (.lst (xs++[y]))))
def fe:MtM X "list.append" DY:=by
 intro pins s σ H x vs v us Q I rx rv h;obtain ⟨l,xs,y,rfl,rfl,hH,hz,q⟩:=h;cases rx;obtain ⟨u,rfl,ru⟩:=rv.one;obtain ⟨z,its,n,r,hl,e⟩:=I.qJ hH;refine call_meets F.slot_list_append ⟨_,e,rfl⟩ F.entry_list_append (F.args_list_append_2 _ _) (PySem.list_append l its.toArray n u (by rw [aeq];omega)) ⟨e,?_⟩;refine ⟨.cT,_,I.Yd (its':=its++[u]) hH e (by simp) (r.append (.cons ru .nil)) ?_,rfl,q⟩;rw [aba,af1];omega
inductive Ye (x:V)(y:V)(H:Hp)(Q:VK):Prop
|mk (l b xs zs:_)(_:x=.ref l)(_:y=.ref b)(_:H l=some (.lst xs))(_:H b=some (.lst zs))(_:xs.length+zs.length<=abE)(_:∀p,H p=none->Q (.ref p) (upd H p (.lst (xs++zs))))
def jF:jX X (acz .Add) Ye:=by
 intro pins s σ H x y v u Q I rx ry h;obtain ⟨l,b,xs,zs,rfl,rfl,hH,hB,hz,q⟩:=h;cases rx;cases ry;obtain ⟨z,its,n,r,hl,e⟩:=I.qJ hH;obtain ⟨z2,fL,n2,r2,AS,e2⟩:=I.qJ hB;refine PySem.P.add_list e e2 ?_ (by rw [aeq,aeq];omega);have ea:its.toArray++fL.toArray=(its++fL).toArray:=by simp
 rw [ea];exact ⟨.ref _,_,I.UN (t':=s.toks) (r.append r2) (by rw [aba];omega),rfl,q _ I.fresh⟩
inductive Yf (x:V)(y:V)(H:Hp)(Q:VK):Prop
|mk (l k xs:_)(_:x=.ref l)(_:y=.int k)(_:H l=some (.lst xs))(_: -(2^63)<=k)(_:k<2^63)(_:xs.length*k.toNat<=abE)(_:∀p,H p=none->Q (.ref p) (upd H p (.lst (ac_ k.toNat xs).flatten)))
def len_rep {α:Type}(xs:List α)(k:Nat):(ac_ k xs).flatten.length=k*xs.length:=by
 induction k with
 | zero=>simp
 | succ k ih=>rw [aff,ags,aba,ih,Nat.succ_mul,ahu]
def vk:jX X (acz .Mult) Yf:=by
 intro pins s σ H x y v u Q I rx ry h;obtain ⟨l,k,xs,rfl,rfl,hH,h1,h2,hz,q⟩:=h;cases rx;obtain ⟨t,rfl⟩:=ry;obtain ⟨z,its,n,r,hl,e⟩:=I.qJ hH;have hlen:its.toArray.size*k.toNat<=abE:=by rw [aeq,<-hl];exact hz
 have afS:¬ its.toArray.size*k.toNat > (2^63-1) / 8:=by
  have:(abE:Nat)<=(2^63-1) / 8:=by decide
  omega
 have afT:¬ (!Builtin.List.listFitsIndex k)=true:=by
  rw [fitsIndex_both h1 h2];exact aem
 have Ma:¬ acu (its.toArray.size*k.toNat)=true:=by
  rw [xT hlen];exact aem
 have afU:aoe (fun x1 x2=>x1++x2) #[] (ac_ (if its.toArray.isEmpty=true then 0 else k.toNat) its.toArray)=(ac_ k.toNat its).flatten.toArray:=by
  have f0:∀m:Nat,aoe (fun x1 x2=>x1++x2) #[] (ac_ m its.toArray)=(ac_ m its).flatten.toArray:=fun m=>by
   have:=foldl_rep its m [];rw [ahH] at this;exact this
  rw [f0];cases its with
  | nil=>simp
  | cons a r'=>rw [abB (by simp)]
 refine wpAny_binaryOp_repeat_ref (T:="list") (U:="int") (by decide) ⟨_,e,rfl⟩ (fun s'=>typeIs_int s' k t) noFill_list_mul F.fills_int_mul F.slot_int_rmul repeat_list F.slot_int_index.lookup
  (call_meets F.slot_int_rmul (typeIs_int s k t) F.entry_int_rmul (F.args_int_rmul_2 _ _) (int___rmul___int_list k t l its.toArray n)
   ⟨e,rfl,⟨_,e,rfl⟩,call_meets F.slot_list_mul ⟨_,e,rfl⟩ F.entry_list_mul (F.args_list_mul_2 _ _) (AutoListH.list___mul___list_int_3 l its.toArray n k t afT afS Ma) ⟨e,?_⟩⟩)
 rw [afU];exact ⟨.ref _,_,I.UN (t':=s.toks) (r.rep k.toNat) (by rw [len_rep,ag0];exact hz),rfl,q _ I.fresh⟩
end
end L2
namespace Att
open PySem PySem.W PySem.Calls PyProof.Rows
def pK :∀(ns:ξ)(vs:ρ),WellAll P h vs (ns.map WData.int)->IntsAre vs ns:=by
 intro ns
 induction ns with
 | nil=>
  intro vs w;rw [aez] at w;cases w;exact .nil
 | cons n ns ih=>
  intro vs w;rw [aaw] at w;cases w with
  | cons a b=>
   cases a;exact .cons _ _ (ih _ b)
def HI {l:OpenLaw}(hn:l.most=some n){vals:ρ}
  (Qn:l.row.toRowW.claim.pre args=true) (hwl:WellAll P h vals args):
  ∃a vs ns,vals=[Value.ref a]/\args=[WData.list (ns.map WData.int)]/\h.get? a=some {cls:=.type "list",data:=.seq vs.toArray}/\IntsAre vs ns/\ns.length<=n:=by
 have hsh:WShape.hasAll [] args [.list .int]=true:=(pre_splitW Qn).1;have hc:l.pre.holds [] {args:=args}=true:=(pre_splitW Qn).2;obtain ⟨d,r,rfl,h1,h2⟩:=hasAllW_cons hsh;obtain rfl:=hasAllW_nil h2;obtain ⟨xs,rfl,h3⟩:=hasW_list h1;obtain ⟨ns,rfl⟩:=items_int h3
 have hlen:ns.length<=n:=by
  unfold OpenLaw.pre at hc
  have h4:(WTm.not (.lt (.lit (.int (n:Int))) (.len (.arg 0)))).holds [] {args:=[.list (ns.map .int)]}=true:=by
   have h4:=(holds_andW hc).1;rw [hn] at h4;exact h4
  have h5:=condW_of h4 (w_not (w_lt w_lit (w_len_list (w_arg rfl))));rw [ir] at h5;refine ahj fun q=>?_;have q':(n:Int)<((ns.length:Nat):Int):=by omega
  first
   | (rw [abU q'] at h5;exact abM h5 (by decide))
   | (simp at h5;omega)
 cases hwl with
 | cons w1 w2=>
  cases w2;cases w1 with
  | list ho Mb=>exact ⟨_,_,ns,rfl,rfl,ho,pK ns _ Mb,hlen⟩
def HJ (l:OpenLaw)(args:List WData):l.row.toRowW.claim.post args (.bool true) args=true:=
 postW_of (r:=l.row.toRowW) (X:=(true==true))
  (show WShape.has [] (.bool true) .bool=true by first|rfl|decide|simp [WShape.has,WShape.arms,WShape.armsAll])
  (show (WTm.eq .res (.lit (.bool true))).value [] {args:=args,res:=some (.bool true),after:=args}=some (.bool (true==true)) from w_eq_bool (w_res rfl) w_lit) rfl
end Att
namespace L2
open PySem PySem.Spec PyProof.Rows
theorem uu:∀{vs:ρ} {ns:ξ},IntsAre vs ns->Vals (ns.map V.int) vs
 | _,_,.nil=>.nil
 | _,_,.cons n t h=>.cons ⟨t,rfl⟩ (uu h)
def Yg (H:Hp):Prop:=∀b,H b=none\/∃o xs,H b=some (.fB o (.lst xs))
def Mc {K:Frag}{mg mb:ν}{vs:ρ}{ns:ξ}
  (KX:K.In s₁.heap) (hns:s₁.heap.Ns abO mg) (hb:s₁.heap.Ns builtinsNs mb) (hbb:∀x:Str,x≠ "__name__"->mb x=abZ x) (afW:s₁.heap.NoLimit) (Qo:s₁.heap.NoSeer) (hg:s₁.gens= #[])
  (ha:s₁.heap.get? a=some {cls:=.type "list",data:=.seq vs.toArray}) (hi:IntsAre vs ns) (hl:ns.length<=abE) (hr:cB k callerA)
  (F:∀base:Heap,K.In base->base.Ns abO mg->dq P w K mg base CX k fa fd [x] sp) (Yh:∀(s:abH)(u:Value),BindsTo s fd ⟨[u],[]⟩ [(x,u)])
  (zZ:∀H:Hp,Yg H->aT K H a (ns.map V.int)->sp [.ref a] H (fun v _=>v=.bl true) fun _ _ _=>False)
  (hCX:∀H e s',CX [] H s₁ (fun _ _ _=>False) e s' ->False):
  acA (abK P w) callerA (.call (.ref fa) ⟨[.ref a],[]⟩) (fun r s'=>r=.ok (.ret (.bool true))/\OldK s₁.heap s'.heap/\s'.os=s₁.os/\adW s'.gens) s₁:=by
 have rv:=uu hi;have afX:=hi.length
 have core:∀H:Hp,Yg H->aT K H a (ns.map V.int)->kH P w H s₁.heap->(∀b,H b≠none->b=a)->(H a≠none->K.lookup a=none)->
   acA (abK P w) callerA (.call (.ref fa) ⟨[.ref a],[]⟩) (fun r s'=>r=.ok (.ret (.bool true))/\OldK s₁.heap s'.heap/\s'.os=s₁.os/\adW s'.gens) s₁:=by
  intro H hO hS bM hA hK;have vm:∀{b:abA} {o:Obj},s₁.heap.get? b=some o->H b=none->(u_ s₁.heap H).get? b=some o:=fun e n=>LI e n
  have X_:∀{b:abA} {o:Obj} {es:Array DictEntry} {ep:Nat},s₁.heap.get? b=some o->o.data=.dict es ep->H b=none:=fun {b o es ep} e d=>by
   cases q:H b with
   | none=>rfl
   | some u=>
    have e':b=a:=hA b (by rw [q];simp);subst e';rw [ha] at e;cases e;have d':Data.seq vs.toArray _=Data.dict es ep:=d;cases d'
  have S7:∀{b:abA} {m:ν},s₁.heap.Ns b m->(u_ s₁.heap H).Ns b m:=fun {b m} ⟨o,es,ep,e,d,r⟩=>⟨o,es,ep,vm e (X_ e d),d,r⟩
  have hKb:K.In (u_ s₁.heap H):=fun b o e=>vm (KX b o e) (by
   cases q:H b with
   | none=>rfl
   | some u=>
    have e':b=a:=hA b (by rw [q];simp);subst e'
    rw [hK (by rw [q];simp)] at e;cases e)
  have hM:Mod K mg (u_ s₁.heap H):=⟨hKb,S7 hns,⟨mb,S7 hb,hbb⟩,let ⟨mc,h1,h2⟩:=afW;⟨mc,S7 h1,h2⟩,
   ⟨let ⟨mc,h1,h2⟩:=Qo.statics;⟨mc,S7 h1,h2⟩,let ⟨mc,h1,h2⟩:=Qo.mods;⟨mc,S7 h1,h2⟩,let ⟨mc,h1,h2⟩:=Qo.imp;⟨mc,S7 h1,h2⟩,
    let ⟨mg',bm,ob,h1,h2,h3,h4,h5⟩:=Qo.main;⟨mg',bm,ob,S7 h1,h2,vm h3 (by
     cases q:H bm with
     | none=>rfl
     | some u=>
      have e':bm=a:=hA bm (by rw [q];simp);subst e';rw [ha] at h3;cases h3;have h4':Value.type "list"=Value.type "module":=h4;injection h4' with e9
      exact abM e9 (by decide)),h4,h5⟩⟩⟩
  have e0:AQ P w K mg (u_ s₁.heap H) callerA [] s₁ H:=⟨rfl,hM,fun b o e=>PY e,aht (GY _ _),trivial,fun b hb=>abM (show b∈([]:List abA) from hb) (by simp),bM,.of_eq hg⟩;refine codeAny_mono ((F _ hKb (S7 hns)).run callerA [] s₁ H ⟨[.ref a],[]⟩ [.ref a] [.ref a] _ _ hr e0 (Yh s₁ (.ref a)) (.cons rfl .nil) (zZ H hO hS)) fun r s' h=>?_;cases r with
  | error e=>exact (hCX H e s' h).elim
  | ok fl=>
   cases fl with
   | next=>exact False.elim h
   | brk=>exact False.elim h
   | cont=>exact False.elim h
   | ret u=>
    obtain ⟨v,H',os,bare,un,afY,r',q⟩:=h;have q':v=.bl true:=q;subst q';obtain rfl:u=Value.bool true:=r';refine ⟨rfl,OldK.of_keep fun b o e=>?_,os,bare⟩;cases q:H b with
    | none=>exact un.keep b o e q (by intro z;exact abM (show b∈([]:List abA) from z) (by simp)) (by simp)
    | some u=>
     rcases hO b with z|⟨ob,xs,z⟩
     ·rw [q] at z;cases z
     ·have z2:=un.s_ b ob _ z
      obtain ⟨e1,_⟩:=bM b _ z;obtain ⟨e2,_⟩:=afY b _ z2;rw [e] at e1;cases e1;exact e2
 cases hk:K.lookup a with
 | some o=>
  have e:=KX a o hk;rw [ha] at e;cases e;refine core (fun _=>none) (fun _=>.inl rfl) (.inr ⟨_,vs.toArray,_,hk,rfl,rfl,rfl,by rw [aeq,afX];exact hl,by simpa using rv⟩) (fun b u z=>by have z':(none:Option HO)=some u:=z;cases z') (fun b z=>abM rfl z) fun z=>abM rfl z
 | none=>
  refine core (fun b=>if b=a then some (.fB {cls:=.type "list",data:=.seq vs.toArray} (.lst (ns.map V.int))) else none) (fun b=>?_) (.inl (.inr ⟨{cls:=.type "list",data:=.seq vs.toArray},abC rfl⟩)) (fun b u z=>?_) (fun b z=>?_) fun _=>hk
  ·by_cases hb:b=a
   ·exact .inr ⟨_,_,abC hb⟩
   ·exact .inl (abB hb)
  ·by_cases hb:b=a
   ·have z':=(abC hb).symm.trans z
    cases z';subst hb;exact ⟨ha,by rw [ir];exact hl,vs,_,rv,ha⟩
   ·have z':=(abB hb).symm.trans z
    cases z'
  ·by_cases hb:b=a
   ·exact hb
   ·exact abM (abB hb) z
abbrev KOf {K:Frag}{h:Heap}(_:K.In h):Frag:=K
def inClass (s:Stmt)(j:Nat):Stmt:=match s with
 | .ClassDef _ _ _ body _ _ _ _ _ _ _=>body.getD j (.Pass ⟨0,0,0,0⟩)
 | _=>.Pass ⟨0,0,0,0⟩
def au (s:Stmt):Arguments:=match s with
 | .FunctionDef _ a _ _ _ _ _ _ _ _=>a
 | _=>{posonlyargs:=[],args:=[],vararg:=none,kwonlyargs:=[],kw_defaults:=[],kwarg:=none,defaults:=[]}
def aq (s:Stmt):List Stmt:=match s with
 | .FunctionDef _ _ b _ _ _ _ _ _ _=>b
 | _=>[]
def ae (s:Stmt):Scope:=match s with
 | .FunctionDef _ _ _ _ _ _ sc _ _ _=>sc
 | _=>{kind:=.function,names:=[],isGenerator:=false,isCoroutine:=false}
abbrev E0:XK:=fun _ _ _=>False
structure qe (K:Frag)(x qual:Str)(st:Stmt)(f:abA)(fd:FuncData):Prop where
 ex:∃(oc:Value)(od:Λ)(kV doc pm:Value)(an:Λ)(ck ct:Value)(sR:Ν),
  fd=fnOf x qual (au st) (aq st) (ae st) .none kV doc pm an ck ct/\K.lookup f=some ⟨oc,od,.func fd,sR⟩/\codeIn K ck qual=true
 kp:keepIn K (.ref f)=true
section
variable {P:abQ}{w:World}{K:Frag}{mg:ν}{base:Heap}
def qe.binds {st:Stmt}(F:qe K x qual st f fd)
  (h:∀(kV doc pm:Value)(an:Λ)(ck ct:Value)(us:ρ),us.length=ps.length->bindArgs (fnOf x qual (au st) (aq st) (ae st) .none kV doc pm an ck ct) ⟨us,[]⟩=pure (ps.zip us)):Binds K fd ps []:=by
 obtain ⟨oc,od,kV,doc,pm,an,ck,ct,sR,rfl,lk,tq⟩:=F.ex;exact .all (h kV doc pm an ck ct)
def dP {st:Stmt}{od an:Λ}{sR:Ν}{kV doc pm ck ct:Value}(l:K.lookup f=some ⟨oc,od,.func (fnOf x qual (au st) (aq st) (ae st) .none kV doc pm an ck ct),sR⟩)
  (c:codeIn K ck qual=true) (k:keepIn K (.ref f)=true):qe K x qual st f (fnOf x qual (au st) (aq st) (ae st) .none kV doc pm an ck ct):=⟨⟨oc,od,kV,doc,pm,an,ck,ct,sR,rfl,l,c⟩,k⟩
end
def bH (hr:cB k A):A.units+1<acB:=aaZ (Nat.add_le_add_left (by decide:1<=64) _) hr.units
section
variable {X:Cx}
def pv (i:Nat){pos:Pos}(hN:X.N[i]?=some x:=by rfl)(hv:Vis X.env.scope x:=by first|exact ahh rfl|exact anR (ahh rfl)|exact anR (anR rfl))(hd:(x==("__debug__":Str))=false:=by decide)
  (tq:(x==("__classdict__":Str))=false:=by decide):PE X (.Name x pos) (P5 i):=Uz hN hv hd tq
end
def Qp {A B:Prop}(h:B):if false=true then A else B:=by
 rw [abB aem];exact h
def UO {A B:Prop}(h:A):if true=true then A else B:=by
 rw [abC rfl];exact h
def bB {c A B:Prop}[Decidable c](h1:c->A)(h2:¬ c->B):if c then A else B:=by
 by_cases h:c
 ·rw [abC h]
  exact h1 h
 ·rw [abB h]
  exact h2 h
def DZ {c A B:Prop}[Decidable c](hc:c)(h:B):if (!decide c)=true then A else B:=by
 rw [abU hc];exact Qp h
def ao (H H':Hp):Prop:=∀b o,H b=some o->H' b=some o
def ao.refl (H:Hp):ao H H:=fun _ _ h=>h
def ao.trans (a:ao H H1)(b:ao H1 H2):ao H H2:=fun c o h=>b c o (a c o h)
def ao.free (e:ao H H')(h:H' l=aoG):H l=aoG:=by
 cases q:H l with
 | none=>rfl
 | some o=>
  rw [e l o q] at h;cases h
def ao.seq {K:Frag}(e:ao H H')(h:aT K H a xs):aT K H' a xs:=by
 rcases h with (h|⟨o,h⟩)|h
 ·exact .inl (.inl (e _ _ h))
 ·exact .inl (.inr ⟨o,e _ _ h⟩)
 ·exact .inr h
end L2
namespace Ty
def gz (t b:Int):Int:=(aeS t b:Nat)
def sg (t b:Int):Int:=if b<0 then -gz t b else gz t b
def low (t b:Int):Int×Int:=(t.fdiv (sg t b),b.fdiv (sg t b))
def xU (a b:Int):aeS b (a.fmod b)=aeS a b:=by
 rw [air,Int.gcd_sub_mul_left_right,Int.gcd_comm]
def uv {a b:Int}(h:b≠0):(a.fmod b).natAbs<b.natAbs:=by
 rcases agu b 0 with q|q|q
 ·have h1:(-a).fmod (-b)= -(a.fmod b):=by
   rw [air,air,Int.neg_fdiv_neg,Int.neg_mul];omega
  have h2:=afI (-a) (show 0 < -b by omega);have h3:=ag2 (-a) (show 0 < -b by omega);omega
 ·exact abM q h
 ·have h2:=afI a q
  have h3:=ag2 a q;omega
def vn (h:b≠0):0<gz t b:=by
 have:=an6.mpr (anR h:t≠0\/b≠0);show (0:Int)<((aeS t b:Nat):Int);omega
def Yi (h:b≠0):(gz t b).natAbs<=b.natAbs:=by
 have h1:aeS t b ∣ b.natAbs:=af2.mpr (afk t b);have h2:=Nat.le_of_dvd (by omega) h1;show ((aeS t b:Nat):Int).natAbs<=_;omega
def qK (h:b≠0):sg t b≠0:=by
 have:=vn (t:=t) h;unfold sg;split<;>omega
def UP :(sg t b).natAbs=(gz t b).natAbs:=by
 unfold sg;split
 ·exact ahT _
 ·rfl
def xV (t b:Int):sg t b ∣ t:=by
 unfold sg gz;split
 ·exact Int.neg_dvd.mpr (afw t b)
 ·exact afw t b
def vo (t b:Int):sg t b ∣ b:=by
 unfold sg gz;split
 ·exact Int.neg_dvd.mpr (afk t b)
 ·exact afk t b
def cM {a g:Int}(h:g≠0)(d:g ∣ a):a=g*a.fdiv g:=by
 obtain ⟨c,hc⟩:=d;have:=af' h hc;rw [this];exact hc
def qf (h:b≠0):t=sg t b*(low t b).1:=cM (qK h) (xV t b)
def mf (h:b≠0):b=sg t b*(low t b).2:=cM (qK h) (vo t b)
def mh (h:b≠0):0<(low t b).2:=by
 have e:=mf (t:=t) h;have g:=vn (t:=t) h
 rcases agu (low t b).2 0 with q|q|q
 ·exfalso
  by_cases c:b<0
  ·have s:sg t b= -gz t b:=by unfold sg;rw [abC c]
   rw [s] at e;have:=Int.mul_pos_of_neg_of_neg (show -gz t b<0 by omega) q;omega
  ·have s:sg t b=gz t b:=by unfold sg;rw [abB c]
   rw [s] at e;have:=ag9 g q;omega
 ·exfalso
  rw [q,agv] at e;exact h e
 ·exact q
def HK (h:b≠0):(low t b).1*b=t*(low t b).2:=by
 have e1:=qf (t:=t) h;have e2:=mf (t:=t) h
 calc (low t b).1*b=(low t b).1*(sg t b*(low t b).2):=by rw [<-e2]
  _=sg t b*(low t b).1*(low t b).2:=by rw [<-agM,afl (low t b).1]
  _=t*(low t b).2:=by rw [<-e1]
def qg (h:b≠0):aeS (low t b).1 (low t b).2=1:=by
 have e1:=qf (t:=t) h;have e2:=mf (t:=t) h
 have k:aeS t b=(sg t b).natAbs*aeS (low t b).1 (low t b).2:=by
  have q:=anS (sg t b) (low t b).1 (low t b).2;rw [<-e1,<-e2] at q;exact q
 have g:(sg t b).natAbs=aeS t b:=by
  rw [UP];rfl
 have p:=an6.mpr (anR h:t≠0\/b≠0);rw [g] at k;have k':aeS t b*1=aeS t b*aeS (low t b).1 (low t b).2:=by rw [Nat.mul_one];exact k
 exact (Nat.eq_of_mul_eq_mul_left p k').symm
def eK {g a:Int}(h:g≠0):a.natAbs<=(g*a).natAbs:=by
 rw [afc];have:1<=g.natAbs:=by omega
 have:=aer a.natAbs this;omega
def qL (h:b≠0):(low t b).1.natAbs<=t.natAbs:=by
 have e:=qf (t:=t) h;have:=eK (g:=sg t b) (a:=(low t b).1) (qK h);rw [<-e] at this;exact this
def qM (h:b≠0):(low t b).2.natAbs<=b.natAbs:=by
 have e:=mf (t:=t) h;have:=eK (g:=sg t b) (a:=(low t b).2) (qK h);rw [<-e] at this;exact this
def Md (hg:g≠0)(ht:t=g*x)(hb:b=g*y)(hy:0<y)(h1:aeS x y=1):low t b=(x,y):=by
 have hbn:b≠0:=by
  rw [hb];exact an7 hg (by omega)
 have gg:aeS t b=g.natAbs:=by
  rw [ht,hb,anS,h1,Nat.mul_one]
 have s:sg t b=g:=by
  unfold sg gz;rw [gg];by_cases c:g<0
  ·have:b<0:=by rw [hb];exact Int.mul_neg_of_neg_of_pos c hy
   rw [abC this];omega
  ·have:¬ b<0:=by
    have:=Int.mul_nonneg (show 0<=g by omega) (show 0<=y by omega);omega
   rw [abB this];omega
 unfold low;rw [s];rw [af' hg ht,af' hg hb]
def mi (hy:0<y)(h:aeS x y=1):low x y=(x,y):=Md (g:=1) (by decide) (by omega) (by omega) hy h
def uw (hk:k≠0)(h:b≠0):low (k*t) (k*b)=low t b:=by
 refine Md (g:=k*sg t b) (an7 hk (qK h)) ?_ ?_ (mh h) (qg h)
 ·rw [agM]
  exact abR (k*·) (qf h)
 ·rw [agM]
  exact abR (k*·) (mf h)
def tE (hb:b≠0)(hc:c≠0)(h:t*c=u*b):low t b=low u c:=by
 rw [<-uw (t:=t) (b:=b) hc hb,<-uw (t:=u) (b:=c) hb hc];rw [afl c t,h,afl u b,afl c b]
end Ty
set_option maxHeartbeats 4000000
namespace Ty
open PySem PySem.Spec PyProof.Rows L2
open Builtin.Int (intBits)
section
variable {X:Cx}
def qN (i j:Int):Prop:=intBits i<=33554432/\intBits j<=33554432
def cu:jX X (acz .Mult) (rI qN fun i j=>.int (i*j)):=
 X2 fun _ _ _ _ _ _ _ hc q=>mul_int q (IntMulOk.of_le hc.1 hc.2 (by decide))
def Yj (i j:Int):Prop:=j≠0/\intBits j<=9000
def afZ (h:intBits j<=9000):Builtin.divisionGoesByPylong i j=false:=by
 refine PyProof.noPylong_of_log2 ?_;have h1:=intBits_le_iff.mp h;by_cases h0:j.natAbs=0
 ·rw [h0]
  decide+kernel
 ·exact (Nat.log2_lt h0).mpr h1
def xW:jX X (acz .FloorDiv) (rI Yj fun i j=>.int (i.fdiv j)):=
 X2 fun _ _ _ _ _ _ _ hc q=>floordiv_int hc.1 q (.inl (afZ hc.2))
end
inductive Da where
 | v (x:V)
 | t (ds:List Da)
 | l (ds:List Da)
mutual
noncomputable def Is (K:Frag)(H:Hp):Da->V->Prop
 | .v x,u=>u=x/\jE x=true
 | .t ds,u=>∃p xs,u=.ref p/\bQ K H p xs/\i0 K H ds xs
 | .l ds,u=>∃p xs,u=.ref p/\aT K H p xs/\i0 K H ds xs
noncomputable def i0 (K:Frag)(H:Hp):List Da->List V->Prop
 | [],[]=>True
 | d::ds,x::xs=>Is K H d x/\i0 K H ds xs
 | _,_=>False
end
mutual
noncomputable def gY:Da->Da->Bool
 | .v x,.v y=>m7 x y
 | .t ds,.t es=>cN ds es
 | .l ds,.l es=>cN ds es
 | _,_=>false
noncomputable def cN:List Da->List Da->Bool
 | [],[]=>true
 | d::ds,e::es=>gY d e && cN ds es
 | _,_=>false
end
mutual
noncomputable def alike:Da->Da->Bool
 | .v _,.v _=>true
 | .t ds,.t es=>dN ds es
 | .l ds,.l es=>dN ds es
 | _,_=>false
noncomputable def dN:List Da->List Da->Bool
 | d::ds,e::es=>alike d e && dN ds es
 | _,_=>true
end
mutual
noncomputable def dep:Da->Nat
 | .v _=>0
 | .t ds=>jr ds+1
 | .l ds=>jr ds+1
noncomputable def jr:List Da->Nat
 | []=>0
 | d::ds=>max (dep d) (jr ds)
end
theorem i0.length {K:Frag}:∀{ds:List Da} {xs:ζ},i0 K H ds xs->ds.length=xs.length
 | [],[],_=>rfl
 | _::_,_::_,h=>abR (·+1) (i0.length (by unfold i0 at h;exact h.2))
 | [],_::_,h=>by unfold i0 at h;exact h.elim
 | _::_,[],h=>by unfold i0 at h;exact h.elim
def jG (ds es:List Da)(j:Nat):Bool:=match ds[j]?,es[j]? with
 | some d,some e=>gY d e
 | _,_=>true
theorem dQ:∀ds es:List Da,cN ds es=((aev (min ds.length es.length)).all (jG ds es) && ds.length==es.length)
 | [],[]=>rfl
 | [],_::_=>by simp [cN]
 | _::_,[]=>by simp [cN]
 | d::ds,e::es=>by
  have ih:=dQ ds es;have r:min (d::ds).length (e::es).length=min ds.length es.length+1:=by simp [Nat.succ_min_succ]
  rw [r,ahw,agL,ais];have b0:jG (d::ds) (e::es) 0=gY d e:=rfl
  have b1:(jG (d::ds) (e::es) ∘ Nat.succ)=jG ds es:=by
   funext j;rfl
  have l1:((d::ds).length==(e::es).length)=(ds.length==es.length):=by simp
  rw [b0,b1,l1,Bool.and_assoc,<-ih];rfl
section
variable {X:Cx}{pins:ε}{σ:L2.St}{H:Hp}{s:abH}
def Me (h:jE x=true):m7 x x=true:=by
 cases x<;>first|rfl|(simp [m7];done)|(cases h;done)
mutual
theorem vp (I:Inv X pins σ H s):∀(d e:Da)(x:V),Is X.K H d x->Is X.K H e x->alike d e=true->gY d e=true
 | .v a,.v b,x,h1,h2,_=>by
  unfold Is at h1 h2;obtain ⟨rfl,f⟩:=h1;obtain ⟨rfl,_⟩:=h2;unfold gY;exact Me f
 | .t ds,.t es,x,h1,h2,a=>by
  unfold Is at h1 h2;obtain ⟨p,xs,rfl,q1,k1⟩:=h1;obtain ⟨p',ys,e',q2,k2⟩:=h2;cases e';cases I.iO q1 q2;unfold gY;unfold alike at a;exact qO I ds es xs k1 k2 a
 | .l ds,.l es,x,h1,h2,a=>by
  unfold Is at h1 h2;obtain ⟨p,xs,rfl,q1,k1⟩:=h1;obtain ⟨p',ys,e',q2,k2⟩:=h2;cases e';cases I.iN q1 q2;unfold gY;unfold alike at a;exact qO I ds es xs k1 k2 a
 | .v _,.t _,_,_,_,a=>by unfold alike at a;cases a
 | .v _,.l _,_,_,_,a=>by unfold alike at a;cases a
 | .t _,.v _,_,_,_,a=>by unfold alike at a;cases a
 | .t _,.l _,_,_,_,a=>by unfold alike at a;cases a
 | .l _,.v _,_,_,_,a=>by unfold alike at a;cases a
 | .l _,.t _,_,_,_,a=>by unfold alike at a;cases a
theorem qO (I:Inv X pins σ H s):∀(ds es:List Da)(xs:ζ),i0 X.K H ds xs->i0 X.K H es xs->dN ds es=true->cN ds es=true
 | [],[],_,_,_,_=>by unfold cN;rfl
 | d::ds,e::es,x::xs,h1,h2,a=>by
  unfold i0 at h1 h2;unfold dN at a;rw [aft] at a;unfold cN;rw [vp I d e x h1.1 h2.1 a.1,qO I ds es xs h1.2 h2.2 a.2];rfl
 | [],_::_,[],_,h2,_=>by unfold i0 at h2;exact h2.elim
 | [],_::_,_::_,h1,_,_=>by unfold i0 at h1;exact h1.elim
 | _::_,[],[],h1,_,_=>by unfold i0 at h1;exact h1.elim
 | _::_,[],_::_,_,h2,_=>by unfold i0 at h2;exact h2.elim
 | _::_,_::_,[],h1,_,_=>by unfold i0 at h1;exact h1.elim
end
def in1_units (A:abV):A.in1.units=A.units+1:=rfl
mutual
theorem vq (I:Inv X pins σ H s):∀(d e:Da)(x y:V)(u w:Value)(A:abV),Is X.K H d x->Is X.K H e y->alike d e=true->RelV x u->RelV y w->A.units+dep d<acB->ad5 A s u w (gY d e)
 | .v a,.v b,x,y,u,w,A,h1,h2,_,r1,r2,_=>by
  unfold Is at h1 h2;obtain ⟨rfl,f1⟩:=h1;obtain ⟨rfl,f2⟩:=h2;unfold gY;exact L8 r1 r2 f1 f2
 | .t ds,.t es,x,y,u,w,A,h1,h2,a,r1,r2,hu=>by
  have kq :=h1;have h2':=h2;unfold Is at h1 h2;obtain ⟨p,xs,rfl,q1,k1⟩:=h1;obtain ⟨p',ys,rfl,q2,k2⟩:=h2;cases r1;cases r2;by_cases e:p=p'
  ·subst e
   rw [vp I _ _ _ kq h2' a];exact .same _
  ·refine .of_refs e ?_
   obtain ⟨its,v1,t1,_⟩:=I.tuple q1;obtain ⟨fL,v2,t2,_⟩:=I.tuple q2;unfold gY;rw [dQ,k1.length,k2.length,v1.length,v2.length]
   have z:=SeqAt.RcAt.tuples (A:=A) (e:=jG ds es) t1 t2 (by unfold dep at hu;omega) fun j g1 g2=>by
    unfold dep at hu;unfold alike at a;exact gZ I ds es xs ys its fL A.in1 k1 k2 a v1 v2 (by rw [in1_units];omega) j (by simpa using g1) (by simpa using g2)
   simpa using z
 | .l ds,.l es,x,y,u,w,A,h1,h2,a,r1,r2,hu=>by
  have kq :=h1;have h2':=h2;unfold Is at h1 h2;obtain ⟨p,xs,rfl,q1,k1⟩:=h1;obtain ⟨p',ys,rfl,q2,k2⟩:=h2;cases r1;cases r2;by_cases e:p=p'
  ·subst e
   rw [vp I _ _ _ kq h2' a];exact .same _
  ·refine .of_refs e ?_
   obtain ⟨its,v1,t1,_⟩:=I.list q1;obtain ⟨fL,v2,t2,_⟩:=I.list q2;unfold gY;unfold dep at hu;unfold alike at a;by_cases el:its.length=fL.length
   ·rw [dQ,k1.length,k2.length,v1.length,v2.length]
    have z:=SeqAt.RcAt.lists (A:=A) (e:=jG ds es) t1.isList t2.isList (by simpa using el) (by omega) fun j g1 g2=>
     gZ I ds es xs ys its fL A.in1 k1 k2 a v1 v2 (by rw [in1_units];omega) j (by simpa using g1) (by simpa using g2)
    rw [el,ahx,beq_self_eq_true,aic];rw [aeq,el] at z;exact z
   ·have ne:cN ds es=false:=by
     rw [dQ,k1.length,k2.length,v1.length,v2.length,beq_eq_false_iff_ne.mpr el,ag4]
    rw [ne];exact SeqAt.RcAt.lists_lengths t1.isList t2.isList (by simpa using el) (by omega)
 | .v _,.t _,_,_,_,_,_,_,_,a,_,_,_=>by unfold alike at a;cases a
 | .v _,.l _,_,_,_,_,_,_,_,a,_,_,_=>by unfold alike at a;cases a
 | .t _,.v _,_,_,_,_,_,_,_,a,_,_,_=>by unfold alike at a;cases a
 | .t _,.l _,_,_,_,_,_,_,_,a,_,_,_=>by unfold alike at a;cases a
 | .l _,.v _,_,_,_,_,_,_,_,a,_,_,_=>by unfold alike at a;cases a
 | .l _,.t _,_,_,_,_,_,_,_,a,_,_,_=>by unfold alike at a;cases a
theorem gZ (I:Inv X pins σ H s):∀(ds es:List Da)(xs ys:ζ)(us ws:ρ)(A:abV),i0 X.K H ds xs->i0 X.K H es ys->dN ds es=true->Vals xs us->Vals ys ws->A.units+jr ds<acB->
  ∀(j:Nat)(h1:j<us.length)(h2:j<ws.length),ad5 A s us[j] ws[j] (jG ds es j)
 | d::ds,e::es,xs,ys,us,ws,A,k1,k2,a,v1,v2,hu,j,h1,h2=>by
  cases xs with
  | nil=>unfold i0 at k1;exact k1.elim
  | cons x xs=>
   cases ys with
   | nil=>unfold i0 at k2;exact k2.elim
   | cons y ys=>
    cases v1 with
    | cons r1 v1=>
     cases v2 with
     | cons r2 v2=>
      unfold i0 at k1 k2;unfold dN at a;rw [aft] at a;unfold jr at hu;cases j with
      | zero=>exact vq I d e x y _ _ A k1.1 k2.1 a.1 r1 r2 (by omega)
      | succ j=>exact gZ I ds es xs ys _ _ A k1.2 k2.2 a.2 v1 v2 (by omega) j (by simpa using h1) (by simpa using h2)
 | [],_,xs,_,us,_,_,k1,_,_,v1,_,_,_,h1,_=>by
  cases xs with
  | nil=>
   cases v1;exact abM h1 (afe _)
  | cons x xs=>unfold i0 at k1;exact k1.elim
 | _::_,[],_,ys,_,ws,_,_,k2,_,_,v2,_,_,_,h2=>by
  cases ys with
  | nil=>
   cases v2;exact abM h2 (afe _)
  | cons y ys=>unfold i0 at k2;exact k2.elim
end
end
section
variable {X:Cx}
inductive S8 (K:Frag)(x:V)(y:V)(H:Hp)(Q:VK):Prop
|mk (ds es:_)(_:((Is K H (.t ds) x/\Is K H (.t es) y)\/(Is K H (.l ds) x/\Is K H (.l es) y)))(_:dN ds es=true)(_:jr ds<=60)(_:Q (.bl (cN ds es)) H)
inductive D_ (K:Frag)(x:V)(y:V)(H:Hp)(Q:VK):Prop
|mk (ds es:_)(_:((Is K H (.t ds) x/\Is K H (.t es) y)\/(Is K H (.l ds) x/\Is K H (.l es) y)))(_:dN ds es=true)(_:jr ds<=60)(_:Q (.bl (!cN ds es)) H)
def D' (hu:X.A.units+64<acB):jX X (aca .Eq) (S8 X.K):=by
 intro pins s σ H x y v u Q I rx ry h;obtain ⟨ds,es,h,a,hd,q⟩:=h
 rcases h with ⟨h1,h2⟩|⟨h1,h2⟩
 ·unfold Is at h1 h2
  obtain ⟨p,xs,rfl,q1,k1⟩:=h1;obtain ⟨p',ys,rfl,q2,k2⟩:=h2;cases rx;cases ry;obtain ⟨its,v1,t1,_⟩:=I.tuple q1;obtain ⟨fL,v2,t2,_⟩:=I.tuple q2
  have z:=SeqAt.RcAt.tuples (A:=X.A) (e:=jG ds es) t1 t2 (by omega) fun j g1 g2=>
   gZ I ds es xs ys its fL X.A.in1 k1 k2 a v1 v2 (by rw [in1_units];omega) j (by simpa using g1) (by simpa using g2)
  refine z X.prog X.w X.xe _ ⟨.bl _,H,I,rfl,?_⟩;have e:=dQ ds es;rw [k1.length,k2.length,v1.length,v2.length] at e;simpa [e] using q
 ·unfold Is at h1 h2
  obtain ⟨p,xs,rfl,q1,k1⟩:=h1;obtain ⟨p',ys,rfl,q2,k2⟩:=h2;cases rx;cases ry;obtain ⟨its,v1,t1,_⟩:=I.list q1;obtain ⟨fL,v2,t2,_⟩:=I.list q2;have e:=dQ ds es;rw [k1.length,k2.length,v1.length,v2.length] at e;by_cases el:its.length=fL.length
  ·have z:=SeqAt.RcAt.lists (A:=X.A) (e:=jG ds es) t1.isList t2.isList (by simpa using el) (by omega) fun j g1 g2=>
    gZ I ds es xs ys its fL X.A.in1 k1 k2 a v1 v2 (by rw [in1_units];omega) j (by simpa using g1) (by simpa using g2)
   refine z X.prog X.w X.xe _ ⟨.bl _,H,I,rfl,?_⟩;rw [el,ahx,beq_self_eq_true,aic] at e;simpa [e,el] using q
  ·have ne:cN ds es=false:=by rw [e,beq_eq_false_iff_ne.mpr el,ag4]
   rw [ne] at q;exact SeqAt.RcAt.lists_lengths t1.isList t2.isList (by simpa using el) (by omega) X.prog X.w X.xe _ ⟨.bl _,H,I,rfl,q⟩
def qh (hu:X.A.units+64<acB):jX X (aca .NotEq) (D_ X.K):=by
 intro pins s σ H x y v u Q I rx ry h;obtain ⟨ds,es,h,a,hd,q⟩:=h
 rcases h with ⟨h1,h2⟩|⟨h1,h2⟩
 ·unfold Is at h1 h2
  obtain ⟨p,xs,rfl,q1,k1⟩:=h1;obtain ⟨p',ys,rfl,q2,k2⟩:=h2;cases rx;cases ry;obtain ⟨its,v1,t1,_⟩:=I.tuple q1;obtain ⟨fL,v2,t2,_⟩:=I.tuple q2
  have z:=SeqAt.RcNeAt.tuples (A:=X.A) (e:=jG ds es) t1 t2 (by omega) fun j g1 g2=>
   gZ I ds es xs ys its fL X.A.in1 k1 k2 a v1 v2 (by rw [in1_units];omega) j (by simpa using g1) (by simpa using g2)
  refine z X.prog X.w X.xe _ ⟨.bl _,H,I,rfl,?_⟩;have e:=dQ ds es;rw [k1.length,k2.length,v1.length,v2.length] at e;simpa [e] using q
 ·unfold Is at h1 h2
  obtain ⟨p,xs,rfl,q1,k1⟩:=h1;obtain ⟨p',ys,rfl,q2,k2⟩:=h2;cases rx;cases ry;obtain ⟨its,v1,t1,_⟩:=I.list q1;obtain ⟨fL,v2,t2,_⟩:=I.list q2;have e:=dQ ds es;rw [k1.length,k2.length,v1.length,v2.length] at e;by_cases el:its.length=fL.length
  ·have z:=SeqAt.RcNeAt.lists (A:=X.A) (e:=jG ds es) t1.isList t2.isList (by simpa using el) (by omega) fun j g1 g2=>
    gZ I ds es xs ys its fL X.A.in1 k1 k2 a v1 v2 (by rw [in1_units];omega) j (by simpa using g1) (by simpa using g2)
   refine z X.prog X.w X.xe _ ⟨.bl _,H,I,rfl,?_⟩;rw [el,ahx,beq_self_eq_true,aic] at e;simpa [e,el] using q
  ·have ne:cN ds es=false:=by rw [e,beq_eq_false_iff_ne.mpr el,ag4]
   rw [ne] at q;exact SeqAt.RcNeAt.lists_lengths t1.isList t2.isList (by simpa using el) (by omega) X.prog X.w X.xe _ ⟨.bl _,H,I,rfl,q⟩
def UQ:V->Value
 | .ty n=>.type n
 | .ref a=>.ref a
 | _=>.none
def S9:V->Bool
 | .ty _=>true
 | .ref _=>true
 | _=>false
def EA (h:S9 c=true)(r:RelV c u):u=UQ c:=by
 cases c<;>first|exact r|(cases h;done)
inductive Yk (K:Frag)(xs:ζ)(H:Hp)(Q:VK):Prop
|mk (x c t b:_)(_:xs=[x,c])(_:S9 c=true)(_:nj K H x t)(_:ab5 K t (UQ c)=some b)(_:Q (.bl b) H)
def f_:ie X (.builtin "isinstance") (Yk X.K):=by
 intro pins s σ H xs us Q I r h;obtain ⟨x,c,t,b,rfl,hc,ty,e,q⟩:=h;obtain ⟨u,w,rfl,r1,r2⟩:=vals2 r;obtain rfl:=EA hc r2;exact HG I r1 ty e fun tk=>⟨.bl b,H,I.tok tk,rfl,q⟩
end
section
variable {K:Frag}
def Mf (h:((Value.type a==Value.type b)=true->v=true)/\((Value.type a==Value.type b)=false->PySem.W.kitMeta b=true/\(fastBuiltinMro a).map (·.contains (Value.type b))=some v)):ab5 K (.type a) (.type b)=some v:=by
 unfold ab5;by_cases e:(Value.type a==Value.type b)=true
 ·rw [abC e,h.1 e]
 ·rw [abB e]
  obtain ⟨h1,h2⟩:=h.2 (by simpa using e);unfold PySem.W.kitCls;dsimp only;rw [abC h1];exact h2
end
def bS:abZ "len"=some (.builtin "len"):=by decide+kernel
def S_:abZ "abs"=some (.builtin "abs"):=by decide+kernel
def cv:abZ "isinstance"=some (.builtin "isinstance"):=by decide+kernel
def S':abZ "all"=some (.builtin "all"):=by decide+kernel
def Yl:abZ "int"=some (.type "int"):=by decide+kernel
def UR:abZ "bool"=some (.type "bool"):=by decide+kernel
def EB:abZ "str"=some (.type "str"):=by decide+kernel
def iE:abZ "list"=some (.type "list"):=by decide+kernel
def vt:abZ "tuple"=some (.type "tuple"):=by decide+kernel
def kR:abZ "dict"=some (.type "dict"):=by decide+kernel
def mj {pos:Pos}(hg:Gl X x)(hm:X.mg x=none)(hv:abZ x=some (.type n))(hn:x≠ "__name__":=by decide)(hd:(x==("__debug__":Str))=false:=by decide):PE X (.Name x pos) (tC (.ty n)):=P6 (v:=.ty n) hg hm hv rfl hn hd
def US (_ j:Int):Prop:=j≠0
def nz (h:j≠0):US i j:=h
def eQ :jX X (acz .Mod) (rI US fun i j=>.int (i.fmod j)):=Qd
def EC :jr [.v a,.v b]<=60:=by simp [jr,dep]
end Ty
namespace TyAtt
open PySem PySem.W PySem.Calls PyProof.Rows
open Builtin.Int (intBits)
def HL {ns:ξ}(h:(WData.list (ns.map WData.int)).layable=true)(hn:n∈ns):intBits n<=1048576:=by
 obtain ⟨_,_,hw⟩:=layableW_iff.mp h
 have a:∀(l:ξ),n∈l->intBits n<=WData.weightAll (l.map WData.int):=by
  intro l
  induction l with
  | nil=>intro q;cases q
  | cons y r ih=>
   intro q;rw [aaw];unfold WData.weightAll
   rcases aes.mp q with z|z
   ·subst z
    have:intBits n<=WData.weight (.int n):=by
     unfold WData.weight;exact aaA _
    omega
   ·have:=ih z
    omega
 have b:=a ns hn;unfold WData.weight at hw;omega
def xX {l:OpenLaw}{loose:ψ}
  (hn:l.most=some n) (hdf:d.params.defaults=[])
  (call:∀(w:World)(s₀ s₁:abH)(mg mb:ν)(fa:abA)(o:Obj)(pm cd doc:Value)(a:abA)(vs:ρ)(ns:ξ),
   Ground q loose [] XP w s₀ mg mb s₁.heap->YP w s₁.heap->
   s₁.heap.get? fa=some o->o.data=.func (docDef d.name d.params d.body d.scope pm cd doc)->s₁.heap.CodeRec cd d.name->mg d.name=some (.ref fa)->
   s₁.heap.get? a=some {cls:=.type "list",data:=.seq vs.toArray}->IntsAre vs ns->ns.length<=n->(∀i∈ns,intBits i<=1048576)->s₁.gens= #[]->
   acA (abK l.prog w) callerA (.call (.ref fa) ⟨[.ref a],[]⟩) (fun r s'=>r=.ok (.ret (.bool true))/\OldK s₁.heap s'.heap/\s'.os=s₁.os/\adW s'.gens) s₁):
  WalkO q loose XP YP l.row.toRowW d [] (fun f vs=>PySem.call f vs):=by
 intro w s₀ s₁ mg mb G Y fa o pm cd doc dV kV ho hd tq hD Ym hg args vals as Qn hlay hrd hwl hlo;obtain rfl:dV=.none:=Dflts.none hD hdf;obtain rfl:kV=.none:=Dflts.noKw hD;obtain ⟨a,vs,ns,rfl,rfl,UT,hints,hlen⟩:=Att.HI hn Qn hwl;have hb:∀i∈ns,intBits i<=1048576:=fun i hi=>HL (layW_cons hlay).1 hi;refine enter_call (codeAny_mono (call w s₀ s₁ mg mb fa o pm cd doc a vs ns G Y ho (fd_plain hd) tq Ym UT hints hlen hb hg) fun r s' hq=>?_);obtain ⟨rfl,h2,h3,h4⟩:=hq;exact ⟨.inl ⟨.bool true,.bool true,[],rfl,fun _=>rfl,.bool true,Att.HJ l _,fun _=>⟨List.Pairwise.nil,fun _ hm=>(nomatch hm)⟩⟩,h2,h3,h4⟩
end TyAtt
namespace Ty
open PySem PySem.Spec PyProof.Rows L2
open Builtin.Int (intBits)
structure Fn (P:abQ)(w:World)(K:Frag)(mg:ν)(base:Heap)(CX:ma)(k:Nat)(x:Str)(ps:ψ)(sp:Sp):Prop where
 ex:∃(f:abA)(fd:FuncData),dq P w K mg base CX k f fd ps sp/\Binds K fd ps []/\mg x=some (.ref f)/\keepIn K (.ref f)=true
structure Def (K:Frag)(mg:ν)(x:Str)(st:Stmt)(ps:ψ):Prop where
 ex:∃(f:abA)(dV oc:Value)(od:Λ)(kV doc pm:Value)(an:Λ)(ck ct:Value)(sR:Ν),
  K.lookup f=some ⟨oc,od,.func (fnOf x x (au st) (aq st) (ae st) dV kV doc pm an ck ct),sR⟩/\codeIn K ck x=true/\keepIn K (.ref f)=true/\
  Binds K (fnOf x x (au st) (aq st) (ae st) dV kV doc pm an ck ct) ps []/\mg x=some (.ref f)
def Def.of {K:Frag}{st:Stmt}(F:qe K x x st f fd)(b:Binds K fd ps [])(m:mg x=some (.ref f)):Def K mg x st ps:=by
 obtain ⟨oc,od,kV,doc,pm,an,ck,ct,sR,rfl,lk,tq⟩:=F.ex;exact ⟨f,.none,oc,od,kV,doc,pm,an,ck,ct,sR,lk,tq,F.kp,b,m⟩
section
variable {P:abQ}{w:World}{K:Frag}{mg:ν}{base:Heap}{CX:ma}
def Def.ok {st:Stmt}(D:Def K mg x st ps)(S:av N ps (ae st))(len:∀vs H Q E,sp vs H Q E->vs.length=ps.length)
  (gW:∀(f:abA)(ck:Value)(A:abV)(outer:List Env)(s:abH)(H:Hp)(vs:ζ)(Q:VK)(E:XK),cB k (A.deeper (adg x (ae st) s.heap.objs.size f ck))->sp vs H Q E->
   ∃t,PSs (jD CX P w K mg base N x (ae st) f ck A outer s H E).xw (aq st) t/\t {nx:=fun _ H'=>Q .cT H',rt:=Q} (start N vs) H):Fn P w K mg base CX (k+1) x ps sp:=by
 obtain ⟨f,dV,oc,od,kV,doc,pm,an,ck,ct,sR,lk,tq,kp,b,m⟩:=D.ex;refine ⟨f,_,DV lk tq S len fun A outer s H vs Q E hr zZ=>?_,b,m,kp⟩;obtain ⟨t,h,q⟩:=gW f ck A outer s H vs Q E hr zZ;exact ⟨t,h.xw,q⟩
def _root_.L2.qe.okG {st:Stmt}(F:qe K x x st f fd)(S:av N ps (ae st))(len:∀vs H Q E,sp vs H Q E->vs.length=ps.length)
  (gW:∀(ck:Value)(A:abV)(outer:List Env)(s:abH)(H:Hp)(vs:ζ)(Q:VK)(E:XK),cB k (A.deeper (adg x (ae st) s.heap.objs.size f ck))->sp vs H Q E->
   ∃t,PSs (jD CX P w K mg base N x (ae st) f ck A outer s H E).xw (aq st) t/\t {nx:=fun _ H'=>Q .cT H',rt:=Q} (start N vs) H):dq P w K mg base CX (k+1) f fd ps sp:=by
 obtain ⟨oc,od,kV,doc,pm,an,ck,ct,sR,rfl,lk,tq⟩:=F.ex;refine DV lk tq S len fun A outer s H vs Q E hr zZ=>?_;obtain ⟨t,h,q⟩:=gW ck A outer s H vs Q E hr zZ;exact ⟨t,h.xw,q⟩
def qP (CX:ma):Prop:=∀outer H s e s',CX outer H s E0 e s' ->False
def kI {X:Cx}(h:qP CX):Passes CX X.xw E0:=fun _ _ _ _ _ _ _ q=>(h _ _ _ _ _ q).elim
section
variable {X:Cx}{k:Nat}{ps:ψ}{sp:Sp}{E:XK}{x:Str}{p pos:Pos}{e:Expr}{es:Ζ}{t:TA}
def jm (F:Fn X.prog X.w X.K X.mg X.base CX k x ps sp)(hr:cB k X.A)(hx:Passes CX X E)(ha:PA X (e::es) t)(hg:Gl X x:=by rfl)(tw:(x==("__debug__":Str))=false:=by decide)
  (he:abP (e::es) X.env=(false,abW e X.env)::abP es X.env:=by rfl) (pJ:(ack pos (abP es X.env)).any (·.1)=false:=by rfl):PE X (.Call (.Name x p) (e::es) [] pos) (DU sp [] E t):=by
 obtain ⟨f,fd,G,b,m,kp⟩:=F.ex;exact Qi G hr hg m kp b .nil hx ha tw he pJ
end
end
def Mg (K:Frag):Sp:=fun vs H Q _=>∃(a:abA)(ns:ξ),vs=[.ref a]/\aT K H a (ns.map V.int)/\ns.length<=63/\(∀i∈ns,intBits i<=1048576)/\∀H',Q (.bl true) H'
def walk {l:PySem.W.OpenLaw}{loose:ψ}{K:Params->Frag}{CX:World->ma}
  (hn:l.most=some 63) (hdf:d.params.defaults=[]) (hi:importsNone q=true) (hr:cB k callerA)
  (hY:∀(w:World)(h:Heap),YP w h->(K w.params).In h) (hm:∀w,qP (CX w))
  (F:∀(w:World)(mg:ν)(fa:abA)(h:Heap),(K w.params).In h->h.Ns abO mg->mg d.name=some (.ref fa)->
   ∃fd:FuncData,(∀(s:abH)(u:Value),BindsTo s fd ⟨[u],[]⟩ [(x,u)])/\
    ∀base:Heap,(K w.params).In base->base.Ns abO mg->dq l.prog w (K w.params) mg base (CX w) k fa fd [x] (Mg (K w.params))):
  PySem.W.WalkO q loose XP YP l.row.toRowW d [] (fun f vs=>PySem.call f vs):=by
 refine TyAtt.xX hn hdf fun w s₀ s₁ mg mb fa o pm cd doc a vs ns G Y ho hd tq Ym UT hints hlen hb hg=>?_;have KX:=hY w _ Y;obtain ⟨fd,hbd,hF⟩:=F w mg fa _ KX G.T.g Ym;exact Mc KX G.T.g G.T.b G.T.builtins G.T.nolimit (G.T.seer hi) hg UT hints (aay hlen (by decide)) hr hF hbd (fun H hO hS=>⟨a,ns,rfl,hS,hlen,hb,fun _=>rfl⟩) fun H e s'=>hm w [] H s₁ e s'
end Ty
namespace Ty
open PySem PySem.Spec PyProof.Rows L2
def DictAt (h:Heap)(a:abA)(dx:Λ):Prop:=∃o,h.get? a=some o/\o.dict=dx
def aZ (P:abQ)(w:World):ma:=fun outer H s E e s'=>∃(a:abA)(cls a0:Value)(dx:Λ)(H':Hp)(B:Heap),
 e=.ref a/\Heap.FlyingW B outer a cls a0 s'.heap/\DictAt s'.heap a dx/\Un (DJ outer) [] H H' s.heap s'.heap/\kH P w H' s'.heap/\s'.os=s.os/\adW s'.gens/\
 (∀b o,s.heap.get? b=some o->b∉DJ outer->∃o',B.get? b=some o')/\(∀b u,H' b=some u->∃o,B.get? b=some o)/\E cls dx H'
def aZ.AU :qP (aZ P w):=fun _ _ _ _ _ h=>by obtain ⟨_,_,_,_,_,_,_,_,_,_,_,_,_,_,_,z⟩:=h;exact z
section
variable {P:abQ}{w:World}{K:Frag}{mg:ν}{base:Heap}{N:ψ}{qual:Str}{scope:Scope}{f:abA}{ck:Value}{A:abV}{outer:List Env}{s0:abH}{H0:Hp}{E:XK}
abbrev cxr (P:abQ)(w:World)(K:Frag)(mg:ν)(base:Heap)(N:ψ)(qual:Str)(scope:Scope)(f:abA)(ck:Value)(A:abV)(outer:List Env)(s0:abH)(H0:Hp)(E:XK):Cx:=jD (aZ P w) P w K mg base N qual scope f ck A outer s0 H0 E
end
section
variable {X:Cx}{pins:ε}{σ:L2.St}{H H':Hp}{s:abH}
def XP (X:Cx)(pins:ε)(σ:L2.St)(E:XK)(e:Value)(s':abH):Prop:=∃H s,Inv X pins σ H s/\aZ X.prog X.w X.stack H s E e s'
end
set_option maxHeartbeats 1000000
section
variable {prog:abQ}{w:World}{A:abV}{R:Υ}{s:abH}
def vv {ifs:Ζ}(I:Nat->abH->Prop)
  (turn:∀n s,I n s->abG (abK prog w) A (acS it) (fun r s₁=>match r with
   | none=>R (.ok .next) s₁
   | some v=>abG (abK prog w) A (aiI target it v) (fun _ s₁' =>abG (abK prog w) A (assign target env v) (fun _ s₂=>
     abG (abK prog w) A (forIn ifs true fun c r=>if r=true then do let ok <- isTrue c env (abW c env);pure (ForInStep.yield ok) else pure (ForInStep.yield r)) (fun ok s₃=>
      if ok=true then abG (abK prog w) A (abW elt env) (fun x s₄=>
       abG (abK prog w) A (call (.builtin "list.append") [acc,x]) (fun _ s₅=>∃m,m<n/\I m s₅) (fun _ _=>False) s₄) (fun _ _=>False) s₃
      else ∃m,m<n/\I m s₃) (fun _ _=>False) s₂) (fun _ _=>False) s₁') (fun _ _=>False) s₁) (fun _ _=>False) s)
  (n:Nat) (h:I n s):
  acA (abK prog w) A (.compLoop (.ListComp elt [⟨target,iter,ifs,0⟩] scope pos) 0 it acc env) R s:=by
 refine codeAny_loop rfl I (fun n s hI=>?_) n h;show abG _ A ((compTurn (.ListComp elt [⟨target,iter,ifs,0⟩] scope pos) 0 it acc env).onRaise (fun x=>do noteFrame x env;theTreesLotGoes x)) _ _ s;refine wpAny_noted ?_;rw [compTurn_list];refine abz (wpAny_standAt (abz (ab4 (turn n s hI) (fun r s₁ h₁=>?_) fun _ _ h'=>h'.elim)));cases r with
 | none=>exact abF h₁
 | some v=>
  refine abz (ab4 h₁ (fun _ s₁' h₁' =>?_) fun _ _ h'=>h'.elim);refine abz (ab4 h₁' (fun _ s₂ h₂=>abz (ab4 h₂ (fun ok s₃ h₃=>?_) fun _ _ h'=>h'.elim)) fun _ _ h'=>h'.elim);cases ok with
  | false=>exact abF ⟨rfl,h₃⟩
  | true=>
   exact abz (abz (ab4 h₃ (fun x s₄ h₄=>abz (ab4 h₄ (fun _ s₅ h₅=>abF (abF ⟨rfl,h₅⟩)) fun _ _ h'=>h'.elim)) fun _ _ h'=>h'.elim))
end
noncomputable def bg (env:Env)(fr:ψ):List (Str×abA):=fr.filterMap fun n=>(env.cells.lookup n).map fun c=>(n,c)
theorem lookup_mem {α:Type}{c:α}:∀{l:List (Str×α)},l.lookup x=some c->(x,c)∈l
 | [],h=>by simp at h
 | (y,d)::r,h=>by
  rw [anT] at h;cases e:x==y with
  | true=>
   rw [e] at h;have e1:x=y:=by simpa using e
   cases h;rw [e1];exact aa_
  | false=>
   rw [e] at h;exact aax _ (lookup_mem h)
def HM (h:(x,c)∈bg env fr):env.cells.lookup x=some c:=by
 obtain ⟨n,_,e⟩:=ag1.mp h;cases q:env.cells.lookup n with
 | none=>rw [q] at e;cases e
 | some d=>
  rw [q] at e;have e':(n,d)=(x,c):=aen e;cases e';exact q
def gO (h:(bg env fr).lookup x=some c):env.cells.lookup x=some c:=HM (lookup_mem h)
theorem nA (q:env.cells.lookup x=some c):∀{fr:ψ},x∈fr->(bg env fr).lookup x=some c
 | [],h=>nomatch h
 | y::r,h=>by
  unfold bg;rw [agm];by_cases e:x=y
  ·subst e
   rw [q];simp
  ·have hr:x∈r:=by
    rcases aes.mp h with z|z
    ·exact abM z e
    ·exact z
   have ih:=nA q hr;cases z:env.cells.lookup y with
   | none=>exact ih
   | some d=>
    show afh x ((y,d)::_)=_;rw [anT];have ne:(x==y)=false:=by simpa using e
    rw [ne];exact ih
noncomputable def iF (env:Env):List Str->Prop
 | []=>True
 | y::r=>(env.kindOf y=some .cell\/env.kindOf y=some .free)/\iF env r
theorem iF.at :∀{fr:ψ},iF env fr->x∈fr->env.kindOf x=some .cell\/env.kindOf x=some .free
 | [],_,h=>nomatch h
 | y::r,a,h=>by
  rcases aes.mp h with z|z
  ·rw [z]
   exact a.1
  ·exact iF.at a.2 z
section
variable {X:Cx}
def xx (X:Cx)(NB:ψ)(scope:Scope)(fn:Str->Bool)(cl:List (Str×abA))(C:abA)(s:abH)(H:Hp)(fp:ω):Cx:=
 {prog:=X.prog,w:=X.w,K:=X.K,mg:=X.mg,base:=X.base,A:=X.A,N:=NB,s₀:=s,H₀:=H,env:=compEnvC scope cl C X.env,outer:=X.stack,stack:=X.stack,ex:=fp,fn:=fn,calm:=X.calm,pn:=[],xe:=fun _ _=>False}
abbrev qi (X:Cx)(NB:ψ)(scope:Scope)(cl:List (Str×abA))(C:abA)(s:abH)(H:Hp)(fp:ω):Cx:=xx X NB scope (fun _=>false) cl C s H fp
structure Qq (X:Cx)(scope:Scope)(ow:abA->List (Str×abA))(fn:Str->Bool)(fr:ψ)(caps:List Nat):Prop where
 Qr:closureFor scope X.env=pure (bg X.env fr)
 kind:scope.kind=.function
 names:∀y∈scope.names,y.2=.local->scope.names.lookup y.1=some .local
 free:∀y∈scope.names,y.2=.free->y.1∈fr
 caps:caps.map (fun i=>X.N[i]?)=fr.map some
 out:iF X.env fr
 inn:iF (compEnvC scope [] 0 X.env) fr
 new:∀{s:abH} {Q:Env->abH->Prop} {E:δ},(∀h',h'.Ns s.heap.objs.size (fun _=>none)->(∀b o,s.heap.get? b=some o->h'.get? b=some o)->(∀x c,(ow s.heap.objs.size).lookup x=some c->h'.IsCell c none)->
   Q (newEnv scope s.heap.objs.size X.env.globals (ow s.heap.objs.size++bg X.env fr) X.env.qual none .none (some X.env) builtinsNs) {s with heap:=h',toks:=s.toks+([]:List (Str×Value)).length})->
  abG (abK X.prog X.w) X.A (newFunctionEnv scope X.env.globals (bg X.env fr) [] X.env.qual none .none (some X.env)) Q E s
 ge:∀C x c,(ow C).lookup x=some c->C<c
 one:∀C x z c,(ow C).lookup x=some c->(ow C).lookup z=some c->x=z
 fn1:∀C x,fn x=true->(ow C).lookup x≠none
 only:∀z∈scope.names,z.2=.cell->fn z.1=true
 ny:∀C,∀x∈fr,(ow C).lookup x=none
def uz {o cl:List (Str×abA)}(h:(o++cl).lookup x=some c):o.lookup x=some c\/(o.lookup x=none/\cl.lookup x=some c):=by
 rw [ag6] at h;cases e:o.lookup x with
 | none=>rw [e] at h;exact .inr ⟨rfl,h⟩
 | some d=>rw [e] at h;exact .inl h
structure vw (X:Cx)(scope:Scope)(fr:ψ)(caps:List Nat):Prop where
 Qr:closureFor scope X.env=pure (bg X.env fr)
 cell:∀y∈scope.names,y.2≠.cell
 kind:scope.kind=.function
 names:∀y∈scope.names,y.2=.local->scope.names.lookup y.1=some .local
 free:∀y∈scope.names,y.2=.free->y.1∈fr
 caps:caps.map (fun i=>X.N[i]?)=fr.map some
 out:iF X.env fr
 inn:iF (compEnvC scope [] 0 X.env) fr
def PF (X:Cx)(ifs:Ζ)(t:TT):Prop:=
 ∀(pins:ε)(s:abH)(σ:L2.St)(H:Hp)(Q:Bool->Hp->Prop),Inv X pins σ H s->t σ H Q->
  abG (abK X.prog X.w) X.A (forIn ifs true fun c r=>if r=true then do let ok <- isTrue c X.env (abW c X.env);pure (ForInStep.yield ok) else pure (ForInStep.yield r)) (TP X pins σ Q) X.xe s
def kr:TT:=fun _ H Q=>Q true H
def qQ:PF X [] kr:=fun _ _ _ H _ I h=>wpAny_tests_nil ⟨H,I,h⟩
def UU (h:PT X c t):PF X [c] t:=fun pins s σ H Q I q=>wpAny_tests_one (h pins s σ H Q I q)
def sB (k:Nat)(caps:List Nat)(σ:L2.St):L2.St:=ac_ k none++caps.map fun i=>(σ[i]?).getD none
def nC (D:abA)(g:TG)(tt:TT)(te:TE)(J:It)(σ0:L2.St)(H1:Hp)(Q:VK):Prop:=∃W:Nat->Nat->L2.St->List V->Hp->Prop,
 (∃m,W 0 m σ0 [] (upd H1 D (.lst [])))/\∀i m σ2 ys H2,W i m σ2 ys H2->(J.stop i H2/\Q (.ref D) H2)\/(J.go i H2/\∀x H3,J.DN i H2 x H3->g x σ2 H3 fun σ4 H4=>tt σ4 H4 fun b H5=>
  if b=true then te σ4 H5 fun v H6=>H6 D=some (.lst ys)/\ys.length<abE/\∃m',m'<m/\W (i+1) m' σ4 (ys++[v]) (upd H6 D (.lst (ys++[v]))) else ∃m',m'<m/\W (i+1) m' σ4 ys H5)
def oM (k:Nat)(caps:List Nat)(wi:TI)(g:TG)(tt:TT)(te:TE):TE:=fun σ H Q=>wi σ H fun J H1=>∀D,H1 D=none->nC D g tt te J (sB k caps σ) H1 Q
def UW (h:(sB k caps σ)[i]?=some (some v)):k<=i/\∃j,caps[i-k]?=some j/\σ[j]?=some (some v):=by
 unfold sB at h;by_cases c:i<k
 ·rw [aby (by simpa using c),aeI,abC c] at h
  cases h
 ·rw [abx (by simpa using ahj c),aeG,aaa] at h
  refine ⟨ahj c,?_⟩;cases e:caps[i-k]? with
  | none=>rw [e] at h;cases h
  | some j=>
   rw [e] at h;refine ⟨j,rfl,?_⟩;have h':(σ[j]?).getD none=some v:=aen h;cases z:σ[j]? with
   | none=>rw [z] at h';cases h'
   | some o=>
    rw [z] at h';exact abR some h'
def qR {σ:L2.St}
    {RR:Value->abA->Result->abH->Prop} {E:δ} (hc:X.calm=true) (B:Qq X scope ow fn fr caps)
  (hg:∀C s H fp,PG (xx X (tn++fr) scope fn (ow C++bg X.env fr) C s H fp) target g) (ht:∀C s H fp,PF (xx X (tn++fr) scope fn (ow C++bg X.env fr) C s H fp) ifs tt) (he:∀C s H fp,PE (xx X (tn++fr) scope fn (ow C++bg X.env fr) C s H fp) elt te)
  (I2:Inv X pins σ H2 s2) (T:Turn X.prog X.w X.K target J fp it Ta) (SX:Ta 0 s2.heap) (f2:∀b∈fp,m9 X pins H2 b) (q:∀D,H2 D=none->nC D g tt te J (sB tn.length caps σ) H2 Q)
  (fin:∀D C H' s' m,Inv X pins σ H' s' ->s'.heap.Ns C m->m9 X pins H' C->Q (.ref D) H' ->RR (.ref D) C (.ok .next) s'):
  abG (abK X.prog X.w) X.A (newList []) (fun acc s₃=>abG (abK X.prog X.w) X.A (newFunctionEnv scope X.env.globals (bg X.env fr) [] X.env.qual none .none (some X.env)) (fun Yn s₄=>
   acA (abK X.prog X.w) X.A (.compStart (.ListComp elt [⟨target,iter,ifs,0⟩] scope pos) 0 (.ref it) acc {Yn with scope:=relabel scope X.env}) (RR acc Yn.locals) s₄) E s₃) E s2:=by
 refine acK (B.new (fun h₁ UX hk₁ hc₁=>?_));have I3:Inv X pins σ (upd H2 s2.heap.objs.size (.lst [])) {s2 with heap:=s2.heap.push {cls:=.type "list",data:=.seq ([]:List Value).toArray}}:=I2.UN (t':=s2.toks) (its:=[]) .nil (aeF _);obtain ⟨W,⟨m0,w0⟩,turn⟩:=q s2.heap.objs.size (I2.bM.fresh (aaA _));generalize hH3:upd H2 s2.heap.objs.size (.lst [])=H3 at I3 w0
 have f3:∀b∈fp,m9 X pins H3 b:=fun b hb=>by
  obtain ⟨a0,a1⟩:=f2 b hb;refine ⟨?_,a1⟩;obtain ⟨o,e,_⟩:=T.obj _ _ SX b hb;rw [<-hH3,aj (aew (abJ e))];exact a0
 generalize hD:s2.heap.objs.size=D at*;generalize hs3:({s2 with heap:=s2.heap.push {cls:=.type "list",data:=.seq ([]:List Value).toArray}}:abH)=s3 at*;have e3:s3.heap=s2.heap.push {cls:=.type "list",data:=.seq ([]:List Value).toArray}:=by rw [<-hs3]
 have zY:Ta 0 s3.heap:=T.keep _ _ _ SX fun b _ o e=>by rw [e3];exact abD _ e
 have kept:∀b o,s3.heap.get? b=some o->h₁.get? b=some o:=fun b o e=>hk₁ b o e;generalize hC:s3.heap.objs.size=C at*;have Yo:s3.heap.objs.size<=C:=aht hC;have I4:Inv X pins σ H3 {s3 with heap:=h₁,toks:=s3.toks+([]:List (Str×Value)).length}:=I3.kept kept
 have fpC:∀b∈fp,b≠C:=fun b hb z=>by
  obtain ⟨o,e,_⟩:=T.obj _ _ zY b hb;exact abM z (aew (aep (abJ e) Yo))
 have nst:∀b∈fp,b∉DJ X.stack:=fun b hb z=>(aes.mp (I3.AE b z)).elim (f3 b hb).2.1 (f3 b hb).2.2.1
 have old:∀x c,(bg X.env fr).lookup x=some c->c<C:=fun x c e=>by
  obtain ⟨v,ic⟩:=I3.cell x c (gO e);rw [<-hC];exact ic.lt
 have af6:∀x z c,(ow C++bg X.env fr).lookup x=some c->(ow C++bg X.env fr).lookup z=some c->x=z:=fun x z c e1 e2=>by
  rcases uz e1 with b1|⟨_,b1⟩<;>rcases uz e2 with b2|⟨_,b2⟩
  ·exact B.one _ _ _ _ b1 b2
  ·exact abM (old z c b2) (Nat.lt_asymm (B.ge _ _ _ b1))
  ·exact abM (old x c b1) (Nat.lt_asymm (B.ge _ _ _ b2))
  ·exact I3.ok.inj x z c (gO b1) (gO b2)
 have af7:∀x c,fn x=true->(ow C++bg X.env fr).lookup x=some c->s3.heap.objs.size<=c:=fun x c hx e=>by
  rcases uz e with b1|⟨a1,b1⟩
  ·exact aay (aht hC) (ae1 (B.ge _ _ _ b1))
  ·exact abM a1 (B.fn1 C x hx)
 have nfp:∀b∈fp,∀x c,(ow C++bg X.env fr).lookup x=some c->c≠b:=fun b hb x c e=>by
  rcases uz e with b1|⟨a1,b1⟩
  ·obtain ⟨o,eo,_⟩:=T.obj _ _ zY b hb
   have:=abJ eo;rw [hC] at this;exact aeD (aew (ahy this (B.ge _ _ _ b1)))
  ·exact (f3 b hb).2.2.2.2.1 x c (gO b1)
 have Yp:∀{x:Str} {c:abA},x∈fr->(bg X.env fr).lookup x=some c->(ow C++bg X.env fr).lookup x=some c:=fun {x c} hx e=>by
  rw [ag6,B.ny C x hx];exact e
 have okB:(xx X (tn++fr) scope fn (ow C++bg X.env fr) C s3 H3 fp).Ok:=by
  refine ⟨I3.ok.mod,B.kind,I3.ok.glob,I3.ok.blt,Yo,af6,fun x hx=>?_,af7,I3.ok.hd,I3.ok.frames,.inl rfl,
   fun b hb=>⟨fpC b hb,fun x c e=>nfp b hb x c e⟩,I3.bs,aay I3.ok.P0 I3.sz,fun b o e hb=>?_,nst,I3.stack,I3.DK⟩
  ·have hm:∃k,(x,k)∈scope.names/\k≠.local/\(k=.cell\/k=.free):=by
    have:∃k',(relabel scope X.env).names.lookup x=some k'/\(k'=.cell\/k'=.free):=by
     rcases hx with z|z
     ·exact ⟨_,z,.inl rfl⟩
     ·exact ⟨_,z,.inr rfl⟩
    obtain ⟨k',e',h'⟩:=this;obtain ⟨⟨n,k⟩,hn,en⟩:=aar.mp (lookup_mem e');dsimp only at en;by_cases cc:(k==NameKind.free && X.env.scope.kind==.function && X.env.kindOf n==some .cell)=true
    ·rw [abC cc] at en
     cases en
     have kf:k=.free:=by
      rw [aft,aft] at cc;simpa using cc.1.1
     exact ⟨k,hn,(by intro z;rw [kf] at z;cases z),.inr kf⟩
    ·rw [abB cc] at en
     cases en;exact ⟨k',hn,fun z'=>by rcases h' with y|y<;>(rw [y] at z';cases z'),h'⟩
   obtain ⟨k,hk,_,h2⟩:=hm
   rcases h2 with z|z
   ·cases e:(ow C).lookup x with
    | none=>exact abM e (B.fn1 C x (B.only _ hk z))
    | some c=>exact ⟨c,by show afh x (ow C++_)=_;rw [ag6,e];rfl⟩
   ·have hf:=B.free _ hk z
    obtain ⟨c,ec⟩:=I3.ok.has x (B.out.at hf);exact ⟨c,Yp hf (nA ec hf)⟩
  ·obtain ⟨_,_,_,h1,_⟩:=f3 b hb
   rcases h1 with z|z
   ·exact I3.ok.LJ b o e z
   ·exact aeY _ (aep (aep (abJ e) I3.ok.P0) z)
 have IB:Inv (xx X (tn++fr) scope fn (ow C++bg X.env fr) C s3 H3 fp) [] (sB tn.length caps σ) H3 {s3 with heap:=h₁,toks:=s3.toks+([]:List (Str×Value)).length}:=by
  refine ⟨okB,rfl,I3.bare,Un.kept kept,⟨_,UX,fun i x v e1 e2 _=>?_⟩,fun x c e=>(uz e).elim (fun z=>⟨none,hc₁ x c z⟩) (fun z=>I4.cell x c (gO z.2)),?_,fun x c e=>(uz e).elim (fun z=>I3.bM.fresh (aay Yo (ae1 (B.ge _ _ _ z)))) (fun z=>I3.iM x c (gO z.2)),fun p hp=>(nomatch hp),I3.bM.kept kept,?_⟩
  ·obtain ⟨hk,j,ej,es⟩:=UW e2
   have HN :fr[i-tn.length]?=some x:=by
    have z:(tn++fr)[i]?=some x:=e1;rw [abx hk] at z;exact z
   have hx:x∈fr:=aaq HN
   have eN:X.N[j]?=some x:=by
    have z:=abR (fun l:List (Option Str)=>l[i-tn.length]?) B.caps;simp only [aaa,ej,HN,afV] at z;exact aen z
   have ko:=B.out.at hx;obtain ⟨m,hn,hl⟩:=I4.loc;obtain ⟨u,r,lk⟩:=hl j x v eN es (by rcases ko with z|z;exact .inr (.inl z);exact .inr (.inr z));refine ⟨u,r,?_⟩
   rcases lk with ⟨k1,_⟩|⟨_,c,ec,ic⟩
   ·rcases ko with z|z<;>(rw [z] at k1;cases k1)
   ·exact .inr ⟨B.inn.at hx,c,Yp hx (nA ec hx),ic⟩
  ·exact I3.bM.fresh Yo
  ·have:=abR afb B.caps
   simp only [ir] at this;show (sB tn.length caps σ).length=(tn++fr).length;unfold sB;simp [this]
 have Mh:∀{H':Hp},(∀b∈fp,H' b=none)->∀b∈fp,m9 (xx X (tn++fr) scope fn (ow C++bg X.env fr) C s3 H3 fp) [] H' b:=fun hn b hb=>
  ⟨hn b hb,fpC b hb,nst b hb,.inl hb,nfp b hb,fun p hp=>(nomatch hp)⟩
 have st4:Ta 0 h₁:=T.keep _ _ _ zY fun b _ o e=>kept b o e
 have loop:acA (abK X.prog X.w) X.A (.compLoop (.ListComp elt [⟨target,iter,ifs,0⟩] scope pos) 0 (.ref it) (.ref D) (compEnvC scope (ow C++bg X.env fr) C X.env)) (RR (.ref D) C) {s3 with heap:=h₁,toks:=s3.toks+([]:List (Str×Value)).length}:=by
  refine vv (fun n s'=>∃i σ' ys H',Inv (xx X (tn++fr) scope fn (ow C++bg X.env fr) C s3 H3 fp) [] σ' H' s'/\Ta i s'.heap/\(∀b∈fp,H' b=none)/\W i n σ' ys H') ?_ m0 ⟨0,_,[],H3,IB,st4,fun b hb=>(f3 b hb).1,w0⟩;rintro n s5 ⟨i,σ5,ys,H5,I5,W7,P9,w5⟩
  rcases turn i n σ5 ys H5 w5 with ⟨stop,qn⟩|⟨go,step⟩
  ·refine ab4 (T.done (xx X (tn++fr) scope fn (ow C++bg X.env fr) C s3 H3 fp) rfl rfl rfl hc i [] s5 σ5 H5 (fun _ _=>False) I5 (Mh P9) W7 stop) (fun r s6 ⟨hr,I6⟩=>?_) fun _ _ z=>z
   subst hr;obtain ⟨m,hn,_⟩:=I6.loc;have J6:Inv X pins σ H5 s6:=I3.XQ (ch:=fp) I6.os I6.base I6.bM I6.bare fun b hb=>⟨(f3 b hb).2.2.2.1,(f3 b hb).2.1,(f3 b hb).2.2.2.2.1,(f3 b hb).2.2.2.2.2⟩;exact fin D C H5 s6 m J6 hn (I3.m_ Yo I6.free) qn
  ·refine ab4 (T.item (xx X (tn++fr) scope fn (ow C++bg X.env fr) C s3 H3 fp) rfl rfl rfl hc i [] s5 σ5 H5 (fun _ _=>False) I5 (Mh P9) W7 go) (fun r s6 ⟨u,hr,h6⟩=>?_) fun _ _ z=>z
   subst hr;refine ab4 h6 (fun _ s7 ⟨x,H7,I7,r7,y7,st7,Yq⟩=>?_) fun _ _ z=>z;have I7':=I7.pinned (Mh Yq) (T.obj _ _ st7)
   have held:∀{σ' :L2.St} {H':Hp} {s':abH},Inv (xx X (tn++fr) scope fn (ow C++bg X.env fr) C s3 H3 fp) ([]++qG fp s7.heap) σ' H' s' ->Ta (i+1) s'.heap/\∀b∈fp,H' b=none:=fun {σ' H' s'} I'=>by
    refine ⟨T.keep _ _ _ st7 fun b hb o e=>(I'.pin (b,o) (aeu _ (aeu _ (i7 hb e)))).1,fun b hb=>?_⟩;obtain ⟨o,e,d⟩:=T.obj _ _ st7 b hb;exact (I'.pin (b,o) (aeu _ (aeu _ (i7 hb e)))).2.1
   refine ab4 (hg C s3 H3 fp _ s7 σ5 H7 x u _ I7' r7 (step x H7 y7)) (fun _ s8 ⟨σ8,H8,I8,q8⟩=>?_) fun _ _ z=>z;refine ab4 (ht C s3 H3 fp _ s8 σ8 H8 _ I8 q8) (fun ok s9 ⟨H9,I9,q9⟩=>?_) fun _ _ z=>z;cases ok with
   | false=>
    rw [abB aem] at q9;obtain ⟨m',hm,w9⟩:=q9;rw [abB aem];obtain ⟨a,b⟩:=held I9;exact ⟨m',hm,i+1,σ8,ys,H9,I9.jA,a,b,w9⟩
   | true=>
    rw [abC rfl] at q9;rw [abC rfl];refine ab4 (he C s3 H3 fp _ s9 σ8 H9 _ I9 q9) (fun v uB ⟨y9,OU,I10,r10,hDD,hl,m',hm,w10⟩=>?_) fun _ _ z=>z;refine ab4 (fe (X:=xx X (tn++fr) scope fn (ow C++bg X.env fr) C s3 H3 fp) _ uB σ8 OU (.ref D) [y9] (.ref D) [v] (fun _ H'=>W (i+1) m' σ8 (ys++[y9]) H') I10 rfl (.cons r10 .nil) ⟨D,ys,y9,rfl,rfl,hDD,hl,w10⟩) (fun _ z9 ⟨z,Mi,I11,_,q11⟩=>?_) fun _ _ z=>z;obtain ⟨a,b⟩:=held I11;exact ⟨m',hm,i+1,σ8,ys++[y9],Mi,I11.jA,a,b,q11⟩
 exact codeAny_compStart_list loop (T.self X.A 0 _ _ _ st4 loop)
def Mj (hc:X.calm=true)(B:Qq X scope ow fn fr caps)(hi:PI X target iter wi)
  (hg:∀C s H fp,PG (xx X (tn++fr) scope fn (ow C++bg X.env fr) C s H fp) target g) (ht:∀C s H fp,PF (xx X (tn++fr) scope fn (ow C++bg X.env fr) C s H fp) ifs tt) (he:∀C s H fp,PE (xx X (tn++fr) scope fn (ow C++bg X.env fr) C s H fp) elt te)
  (hs:∀x,acj iter X.env x=pure x:=by intro _;rfl):PE X (.ListComp elt [⟨target,iter,ifs,0⟩] scope pos) (oM tn.length caps wi g tt te):=by
 intro pins s σ H Q I h;rw [eval_ListComp];refine wpAny_comprehension_free (use:=none) rfl hs B.Qr B.kind B.names (cF (hi pins s σ H _ I h) fun v s1 h1=>cF h1 fun itv s2 h2=>?_);obtain ⟨it,fp,Ta,J,H2,rfl,I2,T,SX,f2,q⟩:=h2;refine qR (Q:=Q) (RR:=fun acc C=>compPost (abK X.prog X.w) X.A X.xe none (EP X pins σ Q) acc C) hc B hg ht he I2 T SX f2 q ?_;intro D C H' s' m I' hn fc qq;obtain ⟨g0,g1,g2,g3,g4,g5⟩:=fc;exact ⟨m,hn,fun h' Tb =>⟨.ref D,H',I'.turned (t':=s'.toks) (fun b o hb e=>(Tb.2 b hb).trans e) g0 g1 g3 g4 g5,rfl,qq⟩⟩
def Ml {tF:Pos}(hN:X.N.Nodup)(UY:X.N[i]?=some y)(hx:Loc X.env.scope y)
  (hc:X.calm=true) (B:Qq X scope ow fn fr caps) (hi:PI X target iter wi)
  (hg:∀C s H fp,PG (xx X (tn++fr) scope fn (ow C++bg X.env fr) C s H fp) target g) (ht:∀C s H fp,PF (xx X (tn++fr) scope fn (ow C++bg X.env fr) C s H fp) ifs tt) (he:∀C s H fp,PE (xx X (tn++fr) scope fn (ow C++bg X.env fr) C s H fp) elt te)
  (Ld:adv (.ListComp elt [⟨target,iter,ifs,0⟩] scope pos) (some (.Name y py)) tF.line X.env=pure true:=by rfl)
  (hs:∀x,acj iter X.env x=pure x:=by intro _;rfl) (hf:X.fn y=true\/X.env.scope.names.lookup y=some .local:=by first|exact .inl rfl|exact .inr rfl|assumption):
  PS X (.Assign [.Name y py] (.ListComp elt [⟨target,iter,ifs,0⟩] scope pos) tF) (AH (oM tn.length caps wi g tt te) (c_ i)):=by
 intro pins s σ H D I h;rw [exec_Assign_Name_used _ _ _ _ Ld];refine abz (wpAny_standAt (abz ?_));show abG _ X.A (do let _ <- comprehension (.ListComp elt [⟨target,iter,ifs,0⟩] scope pos) scope X.env _ (newList []) false (abW iter X.env) (some (assign (.Name y py) X.env))) _ _ s
 refine abz (ab4 (wpAny_comprehension_free (use:=some (assign (.Name y py) X.env)) (Q:=fun _ s'=>SP X pins D .next s') rfl hs B.Qr B.kind B.names
  (cF (hi pins s σ H _ I h) fun v s1 h1=>cF h1 fun itv s2 h2=>?_)) (fun _ s' hq=>abF (abF hq)) fun _ _ e=>e)
 obtain ⟨it,fp,Ta,J,H2,rfl,I2,T,SX,f2,q⟩:=h2;refine qR (Q:=fun v H1=>c_ i v σ H1 D.nx) (RR:=fun acc C=>compPost (abK X.prog X.w) X.A X.xe (some (assign (.Name y py) X.env)) (fun _ s'=>SP X pins D .next s') acc C) hc B hg ht he I2 T SX f2 q ?_;intro DD C H' s' m I' hn fc qq;obtain ⟨g0,g1,g2,g3,g4,g5⟩:=fc;show abG _ X.A (assign (.Name y py) X.env (.ref DD)) _ _ _;refine wpAny_assign_Name (uh I' hN UY hx (v:=.ref DD) (u:=.ref DD) rfl (fun X9 I'' ⟨a,sb,ha⟩=>?_) hf)
 have hCa:C≠a:=by
  rcases ha with z|z
  ·rw [z]
   exact g1
  ·exact fun e=>g4 y a z e.symm
 exact ⟨m,hn.sameBut sb hCa,fun h' Tb =>⟨_,H',I''.turned (t':=X9.toks) (fun b o hb e=>(Tb.2 b hb).trans e) g0 g1 g3 g4 g5,qq⟩⟩
def vw.g {caps:List Nat}(B:vw X scope fr caps):Qq X scope (fun _=>[]) (fun _=>false) fr caps:=
 ⟨B.Qr,B.kind,B.names,B.free,B.caps,B.out,B.inn,fun hQ=>wpAny_newFunctionEnv B.cell (by intro y hy;simp at hy) (fun h₁ UX af9=>hQ h₁ UX (fun b o e=>(af9.2 b (aew (abJ e))).trans (abD _ e)) fun _ _ z=>(nomatch z)) B.kind,
  fun _ _ _ z=>(nomatch z),fun _ _ _ _ z=>(nomatch z),fun _ _ z=>(nomatch z),fun z hz e=>abM e (B.cell z hz),fun _ _ _=>rfl⟩
def ED (hc:X.calm=true)(B:vw X scope fr caps)(hi:PI X target iter wi)
  (hg:∀C s H fp,PG (qi X (tn++fr) scope (bg X.env fr) C s H fp) target g) (ht:∀C s H fp,PF (qi X (tn++fr) scope (bg X.env fr) C s H fp) ifs tt) (he:∀C s H fp,PE (qi X (tn++fr) scope (bg X.env fr) C s H fp) elt te)
  (hs:∀x,acj iter X.env x=pure x:=by intro _;rfl):PE X (.ListComp elt [⟨target,iter,ifs,0⟩] scope pos) (oM tn.length caps wi g tt te):=
 Mj hc B.g hi hg ht he hs
def EE {tF:Pos}(hN:X.N.Nodup)(UY:X.N[i]?=some y)(hx:Loc X.env.scope y)
  (hc:X.calm=true) (B:vw X scope fr caps) (hi:PI X target iter wi)
  (hg:∀C s H fp,PG (qi X (tn++fr) scope (bg X.env fr) C s H fp) target g) (ht:∀C s H fp,PF (qi X (tn++fr) scope (bg X.env fr) C s H fp) ifs tt) (he:∀C s H fp,PE (qi X (tn++fr) scope (bg X.env fr) C s H fp) elt te)
  (Ld:adv (.ListComp elt [⟨target,iter,ifs,0⟩] scope pos) (some (.Name y py)) tF.line X.env=pure true:=by rfl)
  (hs:∀x,acj iter X.env x=pure x:=by intro _;rfl) (hf:X.fn y=true\/X.env.scope.names.lookup y=some .local:=by first|exact .inl rfl|exact .inr rfl|assumption):
  PS X (.Assign [.Name y py] (.ListComp elt [⟨target,iter,ifs,0⟩] scope pos) tF) (AH (oM tn.length caps wi g tt te) (c_ i)):=
 Ml hN UY hx hc B.g hi hg ht he Ld hs hf
end
section
variable {D:abA}{te:TE}{cap:L2.St}{H1:Hp}{Q:VK}
def vx (n:Nat)(xs:Nat->V)(Pv:Nat->List V->Hp->Prop)(h0:Pv 0 [] (upd H1 D (.lst [])))
  (go:∀i ys H,i<n->Pv i ys H->J.go i H/\∀x H',J.DN i H x H' ->H'=H/\x=xs i) (stop:∀ys H,Pv n ys H->J.stop n H)
  (hs:∀i ys H (R:VK),i<n->Pv i ys H->H D=some (.lst ys)->(∀v H6,H6 D=some (.lst ys)->ys.length<abE->Pv (i+1) (ys++[v]) (upd H6 D (.lst (ys++[v])))->R v H6)->te (some (xs i)::cap) H R)
  (hd:∀ys H,Pv n ys H->H D=some (.lst ys)->Q (.ref D) H):nC D (c_ 0) kr te J (none::cap) H1 Q:=by
 refine ⟨fun i m σ ys H=>m=n-i/\i<=n/\(∃o,σ=o::cap)/\Pv i ys H/\H D=some (.lst ys),⟨n,by simp,aeF _,⟨none,rfl⟩,h0,ah⟩,?_⟩;rintro i m σ ys H ⟨rfl,hi,⟨o,rfl⟩,p,hD⟩;by_cases jB:i<n
 ·obtain ⟨g1,g2⟩:=go i ys H jB p
  refine .inr ⟨g1,fun x H' y=>?_⟩;obtain ⟨e1,e2⟩:=g2 x H' y;subst e1 e2;unfold c_ kr;dsimp only;rw [abC rfl];exact hs i ys _ _ jB p hD fun v H6 a b c=>⟨a,b,n-(i+1),by omega,rfl,by omega,⟨_,rfl⟩,c,ah⟩
 ·have e:i=n:=by omega
  subst e;exact .inl ⟨stop ys H p,hd ys H p hD⟩
end
structure Yr (K:Frag)(C:abA):Prop where
 makes:acs K C=true
 init:abT K (.ref C) "__init__"=some (some (.builtin "object.__init__"))
 kp:keepIn K (.ref C)=true
def Ys (C:abA):TE:=fun _ H Q=>∀x dx,H x=none->H dx=none->dx≠x->Q (.ref x) (upd (upd H dx (.own x)) x (.ins C dx []))
section
variable {X:Cx}
def Qs {σ:L2.St}(M:Yr X.K C)(I:Inv X pins σ H s)(h:Ys C σ H Q):abG (abK X.prog X.w) X.A (call (.ref C) []) (EP X pins σ Q) X.xe s:=by
 have hq:=h (s.heap.objs.size+1) s.heap.objs.size (I.bM.fresh (an1 _)) (I.bM.fresh (aaA _)) (aew (aeP _));have I2:=Inv.made (C:=C) I;have Y:=PySem.W.makes_of (M:=abK X.prog X.w) I.kN M.makes;refine wpAny_call (HE I.kN M.makes M.init (fun self=>PySem.W.Looks.of_pure (PySem.W.oi_bind self)) ?_)
 have ho:((s.heap.push ab0).push (ab3 C s.heap.objs.size)).get? (s.heap.objs.size+1)=some (ab3 C s.heap.objs.size):=by
  have:=abN (s.heap.push ab0) (o:=ab3 C s.heap.objs.size) rfl
  rwa [acf] at this
 have t1:PySem.W.Looks (abK X.prog X.w) ((s.heap.push ab0).push (ab3 C s.heap.objs.size)) (typeOf (.ref (s.heap.objs.size+1))) (.ref C):=(PySem.W.Looks.ld ho).andThen .now
 have t2:PySem.W.Looks (abK X.prog X.w) ((s.heap.push ab0).push (ab3 C s.heap.objs.size)) (isInstance (.ref (s.heap.objs.size+1)) (.type "object")) true:=
  t1.andThen (Y.top.keeps fun b o e=>abD _ (abD _ e))
 refine codeAny_call_builtin PySem.W.oi_plain PySem.W.entry_oi (@PySem.W.check_slot (abK X.prog X.w) _ _ _ "object.__init__" "object" "__init__" (.ref (s.heap.objs.size+1)) [] [] _ PySem.W.oi_kind PySem.W.oi_split t2 (PySem.W.oi_args (.ref (s.heap.objs.size+1))) ?_);rw [PySem.W.oi_run];exact abF (And.intro rfl ⟨V.ref (s.heap.objs.size+1),_,I2,rfl,hq⟩)
def UZ (M:Yr X.K C)(hg:Gl X x)(hm:X.mg x=some (.ref C))(tw:(x==("__debug__":Str))=false:=by decide):PE X (.Call (.Name x p) [] [] pos) (Ys C):=by
 intro pins s σ H Q I h;refine acE (lY I hg hm ?_ tw);exact PySem.W.callWith_K0 I.kN M.kp (Qs M I h)
end
structure bL (P:abQ)(w:World)(K:Frag)(mg:ν)(base:Heap)(CX:ma)(k:Nat)(C:abA)(m:Str)(ps:ψ)(sp:Sp):Prop where
 ex:∃(f:abA)(fd:FuncData),xK K C/\Meth K C m f/\dq P w K mg base CX k f fd ps sp/\Binds K fd ps []
def bL.mono {K:Frag}(M:bL P w K mg base CX j C m ps sp)(h:j<=k):bL P w K mg base CX k C m ps sp:=by
 obtain ⟨f,fd,a,b,c,d⟩:=M.ex;exact ⟨f,fd,a,b,c.mono h,d⟩
section
variable {X:Cx}{CX:ma}{k:Nat}{E:XK}{m:Str}{pos apos:Pos}{e o:Expr}{es:Ζ}{ta:TE}{t:TA}
inductive Tc (P:abQ)(w:World)(K:Frag)(mg:ν)(base:Heap)(CX:ma)(k:Nat)(m:Str)(E:XK)(t:TA)(σ:L2.St)(Q:VK)(x:V)(H1:Hp):Prop
|mk (a C dx fs ps sp:_)(_:x=.ref a)(_:H1 a=some (.ins C dx fs))(_:fs.lookup m=none)(_:bL P w K mg base CX k C m ps sp)(_:t σ H1 fun vs H2=>sp (x::vs) H2 Q E)
def Yt (P:abQ)(w:World)(K:Frag)(mg:ν)(base:Heap)(CX:ma)(k:Nat)(m:Str)(E:XK)(ta:TE)(t:TA):TE:=fun σ H Q=>ta σ H fun x H1=>Tc P w K mg base CX k m E t σ Q x H1
def eR (he:PE X o ta)(hr:cB k X.A)(hx:Passes CX X E)
  (ht:abW (.Call (.Attribute o m apos) [] [] pos) X.env=(do
   let ov <- abW o X.env
   standAt apos.atName
   let (f,first) <- holding [ov] (getMethod ov m pl)
   callWith pos f first (ack pos (abP [] X.env)) (backToKw pos (aiA [] X.env))):=by rfl):
  PE X (.Call (.Attribute o m apos) [] [] pos) (Yt X.prog X.w X.K X.mg X.base CX k m E ta gj):=by
 intro pins s σ H Q I h;refine PySem.W.methodCall_KW (pl:=pl) (cF (he pins s σ H _ I h) fun u s1 ⟨x,H1,I1,rx,a,C,dx,fs,ps,sp,ex,ea,l,M,q⟩=>?_) ht;subst ex;obtain rfl:u=Value.ref a:=rx;obtain ⟨f,fd,c,hm,F,hb⟩:=M.ex;refine kQ I1 ea c hm l ?_;exact PySem.W.callWith_K0 (first:=[.ref a]) I1.kN hm.kp (vf (us:=[.ref a]) (vs:=[.ref a]) (dvs:=[]) F hr hb .nil hx I1 (.cons rfl .nil) q)
def eC {pl:Sem Bool}(he:PE X o ta)(hr:cB k X.A)(hx:Passes CX X E)(ha:PA X (e::es) t)
  (P7:abP (e::es) X.env=(false,abW e X.env)::abP es X.env:=by rfl) (pJ:(ack pos (abP es X.env)).any (·.1)=false:=by rfl)
  (ht:abW (.Call (.Attribute o m apos) (e::es) [] pos) X.env=(do
   let ov <- abW o X.env
   standAt apos.atName
   let (f,first) <- holding [ov] (getMethod ov m pl)
   callWith pos f first (ack pos (abP (e::es) X.env)) (backToKw pos (aiA [] X.env))):=by rfl):
  PE X (.Call (.Attribute o m apos) (e::es) [] pos) (Yt X.prog X.w X.K X.mg X.base CX k m E ta t):=by
 intro pins s σ H Q I h;refine PySem.W.methodCall_KW (pl:=pl) (cF (he pins s σ H _ I h) fun u s1 ⟨x,H1,I1,rx,a,C,dx,fs,ps,sp,ex,ea,l,M,q⟩=>?_) ht;subst ex;obtain rfl:u=Value.ref a:=rx;obtain ⟨f,fd,c,hm,F,hb⟩:=M.ex;refine kQ I1 ea c hm l ?_;refine adU (first:=[.ref a]) (h₀:=X.base) I.ok.mod.W5 hm.kp (cF (ha pos pins s1 σ H1 _ I1 q) fun us s2 ⟨vs,H2,I2,r,q2⟩=>⟨I2.kN,?_⟩) P7 pJ;refine vf (us:=.ref a::us) (vs:=.ref a::vs) (dvs:=[]) F hr hb .nil hx I2 (.cons rfl r) ?_;rw [ae_];exact q2
end
def Yu (h:qP CX)(e:X.xe=fun _ _=>False):Passes CX X E0:=fun _ _ _ _ _ _ _ q=>(h _ _ _ _ _ q).elim
section
variable {X:Cx}
inductive Yv (x:V)(lo:Option Int)(hi:Option Int)(H:Hp)(Q:VK):Prop
|mk (z:_)(_:x=.str z)(_:z.length<=abE)(_:Q (.str (Txt.slice z lo hi)) H)
def U4:SlR X Yv:=by
 intro pins s σ H x v vl vu lo hi sl Q I rx hs pl pu h;obtain ⟨z,rfl,hz,q⟩:=h;obtain ⟨t,rfl⟩:=rx;refine ⟨"str",_,F.slot_str_getitem.lookup,typeIs_str _ _ _,?_⟩;cases pl<;>cases pu
 ·exact acQ (l:=none) (u:=none) (st:=none) hs rfl (aiL ⟨aay (Txt.slice_le z _ _) hz,fun t' k=>⟨.str _,H,I.tok k,⟨t',rfl⟩,q⟩⟩)
 ·rename_i j uj
  exact acQ (l:=none) (u:=some (j,uj)) (st:=none) hs rfl (aiL ⟨aay (Txt.slice_le z _ _) hz,fun t' k=>⟨.str _,H,I.tok k,⟨t',rfl⟩,q⟩⟩)
 ·rename_i i ui
  exact acQ (l:=some (i,ui)) (u:=none) (st:=none) hs rfl (aiL ⟨aay (Txt.slice_le z _ _) hz,fun t' k=>⟨.str _,H,I.tok k,⟨t',rfl⟩,q⟩⟩)
 ·rename_i i ui j uj
  exact acQ (l:=some (i,ui)) (u:=some (j,uj)) (st:=none) hs rfl (aiL ⟨aay (Txt.slice_le z _ _) hz,fun t' k=>⟨.str _,H,I.tok k,⟨t',rfl⟩,q⟩⟩)
inductive Td (x:V)(y:V)(H:Hp)(Q:VK):Prop
|mk (z n:_)(_:x=.str z)(_:y=.int n)(_:MulOk z n)(_:Q (.str (Txt.mul z n)) H)
def qj:jX X (acz .Mult) Td:=by
 intro pins s σ H x y v u Q I rx ry h;obtain ⟨z,n,rfl,rfl,ok,q⟩:=h;obtain ⟨t,rfl⟩:=rx;obtain ⟨t',rfl⟩:=ry;exact SB.mul ok fun t' k=>⟨.str _,H,I.tok k,⟨t',rfl⟩,q⟩
def all_range (bs:List Bool):(aev bs.length).all (fun i=>(bs[i]?).getD true)=bs.all id:=by
 induction bs with
 | nil=>rfl
 | cons b r ih=>
  rw [aey,ahw,agL,ais,agL,<-ih];rfl
inductive Yw (K:Frag)(xs:ζ)(H:Hp)(Q:VK):Prop
|mk (p:abA)(bs:List Bool)(_:xs=[.ref p])(_:aT K H p (bs.map V.bl))(_:Q (.bl (bs.all id)) H)
def uC (hc:X.calm=true):ie X (.builtin "all") (Yw X.K):=by
 intro pins s σ H xs us Q I r h;obtain ⟨p,bs,rfl,hq,q⟩:=h;obtain ⟨u,rfl,r1⟩:=vals1 r;cases r1;obtain ⟨its,rv,pl,hz⟩:=I.list hq;refine call_all_walk (aie pl.isList ?_);have Le:p≠s.heap.objs.size:=by obtain ⟨o,ho,_⟩:=pl.isList;exact aew (abJ ho)
 have I1:Inv X pins σ H {s with heap:=s.heap.push {cls:=.type "list_iterator",data:=.fields #[.ref p,.int 0 0]}}:=I.kept (t':=s.toks) fun b o e=>abD _ e;obtain ⟨f0,f1,f2,f3,f4,f5⟩:=I.m_ (H':=H) (aaA s.heap.objs.size) (I.bM.fresh (aaA _));have hl:its.length=bs.length:=by rw [<-rv.length,ir]
 refine ⟨s.heap.objs.size,_,_,_,_,_,fun i=>(bs[i]?).getD true,rfl,Walks.list (A:=X.A.in1) (I.ok.hd hc) s.heap.objs.size p Le its.toArray,⟨⟨_,abN _ rfl,rfl,rfl⟩,pl.isList.at fun o e=>abD _ e⟩,?_,fun h' tk kk=>?_⟩
 ·intro i v s' Q' E' hv m6
  have UI :its[i]?=some v:=by simpa using hv
  have hi:i<bs.length:=by rw [<-hl];exact (Wp.mp UI).1
  have eb:(bs.map V.bl)[i]?=some (.bl bs[i]):=by rw [aaa,gE hi];rfl
  obtain ⟨u,eu,ru⟩:=rv.get eb;rw [UI] at eu;cases eu;cases ru;dsimp only at m6;rw [gE hi] at m6;exact acJ m6
 ·refine ⟨.bl (bs.all id),H,I1.turned (t':=tk) (it:=s.heap.objs.size) (fun b o hb e=>kk b o (by simpa using hb) e) f0 f1 f3 f4 f5,?_,q⟩
  show _=_;rw [<-all_range bs,aeq,hl]
end
end Ty
set_option maxHeartbeats 1000000
set_option maxHeartbeats 4000000
namespace Ty
open PySem PySem.Spec PyProof.Rows L2 PySem.NumText
def dg (m:Nat):List Nat:=(Nat.toDigits 10 m).map Char.toNat
def tx (n:Int):Str:=ab2 (toString n)
def Yx:Str:=ab2 "/"
def nt (q:Int×Int):Str:=if q.2=1 then tx q.1 else tx q.1++Yx++tx q.2
def isStar:Expr->Bool
 | .Starred .. =>true
 | _=>false
def HP {es:Ζ}(h:isStar e=false):abP (e::es) env=(false,abW e env)::abP es env:=by
 cases e<;>first|rfl|(cases h;done)
def pM (ha:PE X e te)(hr:PA X es t)(h:isStar e=false:=by rfl):PA X (e::es) (oJ te t):=Qh ha hr (HP h)
end Ty
namespace Ty
open PySem PySem.Spec PyProof.Rows L2
section
variable {D:abA}{te:TE}{cap:L2.St}{H1:Hp}{Q:VK}
def bw (D:abA)(H H':Hp):Prop:=∀b o,b≠D->H b=some o->H' b=some o
def bw.of (s:ao H H'):bw D H H':=fun b o _ e=>s b o e
def bw.upd :bw D H (upd H D o):=fun b o' n e=>by rw [aj n];exact e
def Mm (n:Nat)(xs:Nat->V)(Rel:Nat->V->Hp->Prop)(nD:H1 D=none)(hn:n<abE)
  (go:∀i H,i<n->ao H1 H->J.go i H/\∀x H',J.DN i H x H' ->H'=H/\x=xs i) (stop:∀H,ao H1 H->J.stop n H)
  (hR:∀i v H H' ys,H D=some (.lst ys)->bw D H H' ->Rel i v H->Rel i v H')
  (he:∀i H (R:VK),i<n->ao H1 H->(∀v H6,ao H H6->Rel i v H6->R v H6)->te (some (xs i)::cap) H R)
  (hd:∀ys H,ys.length=n->(∀i v,ys[i]?=some v->Rel i v H)->ao H1 H->H D=some (.lst ys)->Q (.ref D) H):
  nC D (c_ 0) kr te J (none::cap) H1 Q:=by
 refine vx n xs (fun i ys H=>ys.length=i/\(∀i v,ys[i]?=some v->Rel i v H)/\ao H1 H) ⟨rfl,fun i v e=>by simp at e,fun b o e=>by rw [aj (ak e nD)];exact e⟩ ?_ ?_ ?_ ?_
 ·rintro i ys H hi ⟨_,_,s⟩
  exact go i H hi s
 ·rintro ys H ⟨_,_,s⟩
  exact stop H s
 ·rintro i ys H R hi ⟨l,r,s⟩ hD k
  refine he i H R hi s fun v H6 s6 rv=>k v H6 (s6 _ _ hD) (by omega) ⟨by simp [l],fun j u e=>?_,fun b o e=>?_⟩
  ·by_cases c:j<ys.length
   ·rw [aby c] at e
    have ru:=hR j u H H6 ys hD (bw.of s6) (r j u e);exact hR j u H6 _ ys (s6 _ _ hD) bw.upd ru
   ·rw [abx (by omega)] at e
    have ej:j=i:=by
     by_cases z:j-ys.length=0
     ·omega
     ·rw [aaz (by simp;omega)] at e
      cases e
    subst ej
    have:v=u:=by
     rw [show j-ys.length=0 by omega] at e;exact aen e
    subst this;exact hR j v H6 _ ys (s6 _ _ hD) bw.upd rv
  ·rw [aj (ak e nD)]
   exact s6 _ _ (s _ _ e)
 ·rintro ys H ⟨l,r,s⟩ hD
  exact hd ys H l r s hD
def dG {K:Frag}(Rel:Nat->V->Hp->Prop)(nD:H1 D=none)(hn:xs.length<abE)(hS:∀H,ao H1 H->aT K H a xs)
  (hR:∀i v H H' ys,H D=some (.lst ys)->bw D H H' ->Rel i v H->Rel i v H')
  (he:∀i x H (R:VK),xs[i]?=some x->ao H1 H->(∀v H6,ao H H6->Rel i v H6->R v H6)->te (some x::cap) H R)
  (hd:∀ys H,ys.length=xs.length->(∀i v,ys[i]?=some v->Rel i v H)->ao H1 H->H D=some (.lst ys)->Q (.ref D) H):
  nC D (c_ 0) kr te (P8 K a) (none::cap) H1 Q:=by
 refine Mm xs.length (fun i=>(xs[i]?).getD .cT) Rel nD hn (fun i H hi s=>⟨⟨xs,xs[i],hS H s,gE hi⟩,fun x H' y=>⟨y.1,?_⟩⟩) (fun H s=>⟨xs,hS H s,aaA _⟩) hR (fun i H R hi s k=>?_) hd
 ·rw [y.2 xs (hS H s)];rfl
 ·have e:xs[i]?=some xs[i]:=gE hi
  have k':=he i _ H R e s k;rw [<-(show (xs[i]?).getD .cT=xs[i] by rw [e];rfl)] at k';exact k'
end
section
variable {X:Cx}{pins:ε}{σ:L2.St}{H:Hp}{s:abH}{h':Heap}
def Inv.mm {fp:ω}(I:Inv X pins σ H s)(k:∀b o,b∉fp->s.heap.get? b=some o->h'.get? b=some o)(hf:∀b∈fp,m9 X pins H b):Inv X pins σ H {s with heap:=h',toks:=t'}:=by
 have SO:∀b u,H b=some u->b∉fp:=fun b u e z=>by rw [(hf b z).1] at e;cases e
 refine I.step (g':=s.gens) (d':=s.drawn) (ch:=fp) (fun b hb=>?_) (fun b o _ _ hc e _=>k b o hc e) (fun b o _ _ hc e _=>⟨o.slots,k b o hc e⟩) (fun _ _ _ _ n=>n)
  (fun b o hc e=>⟨o,k b o hc e⟩) (fun _ _ e=>e) (fun _ _ _ e=>e) (fun b ps e=>⟨#[],by rw [e];simp⟩) (fun m hm=>?_) (fun b u e=>?_) I.bare
 ·obtain ⟨f0,f1,f2,f3,f4,f5⟩:=hf b hb
  exact ⟨f3,f1,f4,f5⟩
 ·obtain ⟨o,es,ep,ho,r⟩:=hm
  exact ⟨o,es,ep,k _ o (fun z=>(hf _ z).2.1 rfl) ho,r⟩
 ·refine (I.bM b u e).u5 (fun c v hc q=>k c v ?_ q) (fun _ q=>q) fun _ _ q=>q
  rcases hc with z|z
  ·rw [z];exact SO b u e
  ·exact SO c _ z
def Inv.qk {fp:ω}{T:abA}{xs:ζ}{its:ρ}(I:Inv X pins σ H s)(k:∀b o,b∉fp->s.heap.get? b=some o->h'.get? b=some o)(hf:∀b∈fp,m9 X pins H b)(hT:s.heap.objs.size<=T)
  (hz:xs.length<=abE) (rv:Vals xs its) (ht:IsTup h' T its.toArray):Inv X pins σ (upd H T (.tup xs)) {s with heap:=h',toks:=t'}:=by
 have hn:=I.bM.fresh hT;have SO:∀b u,H b=some u->b∉fp:=fun b u e z=>by rw [(hf b z).1] at e;cases e
 have ne:∀b o,s.heap.get? b=some o->b≠T:=fun b o e=>aew (aep (abJ e) hT)
 refine I.step (g':=s.gens) (d':=s.drawn) (ch:=fp) (fun b hb=>?_) (fun b o _ _ hc e _=>k b o hc e) (fun b o _ _ hc e _=>⟨o.slots,k b o hc e⟩) (fun b o _ e n=>by rw [aj (ne b o e)];exact n)
  (fun b o hc e=>⟨o,k b o hc e⟩) (fun b ys e=>by rw [aj (ak e hn)];exact e) (fun b o u e=>by rw [aj (ak e hn)];exact e) (fun b ps e=>⟨#[],by rw [aj (ak e hn),e];simp⟩) (fun m hm=>?_) (fun b u e=>?_) I.bare
 ·obtain ⟨f0,f1,f2,f3,f4,f5⟩:=hf b hb
  exact ⟨f3,f1,f4,f5⟩
 ·obtain ⟨o,es,ep,ho,r⟩:=hm
  exact ⟨o,es,ep,k _ o (fun z=>(hf _ z).2.1 rfl) ho,r⟩
 ·by_cases hb:b=T
  ·subst hb
   rw [ah] at e;cases e;exact ⟨hz,its,rv,ht⟩
  ·rw [aj hb] at e
   refine (I.bM b u e).u5 (fun c v hc q=>k c v ?_ q) (fun c q=>by rw [aj (ak q hn)];exact q) fun c ys q=>by rw [aj (ak q hn)];exact q
   rcases hc with z|z
   ·rw [z];exact SO b u e
   ·exact SO c _ z
end
def U6 (K:Frag)(a b:abA):It:=
 ⟨fun i H=>∃xs ys x y,aT K H a xs/\aT K H b ys/\xs[i]?=some x/\ys[i]?=some y,
  fun i H v H'=>∃p x y,(∀xs,aT K H a xs->xs[i]?=some x)/\(∀ys,aT K H b ys->ys[i]?=some y)/\v=.ref p/\H p=none/\H'=upd H p (.tup [x,y]),
  fun i H=>∃xs ys,aT K H a xs/\aT K H b ys/\(xs.length<=i\/ys.length<=i)⟩
def Mn {K:Frag}{es:Ζ}(a b z TI TO i1 i2:abA)(D:ZipApart z TI TO i1 i2 a b):
  Turn P w K (.Tuple es k pos) (U6 K a b) [z,TI,TO,i1,i2] z (fun i h=>adk h z TI TO .none/\acd h TI (.ref i1) (.ref i2)/\(∃x y,acd h TO x y)/\h.IsListIter i1 a i/\h.IsListIter i2 b i) where
 mem:=by simp
 obj:=fun i h st c hc=>by
  obtain ⟨hz,gm,⟨x,y,jY⟩,⟨o1,e1,c1,d1⟩,⟨o2,e2,c2,d2⟩⟩:=st;have pH :c=z\/c=TI\/c=TO\/c=i1\/c=i2:=by simpa using hc
  rcases pH with e|e|e|e|e<;>subst e
  ·exact ⟨_,hz,fun v z=>by cases z⟩
  ·exact ⟨_,gm,fun v z=>by cases z⟩
  ·exact ⟨_,jY,fun v z=>by cases z⟩
  ·exact ⟨_,e1,fun v z=>by rw [d1] at z;cases z⟩
  ·exact ⟨_,e2,fun v z=>by rw [d2] at z;cases z⟩
 keep:=fun i h h' st k=>by
  obtain ⟨hz,gm,⟨x,y,jY⟩,h1,h2⟩:=st;exact ⟨k z (by simp) _ hz,k TI (by simp) _ gm,⟨x,y,k TO (by simp) _ jY⟩,h1.at fun o e=>k i1 (by simp) o e,h2.at fun o e=>k i2 (by simp) o e⟩
 item:=by
  intro X hP hw hK hc i pins s σ H E I hf st hg;subst hP hw hK;obtain ⟨hz,gm,⟨x0,y0,jY⟩,h1,h2⟩:=st;obtain ⟨xs,ys,x,y,qx,qy,ex,ey⟩:=hg;obtain ⟨its,rv,p,_⟩:=I.list qx;obtain ⟨U7,pI,p',_⟩:=I.list qy;obtain ⟨u,hu,ru⟩:=rv.get ex;obtain ⟨v,hv,rv'⟩:=pI.get ey;refine wpAny_pyNext_zip_item D hz gm jY h1 h2 p.isList p'.isList (x:=u) (y:=v) (by simpa using hu) (by simpa using hv) fun h' a1 a2 a3 a4 a5 a6 a7=>?_;refine ⟨_,rfl,wpAny_letOwnedTupleGo_zip (s:={s with heap:=h'}) a1 fun EF b1 sb=>?_⟩;have nz:∀c,c≠z->∀o,h'.get? c=some o->EF.get? c=some o:=fun c hc o e=>(sb.2 c hc).trans e
  have kk:∀b o,b∉[z,TI,TO,i1,i2]->s.heap.get? b=some o->EF.get? b=some o:=fun b o hb e=>by
   have ff :b≠z/\b≠TI/\b≠TO/\b≠i1/\b≠i2:=by simpa using hb
   exact nz b ff.1 o (a7 b o ff.1 ff.2.2.1 ff.2.2.2.1 ff.2.2.2.2 e)
  have sz:∀c o,s.heap.get? c=some o->s.heap.objs.size≠c:=fun c o e=>afz (abJ e);have tz:s.heap.objs.size≠z:=sz _ _ hz;have hn:=I.bM.fresh (aaA s.heap.objs.size)
  have I2:Inv X pins σ (upd H s.heap.objs.size (.tup [x,y])) {s with heap:=EF,toks:=s.toks}:=
   Inv.qk I kk hf (aaA _) (by show 2<=abE;decide) (its:=[u,v]) (.cons ru (.cons rv' .nil)) ⟨_,nz _ tz _ a5,rfl,_,rfl⟩
  refine ⟨.ref s.heap.objs.size,_,I2,rfl,⟨s.heap.objs.size,x,y,fun xs' q=>by rw [I.iN q qx];exact ex,fun ys' q=>by rw [I.iN q qy];exact ey,rfl,hn,rfl⟩,⟨b1,nz _ D.TIz _ (a7 _ _ D.TIz D.TITO D.TIi1 D.TIi2 gm),⟨_,_,nz _ D.TOz _ a2⟩,a3.at fun o e=>nz _ D.i1z o e,a4.at fun o e=>nz _ D.i2z o e⟩,fun b hb=>?_⟩
  have ob:∃o,s.heap.get? b=some o:=by
   obtain ⟨o1,e1,_⟩:=h1;obtain ⟨o2,e2,_⟩:=h2;have pH :b=z\/b=TI\/b=TO\/b=i1\/b=i2:=by simpa using hb
   rcases pH with e|e|e|e|e<;>subst e
   ·exact ⟨_,hz⟩
   ·exact ⟨_,gm⟩
   ·exact ⟨_,jY⟩
   ·exact ⟨_,e1⟩
   ·exact ⟨_,e2⟩
  obtain ⟨o,e⟩:=ob;rw [aj (aeD (sz _ _ e))];exact (hf b hb).1
 done:=by
  intro X hP hw hK hc i pins s σ H E I hf st hg;subst hP hw hK;obtain ⟨hz,gm,⟨x0,y0,jY⟩,h1,h2⟩:=st;obtain ⟨xs,ys,qx,qy,ee⟩:=hg;obtain ⟨its,rv,p,_⟩:=I.list qx;obtain ⟨U7,pI,p',_⟩:=I.list qy;have l1:=rv.length;have l2:=pI.length;refine wpAny_pyNext_zip_end (I.ok.hd hc) D hz gm jY h1 h2 p.isList p'.isList ?_ fun h' kk=>⟨rfl,Inv.mm I (fun b o hb e=>?_) hf⟩
  ·rcases ee with e|e
   ·exact .inl (by simp;omega)
   ·exact .inr (by simp;omega)
  ·have ff :b≠z/\b≠TI/\b≠TO/\b≠i1/\b≠i2:=by simpa using hb
   exact kk b o ff.1 ff.2.2.1 ff.2.2.2.1 ff.2.2.2.2 e
 self:=fun _ _ _ _ _ st h=>adz st.1 h
def boot_zip:abZ "zip"=some (.type "zip"):=by decide+kernel
section
variable {X:Cx}
inductive Te (K:Frag)(R:(It->Hp->Prop))(vs:ζ)(H1:Hp):Prop
|mk (a b:_)(_:vs=[.ref a,.ref b])(_:(∃xs,aT K H1 a xs))(_:(∃ys,aT K H1 b ys))(_:R (U6 K a b) H1)
def aga (K:Frag)(ta:TA):TI:=fun σ H R=>ta σ H fun vs H1=>Te K R vs H1
def vy {p pos:Pos}{es:Ζ}{k:Nat}{vd:Pos}(hg:Gl X "zip")(hm:X.mg "zip"=none)(ha:PA X [e1,e2] ta)(hs:abP [e1,e2] X.env=[(false,abW e1 X.env),(false,abW e2 X.env)]:=by rfl)(DT:abP [e2] X.env=[(false,abW e2 X.env)]:=by rfl):
  PI X (.Tuple es k vd) (.Call (.Name "zip" p) [e1,e2] [] pos) (aga X.K ta):=by
 intro pins s σ H R I h;refine Call_ (i6 I hg hm boot_zip (ab8 (cF (ha pos pins s σ H _ I h) fun us s1 ⟨vs,H1,I1,r1,q1⟩=>?_) (by rw [hs,DT]) (by rw [DT];rfl)));obtain ⟨a,b,e,⟨xs,hx⟩,⟨ys,hy⟩,q⟩:=q1;subst e;cases r1 with
 | cons r rr=>
  cases rr with
  | cons r' rr=>
   cases rr;cases r;cases r';obtain ⟨its,rv,pl,_⟩:=I1.list hx;obtain ⟨U7,pI,pl',_⟩:=I1.list hy;have lt1:a<s1.heap.objs.size:=by obtain ⟨o,ho,_⟩:=pl.isList;exact abJ ho
   have Yy:b<s1.heap.objs.size:=by obtain ⟨o,ho,_⟩:=pl'.isList;exact abJ ho
   refine call_zip_2 pl.isList pl'.isList fun h' hz gm jY xY U8 hsz hk=>adz (s:={s1 with heap:=h'}) hz ?_;refine ⟨s1.heap.objs.size+4,[s1.heap.objs.size+4,s1.heap.objs.size+2,s1.heap.objs.size+3,s1.heap.objs.size,s1.heap.objs.size+1],_,_,H1,rfl,I1.kept (t':=s1.toks) hk,Mn a b _ _ _ _ _ ?_,⟨hz,gm,⟨_,_,jY⟩,xY,U8⟩,fun c hc=>?_,q⟩
   ·constructor<;>(intro z;simp only [abA] at*;omega)
   ·have pH :s1.heap.objs.size<=c:=by
     have:c=s1.heap.objs.size+4\/c=s1.heap.objs.size+2\/c=s1.heap.objs.size+3\/c=s1.heap.objs.size\/c=s1.heap.objs.size+1:=by simpa using hc
     simp only [abA] at*;omega
    exact I1.m_ pH (I1.bM.fresh pH)
inductive Mp (K:Frag)(xs:ζ)(H:Hp)(Q:VK):Prop
|mk (p:abA)(ys:ζ)(_:xs=[.ref p])(_:aT K H p ys)(_:∀l,H l=none->Q (.ref l) (upd H l (.lst ys)))
def kX:ie X (.type "list") (Mp X.K):=by
 intro pins s σ H xs us Q I r h;obtain ⟨p,ys,rfl,hq,q⟩:=h;obtain ⟨u,rfl,r1⟩:=vals1 r;cases r1;obtain ⟨its,rv,⟨o,n,e,c,d1,d⟩,hz⟩:=I.list hq;have hlen:=rv.length;refine call_list_seq p (.inl rfl) e c d (fun h' c' hk hl=>?_) (by simp;omega);have hn:=I.bM.fresh (aaA s.heap.objs.size);have I2:Inv X pins σ (upd H s.heap.objs.size (.lst ys)) {s with heap:=h',toks:=s.toks}:=I.laid (t':=s.toks) hk (aaA _) ⟨hz,its,c',rv,hl⟩;exact ⟨.ref _,_,I2,rfl,q _ hn⟩
end
section
variable {X:Cx}{K:Frag}
def dZ (h:X.K=K):S5 X (L7 K):=by subst h;exact nq
def qS (h:X.K=K):S5 X (Ql K):=by subst h;exact aR
def vA {k:Nat}{pos:Pos}(hK:X.K=K)(hc:X.calm=true)(h:XX X es t)
  (hn:(adx es X.env).length=n:=by rfl) (P7:(adx es X.env).findIdx? (·.1)=none:=by rfl):PG X (.Tuple es k pos) (LK K n t):=by subst hK;exact fE hc h hn P7
end
section
variable {D:abA}{te:TE}{cap:L2.St}{H1:Hp}{Q:VK}
def xZ {K:Frag}(Rel:Nat->V->Hp->Prop)(nD:H1 D=none)(hn:xs.length<abE)(hl:ys.length=xs.length)(hX:∀H,ao H1 H->aT K H a xs)(hY:∀H,ao H1 H->aT K H b ys)
  (hR:∀i v H H' ys,H D=some (.lst ys)->bw D H H' ->Rel i v H->Rel i v H')
  (he:∀i x y H (R:VK),xs[i]?=some x->ys[i]?=some y->ao H1 H->(∀v H6,ao H H6->Rel i v H6->R v H6)->te (some x::some y::cap) H R)
  (hd:∀zs H,zs.length=xs.length->(∀i v,zs[i]?=some v->Rel i v H)->ao H1 H->H D=some (.lst zs)->Q (.ref D) H):
  nC D (LK K 2 (xG (c_ 0) (xG (c_ 1) UC))) kr te (U6 K a b) (none::none::cap) H1 Q:=by
 refine ⟨fun i m σ zs H=>m=xs.length-i/\i<=xs.length/\(∃o o',σ=o::o'::cap)/\(zs.length=i/\(∀i v,zs[i]?=some v->Rel i v H)/\ao H1 H)/\H D=some (.lst zs),⟨xs.length,by simp,aeF _,⟨none,none,rfl⟩,⟨rfl,fun i v e=>by simp at e,fun b o e=>by rw [aj (ak e nD)];exact e⟩,ah⟩,?_⟩;rintro i m σ zs H ⟨rfl,hi,⟨o,o',rfl⟩,⟨l,r,s⟩,hD⟩;by_cases jB:i<xs.length
 ·have e1:xs[i]?=some xs[i]:=gE jB
  have e2:ys[i]?=some (ys[i]'(by omega)):=gE (by omega);refine .inr ⟨⟨xs,ys,_,_,hX H s,hY H s,e1,e2⟩,fun v H' y=>?_⟩;obtain ⟨p,x,y,q1,q2,rfl,np,rfl⟩:=y;have e1:=q1 xs (hX H s);have e2:=q2 ys (hY H s);have sp:ao H (upd H p (.tup [x,y])):=fun b o e=>by rw [aj (ak e np)];exact e
  refine ⟨p,_,rfl,bQ.of ah,rfl,_,_,rfl,_,_,rfl,rfl,?_⟩;unfold kr;dsimp only;rw [abC rfl];refine he i x y _ _ e1 e2 (fun b o e=>sp _ _ (s _ _ e)) fun v H6 s6 rv=>⟨s6 _ _ (sp _ _ hD),by omega,xs.length-(i+1),by omega,rfl,by omega,⟨_,_,rfl⟩,⟨by simp [l],fun j u e=>?_,fun b o e=>?_⟩,ah⟩
  ·by_cases c:j<zs.length
   ·rw [aby c] at e
    have ru:=hR j u H H6 zs hD (bw.of fun b o q=>s6 _ _ (sp _ _ q)) (r j u e);exact hR j u H6 _ zs (s6 _ _ (sp _ _ hD)) bw.upd ru
   ·rw [abx (by omega)] at e
    have ej:j=i:=by
     by_cases z:j-zs.length=0
     ·omega
     ·rw [aaz (by simp;omega)] at e
      cases e
    subst ej
    have:v=u:=by
     rw [show j-zs.length=0 by omega] at e;exact aen e
    subst this;exact hR j v H6 _ zs (s6 _ _ (sp _ _ hD)) bw.upd rv
  ·rw [aj (ak e nD)]
   exact s6 _ _ (sp _ _ (s _ _ e))
 ·have e:i=xs.length:=by omega
  subst e;exact .inl ⟨⟨xs,ys,hX H s,hY H s,.inl (aaA _)⟩,hd zs H l r s hD⟩
end
open Builtin.Int (intBits)
def vl (q:Int×Int):Rat:=(q.1:Rat) / (q.2:Rat)
structure Sm (T B:Nat)(q:Int×Int):Prop where
 pos:0<q.2
 low:aeS q.1 q.2=1
 top:q.1.natAbs<=2^T
 bot:q.2.natAbs<=2^B
def dD {b:Int}(h:b≠0):(b:Rat)≠0:=by simpa using h
def vB (h:b≠0):vl (low t b)=(t:Rat) / (b:Rat):=by
 have c:=HK (t:=t) h;have p:=mh (t:=t) h;have h1:=dD h;have h2:=dD (b:=(low t b).2) (by omega);have c':((low t b).1:Rat)*b=t*(low t b).2:=by exact_mod_cast c
 unfold vl;grind
def x4 {t b u c:Int}(hb:b≠0)(hc:c≠0)(h:(t:Rat) / b=(u:Rat) / c):t*c=u*b:=by
 have h1:=dD hb;have h2:=dD hc;have:(t:Rat)*c=u*b:=by grind
 exact_mod_cast this
def U9 (hq:0<q.2)(hr:0<r.2)(gq:aeS q.1 q.2=1)(gr:aeS r.1 r.2=1)(h:vl q=vl r):q=r:=by
 have c:=x4 (t:=q.1) (b:=q.2) (u:=r.1) (c:=r.2) (by omega) (by omega) h;have e:=tE (t:=q.1) (b:=q.2) (u:=r.1) (c:=r.2) (by omega) (by omega) c;rw [mi hq gq,mi hr gr] at e;exact ahU (abR aoJ e) (abR aoK e)
def HQ {b d:Int}(hd:d≠0)(h:d ∣ b):((b.fdiv d:Int):Rat)=(b:Rat) / d:=by
 have e:=cM hd h;have h1:=dD hd;have:(b:Rat)=d*(b.fdiv d:Int):=by exact_mod_cast e
 grind
def ib (xs ys:ο):Rat:=(aeU (fun a b=>vl a*vl b) xs ys).sum
def HR {xs ys:ο}:ib (x::xs) (y::ys)=vl x*vl y+ib xs ys:=by simp [ib]
def oN (ts:ξ)(qs:ο)(b:Int):Prop:=ts.length=qs.length/\∀(i:Nat)(t:Int)(q:Int×Int),ts[i]?=some t->qs[i]?=some q->(t:Rat)=vl q*b
def oN.tail {ts:ξ}{qs:ο}(h:oN (t::ts) (q::qs) b):oN ts qs b:=⟨by simpa using h.1,fun i t' q' e1 e2=>h.2 (i+1) t' q' (by simpa using e1) (by simpa using e2)⟩
def vC {a b:Int}(h1:a.natAbs<=2^m)(h2:b.natAbs<=2^n):(a*b).natAbs<=2^(m+n):=by
 rw [afc,agN];exact ae6 h1 h2
def U_ {a b:Int}(h1:a.natAbs<=2^m)(h2:b.natAbs<=2^m):(a+b).natAbs<=2^(m+1):=by
 have:=agd a b;rw [agw];omega
def qT {a:Int}(h:a.natAbs<=2^m)(hm:m<=n):a.natAbs<=2^n:=aay h (aet (by decide) hm)
def jZ (h:a.natAbs<=2^m)(hm:m<n):intBits a<=n:=intBits_le_iff.mpr (aaZ h (agO (by decide) hm))
def qm (h1:a.natAbs<=2^m)(h2:b.natAbs<=2^n)(hm:m<30000000)(hn:n<30000000):qN a b:=⟨aay (jZ h1 hm) (by decide),aay (jZ h2 hn) (by decide)⟩
def Sm.up (h:Sm T B q)(hT:T<=T')(hB:B<=B'):Sm T' B' q:=⟨h.pos,h.low,qT h.top hT,qT h.bot hB⟩
def Mq {b d:Int}(hb:0<b)(hd:0<d):0<b.fdiv (gz b d)*d/\b ∣ b.fdiv (gz b d)*d/\d ∣ b.fdiv (gz b d)*d/\(b.fdiv (gz b d)*d).natAbs<=b.natAbs*d.natAbs:=by
 have gp:=vn (t:=b) (b:=d) (by omega);have g1:gz b d ∣ b:=afw ..;have g2:gz b d ∣ d:=afk ..;have e1:=cM (g:=gz b d) (by omega) g1;have e2:=cM (g:=gz b d) (by omega) g2;generalize gz b d=g at*
 have p1:0<b.fdiv g:=by
  rcases agu (b.fdiv g) 0 with z|z|z
  ·exfalso
   have:=ag9 gp z;omega
  ·rw [z] at e1;omega
  ·exact z
 refine ⟨afm p1 hd,⟨d.fdiv g,?_⟩,⟨b.fdiv g,afl ..⟩,?_⟩
 ·have:b.fdiv g*d=b.fdiv g*(g*d.fdiv g):=by rw [<-e2]
  rw [this];have h3:b*d.fdiv g=g*b.fdiv g*d.fdiv g:=by rw [<-e1]
  rw [h3];rw [<-agM,afl (b.fdiv g) g]
 ·rw [afc]
  exact aer _ (by
   have:=eK (g:=g) (a:=b.fdiv g) (by omega);rw [<-e1] at this
   exact this)
def HU {b:Int}(hq:0<q.2)(h:q.2 ∣ b):((q.1*b.fdiv q.2:Int):Rat)=vl q*b:=by
 have e:=HQ (b:=b) (d:=q.2) (by omega) h;have:((q.1*b.fdiv q.2:Int):Rat)=q.1*((b.fdiv q.2:Int):Rat):=by push_cast;rfl
 rw [this,e];unfold vl;grind
def iP {b d:Int}(hd:d≠0)(h:d ∣ b):(b.fdiv d).natAbs<=b.natAbs:=by
 have:=eK (g:=d) (a:=b.fdiv d) hd;rw [<-cM hd h] at this;exact this
section
variable {D:abA}{te:TE}{cap:L2.St}{H1:Hp}{Q:VK}
def HV (n:Nat)(xs:Nat->V)(Rel:Nat->V->Hp->Prop)(nD:H1 D=none)(hn:n<abE)
  (go:∀i H,i<n->ao H1 H->J.go i H/\∀x H',J.DN i H x H' ->H'=H/\x=xs i) (stop:∀H,ao H1 H->J.stop n H)
  (hR:∀i v H H' ys,H D=some (.lst ys)->bw D H H' ->Rel i v H->Rel i v H')
  (he:∀i H (R:VK),i<n->ao H1 H->(∃ys,H D=some (.lst ys))->(∀v H6,ao H H6->Rel i v H6->R v H6)->te (some (xs i)::cap) H R)
  (hd:∀ys H,ys.length=n->(∀i v,ys[i]?=some v->Rel i v H)->ao H1 H->H D=some (.lst ys)->Q (.ref D) H):
  nC D (c_ 0) kr te J (none::cap) H1 Q:=by
 refine vx n xs (fun i ys H=>ys.length=i/\(∀i v,ys[i]?=some v->Rel i v H)/\ao H1 H) ⟨rfl,fun i v e=>by simp at e,fun b o e=>by rw [aj (ak e nD)];exact e⟩ ?_ ?_ ?_ ?_
 ·rintro i ys H hi ⟨_,_,s⟩
  exact go i H hi s
 ·rintro ys H ⟨_,_,s⟩
  exact stop H s
 ·rintro i ys H R hi ⟨l,r,s⟩ hD k
  refine he i H R hi s ⟨_,hD⟩ fun v H6 s6 rv=>k v H6 (s6 _ _ hD) (by omega) ⟨by simp [l],fun j u e=>?_,fun b o e=>?_⟩
  ·by_cases c:j<ys.length
   ·rw [aby c] at e
    have ru:=hR j u H H6 ys hD (bw.of s6) (r j u e);exact hR j u H6 _ ys (s6 _ _ hD) bw.upd ru
   ·rw [abx (by omega)] at e
    have ej:j=i:=by
     by_cases z:j-ys.length=0
     ·omega
     ·rw [aaz (by simp;omega)] at e
      cases e
    subst ej
    have:v=u:=by
     rw [show j-ys.length=0 by omega] at e;exact aen e
    subst this;exact hR j v H6 _ ys (s6 _ _ hD) bw.upd rv
  ·rw [aj (ak e nD)]
   exact s6 _ _ (s _ _ e)
 ·rintro ys H ⟨l,r,s⟩ hD
  exact hd ys H l r s hD
def qU {K:Frag}(Rel:Nat->V->Hp->Prop)(nD:H1 D=none)(hn:xs.length<abE)(hS:∀H,ao H1 H->aT K H a xs)
  (hR:∀i v H H' ys,H D=some (.lst ys)->bw D H H' ->Rel i v H->Rel i v H')
  (he:∀i x H (R:VK),xs[i]?=some x->ao H1 H->(∃ys,H D=some (.lst ys))->(∀v H6,ao H H6->Rel i v H6->R v H6)->te (some x::cap) H R)
  (hd:∀ys H,ys.length=xs.length->(∀i v,ys[i]?=some v->Rel i v H)->ao H1 H->H D=some (.lst ys)->Q (.ref D) H):
  nC D (c_ 0) kr te (P8 K a) (none::cap) H1 Q:=by
 refine HV xs.length (fun i=>(xs[i]?).getD .cT) Rel nD hn (fun i H hi s=>⟨⟨xs,xs[i],hS H s,gE hi⟩,fun x H' y=>⟨y.1,?_⟩⟩) (fun H s=>⟨xs,hS H s,aaA _⟩) hR (fun i H R hi s dd k=>?_) hd
 ·rw [y.2 xs (hS H s)];rfl
 ·have e:xs[i]?=some xs[i]:=gE hi
  have k':=he i _ H R e s dd k;rw [<-(show (xs[i]?).getD .cT=xs[i] by rw [e];rfl)] at k';exact k'
end
end Ty
namespace L2
open PySem PySem.Spec PyProof.Rows
section
variable {κ:Type}[DecidableEq κ]
def bJ (kvs:List (κ×V))(k:κ):Option V:=(kvs.find? fun kv=>decide (kv.1=k)).map (·.2)
noncomputable def putK (kvs:List (κ×V))(k:κ)(v:V):List (κ×V):=
 if (kvs.any fun kv=>decide (kv.1=k))=true then kvs.map (fun kv=>if kv.1=k then (kv.1,v) else kv) else kvs++[(k,v)]
def jH (kvs:List (κ×V))(k:κ):List (κ×V):=kvs.filter fun kv=>decide (kv.1≠k)
def bX {k:κ}(e:p.1=k):bJ (p::r) k=some p.2:=by simp [bJ,af0,e]
def bI {k:κ}(e:¬ p.1=k):bJ (p::r) k=bJ r k:=by simp [bJ,af0,e]
theorem iQ (k:κ):∀kvs:List (κ×V),(kvs.any fun kv=>decide (kv.1=k))=(bJ kvs k).isSome
 | []=>rfl
 | p::r=>by
  rw [agn];by_cases e:p.1=k
  ·simp only [bX e,abU e,Bool.true_or,Option.isSome_some]
  ·rw [bI e,ab1 e,Bool.false_or];exact iQ k r
theorem x5 (k j:κ)(y:V):∀kvs:List (κ×V),bJ (kvs.map fun kv=>if kv.1=k then (kv.1,y) else kv) j=(bJ kvs j).map fun x=>if j=k then y else x
 | []=>rfl
 | p::r=>by
  have ih:=x5 k j y r;rw [aaw];by_cases h:p.1=k
  ·rw [abC h]
   by_cases e:p.1=j
   ·rw [bX (p:=(p.1,y)) e,bX e,afV,abC (e.symm.trans h)]
   ·rw [bI (p:=(p.1,y)) e,bI e,ih]
  ·rw [abB h]
   by_cases e:p.1=j
   ·rw [bX (p:=p) e,bX e,afV,abB (fun z=>h (e.trans z))]
   ·rw [bI (p:=p) e,bI e,ih]
theorem uD (k j:κ)(y:V):∀kvs:List (κ×V),bJ kvs k=none->bJ (kvs++[(k,y)]) j=if j=k then some y else bJ kvs j
 | [],_=>by
  by_cases e:k=j
  ·rw [abC e.symm];exact bX (p:=(k,y)) e
  ·rw [abB (fun z=>e z.symm)];exact bI (p:=(k,y)) e
 | p::r,hn=>by
  rw [agg];have hk:¬ p.1=k:=fun z=>by rw [bX z] at hn;cases hn
  rw [bI hk] at hn;have ih:=uD k j y r hn;by_cases e:p.1=j
  ·rw [bX e,bX e,abB (fun z=>hk (e.trans z))]
  ·rw [bI e,bI e,ih]
def jI (kvs:List (κ×V))(k j:κ)(y:V):bJ (putK kvs k y) j=if j=k then some y else bJ kvs j:=by
 unfold putK;by_cases a:(kvs.any fun kv=>decide (kv.1=k))=true
 ·rw [abC a,x5]
  rw [iQ] at a;by_cases e:j=k
  ·obtain ⟨x,hx⟩:=ahg.mp a
   rw [abC e,e,hx,afV,abC rfl]
  ·rw [abB e]
   cases bJ kvs j with
   | none=>rfl
   | some x=>rw [afV,abB e]
 ·rw [abB a]
  refine uD k j y kvs ?_;rw [iQ] at a;cases q:bJ kvs k with
  | none=>rfl
  | some x=>rw [q] at a;exact (a rfl).elim
def fg (kvs:List (κ×V))(k:κ)(v:V):(putK kvs k v).length<=kvs.length+1:=by
 unfold putK;split
 ·rw [ir];omega
 ·rw [aba,aey,ahI];omega
def dE {k:κ}(v:V)(h:bJ kvs k=none):putK kvs k v=kvs++[(k,v)]:=by
 unfold putK;rw [iQ,h];exact abB (by decide)
def i5.iR {o:Α}(r:i5 o u):o.isSome=u.isSome:=by
 cases o with
 | none=>cases u with
  | none=>rfl
  | some _=>exact (show False from r).elim
 | some _=>cases u with
  | none=>exact (show False from r).elim
  | some _=>rfl
def i5.getD {o:Α}(r:i5 o u)(rd:RelV d d'):RelV (o.getD d) (u.getD d'):=by
 cases o with
 | none=>cases u with
  | none=>exact rd
  | some _=>exact (show False from r).elim
 | some _=>cases u with
  | none=>exact (show False from r).elim
  | some _=>exact r
def KV.val (r:KV kvs vs)(k:κ):i5 (bJ kvs k) (valueAt vs k):=by
 unfold KV at r
 induction r with
 | nil=>exact True.intro
 | @cons p q ps qs h t ih=>
  obtain ⟨h1,h2⟩:=h;by_cases e:p.1=k
  ·have e':q.1=k:=h1.symm.trans e
   have b:valueAt (q::qs) k=some q.2:=by simp [valueAt,af0,e']
   rw [bX e,b];exact h2
  ·have e':¬ q.1=k:=fun z=>e (h1.trans z)
   have b:valueAt (q::qs) k=valueAt qs k:=by simp [valueAt,af0,e']
   rw [bI e,b];exact ih
def KV.any (r:KV kvs vs)(k:κ):(kvs.any fun kv=>decide (kv.1=k))=vs.any fun kv=>decide (kv.1=k):=by
 unfold KV at r
 induction r with
 | nil=>rfl
 | cons h t ih=>rw [agn,agn,ih,h.1]
def KV.Va (r:KV kvs vs)(k:κ)(ry:RelV y u):
  KV (kvs.map fun kv=>if kv.1=k then (kv.1,y) else kv) (vs.map fun kv=>if kv.1=k then (kv.1,u) else kv):=by
 unfold KV at r ⊢
 induction r with
 | nil=>exact .nil
 | @cons p q ps qs h t ih=>
  rw [aaw,aaw];refine .cons ?_ ih;obtain ⟨h1,h2⟩:=h;by_cases e:p.1=k
  ·rw [abC e,abC (h1.symm.trans e)];exact ⟨h1,ry⟩
  ·rw [abB e,abB (fun z=>e (h1.trans z))];exact ⟨h1,h2⟩
def KV.put (r:KV kvs vs)(k:κ)(ry:RelV y u):KV (putK kvs k y) (stored vs k u):=by
 unfold putK stored;rw [r.any k];by_cases e:(vs.any fun kv=>decide (kv.1=k))=true
 ·rw [abC e,abC e];exact r.Va k ry
 ·rw [abB e,abB e];exact aiB r ⟨rfl,ry⟩
def KV.drop (r:KV kvs vs)(k:κ):KV (jH kvs k) (without vs k):=by
 unfold KV at r ⊢;unfold jH without
 induction r with
 | nil=>exact .nil
 | @cons p q ps qs h t ih=>
  obtain ⟨h1,h2⟩:=h;rw [afa,afa];by_cases e:p.1=k
  ·have a:¬ decide (p.1≠k)=true:=by simp [e]
   have b:¬ decide (q.1≠k)=true:=by simp [h1.symm.trans e]
   rw [abB a,abB b];exact ih
  ·have e':¬ q.1=k:=fun z=>e (h1.trans z)
   have a:decide (p.1≠k)=true:=by simp [e]
   have b:decide (q.1≠k)=true:=by simp [e']
   rw [abC a,abC b];exact .cons ⟨h1,h2⟩ ih
def KV.keys {vs:List (κ×Value)}(r:KV kvs vs):kvs.map (·.1)=vs.map (·.1):=by
 unfold KV at r
 induction r with
 | nil=>rfl
 | cons h t ih=>rw [aaw,aaw,ih,h.1]
def KV.length {vs:List (κ×Value)}(r:KV kvs vs):kvs.length=vs.length:=abL r
def Mr (kvs:List (κ×V))(k:κ):(jH kvs k).length<=kvs.length:=af5 _ _
end
def mq (r:RelV (kV k) u):(bF P w).is k u=true:=by
 cases k with
 | inl i=>obtain ⟨t,e⟩:=(show ∃t,u=Value.int i t from r);subst e;exact xC P w i t
 | inr x=>obtain ⟨t,e⟩:=(show ∃t,u=Value.str x t from r);subst e;exact xD P w x t
theorem uE :∀{ks:List Key} {us:ρ},Vals (ks.map kV) us->ItemsAre (bF P w) ks us
 | [],_,r=>by rw [aez] at r;cases r;exact .nil
 | k::ks,_,r=>by
  rw [aaw] at r;cases r with
  | cons h t=>exact .cons (mq h) (uE t)
abbrev KT (H:Hp):List (List Key×V)->List (List Key×abA×Value)->Prop:=Paired fun p q=>p.1=q.1/\H q.2.1=some (.tup (p.1.map kV))/\RelV p.2 q.2.2
def KT.val {kvs:Ο}{xs:Φ}(r:KT H kvs xs)(k:List Key):i5 (bJ kvs k) ((atKey xs k).map (·.2)):=by
 induction r with
 | nil=>exact True.intro
 | @cons p q ps qs h t ih=>
  obtain ⟨h1,_,h2⟩:=h;by_cases e:p.1=k
  ·have e':q.1=k:=h1.symm.trans e
   have b:atKey (q::qs) k=some q.2:=by simp [atKey,af0,e']
   rw [bX e,b];exact h2
  ·have e':¬ q.1=k:=fun z=>e (h1.trans z)
   have b:atKey (q::qs) k=atKey qs k:=by simp [atKey,af0,e']
   rw [bI e,b];exact ih
def KT.Va {kvs:Ο}{xs:Φ}(r:KT H kvs xs)(k:List Key)(ry:RelV y u):
  KT H (kvs.map fun kv=>if kv.1=k then (kv.1,y) else kv) (xs.map (putAt k u)):=by
 induction r with
 | nil=>exact .nil
 | @cons p q ps qs h t ih=>
  rw [aaw,aaw];refine .cons ?_ ih;obtain ⟨h1,h2,h3⟩:=h;unfold putAt;by_cases e:p.1=k
  ·rw [abC e,abC (h1.symm.trans e)];exact ⟨h1,h2,ry⟩
  ·rw [abB e,abB (fun z=>e (h1.trans z))];exact ⟨h1,h2,h3⟩
def KT.put {kvs:Ο}{xs:Φ}(r:KT H kvs xs)(k:List Key)(hb:H b=some (.tup (k.map kV)))(ry:RelV y u):
  KT H (putK kvs k y) (storedH xs k b u):=by
 have e:(kvs.any fun kv=>decide (kv.1=k))=(atKey xs k).isSome:=by
  rw [iQ,(r.val k).iR,ag']
 unfold putK storedH;rw [e];by_cases q:(atKey xs k).isSome=true
 ·rw [abC q,abC q];exact r.Va k ry
 ·rw [abB q,abB q];exact aiB r ⟨rfl,hb,ry⟩
def KT.keeps {kvs:Ο}{xs:Φ}(r:KT H kvs xs)(ht:∀b ys,H b=some (.tup ys)->H' b=some (.tup ys)):KT H' kvs xs:=
 Paired.bV r fun _ _ z=>⟨z.1,ht _ _ z.2.1,z.2.2⟩
section
variable {P:abQ}{w:World}{H:Hp}{h:Heap}{a:abA}
def Tf (ok:kH P w H h)(e:Rd H a u):cZ P w H h a u:=e.ok ok
def jn (ok:kH P w H h)(e:Rd H a (.dK kvs)):kvs.length<=abE/\(a==ab7)=false/\∃vs,KV kvs vs/\h.DictOf (bF P w) a vs:=
 show cZ P w H h a (.dK kvs) from Tf ok e
def mw (ok:kH P w H h)(e:H a=some (.dK kvs)):kvs.length<=abE/\(a==ab7)=false/\∃vs,KV kvs vs/\h.DictOf (bF P w) a vs:=jn ok (.inl e)
def nE (ok:kH P w H h)(e:H a=some (.tup (ks.map kV))):(tupleKind (bF P w)).is h ks a:=by
 obtain ⟨_,its,r,o,h1,h2,n,h3⟩:=(show cZ P w H h a (.tup (ks.map kV)) from ok a _ e);exact ⟨o,its.toArray,n,h1,h2,h3,by simpa using uE r⟩
def qV (ok:kH P w H h)(e:Rd H a (.dT kvs)):kvs.length<=abE/\(a==ab7)=false/\
  ∃xs,KT H kvs xs/\h.DictOfH (tupleKind (bF P w)) a xs:=by
 obtain ⟨z,y,xs,r,o,es,ep,h1,h2,h3,h4,h5⟩:=(show cZ P w H h a (.dT kvs) from Tf ok e);refine ⟨z,y,xs,r,o,es,ep,h1,h2,h3,h4,fun x hx=>?_,h5⟩
 have all:∀{l:Ο} {m:Φ},KT H l m->∀x∈m,(tupleKind (bF P w)).is h x.1 x.2.1:=by
  intro l m q
  induction q with
  | nil=>intro x hx;exact nomatch hx
  | @cons p q ps qs hq t ih=>
   intro x hx
   rcases aes.mp hx with e|hx
   ·subst e
    exact nE ok (by rw [<-hq.1];exact hq.2.1)
   ·exact ih x hx
 exact all r x hx
def Yz (ok:kH P w H h)(e:H a=some (.dT kvs)):kvs.length<=abE/\(a==ab7)=false/\
  ∃xs,KT H kvs xs/\h.DictOfH (tupleKind (bF P w)) a xs:=qV ok (.inl e)
end
def dh (H:Hp)(a:abA)(y:V)(r:Α):Prop:=
 (∃kvs k,Rd H a (.dK kvs)/\y=kV k/\r=bJ kvs k)\/∃kvs k b,Rd H a (.dT kvs)/\y=.ref b/\H b=some (.tup (k.map kV))/\r=bJ kvs k
def gI (H:Hp)(a:abA)(y v:V)(H':Hp):Prop:=
 (∃kvs k,H a=some (.dK kvs)/\y=kV k/\kvs.length<abE/\H'=upd H a (.dK (putK kvs k v)))\/
 ∃kvs k b,H a=some (.dT kvs)/\y=.ref b/\H b=some (.tup (k.map kV))/\kvs.length<abE/\H'=upd H a (.dT (putK kvs k v))
def dh.k {kvs:γ}{k:Key}(e:H a=some (.dK kvs)):dh H a (kV k) (bJ kvs k):=.inl ⟨kvs,k,.inl e,rfl,rfl⟩
def gI.k {kvs:γ}{k:Key}(e:H a=some (.dK kvs))(hl:kvs.length<abE):gI H a (kV k) v (upd H a (.dK (putK kvs k v))):=.inl ⟨kvs,k,e,rfl,hl,rfl⟩
section
variable {X:Cx}{pins:ε}{σ:St}{H:Hp}{s:abH}{a:abA}{y v:V}{u r:Value}{o:Α}{A:abV}{E:δ}
def Inv.big (I:Inv X pins σ H s):ab7<s.heap.objs.size:=by
 have h:abO<s.heap.objs.size:=(I.mod.glob.keeps I.bk).lt;exact ahy (by decide) h
def HW {Q:δ}(hu:A.units+1<acB)(I:Inv X pins σ H s)(g:dh H a y (some v))(ry:RelV y u)(h:∀w' s',Inv X pins σ H s' ->RelV v w' ->Q w' s'):
  abG (abK X.prog X.w) A (getItem (.ref a) u) Q E s:=by
 rcases g with ⟨kvs,k,e,ey,l⟩|⟨kvs,k,b,e,ey,eb,l⟩
 ·subst ey
  obtain ⟨z,hd,vs,rel,dd⟩:=jn I.bM e;obtain ⟨w',hw,pI⟩:=i5.some_of (v:=v) (o:=valueAt vs k) (by rw [l];exact rel.val k);exact wpAny_getItem_of (mq ry) dd.mapOf hw (h w' _ (I.tok _) pI)
 ·subst ey
  cases (show u=Value.ref b from ry);obtain ⟨z,hd,xs,rel,dd⟩:=qV I.bM e;obtain ⟨w',hw,pI⟩:=i5.some_of (v:=v) (o:=(atKey xs k).map (·.2)) (by rw [l];exact rel.val k);obtain ⟨p,hp,YA⟩:=aaB.mp hw;refine wpAny_getItem_heap (adm hu) (nE I.bM eb) dd hp ?_;rw [YA];exact h w' _ (I.tok _) pI
def agb {Q:δ}(hu:A.units+1<acB)(I:Inv X pins σ H s)(g:dh H a y o)(ry:RelV y u)(h:∀s',Inv X pins σ H s' ->Q (.bool o.isSome) s'):
  abG (abK X.prog X.w) A (aca .In u (.ref a)) Q E s:=by
 rcases g with ⟨kvs,k,e,ey,l⟩|⟨kvs,k,b,e,ey,eb,l⟩
 ·subst ey
  obtain ⟨z,hd,vs,rel,dd⟩:=jn I.bM e;refine wpAny_in_of (mq ry) hd dd.mapOf ?_;rw [<-(rel.val k).iR,<-l];exact h _ (I.tok _)
 ·subst ey
  cases (show u=Value.ref b from ry);obtain ⟨z,hd,xs,rel,dd⟩:=qV I.bM e;refine wpAny_in_heap (adm hu) (nE I.bM eb) hd dd ?_;have q:=(rel.val k).iR;rw [ag'] at q;rw [<-q,<-l];exact h _ (I.tok _)
def Qt {Q:δ}(hu:A.units+1<acB)(I:Inv X pins σ H s)(g:dh H a y o)(ry:RelV y u)(h:∀s',Inv X pins σ H s' ->Q (.bool (!o.isSome)) s'):
  abG (abK X.prog X.w) A (aca .NotIn u (.ref a)) Q E s:=by
 rcases g with ⟨kvs,k,e,ey,l⟩|⟨kvs,k,b,e,ey,eb,l⟩
 ·subst ey
  obtain ⟨z,hd,vs,rel,dd⟩:=jn I.bM e;refine wpAny_notIn_of (mq ry) hd dd.mapOf ?_;rw [<-(rel.val k).iR,<-l];exact h _ (I.tok _)
 ·subst ey
  cases (show u=Value.ref b from ry);obtain ⟨z,hd,xs,rel,dd⟩:=qV I.bM e;refine wpAny_notIn_heap (adm hu) (nE I.bM eb) hd dd ?_;have q:=(rel.val k).iR;rw [ag'] at q;rw [<-q,<-l];exact h _ (I.tok _)
def my (I:Inv X pins σ H s)(mu:XJ (H a))(hs:acn a s.heap h')(he:∃q,h'.get? a=some q)(new:cZ X.prog X.w (upd H a ob) h' a ob):
  Inv X pins σ (upd H a ob) {s with heap:=h',toks:=t'}:=
 I.write (x:=a) (e:=a) mu (.inl rfl) (fun b q hb z=>(hs.2 b hb).trans z) he new
def qW {kvs:γ}(z:kvs.length<=abE)(hd:(a==ab7)=false)(rel:KV kvs vs)(dd:h'.DictOf (bF P w) a vs):
  cZ P w H' h' a (.dK kvs):=⟨z,hd,vs,rel,dd⟩
def HX (hu:A.units+1<acB)(I:Inv X pins σ H s)(g:gI H a y v H')(ry:RelV y u)(rv:RelV v r)(h:∀s',Inv X pins σ H' s' ->Q () s'):
  abG (abK X.prog X.w) A (setItem (.ref a) u r) Q E s:=by
 rcases g with ⟨kvs,k,e,ey,l,eH⟩|⟨kvs,k,b,e,ey,eb,l,eH⟩
 ·subst ey eH
  obtain ⟨z,hd,vs,rel,dd⟩:=mw I.bM e;have hz:vs.length<=abE:=by rw [<-rel.length];exact z
  have hl:(putK kvs k v).length<=abE:=by have:=fg kvs k v;omega
  refine wpAny_setItem_pairs (hsz:=hz) (mq ry) dd fun h' Lf hs=>h _ ?_;have he:∃q,h'.get? a=some q:=let ⟨q,_,_,hq,_⟩:=Lf;⟨q,hq⟩;exact my I (by rw [e];exact True.intro) hs he (qW hl hd (rel.put k rv) Lf)
 ·subst ey eH
  cases (show u=Value.ref b from ry);obtain ⟨z,hd,xs,rel,dd⟩:=Yz I.bM e;have hz:xs.length<=abE:=by rw [<-abL rel];exact z
  have hl:(putK kvs k v).length<=abE:=by have:=fg kvs k v;omega
  refine wpAny_setItem_heap (hsz:=hz) (adm hu) (nE I.bM eb) dd fun h' Lf hs=>h _ ?_;obtain ⟨q,es,ep,hq,h2,h3,h4,_,h5⟩:=Lf;refine my I (by rw [e];exact True.intro) hs ⟨q,hq⟩ ⟨hl,hd,_,(rel.put k eb rv).keeps fun c ys ec=>?_,q,es,ep,hq,h2,h3,h4,h5⟩;rw [aj (XI ec e (fun z=>nomatch z))];exact ec
end
section
variable {X:Cx}{pins:ε}{σ:St}{H:Hp}{s:abH}{a:abA}{kvs:γ}{k:Key}{u:Value}{A:abV}{E:δ}
def YB {more:ρ}{Q:δ}(I:Inv X pins σ H s)(e:H a=some (.dK kvs))(ry:RelV (kV k) u)(l:bJ kvs k=some v)(hm:more=[]\/∃x,more=[x])
  (h:∀w' s',Inv X pins σ (upd H a (.dK (jH kvs k))) s' ->RelV v w' ->Q w' s'):abG (abK X.prog X.w) A (call (.builtin "dict.pop") (.ref a::u::more)) Q E s:=by
 obtain ⟨z,hd,vs,rel,dd⟩:=mw I.bM e;obtain ⟨w',hw,pI⟩:=i5.some_of (v:=v) (o:=valueAt vs k) (by rw [<-l];exact rel.val k)
 have hp:(keyPart u).isSome=true:=by
  cases k with
  | inl i=>obtain ⟨t,q⟩:=(show ∃t,u=Value.int i t from ry);subst q;rfl
  | inr x=>obtain ⟨t,q⟩:=(show ∃t,u=Value.str x t from ry);subst q;rfl
 have ha:argsOk "dict.pop" ⟨.ref a::u::more,[]⟩:=by
  rcases hm with q|⟨x,q⟩
  ·subst q;exact PySem.F.args_dict_pop_2 _ _
  ·subst q;exact PySem.F.args_dict_pop_3 _ _ _
 refine aiM PySem.F.slot_dict_pop dd.typeIs PySem.F.entry_dict_pop ha (meets_dict_pop_there (bF X.prog X.w) a (mq ry) more hm hp)
  ⟨vs,w',dd,by rw [<-rel.length];exact z,hw,fun h' Lf hs=>h w' _ ?_ pI⟩
 have he:∃q,h'.get? a=some q:=let ⟨q,_,_,hq,_⟩:=Lf;⟨q,hq⟩;exact my I (by rw [e];exact True.intro) hs he (qW (aay (Mr kvs k) z) hd (rel.drop k) Lf)
def YC {Q:δ}(I:Inv X pins σ H s)(e:Rd H a (.dK kvs))(h:∀t s',Inv X pins σ H s' ->Q (.int kvs.length t) s'):abG (abK X.prog X.w) A (call (.builtin "len") [.ref a]) Q E s:=by
 obtain ⟨z,hd,vs,rel,dd⟩:=jn I.bM e;refine call_len_dict hd dd (by rw [<-rel.length];rw [sizeLine_eq] at z;omega) ?_;rw [<-rel.length];exact h _ _ (I.tok _)
end
def YD (i:Expr):Prop:=∀ov iv,subscripted i false ov iv=operate [ov,iv] (getItem ov iv)
def Qu {E:δ}{T id:String}{Q:δ}
  (hl:typeLookup (.type T) "__getitem__"=pure (some (.builtin id))) (hs:YD slice)
  (h:abG (abK prog w) A (abW value env) (fun o s₁=>abG (abK prog w) A (abW slice env) (fun i s₂=>s₂.TypeIs o T/\abG (abK prog w) A (getItem o i) Q E s₂) E s₁) E s):
  abG (abK prog w) A (abW (.Subscript value slice pos) env) Q E s:=by
 refine Subscript_ (ab4 h (fun o s₁ h₁=>ab4 h₁ (fun i s₂ h₂=>?_) fun _ _ x=>x) fun _ _ x=>x);obtain ⟨hT,h₂⟩:=h₂;unfold subscriptTail;refine abz ?_;rw [getitemInPython_of_ne hT.not_modules];refine abz (wpAny_specialOf hT hl ?_)
 have fin:abG (abK prog w) A (subscripted slice false o i) (fun r s₃=>abG (abK prog w) A (letTemporaryGo value o r >>=fun _=>pure r) Q E s₃) E s₂:=by
  rw [hs o i];exact wpAny_operating (ab4 h₂ (fun r s₃ h₃=>abz (wpAny_letTemporaryGo (abF h₃))) fun _ _ x=>x)
 first
  | exact abF (abz fin)
  | exact abz (abF (abz fin))
  | exact abz fin
def x6 {σ:St}(I:Inv X pins σ H s)(g:dh H a y o):s.TypeIs (.ref a) "dict":=by
 rcases g with ⟨kvs,k,e,_,_⟩|⟨kvs,k,b,e,_,_,_⟩
 ·obtain ⟨_,_,vs,_,dd⟩:=jn I.bM e
  exact dd.typeIs
 ·obtain ⟨_,_,xs,_,dd⟩:=qV I.bM e
  exact dd.typeIs
inductive Ms (Q:VK)(x:V)(y:V)(H2:Hp):Prop
|mk (a v:_)(_:x=.ref a)(_:dh H2 a y (some v))(_:Q v H2)
def YE (td ty:TE):TE:=fun σ H Q=>td σ H fun x H1=>ty σ H1 fun y H2=>Ms Q x y H2
inductive Tg (Q:VK)(y:V)(x:V)(H2:Hp):Prop
|mk (a o:_)(_:x=.ref a)(_:dh H2 a y o)(_:Q (.bl o.isSome) H2)
def agc (ty td:TE):TE:=fun σ H Q=>ty σ H fun y H1=>td σ H1 fun x H2=>Tg Q y x H2
inductive x8 (Q:VK)(y:V)(x:V)(H2:Hp):Prop
|mk (a o:_)(_:x=.ref a)(_:dh H2 a y o)(_:Q (.bl (!o.isSome)) H2)
def Qv (ty td:TE):TE:=fun σ H Q=>ty σ H fun y H1=>td σ H1 fun x H2=>x8 Q y x H2
inductive Mt (D:Ends)(σ:L2.St)(v:V)(x:V)(y:V)(H3:Hp):Prop
|mk (a H4:_)(_:x=.ref a)(_:gI H3 a y v H4)(_:D.nx σ H4)
def YF (td ty tv:TE):TS:=fun D σ H=>tv σ H fun v H1=>td σ H1 fun x H2=>ty σ H2 fun y H3=>Mt D σ v x y H3
section
variable {X:Cx}{o i e value:Expr}{pos pos' vd:Pos}{td ty tv:TE}
def cY (hu:X.A.units+1<acB)(ho:PE X o td)(hi:PE X i ty)(hs:YD i):PE X (.Subscript o i pos) (YE td ty):=by
 intro pins s σ H Q I h;refine Qu PySem.F.slot_dict_getitem.lookup hs (cF (ho pins s σ H _ I h) fun u s1 ⟨x,H1,I1,rx,q1⟩=>cF (hi pins s1 σ H1 _ I1 q1) fun iv s2 ⟨y,H2,I2,ry,a,v,ex,g,q2⟩=>?_);subst ex;obtain rfl:u=Value.ref a:=rx;exact ⟨x6 I2 g,HW hu I2 g ry fun w' s3 I3 pI =>⟨v,H2,I3,pI,q2⟩⟩
def Mu (hu:X.A.units+1<acB)(hi:PE X i ty)(ho:PE X o td):PC X .In i o (agc ty td):=by
 intro pins s σ H Q I h;refine cF (hi pins s σ H _ I h) fun iv s1 ⟨y,H1,I1,ry,q1⟩=>cF (ho pins s1 σ H1 _ I1 q1) fun u s2 ⟨x,H2,I2,rx,a,ov,ex,g,q2⟩=>?_;subst ex;obtain rfl:u=Value.ref a:=rx;exact agb hu I2 g ry fun s3 I3=>⟨.bl ov.isSome,H2,I3,rfl,q2⟩
def nH (hu:X.A.units+1<acB)(hi:PE X i ty)(ho:PE X o td):PC X .NotIn i o (Qv ty td):=by
 intro pins s σ H Q I h;refine cF (hi pins s σ H _ I h) fun iv s1 ⟨y,H1,I1,ry,q1⟩=>cF (ho pins s1 σ H1 _ I1 q1) fun u s2 ⟨x,H2,I2,rx,a,ov,ex,g,q2⟩=>?_;subst ex;obtain rfl:u=Value.ref a:=rx;exact Qt hu I2 g ry fun s3 I3=>⟨.bl (!ov.isSome),H2,I3,rfl,q2⟩
def cx (hu:X.A.units+1<acB)(ho:PE X o td)(hi:PE X i ty)(hv:PE X value tv)(hs:adv value (some (.Subscript o i pos')) pos.line X.env=pure false):
  PS X (.Assign [.Subscript o i pos'] value pos) (YF td ty tv):=by
 intro pins s σ H D I h;refine wpAny_Assign_Subscript (cF (hv pins s σ H _ I h) fun r s1 ⟨v,H1,I1,rv,q1⟩=>cF (ho pins s1 σ H1 _ I1 q1) fun u s2 ⟨x,H2,I2,rx,q2⟩=>cF (hi pins s2 σ H2 _ I2 q2) fun iv s3 ⟨y,H3,I3,ry,a,H4,ex,g,q3⟩=>?_) hs;subst ex;obtain rfl:u=Value.ref a:=rx;exact HX hu I3 g ry rv fun s4 I4=>⟨σ,H4,I4,q3⟩
end
def x9 (h:Heap)(hb:ab7<h.objs.size):cZ P w H (h.push {cls:=.type "dict",data:=.dict #[]}) h.objs.size (.dK []):=
 ⟨aeF _,beq_eq_false_iff_ne.mpr (aeD (aew hb)),[],.nil,Heap.DictOf.new h⟩
def Vb:TE:=fun _ H Q=>∀p,H p=none->Q (.ref p) (upd H p (.dK []))
section
variable {X:Cx}{pos:Pos}
def dc:PE X (.Dict [] [] pos) Vb:=fun pins s σ H Q I h=>
 wpAny_Dict_empty ⟨.ref s.heap.objs.size,_,I.laid (a:=s.heap.objs.size) (o:=.dK []) (t':=s.toks) (fun _ _ q=>abD _ q) (aaA _) (x9 s.heap I.big),rfl,h _ (I.bM.fresh (aaA _))⟩
end
noncomputable def AV:List (TE×TE)->St->Hp->(List (V×V)->Hp->Prop)->Prop
 | [],_,H,Q=>Q [] H
 | (tk,tv)::r,σ,H,Q=>tk σ H fun x H1=>tv σ H1 fun y H2=>AV r σ H2 fun ps H3=>Q ((x,y)::ps) H3
abbrev VV:List (V×V)->List (Value×Value)->Prop:=Paired fun p q=>RelV p.1 q.1/\RelV p.2 q.2
def PPs (X:Cx)(pos:Pos)(keys:List (Option Expr))(values:Ζ)(Qw:List (TE×TE)):Prop:=
 ∀(pins:ε)(s:abH)(σ:St)(H:Hp)(Q:List (V×V)->Hp->Prop),Inv X pins σ H s->AV Qw σ H Q->
  abG (abK X.prog X.w) X.A (evalPairs (pairTrees keys values X.env pos)) (fun vs s'=>∃ps H',Inv X pins σ H' s'/\VV ps vs/\Q ps H') X.xe s
def EG :PPs X pos [] [] []:=fun pins s σ H Q I h=>pairTrees_nil_walk ⟨[],H,I,.nil,h⟩
def qX (hk:PE X k tk)(hv:PE X v tv)(hr:PPs X pos ks vs Qw):
  PPs X pos (some k::ks) (v::vs) ((tk,tv)::Qw):=fun pins s σ H Q I h=>
 pairTrees_cons_walk (cF (hk pins s σ H _ I h) fun u s1 ⟨x,H1,I1,rx,q1⟩=>cF (hv pins s1 σ H1 _ I1 q1) fun w2 s2 ⟨y,H2,I2,ry,q2⟩=>
  cF (hr pins s2 σ H2 _ I2 q2) fun ws s3 ⟨ps,H3,I3,rel,q3⟩=>⟨(x,y)::ps,H3,I3,.cons ⟨rx,ry⟩ rel,q3⟩)
noncomputable def dy (kvs more:γ):List (Key×V):=more.foldl (fun acc kv=>putK acc kv.1 kv.2) kvs
def KV.merge:∀{more:γ} {rs:List (Key×Value)} {kvs:γ} {vs:List (Key×Value)},KV more rs->KV kvs vs->KV (dy kvs more) (merged vs rs):=by
 intro more rs kvs vs r;unfold KV at r
 induction r generalizing kvs vs with
 | nil=>intro q;exact q
 | @cons p q ps qs h t ih=>
  intro r0
  have e:KV (putK kvs p.1 p.2) (stored vs q.1 q.2):=by
   have:=r0.put p.1 h.2;rw [<-h.1];exact this
  exact ih e
theorem iG:∀(more kvs:γ),(dy kvs more).length<=kvs.length+more.length
 | [],kvs=>by show kvs.length<=kvs.length+0;omega
 | p::r,kvs=>by
  have h1:=iG r (putK kvs p.1 p.2);have h2:=fg kvs p.1 p.2;show (dy (putK kvs p.1 p.2) r).length<=_;rw [aey];omega
theorem qY :∀{kvs:γ} {ws:List (Value×Value)},VV (kvs.map fun kv=>(kV kv.1,kv.2)) ws->∃rs,Carries (bF P w) ws rs/\KV kvs rs
 | [],_,r=>by rw [aez] at r;cases r;exact ⟨[],True.intro,.nil⟩
 | p::kvs,_,r=>by
  rw [aaw] at r;cases r with
  | @cons a b as bs h t=>
   obtain ⟨rs,c,q⟩:=qY (P:=P) (w:=w) t;obtain ⟨b1,b2⟩:=b;exact ⟨(p.1,b2)::rs,⟨mq h.1,rfl,c⟩,.cons ⟨rfl,h.2⟩ q⟩
def YG (Qw:List (TE×TE)):TE:=fun σ H Q=>∀p,H p=none->AV Qw σ (upd H p (.dK [])) fun ps H2=>H2 p=some (.dK [])/\∃kvs:List (Key×V),ps=kvs.map (fun kv=>(kV kv.1,kv.2))/\kvs.length<=15/\Q (.ref p) (upd H2 p (.dK (dy [] kvs)))
def EH (h:PPs X pos keys values Qw)(Mb:keys.all (·.isSome)=true)(hl:keys.length=values.length)(h0:keys≠[])
  (h15:keys.length<=15):PE X (.Dict keys values pos) (YG Qw):=by
 intro pins s σ H Q I q;have hn:=I.bM.fresh (aaA s.heap.objs.size);have I1:=I.laid (a:=s.heap.objs.size) (o:=.dK []) (h':=s.heap.push {cls:=.type "dict",data:=.dict #[]}) (t':=s.toks) (fun _ _ q=>abD _ q) (aaA _) (x9 s.heap I.big);refine wpAny_Dict_walk (knd:=bF X.prog X.w) Mb hl h0 h15 (cF (h pins _ σ _ _ I1 (q _ hn)) fun ws s2 ⟨ps,H2,I2,rel,e,kvs,ep,lk,q2⟩=>?_);subst ep;obtain ⟨rs,c,rk⟩:=qY (P:=X.prog) (w:=X.w) rel;obtain ⟨z,hd,vs0,r0,dd⟩:=mw I2.bM e;cases r0;refine ⟨rs,c,dd,fun h' Lf hs=>⟨.ref s.heap.objs.size,_,?_,rfl,q2⟩⟩
 have hz:(dy [] kvs).length<=abE:=by
  have h1:=iG kvs [];rw [ahI] at h1;rw [sizeLine_eq];omega
 have he:∃q,h'.get? s.heap.objs.size=some q:=let ⟨q,_,_,hq,_⟩:=Lf;⟨q,hq⟩;exact my I2 (by rw [e];exact True.intro) hs he (qW hz hd (rk.merge .nil) Lf)
structure M1 (X:Cx)(o:Expr)(m:Str)(apos:Pos)(e:Expr)(eJ:Pos):Prop where
 base:acR o m X.env (abW o X.env)=abW o X.env
 few:((ack eJ (abP [e] X.env)).all (fun x=> !x.1) && (backToKw eJ (aiA [] X.env)).all (fun x=>x.1.isSome)
  && decide (([e]:List Expr).length+([]:List Keyword).length+(if ([]:List Keyword).isEmpty then 0 else 1)<30))=true
 line:(apos.endLine==eJ.line)=true
 trees:ack eJ (abP [e] X.env)=[(false,abW e X.env)]
structure M2 (X:Cx)(o:Expr)(m:Str)(apos:Pos)(e f:Expr)(eJ:Pos):Prop where
 base:acR o m X.env (abW o X.env)=abW o X.env
 few:((ack eJ (abP [e,f] X.env)).all (fun x=> !x.1) && (backToKw eJ (aiA [] X.env)).all (fun x=>x.1.isSome)
  && decide (([e,f]:List Expr).length+([]:List Keyword).length+(if ([]:List Keyword).isEmpty then 0 else 1)<30))=true
 line:(apos.endLine==eJ.line)=true
 trees:ack eJ (abP [e,f] X.env)=[(false,abW e X.env),(false,abW f X.env)]
def IsD (H:Hp)(a:abA):Prop:=(∃kvs,Rd H a (.dK kvs))\/∃kvs,Rd H a (.dT kvs)
def AW {σ:St}(I:Inv X pins σ H s)(d:IsD H a):
  s.TypeIs (.ref a) "dict"/\(∀b,Value.ref a=.ref b->∃ob,s.heap.get? b=some ob/\ob.dict=none)/\(a==ab7)=false:=by
 rcases d with ⟨kvs,e⟩|⟨kvs,e⟩
 ·obtain ⟨_,hd,vs,_,dd⟩:=jn I.bM e
  refine ⟨dd.typeIs,fun b q=>?_,hd⟩;cases q;obtain ⟨ob,_,_,h1,h2,_⟩:=dd;exact ⟨ob,h1,h2.2.1⟩
 ·obtain ⟨_,hd,xs,_,dd⟩:=qV I.bM e
  refine ⟨dd.typeIs,fun b q=>?_,hd⟩;cases q;obtain ⟨ob,_,_,h1,h2,_⟩:=dd;exact ⟨ob,h1,h2.2.1⟩
section
variable {X:Cx}{pins:ε}{σ:St}{H:Hp}{s:abH}{a:abA}{y d:V}{u r:Value}{o:Α}{A:abV}{E:δ}
def Vc {Q:δ}(hu:A.units+1<acB)(I:Inv X pins σ H s)(g:dh H a y o)(ry:RelV y u)(rd:RelV d r)(h:∀w' s',Inv X pins σ H s' ->RelV (o.getD d) w' ->Q w' s'):
  abG (abK X.prog X.w) A (call (.builtin "dict.get") [.ref a,u,r]) Q E s:=by
 rcases g with ⟨kvs,k,e,ey,l⟩|⟨kvs,k,b,e,ey,eb,l⟩
 ·subst ey
  obtain ⟨z,hd,vs,rel,dd⟩:=jn I.bM e;refine aiM PySem.F.slot_dict_get dd.typeIs PySem.F.entry_dict_get (PySem.F.args_dict_get_3 _ _ _) (meets_dict_get_default (bF X.prog X.w) a (mq ry) hd r) ⟨_,dd.mapOf,h _ _ (I.tok _) ?_⟩;rw [l];exact (rel.val k).getD rd
 ·subst ey
  cases (show u=Value.ref b from ry);obtain ⟨z,hd,xs,rel,dd⟩:=qV I.bM e;refine aiM PySem.F.slot_dict_get dd.typeIs PySem.F.entry_dict_get (PySem.F.args_dict_get_3 _ _ _) (meetsH_dict_get_default (tupleKind (bF X.prog X.w)) a b hd r) ⟨adm hu,k,xs,nE I.bM eb,dd,h _ _ (I.tok _) ?_⟩;rw [l];exact (rel.val k).getD rd
end
def Vd (td ty tx:TE):TE:=fun σ H Q=>td σ H fun x H1=>∃a,x=.ref a/\IsD H1 a/\ty σ H1 fun y H2=>tx σ H2 fun z H3=>∃o,dh H3 a y o/\Q (o.getD z) H3
def Ve (td ty:TE):TE:=fun σ H Q=>td σ H fun x H1=>∃a,x=.ref a/\IsD H1 a/\ty σ H1 fun y H2=>∃kvs k v,H2 a=some (.dK kvs)/\y=kV k/\bJ kvs k=some v/\Q v (upd H2 a (.dK (jH kvs k)))
section
variable {X:Cx}{o e f:Expr}{apos eJ:Pos}{td ty tx:TE}
def jJ (hu:X.A.units+1<acB)(ho:PE X o td)(he:PE X e ty)(hf:PE X f tx)(m:M2 X o "get" apos e f eJ):PE X (.Call (.Attribute o "get" apos) [e,f] [] eJ) (Vd td ty tx):=by
 intro pins s σ H Q I h;refine wpAny_Call_method m.base m.few m.line PySem.F.plainAttrs_dict PySem.F.slot_dict_get PySem.F.type_dict_get (cF (ho pins s σ H _ I h) fun u s1 ⟨x,H1,I1,rx,a,ex,d,q1⟩=>?_);subst ex;obtain rfl:u=Value.ref a:=rx;obtain ⟨t1,t2,_⟩:=AW I1 d;refine ⟨t1,t2,?_⟩;rw [m.trees]
 refine acC rfl (Calls.evalArgs_plain (acD (cF (he pins s1 σ H1 _ I1 q1) fun iv s2 ⟨y,H2,I2,ry,q2⟩=>
  acD (cF (hf pins s2 σ H2 _ I2 q2) fun fv s3 ⟨z,H3,I3,rz,ov,g,q3⟩=>aiw ?_))))
 exact Vc hu I3 g ry rz fun w' s4 I4 pI =>⟨_,H3,I4,pI,q3⟩
def Mv (ho:PE X o td)(he:PE X e ty)(m:M1 X o "pop" apos e eJ):PE X (.Call (.Attribute o "pop" apos) [e] [] eJ) (Ve td ty):=by
 intro pins s σ H Q I h;refine wpAny_Call_method m.base m.few m.line PySem.F.plainAttrs_dict PySem.F.slot_dict_pop PySem.F.type_dict_pop (cF (ho pins s σ H _ I h) fun u s1 ⟨x,H1,I1,rx,a,ex,d,q1⟩=>?_);subst ex;obtain rfl:u=Value.ref a:=rx;obtain ⟨t1,t2,_⟩:=AW I1 d;refine ⟨t1,t2,?_⟩;rw [m.trees];refine acC rfl (Calls.evalArgs_plain (acD (cF (he pins s1 σ H1 _ I1 q1) fun iv s2 ⟨y,H2,I2,ry,kvs,k,v,ea,ey,l,q2⟩=>aiw ?_)));subst ey;exact YB I2 ea ry l (.inl rfl) fun w' s3 I3 pI =>⟨v,_,I3,pI,q2⟩
end
end L2
namespace Ty
open PySem PySem.Spec PyProof.Rows L2
section
variable {X:Cx}
def Qx {σ:L2.St}(I:Inv X pins σ H s):s.heap.NoSeer:=I.ok.mod.seer.keeps I.bk
def cB.py (r:cB k A)(h:32<=k):A.depth+Builtin.pylongFrames<aiR:=by
 have:=r.dp;have:Builtin.pylongFrames=100:=rfl;omega
def g6 (ht:X.prog.given.tree=none)(hd:X.A.depth+Builtin.pylongFrames<aiR)(P7:X.stack=env::l)(h1:env.scope.isGenerator=false)(h2:env.scope.isCoroutine=false)(h3:env.builtins=builtinsNs)(h4:env.globals=abO):
  jX X (acz .FloorDiv) (rI US fun i j=>.int (i.fdiv j)):=by
 intro pins s σ H x y v u Q I rx ry h;obtain ⟨i,j,rfl,rfl,hc,q⟩:=h;obtain ⟨t,rfl⟩:=rx;obtain ⟨t',rfl⟩:=ry;exact floordiv_int hc ⟨.int _,H,I.tok _,⟨_,rfl⟩,q⟩ (.inr (PylongRoom.of I.nolimit hd (SeerAt.of (Qx I) ht (by rw [I.ok.frames,P7]) h1 h2 h3 h4)))
end
section
variable {prog:abQ}{w:World}{A:abV}{E:δ}{s:abH}{KK:Type}[DecidableEq KK]{knd:KeyKind prog w KK}
def HY (hm:s.heap.DictOf knd d kvs)(h:Q false s):abG (abK prog w) A (Builtin.List.listLengthHint (.ref d)) Q E s:=by
 unfold Builtin.List.listLengthHint;refine abz (wpAny_specialOf (name:=ab2 "__len__") hm.typeIs F.slot_dict_len.lookup ?_);generalize hid:("dict.__len__":String)=id0
 wp_delta
 rw [show splitId id0=some ("dict","__len__") from by subst hid;decide+kernel];subst hid;refine abz (aiE (T:="dict") (b:=true) hm.typeIs (by rw [isSubtype_type];kernel_rfl) ?_);refine wpAny_ite_split (fun hab=>abM hab (by decide)) (fun _=>?_);refine wpAny_ite_split (fun _=>?_) (fun hab=>abM (by decide+kernel) hab);refine abz (wpAny_typeOf (T:="dict") hm.typeIs ?_);exact abF h
def x_ {R:Υ}(hh:A.handled=none)(hd:(d==ab7)=false)(hm:s.heap.DictAt knd d kvs ep)(hlen:kvs.length<=abE)(S:abA)(res:Value)(c₀:Nat)(hS:s.heap.get? S=some {cls:=.type "list",data:=.seq #[] c₀})
  (hR:∀h' tk jK c',(∀b o,b≠S->s.heap.get? b=some o->h'.get? b=some o)->h'.get? S=some {cls:=.type "list",dict:=none,data:=.seq jK c',slots:= #[]}->
   ItemsOf (fun i v=>∃k x,kvs[i]?=some (k,x)/\knd.is k v=true) jK kvs.length->R (.ok (.ret res)) {s with heap:=h',toks:=tk}):
  abG (abK prog w) A.in1 (acF (.ref S) (.ref d) res)
   (fun fin s'=>match fin with | .done f=>R (.ok f) s' | .again c'=>c'.quiet=true/\acA (abK prog w) A c' R s') (fun e s'=>R (.error e) s') s:=by
 obtain ⟨od,es,W_,tq,jL,hk0,Th,hn0⟩:=id hm;have hT:s.TypeIs (.ref d) "dict":=hm.dictOf.typeIs
 have Xa:S≠d:=fun e=>by
  rw [e] at hS;rw [hS] at W_;cases W_;cases jL
 have hdI:d≠s.heap.objs.size:=aew (abJ W_);have hSI:S≠s.heap.objs.size:=aew (abJ hS)
 have hSf:S∉[s.heap.objs.size,d]:=fun hm=>by
  rcases aes.mp hm with z|z
  ·exact hSI z
  ·exact Xa (abg.mp z)
 have W:=(Walks.dictKeys (knd:=knd) (A:=A.in1) hh s.heap.objs.size d hdI kvs ep).toS;unfold acF;refine abz (wpAny_typeOf (T:="dict") hT ?_);have h1:Builtin.List.listSameRef (.ref S) (.ref d)=false:=by simp [Builtin.List.listSameRef,Xa]
 have h2:(Value.type "dict"==Value.type "list")=false:=by decide
 have h3:(Value.type "dict"==Value.type "tuple")=false:=by decide
 simp only [h1,h2,h3,aop,afi,if_false];refine abz (wpAny_pyIter_dict hd hm ?_);have Xb:(s.heap.push {cls:=.type "dict_keyiterator",data:=.fields #[.ref d,.int 0 0,.int kvs.length 0,.int ep 0]}).DictAt knd d kvs ep:=hm.at' fun o e=>abD _ e;refine abz (ace (HY (knd:=knd) Xb.dictOf ?_));have YH:=abD {cls:=.type "dict_keyiterator",data:=.fields #[.ref d,.int 0 0,.int kvs.length 0,.int ep 0]} hS;have it₁:(s.heap.push {cls:=.type "dict_keyiterator",data:=.fields #[.ref d,.int 0 0,.int kvs.length 0,.int ep 0]}).IsKeyIter s.heap.objs.size d 0 kvs.length ep:=⟨_,abN _ rfl,rfl,rfl⟩
 have key:∀(h:Heap)(c₁ tk:Nat),h.IsKeyIter s.heap.objs.size d 0 kvs.length ep->h.DictAt knd d kvs ep->(∀b o,b≠S->s.heap.get? b=some o->h.get? b=some o)->
   h.get? S=some {cls:=.type "list",data:=.seq #[] c₁}->acA (abK prog w) A (.builtin "list.extend.loop" ⟨[.ref S,.ref s.heap.objs.size,res],[]⟩) R {s with heap:=h,toks:=tk}:=by
  intro h c₁ tk hit hdm hk YH;refine codeAny_extend_loopS W hlen S hSf res kvs.length 0 _ #[] c₁ rfl (aeF _) ⟨hit,hdm⟩ YH (ItemsOf.nil _) fun s' jK c' hm' Vf ya=>?_;rw [Moved.eq_with hm'];refine hR s'.heap s'.toks jK c' (fun b o hb e=>hm'.heap b o (fun HZ=>?_) (hk b o hb e)) Vf ya
  rcases aes.mp HZ with e'|HZ
  ·exact hb e'
  ·exact abM (abJ e) (by rw [abg.mp HZ];exact aeY _)
 refine wpAny_ite_split (fun _=>?_) (fun _=>abF ⟨aiD F.plain_extend_loop _,key _ c₀ _ it₁ Xb (fun b o _ e=>abD _ e) YH⟩);refine abz (wpAny_rule ?_);refine abz ?_;show abG _ _ (updateSeq S (·.push .none) >>=fun _=>updateSeq S (·.pop)) _ _ _;refine abz (aiN YH rfl ?_);have hS₂:=acI (acN (·.push Value.none)) YH rfl;refine aiN (hz:=by seq_fits) hS₂ rfl ?_;have hS₃:=acI (acN (·.pop)) hS₂ rfl;refine abF ⟨aiD F.plain_extend_loop _,key _ _ _ (it₁.at fun o e=>?_) (Xb.at' fun o e=>?_) (fun b o hb e=>?_) hS₃⟩
 ·exact (ab6 _ _ hSI).trans ((ab6 _ _ hSI).trans e)
 ·exact (ab6 _ _ Xa).trans ((ab6 _ _ Xa).trans e)
 ·exact (ab6 _ _ (aeD hb)).trans ((ab6 _ _ (aeD hb)).trans (abD _ e))
def qZ {R:Υ}(hh:A.handled=none)(hd:(d==ab7)=false)(hm:s.heap.DictAt knd d kvs ep)(hlen:kvs.length<=abE)(S:abA)(hS:s.heap.get? S=some {cls:=.type "list",data:=.seq #[]})
  (hR:∀h' tk jK c',(∀b o,b≠S->s.heap.get? b=some o->h'.get? b=some o)->h'.get? S=some {cls:=.type "list",dict:=none,data:=.seq jK c',slots:= #[]}->
   ItemsOf (fun i v=>∃k x,kvs[i]?=some (k,x)/\knd.is k v=true) jK kvs.length->R (.ok (.ret .none)) {s with heap:=h',toks:=tk}):
  abG (abK prog w) A.in1 (Builtin.«list.__init__» ⟨[.ref S,.ref d],[]⟩)
   (fun fin s'=>match fin with | .done f=>R (.ok f) s' | .again c'=>c'.quiet=true/\acA (abK prog w) A c' R s') (fun e s'=>R (.error e) s') s:=by
 obtain ⟨od,es,W_,tq,jL,hk0,Th,hn0⟩:=id hm
 have Xa:S≠d:=fun e=>by
  rw [e] at hS;rw [hS] at W_;cases W_;cases jL
 show abG _ _ (do let old <- Builtin.List.listItems (.ref S);Builtin.List.listUpdate (.ref S) (fun _=> #[]);letGo old.toList.reverse;acF (.ref S) (.ref d) .none) _ _ s;refine abz ?_;unfold Builtin.List.listItems;refine abz (acq hS rfl (abF ?_));show abG _ _ (updateSeq S (fun _=> #[]) >>=fun _=>letGo (#[]:Array Value).toList.reverse >>=fun _=>acF (.ref S) (.ref d) .none) _ _ s;refine abz (aiN hS rfl ?_);have hS₂:=acI (acN (fun _=>(#[]:Array Value))) hS rfl
 have oth:∀b o,b≠S->s.heap.get? b=some o->(s.heap.update S (acN (fun _=>(#[]:Array Value)))).get? b=some o:=
  fun b o hb e=>(ab6 _ _ (aeD hb)).trans e
 refine abz (wpAny_letGo ?_);refine x_ hh hd (hm.at' fun o e=>oth d o (aeD Xa) e) hlen S .none _ hS₂ fun h' tk jK c' hk Vf ya=>?_;exact hR h' tk jK c' (fun b o hb e=>hk b o hb (oth b o hb e)) Vf ya
def q_ {Q:δ}(hh:A.handled=none)(hd:(d==ab7)=false)(hm:s.heap.DictAt knd d kvs ep)(hlen:kvs.length<=abE)
  (hQ:∀h' tk jK c',(∀b o,s.heap.get? b=some o->h'.get? b=some o)->
   h'.get? s.heap.objs.size=some {cls:=.type "list",dict:=none,data:=.seq jK c',slots:= #[]}->ItemsOf (fun i v=>∃k x,kvs[i]?=some (k,x)/\knd.is k v=true) jK kvs.length->Q (.ref s.heap.objs.size) {s with heap:=h',toks:=tk}):
  abG (abK prog w) A (call (.type "list") [.ref d]) Q E s:=by
 refine callType_codes (Q₁:=fun obj s₁=>obj=.ref s.heap.objs.size/\s₁={s with heap:=s.heap.push {cls:=.type "list",data:=.seq #[]}}) F.called_list (F.typeCall_list_1 _) F.entry_list_init
  (code_list_new _ ⟨rfl,rfl⟩) fun obj s₁ h₁=>?_
 obtain ⟨rfl,rfl⟩:=h₁;have hS:(s.heap.push {cls:=.type "list",data:=.seq #[]}).get? s.heap.objs.size=some {cls:=.type "list",data:=.seq #[]}:=abN _ rfl;refine ⟨⟨_,hS,rfl⟩,F.args_list_init_2 _ _,qZ (A:=A.in1) hh hd (hm.at' fun o e=>abD _ e) hlen _ hS fun h' tk jK c' hk Vf ya=>?_⟩;exact ⟨rfl,hQ h' tk jK c' (fun b o e=>hk b o (aew (abJ e)) (abD _ e)) Vf ya⟩
end
theorem aA :∀{l₁:List α} {l₂:List β} {i:Nat} {a:α},Paired F l₁ l₂->l₁[i]?=some a->∃b,l₂[i]?=some b/\F a b
 | _,_,_,_,.nil,h=>by simp at h
 | _,_,0,_,.cons r _,h=>by
  cases h;exact ⟨_,rfl,r⟩
 | _,_,i+1,_,.cons _ t,h=>by
  obtain ⟨b,e,f⟩:=aA (i:=i) t (by simpa using h);exact ⟨b,by simpa using e,f⟩
theorem gP :∀{l₁:List α} {l₂:List β},l₁.length=l₂.length->(∀(i:Nat)(a:α)(b:β),l₁[i]?=some a->l₂[i]?=some b->F a b)->Paired F l₁ l₂
 | [],[],_,_=>.nil
 | a::l₁,b::l₂,h,f=>.cons (f 0 a b rfl rfl) (gP (by simpa using h) fun i a b e1 e2=>f (i+1) a b (by simpa using e1) (by simpa using e2))
 | [],_::_,h,_=>by simp at h
 | _::_,[],h,_=>by simp at h
def vD (h:(bF P w).is k u=true):RelV (kV k) u:=by
 rcases cz h with ⟨i,t,rfl,rfl⟩|⟨x,t,rfl,rfl⟩
 ·exact ⟨t,rfl⟩
 ·exact ⟨t,rfl⟩
section
variable {X:Cx}
inductive Mw (xs:ζ)(H:Hp)(Q:VK):Prop
|mk (p:abA)(kvs:γ)(_:xs=[.ref p])(_:Rd H p (.dK kvs))(_:∀l,H l=none->Q (.ref l) (upd H l (.lst (kvs.map fun kv=>kV kv.1))))
def fQ (hc:X.calm=true):ie X (.type "list") Mw:=by
 intro pins s σ H xs us Q I r h;obtain ⟨p,kvs,rfl,hq,q⟩:=h;obtain ⟨u,rfl,r1⟩:=vals1 r;cases r1;obtain ⟨z,hd,vs,rel,o,es,ep,ho,hx,jL,hk,hp,hn⟩:=jn I.bM hq;have hl:=rel.length;refine q_ (knd:=bF X.prog X.w) (I.ok.hd hc) hd ⟨o,es,ho,hx,jL,hk,hp,hn⟩ (by omega) fun h' tk jK c' kk hS ya=>?_;have hn':=I.bM.fresh (aaA s.heap.objs.size)
 have rv:Vals (kvs.map fun kv=>kV kv.1) jK.toList:=gP (by have:=ya.1;simp;omega) fun i a b e1 e2=>by
  rw [aaa] at e1;obtain ⟨kv,ek,rfl⟩:=aaB.mp e1;obtain ⟨q',eq,e3,_⟩:=aA rel ek;obtain ⟨k,x,e4,e5⟩:=ya.2 i b (by simpa using e2);rw [eq] at e4;cases e4;rw [e3];exact vD e5
 have I2:Inv X pins σ (upd H s.heap.objs.size (.lst (kvs.map fun kv=>kV kv.1))) {s with heap:=h',toks:=tk}:=I.laid (t':=tk) kk (aaA _) ⟨by rw [ir];exact z,jK.toList,c',rv,by simpa using hS⟩;exact ⟨.ref _,_,I2,rfl,q _ hn'⟩
def Inv.freeze {σ:L2.St}(I:Inv X pins σ H s)(e:H d=some (.dK kvs))(ho:s.heap.get? d=some o):Inv X pins σ (upd H d (.fB o (.dK kvs))) s:=by
 have nx:∀b u,H b=some u->b≠d->upd H d (.fB o (.dK kvs)) b=some u:=fun b u q n=>by rw [aj n];exact q
 refine I.step (g':=s.gens) (t':=s.toks) (d':=s.drawn) (ch:=[]) (fun _ z=>nomatch z) (fun b o _ _ _ e _=>e) (fun b o _ _ _ e _=>⟨o.slots,e⟩) (fun b o _ _ n=>by rw [aj (fun z=>by rw [z,e] at n;cases n)];exact n) (fun b o _ e=>⟨o,e⟩)
  (fun b xs q=>nx b _ q fun z=>by rw [z,e] at q;cases q) (fun b o' u q=>nx b _ q fun z=>by rw [z,e] at q;cases q) (fun b ps q=>⟨#[],by rw [nx b _ q fun z=>by rw [z,e] at q;cases q];simp⟩) (fun m hm=>hm) (fun b u q=>?_) I.bare
 by_cases hb:b=d
 ·subst hb
  rw [ah] at q;cases q;exact ⟨ho,I.bM b _ e⟩
 ·rw [aj hb] at q
  exact (I.bM b u q).u5 (fun _ _ _ k=>k) (fun c k=>nx c _ k fun z=>by rw [z,e] at k;cases k) fun c xs k=>nx c _ k fun z=>by rw [z,e] at k;cases k
def YI (d:abA)(o:Obj)(kvs:γ):It:=
 ⟨fun i H=>H d=some (.fB o (.dK kvs))/\i<kvs.length,
  fun i H v H'=>∃p k x,kvs[i]?=some (k,x)/\v=.ref p/\H p=none/\H'=upd H p (.tup [kV k,x]),
  fun i H=>H d=some (.fB o (.dK kvs))/\kvs.length<=i⟩
def nJ (ok:kH P w H h)(e:H d=some (.fB o (.dK kvs)))(he:o.data=.dict Ti ep):
  (d==ab7)=false/\∃vs,KV kvs vs/\h.DictAt (bF P w) d vs ep/\kvs.length<=abE:=by
 obtain ⟨h1,z,hd,vs,rel,o',es,DL,ho,hx,jL,hk,hp,hn⟩:=ok d _ e;rw [h1] at ho;cases ho;rw [he] at jL;cases jL;exact ⟨hd,vs,rel,⟨o,Ti,h1,hx,he,hk,hp,hn⟩,z⟩
def nK:entryFor table "dict_itemiterator.__iter__"=some Builtin.«dict_keyiterator.__iter__»:=
 entryFor_alias (id':="dict_keyiterator.__iter__") (by kernel_rfl) (by first|rfl|decide+kernel|(unfold String.splitOn;simp+decide [String.splitOnAux])) (by decide+kernel) (by kernel_rfl)
def AX {E:δ}{Q:δ}(st:IsItemIter s.heap it d i n ep ok ov)(h:Q (.ref it) s):abG (abK P w) A (pyIter (.ref it)) Q E s:=by
 have hT:s.TypeIs (.ref it) "dict_itemiterator":=⟨_,st,rfl⟩;refine wpAny_pyIter_slot hT F.slot_dict_itemiterator_iter (acp F.slot_dict_itemiterator_iter hT nK ?_ (F.args_dict_itemiterator_iter_1 _));show abG _ _ (ret (.ref it)) _ _ s;exact abF ⟨_,rfl,"dict_itemiterator",_,hT,F.slot_dict_itemiterator_next.lookup,h⟩
def AY {K:Frag}{es:Ζ}(d it:abA)(o:Obj)(kvs:γ)(he:o.data=.dict Ti ep)(Le:it≠d):
  Turn P w K (.Tuple es k pos) (YI d o kvs) [it] it (fun i h=>∃ok ov,IsItemIter h it d i kvs.length ep ok ov) where
 mem:=by simp
 obj:=fun i h st b hb=>by
  have e:b=it:=by simpa using hb
  subst e;obtain ⟨ok,ov,st⟩:=st;exact ⟨_,st,fun v z=>by cases z⟩
 keep:=fun i h h' st k=>by
  obtain ⟨ok,ov,st⟩:=st;exact ⟨ok,ov,k it (by simp) _ st⟩
 item:=by
  intro X hP hw hK hc i pins s σ H E I hf st hg;subst hP hw hK;obtain ⟨ok,ov,st⟩:=st;obtain ⟨fz,hi⟩:=hg;obtain ⟨hd,vs,rel,da,_⟩:=nJ I.bM fz he;have ek:kvs[i]?=some kvs[i]:=gE hi;obtain ⟨⟨k',u⟩,ev,e1,ru⟩:=aA rel ek;have lv:=rel.length;rw [lv] at st;refine wpAny_pyNext_items_item st da ev fun key h' xJ out tup sz kk=>?_;refine ⟨_,rfl,wpAny_letOwnedTupleGo_items (s:={s with heap:=h'}) out fun EF agi sb=>?_⟩;have hsz:∀c o,s.heap.get? c=some o->s.heap.objs.size≠c:=fun c o e=>afz (abJ e);have tz:s.heap.objs.size≠it:=hsz _ _ st;have nz:∀c,c≠it->∀o,h'.get? c=some o->EF.get? c=some o:=fun c hc o e=>(sb.2 c hc).trans e;have hn:=I.bM.fresh (aaA s.heap.objs.size);have HN :kvs[i].1=k':=e1
  have I2:Inv X pins σ (upd H s.heap.objs.size (.tup [kV kvs[i].1,kvs[i].2])) {s with heap:=EF,toks:=s.toks}:=
   Inv.qk I (fun b o hb e=>nz b (by simpa using hb) o (kk b o (by simpa using hb) e)) hf (aaA _) (by show 2<=abE;decide) (its:=[key,u]) (.cons (by rw [HN];exact vD xJ) (.cons ru .nil)) ⟨_,nz _ tz _ tup,rfl,_,rfl⟩
  refine ⟨.ref s.heap.objs.size,_,I2,rfl,⟨s.heap.objs.size,kvs[i].1,kvs[i].2,ek,rfl,hn,rfl⟩,⟨_,_,by rw [lv];exact agi⟩,fun b hb=>?_⟩;have eb:b=it:=by simpa using hb
  rw [aj (by rw [eb];exact aeD tz)];exact (hf b hb).1
 done:=by
  intro X hP hw hK hc i pins s σ H E I hf st hg;subst hP hw hK;obtain ⟨ok,ov,st⟩:=st;obtain ⟨fz,hi⟩:=hg;obtain ⟨hd,vs,rel,da,_⟩:=nJ I.bM fz he;have lv:=rel.length;rw [lv] at st;obtain ⟨f0,f1,f2,f3,f4,f5⟩:=hf it (by simp);exact wpAny_pyNext_items_end (I.ok.hd hc) st da (aaz (by omega)) fun h' eb=>⟨rfl,I.turned (t':=s.toks) (fun b o hb e=>eb b o hb e) f0 f1 f3 f4 f5⟩
 self:=fun _ _ _ _ _ st h=>by
  obtain ⟨ok,ov,st⟩:=st;exact AX st h
inductive EI (R:(It->Hp->Prop))(x:V)(H1:Hp):Prop
|mk (d kvs:_)(_:x=.ref d)(_:H1 d=some (.dK kvs))(_:∀o,R (YI d o kvs) (upd H1 d (.fB o (.dK kvs))))
def Vg (te:TE):TI:=fun σ H R=>te σ H fun x H1=>EI R x H1
def mz {apos eJ:Pos}{es:Ζ}{k:Nat}{vd:Pos}(ho:PE X e te)(xR:acR e "items" X.env (abW e X.env)=abW e X.env:=by rfl)(xS:(apos.endLine==eJ.line)=true:=by rfl):
  PI X (.Tuple es k vd) (.Call (.Attribute e "items" apos) [] [] eJ) (Vg te):=by
 intro pins s σ H R I h;refine wpAny_Call_method0_late xR xS (cF (ho pins s σ H _ I h) fun v s1 ⟨x,H1,I1,r1,q1⟩=>?_);obtain ⟨d,kvs,rfl,e,q⟩:=q1;cases r1;obtain ⟨z,hd,vs,rel,o,YJ,ep,OV,hx,jL,hk,hp,hn⟩:=mw I1.bM e;obtain ⟨h1,h2⟩:=L_ (T:="dict") I1 (show RelV (.ref d) (.ref d) from rfl) (.inr (.inr (.inl ⟨rfl,.inl ⟨kvs,e⟩⟩)));have da:s1.heap.DictAt (bF X.prog X.w) d vs ep:=⟨o,YJ,OV,hx,jL,hk,hp,hn⟩;have lv:=rel.length;refine ⟨"dict","dict.items",F.plainAttrs_dict,F.slot_dict_items,F.type_dict_items,h1,h2,acC rfl (PySem.evalArgs_none ?_)⟩;refine aiM F.slot_dict_items h1 F.entry_dict_items (F.args_dict_items_1 _) (meets_dict_items (bF X.prog X.w) d hd) ⟨⟨vs,da.dictOf⟩,?_⟩;have I2:=Inv.freeze I1 e OV;have da2:(s1.heap.push {cls:=.type "dict_items",data:=.fields #[.ref d]}).DictAt (bF X.prog X.w) d vs ep:=da.at' fun o e=>abD _ e;show abG (abK X.prog X.w) X.A (pyIter (.ref s1.heap.objs.size)) _ _ _;refine wpAny_pyIter_items (s:={s1 with heap:=s1.heap.push {cls:=.type "dict_items",data:=.fields #[.ref d]}}) ⟨_,abN _ rfl,rfl,rfl⟩ da2 ?_;have sz:(s1.heap.push {cls:=.type "dict_items",data:=.fields #[.ref d]}).objs.size=s1.heap.objs.size+1:=acf ..
 have ne:(s1.heap.push {cls:=.type "dict_items",data:=.fields #[.ref d]}).objs.size≠d:=by
  rw [sz];exact aeD (aew (age (abJ OV)))
 have I3:Inv X pins σ (upd H1 d (.fB o (.dK kvs))) {s1 with heap:=(s1.heap.push {cls:=.type "dict_items",data:=.fields #[.ref d]}).push {cls:=.type "dict_itemiterator",data:=.fields #[.none,.bool false,.ref d,.int 0 0,.int vs.length 0,.int ep 0,.none,.none]}}:=I2.kept (t':=s1.toks) fun b o e=>abD _ (abD _ e);refine ⟨_,[_],_,_,_,rfl,I3,AY d _ o kvs jL ne,⟨_,_,by rw [lv];exact abN _ rfl⟩,fun b hb=>?_,q o⟩;have eb:b=(s1.heap.push {cls:=.type "dict_items",data:=.fields #[.ref d]}).objs.size:=by simpa using hb
 have le:s1.heap.objs.size<=b:=by rw [eb,sz];exact an1 _
 exact I2.m_ le (I2.bM.fresh le)
end
end Ty
namespace Ty
noncomputable def ev:List Int->(Nat->Rat)->Rat
 | [],_=>0
 | a::r,z=>(a:Rat)*z 0+ev r (fun i=>z (i+1))
theorem My:∀(l:ξ)(z y:Nat->Rat),ev l (fun i=>z i+y i)=ev l z+ev l y
 | [],_,_=>by simp [ev];grind
 | a::r,z,y=>by
  simp only [ev];rw [My r (fun i=>z (i+1)) (fun i=>y (i+1))];grind
theorem vE:∀(l:ξ)(z:Nat->Rat),(∀j,((l.getD j 0:Int):Rat)*z j=0)->ev l z=0
 | [],_,_=>rfl
 | a::r,z,h=>by
  have h0:=h 0;have ih:=vE r (fun i=>z (i+1)) (fun j=>by simpa using h (j+1));simp only [ev];rw [ih];simp at h0;grind
theorem vF:∀(l:ξ)(z:Nat->Rat)(p:Nat),(∀j,j≠p->((l.getD j 0:Int):Rat)*z j=0)->ev l z=((l.getD p 0:Int):Rat)*z p
 | [],_,_,_=>by simp [ev]
 | a::r,z,0,h=>by
  have ih:=vE r (fun i=>z (i+1)) (fun j=>by simpa using h (j+1) (by omega));simp only [ev];rw [ih];simp;grind
 | a::r,z,p+1,h=>by
  have h0:=h 0 (by omega);have ih:=vF r (fun i=>z (i+1)) p (fun j hj=>by simpa using h (j+1) (by omega));simp only [ev];rw [ih];simp at h0;simp;grind
theorem Mz :∀{new line lead:ξ},new.length=line.length->lead.length=line.length->(∀j,s*new.getD j 0=t*line.getD j 0-u*lead.getD j 0)->∀z:Nat->Rat,(s:Rat)*ev new z=t*ev line z-u*ev lead z
 | [],[],[],_,_,_,z=>by simp [ev];grind
 | a::new,b::line,c::lead,h1,h2,h,z=>by
  have h0:=h 0;have ih:=Mz (by simpa using h1) (by simpa using h2) (fun j=>by simpa using h (j+1)) (fun i=>z (i+1));simp at h0;have h0':(s:Rat)*a=t*b-u*c:=by exact_mod_cast h0
  simp only [ev];grind
 | [],_::_,_,h,_,_,_=>by simp at h
 | _::_,[],_,h,_,_,_=>by simp at h
 | _,[],_::_,_,h,_,_=>by simp at h
 | _,_::_,[],_,h,_,_=>by simp at h
noncomputable def fG:List Rat->List (List Int)->Nat->Rat
 | c::y,o::os,j=>c*((o.getD j 0:Int):Rat)+fG y os j
 | _,_,_=>0
theorem yb (hs:s≠0)(j:Nat):∀(os:η)(y1 y2:Ι),y1.length=os.length->y2.length=os.length->s*fG (aeU (fun a b=>(t*a-u*b) / s) y1 y2) os j=t*fG y1 os j-u*fG y2 os j
 | [],[],[],_,_=>by simp [fG];grind
 | o::os,a::y1,b::y2,h1,h2=>by
  have ih:=yb (t:=t) (u:=u) hs j os y1 y2 (by simpa using h1) (by simpa using h2);simp only [ahC,fG];grind
 | [],_::_,_,h,_=>by simp at h
 | [],[],_::_,_,h=>by simp at h
 | _::_,[],_,h,_=>by simp at h
 | _::_,_::_,[],_,h=>by simp at h
theorem uF (j:Nat):∀(os:η),fG (ac_ os.length 0) os j=0
 | []=>rfl
 | o::os=>by
  simp only [aey,aff,fG];rw [uF j os];grind
def nN (os:η)(l:ξ):Prop:=∃y:List Rat,y.length=os.length/\∀j,((l.getD j 0:Int):Rat)=fG y os j
theorem yc:∀{os:η} {l:ξ},l∈os->nN os l
 | o::os,l,h=>by
  rcases aes.mp h with z|z
  ·subst z
   refine ⟨1::ac_ os.length 0,by simp,fun j=>?_⟩;simp only [fG];rw [uF];grind
  ·obtain ⟨y,hl,hy⟩:=yc z
   refine ⟨0::y,by simp [hl],fun j=>?_⟩;simp only [fG];rw [<-hy j];grind
def MA (hs:s≠0)(h:∀j,s*new.getD j 0=t*line.getD j 0-u*lead.getD j 0)(h1:nN os line)(h2:nN os lead):nN os new:=by
 obtain ⟨y1,l1,e1⟩:=h1;obtain ⟨y2,l2,e2⟩:=h2;have Tb :=dD hs;refine ⟨aeU (fun a b=>((t:Rat)*a-u*b) / s) y1 y2,by simp [l1,l2],fun j=>?_⟩;have k:=yb (t:=(t:Rat)) (u:=(u:Rat)) Tb j os y1 y2 l1 l2;rw [<-e1 j,<-e2 j] at k;have h':(s:Rat)*(new.getD j 0:Int)=t*(line.getD j 0:Int)-u*(lead.getD j 0:Int):=by exact_mod_cast h j
 rw [<-h'] at k;grind
def oO (y:Ι):Nat->Rat:=fun i=>if i<y.length then y.getD i 0 else -1
theorem AZ (j:Nat)(c:Int):∀(os:η)(y:Ι),y.length=os.length->ev (os.map (fun o=>o.getD j 0)++[c]) (oO y)=fG y os j-c
 | [],[],_=>by simp [ev,oO,fG];grind
 | o::os,a::y,h=>by
  have ih:=AZ j c os y (by simpa using h)
  have ez:(fun i=>oO (a::y) (i+1))=oO y:=by
   funext i;simp [oO]
  simp only [aaw,agg,ev,fG];rw [ez,ih];simp [oO];grind
 | [],_::_,h=>by simp at h
 | _::_,[],h=>by simp at h
theorem ra (k:Rat)(j:Nat):∀(os:η)(y:Ι),fG (y.map (fun a=>a*k)) os j=fG y os j*k
 | [],_=>by cases ‹List Rat› <;> simp [fG]<;>grind
 | _::_,[]=>by simp [fG]
 | o::os,a::y=>by
  simp only [aaw,fG];rw [ra k j os y];grind
structure sV (line lead new:ξ)(c:Nat):Prop where
 len:new.length=line.length
 MD:new.getD c 0=0
 OW:∃s t u:Int,s≠0/\t≠0/\∀j,s*new.getD j 0=t*line.getD j 0-u*lead.getD j 0
def sV.zero (h:sV line lead new c)(h1:line.getD j 0=0)(h2:lead.getD j 0=0):new.getD j 0=0:=by
 obtain ⟨s,t,u,hs,_,e⟩:=h.OW;have:=e j;rw [h1,h2,agv,agv,Int.sub_self] at this
 rcases ahL.mp this with z|z
 ·exact abM z hs
 ·exact z
def sV.at (h:sV line lead new c)(h2:lead.getD j 0=0)(h1:line.getD j 0≠0):new.getD j 0≠0:=by
 obtain ⟨s,t,u,hs,ht,e⟩:=h.OW;have:=e j;rw [h2] at this;intro z;rw [z,agv,agv,Int.sub_zero] at this
 rcases ahL.mp this.symm with y|y
 ·exact ht y
 ·exact h1 y
def sV.comb (h:sV line lead new c)(h1:nN os line)(h2:nN os lead):nN os new:=by
 obtain ⟨s,t,u,hs,ht,e⟩:=h.OW;exact MA hs e h1 h2
def sV.ev (h:sV line lead new c)(hl:lead.length=line.length)(h2:Ty.ev lead z=0):Ty.ev new z=0 ↔ Ty.ev line z=0:=by
 obtain ⟨s,t,u,hs,ht,e⟩:=h.OW;have k:=Mz h.len hl e z;rw [h2] at k;have Tb :=dD hs;have ht':=dD ht;constructor
 ·intro w
  rw [w] at k;grind
 ·intro w
  rw [w] at k;grind
end Ty
namespace Ty
open PySem PySem.Spec PyProof.Rows L2
def YK (K:Frag)(a:abA):It:=
 ⟨fun i H=>∃xs x,aT K H a xs/\xs[i]?=some x,
  fun i H v H'=>∃p x,(∀xs,aT K H a xs->xs[i]?=some x)/\v=.ref p/\H p=none/\H'=upd H p (.tup [.int (i:Int),x]),
  fun i H=>∃xs,aT K H a xs/\xs.length<=i⟩
def H_ {K:Frag}{es:Ζ}(a e it:abA)(Le:e≠it):
  Turn P w K (.Tuple es k pos) (YK K a) [e,it] e (fun i h=>(∃old,IsEnum h e it ((i:Nat):Int) old)/\h.IsListIter it a i) where
 mem:=by simp
 obj:=fun i h st c hc=>by
  obtain ⟨⟨old,he⟩,⟨o1,e1,c1,d1⟩⟩:=st;have pH :c=e\/c=it:=by simpa using hc
  rcases pH with z|z<;>subst z
  ·exact ⟨_,he,fun v z=>by cases z⟩
  ·exact ⟨_,e1,fun v z=>by rw [d1] at z;cases z⟩
 keep:=fun i h h' st k=>by
  obtain ⟨⟨old,he⟩,h1⟩:=st;exact ⟨⟨old,k e (by simp) _ he⟩,h1.at fun o e=>k it (by simp) o e⟩
 item:=by
  intro X hP hw hK hc i pins s σ H E I hf st hg;subst hP hw hK;obtain ⟨⟨old,he⟩,h1⟩:=st;obtain ⟨xs,x,qx,ex⟩:=hg;obtain ⟨its,rv,p,_⟩:=I.list qx;obtain ⟨u,hu,ru⟩:=rv.get ex;refine wpAny_pyNext_enum_item he h1 p.isList (x:=u) (by simpa using hu) Le fun h' a1 a2 a3 a4 a5=>?_;refine ⟨_,rfl,wpAny_letOwnedTupleGo_enum (s:={s with heap:=h',toks:=s.toks+1}) a1 fun EF b1 sb=>?_⟩;have nz:∀c,c≠e->∀o,h'.get? c=some o->EF.get? c=some o:=fun c hc o q=>(sb.2 c hc).trans q
  have kk:∀b o,b∉[e,it]->s.heap.get? b=some o->EF.get? b=some o:=fun b o hb q=>by
   have ff :b≠e/\b≠it:=by simpa using hb
   exact nz b ff.1 o (a5 b o ff.1 ff.2 q)
  have sz:∀c o,s.heap.get? c=some o->s.heap.objs.size≠c:=fun c o q=>afz (abJ q);have tz:s.heap.objs.size≠e:=sz _ _ he;have hn:=I.bM.fresh (aaA s.heap.objs.size)
  have I2:Inv X pins σ (upd H s.heap.objs.size (.tup [.int (i:Int),x])) {s with heap:=EF,toks:=s.toks+1}:=
   Inv.qk I kk hf (aaA _) (by show 2<=abE;decide) (its:=[.int i s.toks,u]) (.cons ⟨_,rfl⟩ (.cons ru .nil)) ⟨_,nz _ tz _ a3,rfl,_,rfl⟩
  refine ⟨.ref s.heap.objs.size,_,I2,rfl,⟨s.heap.objs.size,x,fun xs' q=>by rw [I.iN q qx];exact ex,rfl,hn,rfl⟩,⟨⟨_,by exact b1⟩,a2.at fun o q=>nz _ (aeD Le) o q⟩,fun b hb=>?_⟩
  have ob:∃o,s.heap.get? b=some o:=by
   obtain ⟨o1,e1,_⟩:=h1;have pH :b=e\/b=it:=by simpa using hb
   rcases pH with z|z<;>subst z
   ·exact ⟨_,he⟩
   ·exact ⟨_,e1⟩
  obtain ⟨o,q⟩:=ob;rw [aj (aeD (sz _ _ q))];exact (hf b hb).1
 done:=by
  intro X hP hw hK hc i pins s σ H E I hf st hg;subst hP hw hK;obtain ⟨⟨old,he⟩,h1⟩:=st;obtain ⟨xs,qx,ee⟩:=hg;obtain ⟨its,rv,p,_⟩:=I.list qx;have l1:=rv.length;refine wpAny_pyNext_enum_end (I.ok.hd hc) he h1 p.isList (by simp;omega) fun h' kk=>⟨rfl,Inv.mm I (fun b o hb q=>?_) hf⟩;have ff :b≠e/\b≠it:=by simpa using hb
  exact kk b o ff.2 q
 self:=fun _ _ _ _ _ st h=>by
  obtain ⟨⟨old,he⟩,_⟩:=st;exact wpAny_pyIter_enum he h
def boot_enumerate:abZ "enumerate"=some (.type "enumerate"):=by decide+kernel
section
variable {X:Cx}
inductive MF (K:Frag)(R:(It->Hp->Prop))(vs:ζ)(H1:Hp):Prop
|mk (a:_)(_:vs=[.ref a])(_:(∃xs,aT K H1 a xs))(_:R (YK K a) H1)
def YL (K:Frag)(ta:TA):TI:=fun σ H R=>ta σ H fun vs H1=>MF K R vs H1
def EJ {es:Ζ}(hg:Gl X "enumerate")(hm:X.mg "enumerate"=none)(ha:PA X [e1] ta)(hs:abP [e1] X.env=[(false,abW e1 X.env)]:=by rfl):
  PI X (.Tuple es k vd) (.Call (.Name "enumerate" p) [e1] [] pos) (YL X.K ta):=by
 intro pins s σ H R I h;refine Call_ (i6 I hg hm boot_enumerate (ab8 (cF (ha pos pins s σ H _ I h) fun us s1 ⟨vs,H1,I1,r1,q1⟩=>?_) hs rfl));obtain ⟨a,e,⟨xs,hx⟩,q⟩:=q1;subst e;cases r1 with
 | cons r rr=>
  cases rr;cases r;obtain ⟨its,rv,pl,_⟩:=I1.list hx;refine call_enumerate_list pl.isList fun h' hE hI hsz hk=>wpAny_pyIter_enum (s:={s1 with heap:=h'}) hE ?_;refine ⟨s1.heap.objs.size+1,[s1.heap.objs.size+1,s1.heap.objs.size],_,_,H1,rfl,I1.kept (t':=s1.toks) hk,H_ a _ _ (Nat.succ_ne_self _),⟨⟨_,hE⟩,hI⟩,fun c hc=>?_,q⟩
  have pH :s1.heap.objs.size<=c:=by
   have:c=s1.heap.objs.size+1\/c=s1.heap.objs.size:=by simpa using hc
   simp only [abA] at*;omega
  exact I1.m_ pH (I1.bM.fresh pH)
def any_range (bs:List Bool):(aev bs.length).any (fun i=>(bs[i]?).getD true)=bs.any id:=by
 rw [afQ,agh,agh];constructor
 ·rintro ⟨i,hi,h⟩
  have YM :i<bs.length:=aeZ.mp hi;rw [gE YM] at h;exact ⟨bs[i],aeT YM,h⟩
 ·rintro ⟨b,hb,h⟩
  obtain ⟨i,hi⟩:=abh hb;exact ⟨i,aeZ.mpr (Wp.mp hi).1,by rw [hi];exact h⟩
inductive YN (K:Frag)(xs:ζ)(H:Hp)(Q:VK):Prop
|mk (p:abA)(bs:List Bool)(_:xs=[.ref p])(_:aT K H p (bs.map V.bl))(_:Q (.bl (bs.any id)) H)
def IA (hc:X.calm=true):ie X (.builtin "any") (YN X.K):=by
 intro pins s σ H xs us Q I r h;obtain ⟨p,bs,rfl,hq,q⟩:=h;obtain ⟨u,rfl,r1⟩:=vals1 r;cases r1;obtain ⟨its,rv,pl,hz⟩:=I.list hq;refine call_any_walk (aie pl.isList ?_);have Le:p≠s.heap.objs.size:=by obtain ⟨o,ho,_⟩:=pl.isList;exact aew (abJ ho)
 have I1:Inv X pins σ H {s with heap:=s.heap.push {cls:=.type "list_iterator",data:=.fields #[.ref p,.int 0 0]}}:=I.kept (t':=s.toks) fun b o e=>abD _ e;obtain ⟨f0,f1,f2,f3,f4,f5⟩:=I.m_ (H':=H) (aaA s.heap.objs.size) (I.bM.fresh (aaA _));have hl:its.length=bs.length:=by rw [<-rv.length,ir]
 refine ⟨s.heap.objs.size,_,_,_,_,_,fun i=>(bs[i]?).getD true,rfl,Walks.list (A:=X.A.in1) (I.ok.hd hc) s.heap.objs.size p Le its.toArray,⟨⟨_,abN _ rfl,rfl,rfl⟩,pl.isList.at fun o e=>abD _ e⟩,?_,fun h' tk kk=>?_⟩
 ·intro i v s' Q' E' hv m6
  have UI :its[i]?=some v:=by simpa using hv
  have hi:i<bs.length:=by rw [<-hl];exact (Wp.mp UI).1
  have eb:(bs.map V.bl)[i]?=some (.bl bs[i]):=by rw [aaa,gE hi];rfl
  obtain ⟨u,eu,ru⟩:=rv.get eb;rw [UI] at eu;cases eu;cases ru;dsimp only at m6;rw [gE hi] at m6;exact acJ m6
 ·refine ⟨.bl (bs.any id),H,I1.turned (t':=tk) (it:=s.heap.objs.size) (fun b o hb e=>kk b o (by simpa using hb) e) f0 f1 f3 f4 f5,?_,q⟩
  show _=_;rw [<-any_range bs,aeq,hl]
def YO:abZ "any"=some (.builtin "any"):=by decide+kernel
end
def yd {K:Frag}{g:TG}{tb:TS}{D:Ends}(Pv:Nat->L2.St->Hp->Prop)(h0:Pv 0 σ H)(hl:∀i σ H,i<=xs.length->Pv i σ H->aT K H a xs)
  (hs:∀i x σ H p,xs[i]?=some x->Pv i σ H->H p=none->g (.ref p) σ (upd H p (.tup [.int (i:Int),x])) fun σ2 H2=>tb {D with nx:=Pv (i+1),ct:=Pv (i+1),bk:=D.nx} σ2 H2) (hd:∀σ H,Pv xs.length σ H->D.nx σ H):
  ∃W:Nat->Nat->L2.St->Hp->Prop,(∃m,W 0 m σ H)/\∀i m σ H,W i m σ H->
   ((YK K a).stop i H/\D.nx σ H)\/((YK K a).go i H/\∃N:L2.St->Hp->Prop,(∀σ' H',N σ' H' ->∃m',m'<m/\W (i+1) m' σ' H')/\∀x H',(YK K a).DN i H x H' ->g x σ H' fun σ2 H2=>tb {D with nx:=N,ct:=N,bk:=D.nx} σ2 H2):=by
 refine ⟨fun i m σ H=>m=xs.length-i/\i<=xs.length/\Pv i σ H,⟨xs.length,by simp,aeF _,h0⟩,?_⟩;rintro i m σ H ⟨rfl,hi,p⟩;have q:=hl i σ H hi p;by_cases jB:i<xs.length
 ·have e:xs[i]?=some xs[i]:=gE jB
  refine .inr ⟨⟨xs,_,q,e⟩,Pv (i+1),fun σ' H' z=>⟨xs.length-(i+1),by omega,rfl,by omega,z⟩,fun x H' y=>?_⟩;obtain ⟨pp,x',y1,rfl,np,rfl⟩:=y;exact hs i x' σ H pp (y1 xs q) p np
 ·have e:i=xs.length:=by omega
  subst e;exact .inl ⟨⟨xs,q,aaA _⟩,hd σ H p⟩
def j0 {g:TG}{tb:TS}{D:Ends}(Pv:Nat->L2.St->Hp->Prop)(h0:Pv 0 σ H)(hl:∀i σ H,i<=kvs.length->Pv i σ H->H d=some (.fB o (.dK kvs)))
  (hs:∀i k x σ H p,kvs[i]?=some (k,x)->Pv i σ H->H p=none->g (.ref p) σ (upd H p (.tup [kV k,x])) fun σ2 H2=>tb {D with nx:=Pv (i+1),ct:=Pv (i+1),bk:=D.nx} σ2 H2) (hd:∀σ H,Pv kvs.length σ H->D.nx σ H):
  ∃W:Nat->Nat->L2.St->Hp->Prop,(∃m,W 0 m σ H)/\∀i m σ H,W i m σ H->
   ((YI d o kvs).stop i H/\D.nx σ H)\/((YI d o kvs).go i H/\∃N:L2.St->Hp->Prop,(∀σ' H',N σ' H' ->∃m',m'<m/\W (i+1) m' σ' H')/\∀x H',(YI d o kvs).DN i H x H' ->g x σ H' fun σ2 H2=>tb {D with nx:=N,ct:=N,bk:=D.nx} σ2 H2):=by
 refine ⟨fun i m σ H=>m=kvs.length-i/\i<=kvs.length/\Pv i σ H,⟨kvs.length,by simp,aeF _,h0⟩,?_⟩;rintro i m σ H ⟨rfl,hi,p⟩;have q:=hl i σ H hi p;by_cases jB:i<kvs.length
 ·refine .inr ⟨⟨q,jB⟩,Pv (i+1),fun σ' H' z=>⟨kvs.length-(i+1),by omega,rfl,by omega,z⟩,fun x H' y=>?_⟩
  obtain ⟨pp,k,x',y1,rfl,np,rfl⟩:=y;exact hs i k x' σ H pp y1 p np
 ·have e:i=kvs.length:=by omega
  subst e;exact .inl ⟨⟨q,aaA _⟩,hd σ H p⟩
open Builtin.Int (intBits)
section
variable {X:Cx}
def MG (i j:Int):Prop:=intBits i+intBits j<=134217728
def ig:jX X (acz .Mult) (rI MG fun i j=>.int (i*j)):=
 X2 fun _ _ _ _ _ _ _ hc q=>mul_int q (IntMulOk.of_le (aaA _) (aaA _) hc)
def f' (h1:a.natAbs<=2^m)(h2:b.natAbs<=2^n)(h:m+n<=134000000):MG a b:=by
 have x1:=jZ h1 (aeP m);have x2:=jZ h2 (aeP n);unfold MG;omega
inductive Tj (K:Frag)(xs:ζ)(H:Hp)(Q:VK):Prop
|mk (p ys:_)(_:xs=[.ref p,.ty "tuple"])(_:bQ K H p ys)(_:Q (.bl true) H)
def IC:ie X (.builtin "isinstance") (Tj X.K):=by
 intro pins s σ H xs us Q I r h;obtain ⟨p,ys,rfl,hq,q⟩:=h;obtain ⟨u,w,rfl,r1,r2⟩:=vals2 r;obtain rfl:=EA (c:=.ty "tuple") rfl r2;cases r1;obtain ⟨its,rv,⟨o,h1,h2,_⟩,_⟩:=I.tuple hq;have e:ab5 X.K (.type "tuple") (UQ (.ty "tuple"))=some true:=by unfold ab5;rw [abC (by decide)]
 exact acb PySem.W.kitx_tuple I.kN ⟨o,h1,h2⟩ e (fun z=>nomatch z) fun tk=>⟨.bl true,H,I.tok tk,rfl,q⟩
end
def ao.cQ {K:Frag}(e:ao H H')(h:bQ K H a xs):bQ K H' a xs:=by
 rcases h with (h|⟨o,h⟩)|h
 ·exact .inl (.inl (e _ _ h))
 ·exact .inl (.inr ⟨o,e _ _ h⟩)
 ·exact .inr h
section
variable {D:abA}{te:TE}{cap:L2.St}{H1:Hp}{Q:VK}
def ID {K:Frag}(Rel:Nat->V->Hp->Prop)(nD:H1 D=none)(hn:xs.length<abE)(hl:ys.length=xs.length)(hX:∀H,ao H1 H->aT K H a xs)(hY:∀H,ao H1 H->aT K H b ys)
  (hR:∀i v H H' ys,H D=some (.lst ys)->bw D H H' ->Rel i v H->Rel i v H')
  (he:∀i x y H (R:VK),xs[i]?=some x->ys[i]?=some y->ao H1 H->(∃ys,H D=some (.lst ys))->(∀v H6,ao H H6->Rel i v H6->R v H6)->te (some x::some y::cap) H R)
  (hd:∀zs H,zs.length=xs.length->(∀i v,zs[i]?=some v->Rel i v H)->ao H1 H->H D=some (.lst zs)->Q (.ref D) H):
  nC D (LK K 2 (xG (c_ 0) (xG (c_ 1) UC))) kr te (U6 K a b) (none::none::cap) H1 Q:=by
 refine ⟨fun i m σ zs H=>m=xs.length-i/\i<=xs.length/\(∃o o',σ=o::o'::cap)/\(zs.length=i/\(∀i v,zs[i]?=some v->Rel i v H)/\ao H1 H)/\H D=some (.lst zs),⟨xs.length,by simp,aeF _,⟨none,none,rfl⟩,⟨rfl,fun i v e=>by simp at e,fun b o e=>by rw [aj (ak e nD)];exact e⟩,ah⟩,?_⟩;rintro i m σ zs H ⟨rfl,hi,⟨o,o',rfl⟩,⟨l,r,s⟩,hD⟩;by_cases jB:i<xs.length
 ·have e1:xs[i]?=some xs[i]:=gE jB
  have e2:ys[i]?=some (ys[i]'(by omega)):=gE (by omega);refine .inr ⟨⟨xs,ys,_,_,hX H s,hY H s,e1,e2⟩,fun v H' y=>?_⟩;obtain ⟨p,x,y,q1,q2,rfl,np,rfl⟩:=y;have e1:=q1 xs (hX H s);have e2:=q2 ys (hY H s);have sp:ao H (upd H p (.tup [x,y])):=fun b o e=>by rw [aj (ak e np)];exact e
  refine ⟨p,_,rfl,bQ.of ah,rfl,_,_,rfl,_,_,rfl,rfl,?_⟩;unfold kr;dsimp only;rw [abC rfl];refine he i x y _ _ e1 e2 (fun b o e=>sp _ _ (s _ _ e)) ⟨zs,sp _ _ hD⟩ fun v H6 s6 rv=>⟨s6 _ _ (sp _ _ hD),by omega,xs.length-(i+1),by omega,rfl,by omega,⟨_,_,rfl⟩,⟨by simp [l],fun j u e=>?_,fun b o e=>?_⟩,ah⟩
  ·by_cases c:j<zs.length
   ·rw [aby c] at e
    have ru:=hR j u H H6 zs hD (bw.of fun b o q=>s6 _ _ (sp _ _ q)) (r j u e);exact hR j u H6 _ zs (s6 _ _ (sp _ _ hD)) bw.upd ru
   ·rw [abx (by omega)] at e
    have ej:j=i:=by
     by_cases z:j-zs.length=0
     ·omega
     ·rw [aaz (by simp;omega)] at e
      cases e
    subst ej
    have:v=u:=by
     rw [show j-zs.length=0 by omega] at e;exact aen e
    subst this;exact hR j v H6 _ zs (s6 _ _ (sp _ _ hD)) bw.upd rv
  ·rw [aj (ak e nD)]
   exact s6 _ _ (sp _ _ (s _ _ e))
 ·have e:i=xs.length:=by omega
  subst e;exact .inl ⟨⟨xs,ys,hX H s,hY H s,.inl (aaA _)⟩,hd zs H l r s hD⟩
end
def jw (K:Frag)(H:Hp)(v:V)(q:Int×Int):Prop:=∃p,v=.ref p/\bQ K H p [.int q.1,.int q.2]
def jw.same {K:Frag}(h:jw K H v q)(s:ao H H'):jw K H' v q:=by
 obtain ⟨p,e,k⟩:=h;exact ⟨p,e,Ty.ao.cQ s k⟩
def cH (K:Frag)(H:Hp)(us:ζ)(qs:ο):Prop:=us.length=qs.length/\∀(i:Nat)(u:V)(q:Int×Int),us[i]?=some u->qs[i]?=some q->jw K H u q
def cH.same {K:Frag}(h:cH K H us qs)(s:ao H H'):cH K H' us qs:=⟨h.1,fun i u q e1 e2=>(h.2 i u q e1 e2).same s⟩
def cH.at {K:Frag}(h:cH K H us qs){i:Nat}(e:us[i]?=some u):∃q,qs[i]?=some q/\jw K H u q:=by
 have hi:i<us.length:=(Wp.mp e).1;have hl:=h.1;have e2:qs[i]?=some (qs[i]'(by omega)):=gE (by omega);exact ⟨_,e2,h.2 i u _ e e2⟩
def cH.set {K:Frag}(h:cH K H us qs)(n:jw K H v q):cH K H (us.set j v) (qs.set j q):=by
 refine ⟨by simp [h.1],fun i u q' e1 e2=>?_⟩;rw [aeX] at e1 e2;by_cases c:j=i
 ·subst c
  rw [abC rfl] at e1 e2;have l:=h.1;by_cases hj:j<us.length
  ·rw [abC hj] at e1
   rw [abC (by omega)] at e2;cases e1;cases e2;exact n
  ·rw [abB hj] at e1
   cases e1
 ·rw [abB c] at e1 e2
  exact h.2 i u q' e1 e2
def agj (K:Frag)(H:Hp)(a:abA)(qs:ο):Prop:=∃us,aT K H a us/\cH K H us qs
noncomputable def sumTo:Nat->(Nat->Rat)->Rat
 | 0,_=>0
 | n+1,f=>f 0+sumTo n (fun i=>f (i+1))
theorem uG:∀(n:Nat)(f g:Nat->Rat),sumTo n (fun i=>f i+g i)=sumTo n f+sumTo n g
 | 0,_,_=>by simp [sumTo];grind
 | n+1,f,g=>by
  simp only [sumTo];rw [uG n (fun i=>f (i+1)) (fun i=>g (i+1))];grind
theorem uH (c:Rat):∀(n:Nat)(f:Nat->Rat),sumTo n (fun i=>c*f i)=c*sumTo n f
 | 0,_=>by simp [sumTo]
 | n+1,f=>by
  simp only [sumTo];rw [uH c n (fun i=>f (i+1))];grind
theorem i8:∀(n:Nat)(f:Nat->Rat),(∀i,f i=0)->sumTo n f=0
 | 0,_,_=>rfl
 | n+1,f,h=>by
  simp only [sumTo];rw [h 0,i8 n (fun i=>f (i+1)) (fun i=>h (i+1))];grind
theorem rf:∀(n:Nat)(l:ξ)(z:Nat->Rat),l.length<=n->ev l z=sumTo n (fun j=>((l.getD j 0:Int):Rat)*z j)
 | n,[],z,_=>by
  rw [i8 n _ (fun i=>by simp)];rfl
 | 0,_::_,_,h=>by simp at h
 | n+1,a::r,z,h=>by
  simp only [ev,sumTo];rw [rf n r (fun i=>z (i+1)) (by simpa using h)];simp
theorem EK (n:Nat)(z:Nat->Rat):∀(y:Ι)(os:η),(∀o∈os,o.length<=n)->(∀o∈os,ev o z=0)->sumTo n (fun j=>fG y os j*z j)=0
 | c::y,o::os,h1,h2=>by
  have ih:=EK n z y os (fun x hx=>h1 x (aax _ hx)) (fun x hx=>h2 x (aax _ hx));have e:=h2 o aa_;rw [rf n o z (h1 o aa_)] at e
  have k:(fun j=>fG (c::y) (o::os) j*z j)=fun j=>c*(((o.getD j 0:Int):Rat)*z j)+fG y os j*z j:=by
   funext j;simp only [fG];grind
  rw [k,uG,uH,e,ih];grind
 | [],os,_,_=>i8 n _ (fun j=>by cases os<;>simp [fG])
 | _::_,[],_,_=>i8 n _ (fun j=>by simp [fG])
def Qy {os:η}(h:nN os l)(hl:l.length<=n)(ho:∀o∈os,o.length<=n)(hz:∀o∈os,ev o z=0):ev l z=0:=by
 obtain ⟨y,_,e⟩:=h;rw [rf n l z hl,<-EK n z y os ho hz];congr 1;funext j;rw [e j]
theorem ye:∀{ts:ξ} {qs xs:ο} {d:Int×Int} {b:Int},oN ts (qs++[d]) b->xs.length=qs.length->ev ts (oO (xs.map vl))=(ib qs xs-vl d)*b
 | [],qs,xs,d,b,h,_=>by have:=h.1;simp at this
 | t::ts,[],[],d,b,h,_=>by
  have e:=h.2 0 t d rfl rfl;have l:=h.1;have:ts=[]:=by simpa using l
  subst this;simp [ev,oO,ib];rw [e];grind
 | t::ts,q::qs,x::xs,d,b,h,hl=>by
  have e:=h.2 0 t q rfl rfl;have ih:=ye (ts:=ts) (qs:=qs) (xs:=xs) (d:=d) (b:=b) h.tail (by simpa using hl)
  have ez:(fun i=>oO ((x::xs).map vl) (i+1))=oO (xs.map vl):=by
   funext i;simp [oO]
  simp only [ev];rw [ez,ih,e];have e0:oO ((x::xs).map vl) 0=vl x:=by simp [oO]
  have ed:ib (q::qs) (x::xs)=vl q*vl x+ib qs xs:=by simp [ib]
  rw [e0,ed];grind
 | _::_,[],_::_,_,_,_,hl=>by simp at hl
 | _::_,_::_,[],_,_,_,hl=>by simp at hl
section
variable {X:Cx}
inductive Tn (xs:ζ)(H:Hp)(Q:VK):Prop
|mk (p:abA)(kvs:γ)(_:xs=[.ref p])(_:Rd H p (.dK kvs))(_:Q (.int (kvs.length:Int)) H)
def nO:ie X (.builtin "len") Tn:=by
 intro pins s σ H xs us Q I r h;obtain ⟨p,kvs,rfl,hq,q⟩:=h;obtain ⟨u,rfl,r1⟩:=vals1 r;cases r1;exact YC I hq fun t s' I'=>⟨.int _,H,I',⟨t,rfl⟩,q⟩
end
section
variable {X:Cx}
def Inv.YQ {σ:L2.St}(I:Inv X pins σ H s)(e:H d=some (.fB o u))(n:∀o' u',X.H₀ d≠some (.fB o' u'))(nt:∀xs,u≠.tup xs):Inv X pins σ (upd H d u) s:=by
 have nx:∀b u',H b=some u' ->b≠d->upd H d u b=some u':=fun b u q n=>by rw [aj n];exact q
 have nn:∀b,H b=none->upd H d u b=none:=fun b q=>by rw [aj (fun z=>by rw [z,e] at q;cases q)];exact q
 refine ⟨I.ok,I.os,I.bare,⟨I.base.keep,I.base.slot,fun b ob q z hx=>nn b (I.base.free b ob q z hx),I.base.there,fun b xs q=>?_,fun b ob u' q=>?_,fun b ps q=>?_⟩,I.loc,I.cell,nn _ I.free,fun x c q=>nn _ (I.iM x c q),fun p hp=>?_,?_,I.len⟩
 ·have z:=I.base.u6 b xs q
  exact nx b _ z fun y=>by rw [y,e] at z;cases z
 ·have z:=I.base.s_ b ob u' q
  exact nx b _ z fun y=>by rw [y] at q;exact n _ _ q
 ·obtain ⟨m,z⟩:=I.base.u9 b ps q
  exact ⟨m,nx b _ z fun y=>by rw [y,e] at z;cases z⟩
 ·obtain ⟨a1,a2,a3⟩:=I.pin p hp
  exact ⟨a1,nn _ a2,a3⟩
 ·have st:∀{b u'},cZ X.prog X.w H s.heap b u' ->cZ X.prog X.w (upd H d u) s.heap b u':=fun {b u'} k=>k.u5 (fun _ _ _ z=>z) (fun c z=>nx c _ z fun y=>by rw [y,e] at z;cases z) fun c xs z=>nx c _ z fun y=>by rw [y,e] at z;cases z
  intro b u' q;by_cases hb:b=d
  ·subst hb
   rw [ah] at q;cases q;exact st (I.bM b _ e).2
  ·rw [aj hb] at q
   exact st (I.bM b u' q)
def YR (H0:Hp)(t:TS):TS:=fun D σ H=>t {D with nx:=fun σ' H'=>∃d o kvs,H' d=some (.fB o (.dK kvs))/\(∀o' u',H0 d≠some (.fB o' u'))/\D.nx σ' (upd H' d (.dK kvs))} σ H
def j6 {st:Stmt}(h:PS X st t):PS X st (YR X.H₀ t):=by
 intro pins s σ H D I q;refine ab4 (h pins s σ H _ I q) (fun f s' z=>?_) fun _ _ z=>z;cases f with
 | next=>
  obtain ⟨σ',H',I',d,o,kvs,e,n,k⟩:=z;exact ⟨σ',_,Inv.YQ I' e n (fun _ z=>nomatch z),k⟩
 | brk=>exact z
 | cont=>exact z
 | ret u=>exact z
def YS (d:abA)(o:Obj)(kvs:γ):It:=
 ⟨fun i H=>H d=some (.fB o (.dK kvs))/\i<kvs.length,
  fun i H v H'=>H'=H/\∃k x,kvs[i]?=some (k,x)/\v=kV k,
  fun i H=>H d=some (.fB o (.dK kvs))/\kvs.length<=i⟩
def IE {K:Frag}(d it:abA)(o:Obj)(kvs:γ)(he:o.data=.dict Ti ep):
  Turn P w K tg (YS d o kvs) [it] it (fun i h=>h.IsKeyIter it d i kvs.length ep) where
 mem:=by simp
 obj:=fun i h st b hb=>by
  have e:b=it:=by simpa using hb
  subst e;obtain ⟨o,e,c,d⟩:=st;exact ⟨o,e,fun v z=>by rw [d] at z;cases z⟩
 keep:=fun i h h' st k=>st.at fun o e=>k it (by simp) o e
 item:=by
  intro X hP hw hK hc i pins s σ H E I hf st hg;subst hP hw hK;obtain ⟨fz,hi⟩:=hg;obtain ⟨hd,vs,rel,da,_⟩:=nJ I.bM fz he;have ek:kvs[i]?=some kvs[i]:=gE hi;obtain ⟨⟨k',u⟩,ev,e1,ru⟩:=aA rel ek;have lv:=rel.length;rw [lv] at st;obtain ⟨f0,f1,f2,f3,f4,f5⟩:=hf it (by simp);refine wpAny_pyNext_dict_item st da ev fun key h' xJ DP sb=>?_;have I1:Inv X pins σ H {s with heap:=h'}:=I.turned (t':=s.toks) (fun b o hb e=>(sb.2 b hb).trans e) f0 f1 f3 f4 f5;rw [<-lv] at DP;obtain ⟨o',e',c',d'⟩:=id DP;have HN :kvs[i].1=k':=e1;exact ⟨key,rfl,DO (s:={s with heap:=h'}) e' c' d' (by decide) ⟨kV kvs[i].1,H,I1,by rw [HN];exact vD xJ,⟨rfl,kvs[i].1,kvs[i].2,ek,rfl⟩,DP,fun b hb=>(hf b hb).1⟩⟩
 done:=by
  intro X hP hw hK hc i pins s σ H E I hf st hg;subst hP hw hK;obtain ⟨fz,hi⟩:=hg;obtain ⟨hd,vs,rel,da,_⟩:=nJ I.bM fz he;have lv:=rel.length;rw [lv] at st;obtain ⟨f0,f1,f2,f3,f4,f5⟩:=hf it (by simp);exact wpAny_pyNext_dict_end (I.ok.hd hc) st da (aaz (by omega)) fun h' eb=>⟨rfl,I.turned (t':=s.toks) (fun b o hb e=>eb b o hb e) f0 f1 f3 f4 f5⟩
 self:=fun _ _ _ _ _ st h=>wpAny_pyIter_keyiter st h
inductive MI (R:(It->Hp->Prop))(x:V)(H1:Hp):Prop
|mk (d kvs:_)(_:x=.ref d)(_:H1 d=some (.dK kvs))(_:∀o,R (YS d o kvs) (upd H1 d (.fB o (.dK kvs))))
def YT (te:TE):TI:=fun σ H R=>te σ H fun x H1=>MI R x H1
def EL (ho:PE X e te):PI X tg e (YT te):=by
 intro pins s σ H R I h;refine cF (ho pins s σ H _ I h) fun v s1 ⟨x,H1,I1,r1,q1⟩=>?_;obtain ⟨d,kvs,rfl,e,q⟩:=q1;cases r1;obtain ⟨z,hd,vs,rel,o,YJ,ep,OV,hx,jL,hk,hp,hn⟩:=mw I1.bM e;have da:s1.heap.DictAt (bF X.prog X.w) d vs ep:=⟨o,YJ,OV,hx,jL,hk,hp,hn⟩;have lv:=rel.length;have I2:=Inv.freeze I1 e OV;refine wpAny_pyIter_dict hd da ?_;have I3:Inv X pins σ (upd H1 d (.fB o (.dK kvs))) {s1 with heap:=s1.heap.push {cls:=.type "dict_keyiterator",data:=.fields #[.ref d,.int 0 0,.int vs.length 0,.int ep 0]}}:=I2.kept (t':=s1.toks) fun b o e=>abD _ e;refine ⟨s1.heap.objs.size,[s1.heap.objs.size],_,_,_,rfl,I3,IE d _ o kvs jL,(show Heap.IsKeyIter _ _ d 0 kvs.length ep from ⟨_,abN _ rfl,rfl,by rw [lv];rfl⟩),fun b hb=>?_,q o⟩;have eb:b=s1.heap.objs.size:=by simpa using hb
 have le:s1.heap.objs.size<=b:=by rw [eb];exact aaA _
 exact I2.m_ le (I2.bM.fresh le)
def yf {g:TG}{tb:TS}{D:Ends}(Pv:Nat->L2.St->Hp->Prop)(h0:Pv 0 σ H)(hl:∀i σ H,i<=kvs.length->Pv i σ H->H d=some (.fB o (.dK kvs)))
  (hs:∀i k x σ H,kvs[i]?=some (k,x)->Pv i σ H->g (kV k) σ H fun σ2 H2=>tb {D with nx:=Pv (i+1),ct:=Pv (i+1),bk:=D.nx} σ2 H2) (hd:∀σ H,Pv kvs.length σ H->D.nx σ H):
  ∃W:Nat->Nat->L2.St->Hp->Prop,(∃m,W 0 m σ H)/\∀i m σ H,W i m σ H->
   ((YS d o kvs).stop i H/\D.nx σ H)\/((YS d o kvs).go i H/\∃N:L2.St->Hp->Prop,(∀σ' H',N σ' H' ->∃m',m'<m/\W (i+1) m' σ' H')/\∀x H',(YS d o kvs).DN i H x H' ->g x σ H' fun σ2 H2=>tb {D with nx:=N,ct:=N,bk:=D.nx} σ2 H2):=by
 refine ⟨fun i m σ H=>m=kvs.length-i/\i<=kvs.length/\Pv i σ H,⟨kvs.length,by simp,aeF _,h0⟩,?_⟩;rintro i m σ H ⟨rfl,hi,p⟩;have q:=hl i σ H hi p;by_cases jB:i<kvs.length
 ·refine .inr ⟨⟨q,jB⟩,Pv (i+1),fun σ' H' z=>⟨kvs.length-(i+1),by omega,rfl,by omega,z⟩,fun x H' y=>?_⟩
  obtain ⟨rfl,k,x',ek,rfl⟩:=y;exact hs i k x' σ _ ek p
 ·have e:i=kvs.length:=by omega
  subst e;exact .inl ⟨⟨q,aaA _⟩,hd σ H p⟩
inductive MJ (xs:ζ)(H:Hp)(Q:VK):Prop
|mk (p:abA)(kvs:γ)(_:xs=[.ref p])(_:Rd H p (.dK kvs))(_:∀l,H l=none->Q (.ref l) (upd H l (.dK kvs)))
def i9:ie X (.type "dict") MJ:=by
 intro pins s σ H vs us Q I r h;obtain ⟨p,kvs,rfl,e,q⟩:=h;obtain ⟨u,rfl⟩:∃u,us=[u]:=by cases r with|cons h t=>cases t;exact ⟨_,rfl⟩
 cases r with
 | cons h _=>
 cases h;obtain ⟨z,hd,vs,rel,dd⟩:=jn I.bM e;have hn:=I.bM.fresh (aaA s.heap.objs.size);refine kt_call_dict hd dd (by rw [<-rel.length];exact z) fun h' Lf sb=>?_;have kk:∀b o,s.heap.get? b=some o->h'.get? b=some o:=fun b o eb=>(sb.2 b (fun z=>abM (abJ eb) (by rw [z];exact aeY _))).trans (abD _ eb);have I2:Inv X pins σ (upd H s.heap.objs.size (.dK kvs)) {s with heap:=h',toks:=s.toks}:=I.laid (t':=s.toks) kk (aaA _) (qW z (beq_eq_false_iff_ne.mpr (aeD (aew I.big))) rel Lf);exact ⟨.ref _,_,I2,rfl,q _ hn⟩
end
section
variable {prog:abQ}{w:World}{KK:Type}[DecidableEq KK]{knd:KeyKind prog w KK}{A:abV}{E:δ}{s:abH}
def pO (ha:(a==ab7)=false)(hb:(b==ab7)=false)(da:s.heap.DictOf knd a vs)(db:s.heap.DictOf knd b ws)
  (hk:vs.map (·.1)=ws.map (·.1)) (he:∀(i:Nat)(x y:KK×Value),vs[i]?=some x->ws[i]?=some y->ad5 A s x.2 y.2 true) (h:Q true s):abG (abK prog w) A (Builtin.Dict.samePairs nm a b) Q E s:=by
 obtain ⟨oa,ea,pa,hoa,hca,hda,hka,hpa,hna⟩:=id da;obtain ⟨ob,eb,pb,hob,hcb,tw,hkb,hpb,hnb⟩:=id db;have la:ea.size=vs.length:=by rw [<-hpa.length];simp
 have lb:eb.size=ws.length:=by rw [<-hpb.length];simp
 have lvw:vs.length=ws.length:=by have:=abR afb hk;simpa using this
 unfold Builtin.Dict.samePairs Builtin.Dict.showsAll;rw [abB (by rw [ha];exact aem),abB (by rw [hb];exact aem)];refine abz (abF (abz (abF ?_)));refine abz (acM hoa hda ?_);refine abz (acM hob tw ?_);rw [abB (by rw [la,lb,lvw];simp)];refine abz (aiP hoa hda ?_);refine abz ?_;rw [ahV];simp only [aoB,Nat.sub_zero,Nat.add_sub_cancel,Nat.div_one];refine wpAny_forIn_list _ (fun rest r s'=>r=⟨none,PUnit.unit⟩/\s'=s/\∃i,rest=List.range' i (ea.size-i)/\i<=ea.size) _ ?_ ?_ _ _ ⟨rfl,rfl,0,by simp,aeF _⟩
 ·rintro x rest r s' ⟨rfl,rfl,i,hr,hi⟩
  have jB:i<ea.size:=by
   rcases Nat.lt_or_ge i ea.size with h|h
   ·exact h
   ·rw [Nat.sub_eq_zero_of_le h] at hr;simp at hr
  obtain ⟨rfl,rg⟩:x=i/\rest=List.range' (i+1) (ea.size-(i+1)):=by
   have e:ea.size-i=(ea.size-(i+1))+1:=by omega
   rw [e,List.range'_succ] at hr;injection hr with h1 h2
   exact ⟨h1,h2⟩
  have hlb:x<eb.size:=by omega
  obtain ⟨kv,MK⟩:∃kv,vs[x]?=some kv:=⟨vs[x]'(by omega),gE _⟩;obtain ⟨kw,hkw⟩:∃kw,ws[x]?=some kw:=⟨ws[x]'(by omega),gE _⟩;obtain ⟨k,v⟩:=kv;obtain ⟨k2,v2⟩:=kw
  obtain rfl:k=k2:=by
   have e1:(vs.map (·.1))[x]?=some k:=by rw [aaa,MK];rfl
   have e2:(ws.map (·.1))[x]?=some k2:=by rw [aaa,hkw];rfl
   rw [hk,e2] at e1;injection e1 with e1
   exact e1.symm
  obtain ⟨xJ,agp⟩:=hpa.get? (e:=ea[x]) (by simp [jB]) MK;obtain ⟨YU,YV⟩:=hpb.get? (e:=eb[x]) (by simp [hlb]) hkw;obtain ⟨k',YW,YX⟩:=hka ea[x] (Array.getElem_mem jB);obtain rfl:k'=k:=knd.inj _ _ _ YW xJ
  have hf:eb.findIdx? (fun e=>knd.is k' e.key)=some x:=by
   rw [Array.findIdx?_eq_some_iff_getElem];refine ⟨hlb,YU,fun j hj z=>?_⟩;have hjb:j<eb.size:=by omega
   obtain ⟨⟨kj,vj⟩,hkj⟩:∃kv,ws[j]?=some kv:=⟨ws[j]'(by omega),gE _⟩;obtain ⟨YY,_⟩:=hpb.get? (e:=eb[j]) (by simp [hjb]) hkj;have e:=knd.inj _ _ _ z YY;have e1:(ws.map (·.1))[j]?=some k':=by rw [aaa,hkj,e];rfl
   have e2:(ws.map (·.1))[x]?=some k':=by rw [aaa,hkw];rfl
   have:=(ae7 (by simp;omega) hnb).mp (e1.trans e2.symm);omega
  refine abz (acM hoa hda ?_);rw [agk jB];refine abz (ace (abz ?_));rw [YX];refine wpAny_dictFind_of xJ hob tw hkb ?_;rw [hf];refine abz (acM hob tw ?_);rw [agk hlb];refine ace ?_;rw [agp,YV];refine he x _ _ MK hkw prog w _ _ ?_;rw [abB (by decide)];refine abz (aiP hoa hda ?_);rw [abB (by simp)];exact abF ⟨rfl,rfl,x+1,rg,by omega⟩
 ·rintro r s' ⟨rfl,rfl,i,hr,hi⟩
  exact abF h
def MM (hu:A.units<acB)(ha:(a==ab7)=false)(hb:(b==ab7)=false)(da:s.heap.DictOf knd a vs)(db:s.heap.DictOf knd b ws)
  (hk:vs.map (·.1)=ws.map (·.1)) (he:∀(i:Nat)(x y:KK×Value),vs[i]?=some x->ws[i]?=some y->ad5 A.in1 s x.2 y.2 true) {Q:δ} (q:Q (.bool true) s):
  abG (abK prog w) A (richCompare .Eq (.ref a) (.ref b)) Q E s:=by
 refine wpAny_richCompare_same_room da.typeIs db.typeIs F.slot_dict_eq (acp F.slot_dict_eq da.typeIs F.entry_dict_eq ?_ (F.args_dict_eq_2 _ _)) hu;unfold Builtin.«dict.__eq__»;show abG _ _ (Builtin.Dict.dictSlotArgs "__eq__" ⟨[.ref a,.ref b],[]⟩ >>=_) _ _ s;unfold Builtin.Dict.dictSlotArgs;refine abz (abz (wpAny_notOrdered_dict da.typeIs ?_));show abG _ _ (pure (Value.ref a,Value.ref b)) _ _ s;refine abF ?_;refine abz (aiE db.typeIs isSubtype_dict_dict ?_);rw [abB (by decide)];show abG _ _ (Builtin.Dict.samePairs _ a b >>=_) _ _ s;refine abz (pO ha hb da db hk he ?_);exact abF ⟨.bool true,rfl,(fun z=>nomatch z),q⟩
open MeetsSeq MeetsSeq2 MeetsSeq3 SeqRoads2 in
open MeetsSeq MeetsSeq2 MeetsSeq3 SeqRoads2 in
end
structure Vh (K:Frag)(x qual:Str)(st:Stmt)(f:abA)(fd:FuncData):Prop where
 ex:∃(dV oc:Value)(od:Λ)(kV doc pm:Value)(an:Λ)(ck ct:Value)(sR:Ν),
  fd=fnOf x qual (au st) (aq st) (ae st) dV kV doc pm an ck ct/\K.lookup f=some ⟨oc,od,.func fd,sR⟩/\codeIn K ck qual=true
 kp:keepIn K (.ref f)=true
section
variable {P:abQ}{w:World}{K:Frag}{mg:ν}{base:Heap}{CX:ma}
def Qz {st:Stmt}{od an:Λ}{sR:Ν}{kV doc pm ck ct:Value}(l:K.lookup f=some ⟨oc,od,.func (fnOf x qual (au st) (aq st) (ae st) dV kV doc pm an ck ct),sR⟩)
  (c:codeIn K ck qual=true) (k:keepIn K (.ref f)=true):Vh K x qual st f (fnOf x qual (au st) (aq st) (ae st) dV kV doc pm an ck ct):=⟨⟨dV,oc,od,kV,doc,pm,an,ck,ct,sR,rfl,l,c⟩,k⟩
def EM {st:Stmt}(F:qe K name qual st f fd)(S:av N ps (ae st))(len:∀vs H Q E,sp vs H Q E->vs.length=ps.length)
  (gW:∀(ck:Value)(A:abV)(outer:List Env)(s:abH)(H:Hp)(vs:ζ)(Q:VK)(E:XK),cB k (A.deeper (adg qual (ae st) s.heap.objs.size f ck))->sp vs H Q E->
   ∃t,PSs (cxr P w K mg base N qual (ae st) f ck A outer s H E).xw (aq st) t/\t {nx:=fun _ H'=>Q .cT H',rt:=Q} (start N vs) H):dq P w K mg base (aZ P w) (k+1) f fd ps sp:=by
 obtain ⟨oc,od,kV,doc,pm,an,ck,ct,sR,rfl,lk,tq⟩:=F.ex
 exact DV lk tq S len fun A outer s H vs Q E hr zZ=>by
  obtain ⟨t,h,q⟩:=gW ck A outer s H vs Q E hr zZ;exact ⟨t,h.xw,q⟩
def MO {st:Stmt}(F:Vh K name qual st f fd)(S:av N ps (ae st))(len:∀vs H Q E,sp vs H Q E->vs.length=ps.length)
  (gW:∀(ck:Value)(A:abV)(outer:List Env)(s:abH)(H:Hp)(vs:ζ)(Q:VK)(E:XK),cB k (A.deeper (adg qual (ae st) s.heap.objs.size f ck))->sp vs H Q E->
   ∃t,PSs (cxr P w K mg base N qual (ae st) f ck A outer s H E).xw (aq st) t/\t {nx:=fun _ H'=>Q .cT H',rt:=Q} (start N vs) H):dq P w K mg base (aZ P w) (k+1) f fd ps sp:=by
 obtain ⟨dV,oc,od,kV,doc,pm,an,ck,ct,sR,rfl,lk,tq⟩:=F.ex
 exact DV lk tq S len fun A outer s H vs Q E hr zZ=>by
  obtain ⟨t,h,q⟩:=gW ck A outer s H vs Q E hr zZ;exact ⟨t,h.xw,q⟩
end
structure A_ (P:abQ)(w:World)(K:Frag)(mg:ν)(base:Heap)(CX:ma)(k:Nat)(C:abA)(m:Str)(ps:ψ)(ds:ρ)(sp:Sp):Prop where
 ex:∃(f:abA)(fd:FuncData),xK K C/\Meth K C m f/\dq P w K mg base CX k f fd ps sp/\Binds K fd ps ds
section
variable {X:Cx}{CX:ma}{k:Nat}{E:XK}{m:Str}{pos apos:Pos}{e o:Expr}{es:Ζ}{ta:TE}{t:TA}
inductive MQ (P:abQ)(w:World)(K:Frag)(mg:ν)(base:Heap)(CX:ma)(k:Nat)(m:Str)(E:XK)(t:TA)(σ:L2.St)(Q:VK)(x:V)(H1:Hp):Prop
|mk (a C dx fs ps sp:_)(_:x=.ref a)(_:H1 a=some (.ins C dx fs))(_:fs.lookup m=none)(_:A_ P w K mg base CX k C m ps [.none] sp)(_:t σ H1 fun vs H2=>sp (x::vs++[.cT]) H2 Q E)
def YZ (P:abQ)(w:World)(K:Frag)(mg:ν)(base:Heap)(CX:ma)(k:Nat)(m:Str)(E:XK)(ta:TE)(t:TA):TE:=fun σ H Q=>ta σ H fun x H1=>MQ P w K mg base CX k m E t σ Q x H1
def QC {pl:Sem Bool}(he:PE X o ta)(hr:cB k X.A)(hx:Passes CX X E)(ha:PA X (e::es) t)
  (P7:abP (e::es) X.env=(false,abW e X.env)::abP es X.env:=by rfl) (pJ:(ack pos (abP es X.env)).any (·.1)=false:=by rfl)
  (ht:abW (.Call (.Attribute o m apos) (e::es) [] pos) X.env=(do
   let ov <- abW o X.env
   standAt apos.atName
   let (f,first) <- holding [ov] (getMethod ov m pl)
   callWith pos f first (ack pos (abP (e::es) X.env)) (backToKw pos (aiA [] X.env))):=by rfl):
  PE X (.Call (.Attribute o m apos) (e::es) [] pos) (YZ X.prog X.w X.K X.mg X.base CX k m E ta t):=by
 intro pins s σ H Q I h;refine PySem.W.methodCall_KW (pl:=pl) (cF (he pins s σ H _ I h) fun u s1 ⟨x,H1,I1,rx,a,C,dx,fs,ps,sp,ex,ea,l,M,q⟩=>?_) ht;subst ex;obtain rfl:u=Value.ref a:=rx;obtain ⟨f,fd,c,hm,F,hb⟩:=M.ex;refine kQ I1 ea c hm l ?_;refine adU (first:=[.ref a]) (h₀:=X.base) I.ok.mod.W5 hm.kp (cF (ha pos pins s1 σ H1 _ I1 q) fun us s2 ⟨vs,H2,I2,r,q2⟩=>⟨I2.kN,?_⟩) P7 pJ;exact vf (us:=.ref a::us) (vs:=.ref a::vs) (dvs:=[.cT]) F hr hb (.cons rfl .nil) hx I2 (.cons rfl r) q2
end
theorem yg {κ:Type}[DecidableEq κ]{k:κ}{v:V}:∀{kvs:List (κ×V)},bJ kvs k=some v->(k,v)∈kvs
 | p::r,h=>by
  by_cases e:p.1=k
  ·rw [bX e] at h
   cases h;subst e;exact aa_ ..
  ·rw [bI e] at h
   exact aax _ (yg h)
theorem bZ {κ:Type}[DecidableEq κ]{k:κ}:∀{kvs:List (κ×V)},k∉kvs.map (·.1)->bJ kvs k=none
 | [],_=>rfl
 | p::r,h=>by
  rw [aaw,aes,not_or] at h;rw [bI (fun e=>h.1 e.symm)];exact bZ h.2
theorem j7 {κ:Type}[DecidableEq κ]{k:κ}:∀{kvs:List (κ×V)},k∈kvs.map (·.1)->∃v,bJ kvs k=some v
 | p::r,h=>by
  by_cases e:p.1=k
  ·exact ⟨_,bX e⟩
  ·rw [bI e]
   rw [aaw,aes] at h
   rcases h with h|h
   ·exact abM h.symm e
   ·exact j7 h
def uI {κ:Type}[DecidableEq κ]{kvs:List (κ×V)}{k:κ}{v:V}(P:κ->Prop)(h:∀kv∈kvs,P kv.1)(hk:P k):∀kv∈putK kvs k v,P kv.1:=by
 unfold putK;split
 ·intro kv m
  obtain ⟨a,ha,e⟩:=aar.mp m;have:=h a ha;by_cases z:a.1=k
  ·rw [abC z] at e;rw [<-e];exact this
  ·rw [abB z] at e;rw [<-e];exact this
 ·intro kv m
  rcases abj.mp m with m|m
  ·exact h kv m
  ·rw [abg] at m
   rw [m];exact hk
def BA (K:Frag)(H:Hp)(kvs:γ)(F:Τ):Prop:=
 ∀nm,(bJ kvs (.inr nm)=none/\F nm=none)\/∃v q,bJ kvs (.inr nm)=some v/\F nm=some q/\jw K H v q
def BA.same {K:Frag}(h:BA K H kvs F)(s:ao H H'):BA K H' kvs F:=fun nm=>by
 rcases h nm with h|⟨v,q,h1,h2,h3⟩
 ·exact .inl h
 ·exact .inr ⟨v,q,h1,h2,h3.same s⟩
def BA.put {K:Frag}(h:BA K H kvs F)(n:jw K H v q):BA K H (putK kvs (.inr x) v) (fun nm=>if nm=x then some q else F nm):=fun nm=>by
 rw [jI];by_cases e:nm=x
 ·subst e
  exact .inr ⟨v,q,by rw [abC rfl],by show (if nm=nm then some q else F nm)=some q;rw [abC rfl],n⟩
 ·have e':(aeB nm:Key)≠.inr x:=fun z=>e (aeN z)
  show (_/\(if nm=x then some q else F nm)=none)\/∃v' q',_/\(if nm=x then some q else F nm)=some q'/\_;rw [abB e',abB e];exact h nm
def BA.IF {K:Frag}(h:BA K H kvs G)(n:jw K H v q):jw K H ((bJ kvs (.inr x)).getD v) ((G x).getD q):=by
 rcases h x with ⟨h1,h2⟩|⟨u,q',h1,h2,h3⟩
 ·rw [h1,h2]
  exact n
 ·rw [h1,h2]
  exact h3
structure Lg (K:Frag)(C:abA):Prop where
 cls:xK K C
 pl:gU K C "pin_places"
 wy:gU K C "pin_ways"
 br:gU K C "bar_ends"
abbrev frF (pP pW pB:abA):List (Str×V):=[("pin_places",.ref pP),("pin_ways",.ref pW),("bar_ends",.ref pB)]
abbrev Pt:=(Int×Int)×(Int×Int)
abbrev _root_.Κ:=List (Str×Pt)
noncomputable abbrev fN (p:Pt):List Da:=[.t [.v (.int p.1.1),.v (.int p.1.2)],.t [.v (.int p.2.1),.v (.int p.2.2)]]
def aY (H H':Hp):Prop:=∀b xs,Rd H b (.tup xs)->Rd H' b (.tup xs)
def aY.of (s:ao H H'):aY H H':=fun b xs e=>by
 rcases e with e|⟨o,e⟩
 ·exact .inl (s _ _ e)
 ·exact .inr ⟨o,s _ _ e⟩
def aY.trans (a:aY H H1)(b:aY H1 H2):aY H H2:=fun c xs e=>b c xs (a c xs e)
def aY.dict (e:H d=some (.dK kvs)):aY H (upd H d o):=fun b xs r=>by
 rcases r with r|⟨o,r⟩
 ·exact .inl (by rw [aj (fun z=>by rw [z,e] at r;cases r)];exact r)
 ·exact .inr ⟨o,by rw [aj (fun z=>by rw [z,e] at r;cases r)];exact r⟩
def aY.list (e:H d=some (.lst xs)):aY H (upd H d o):=fun b xs r=>by
 rcases r with r|⟨o,r⟩
 ·exact .inl (by rw [aj (fun z=>by rw [z,e] at r;cases r)];exact r)
 ·exact .inr ⟨o,by rw [aj (fun z=>by rw [z,e] at r;cases r)];exact r⟩
def aY.cQ {K:Frag}(s:aY H H')(q:bQ K H p xs):bQ K H' p xs:=by
 rcases q with q|q
 ·exact .inl (s _ _ q)
 ·exact .inr q
def jw.aJ {K:Frag}(h:jw K H v q)(s:aY H H'):jw K H' v q:=by
 obtain ⟨p,e,k⟩:=h;exact ⟨p,e,s.cQ k⟩
def BA.aJ {K:Frag}(h:BA K H kvs F)(s:aY H H'):BA K H' kvs F:=fun nm=>by
 rcases h nm with h|⟨v,q,h1,h2,h3⟩
 ·exact .inl h
 ·exact .inr ⟨v,q,h1,h2,h3.aJ s⟩
def Spot (K:Frag)(H:Hp)(v:V)(p:Pt):Prop:=∃a u1 u2,v=.ref a/\bQ K H a [u1,u2]/\jw K H u1 p.1/\jw K H u2 p.2
def Spot.aJ {K:Frag}(h:Spot K H v p)(s:aY H H'):Spot K H' v p:=by
 obtain ⟨a,u1,u2,e,h1,h2,h3⟩:=h;exact ⟨a,u1,u2,e,s.cQ h1,h2.aJ s,h3.aJ s⟩
def j8 {K:Frag}(h:jw K H v q):Is K H (.t [.v (.int q.1),.v (.int q.2)]) v:=by
 obtain ⟨p,rfl,e⟩:=h;unfold Is;refine ⟨p,_,rfl,e,?_⟩;unfold i0;refine ⟨by unfold Is;exact ⟨rfl,rfl⟩,?_⟩;unfold i0;refine ⟨by unfold Is;exact ⟨rfl,rfl⟩,?_⟩;unfold i0;trivial
def Spot.is {K:Frag}(h:Spot K H v p):Is K H (.t (fN p)) v:=by
 obtain ⟨a,u1,u2,rfl,h1,h2,h3⟩:=h;unfold Is;refine ⟨a,_,rfl,h1,?_⟩;unfold i0;refine ⟨j8 h2,?_⟩;unfold i0;refine ⟨j8 h3,?_⟩;unfold i0;trivial
def yh (p q:Pt):cN (fN p) (fN q)=decide (p=q):=by
 have e:cN (fN p) (fN q)=((p.1.1==q.1.1 && (p.1.2==q.1.2 && true)) && ((p.2.1==q.2.1 && (p.2.2==q.2.2 && true)) && true)):=by
  simp only [fN,cN,gY,m7]
 rw [e];obtain ⟨⟨a,b⟩,c,d⟩:=p;obtain ⟨⟨a',b'⟩,c',d'⟩:=q;by_cases h:a=a' <;> by_cases h1:b=b' <;> by_cases h2:c=c' <;> by_cases h3:d=d' <;> simp [h,h1,h2,h3,Prod.mk.injEq]
def oP (p q:Pt):dN (fN p) (fN q)=true:=by simp [fN,dN,alike]
def uJ (p:Pt):jr (fN p)<=60:=by simp [fN,jr,dep]
structure fS (K:Frag)(H:Hp)(C a dx pP pW pB:abA)(ps:Κ)(bs:Δ)(kP kW kB:γ):Prop where
 obj:H a=some (.ins C dx (frF pP pW pB))
 pl:H pP=some (.dK kP)
 wy:H pW=some (.dK kW)
 br:H pB=some (.dK kB)
 ne1:pP≠pW
 ne2:pP≠pB
 ne3:pW≠pB
 rp:Paired (fun (p:Str×Pt) (kv:Key×V)=>kv.1=.inr p.1/\Spot K H kv.2 p.2) ps kP
 rb:Paired (fun (b:Str×Str×Str) (kv:Key×V)=>kv.1=.inr b.1/\∃p,kv.2=.ref p/\Rd H p (.tup [.str b.2.1,.str b.2.2])) bs kB
section
variable {K:Frag}{H H':Hp}{C a dx pP pW pB:abA}{ps:Κ}{bs:Δ}{kP kW kB:γ}
theorem ip {R:(Str×α)->(Key×V)->Prop}:∀{l:List (Str×α)} {kvs:γ},Paired (fun b kv=>kv.1=.inr b.1/\R b kv) l kvs->kvs.map (·.1)=l.map (fun b=>(aeB b.1:Key))
 | _,_,.nil=>rfl
 | _,_,.cons h t=>by rw [aaw,aaw,h.1,ip t]
def gJ {l:ψ}:(aeB x:Key)∈l.map (fun b=>(aeB b:Key)) ↔ x∈l:=by
 constructor
 ·intro h
  obtain ⟨y,hy,e⟩:=aar.mp h;exact aeN e▸hy
 ·exact fun h=>aar.mpr ⟨x,h,rfl⟩
def fS.yi (R:fS K H C a dx pP pW pB ps bs kP kW kB)(s:aY H H')(h1:H' a=H a)(h2:H' pP=H pP)(h3:H' pW=H pW)(h4:H' pB=H pB):fS K H' C a dx pP pW pB ps bs kP kW kB:=
 ⟨h1.trans R.obj,h2.trans R.pl,h3.trans R.wy,h4.trans R.br,R.ne1,R.ne2,R.ne3,Paired.bV R.rp fun _ _ h=>⟨h.1,h.2.aJ s⟩,Paired.bV R.rb fun _ _ h=>⟨h.1,by obtain ⟨p,e,k⟩:=h.2;exact ⟨p,e,s _ _ k⟩⟩⟩
def fS.same (R:fS K H C a dx pP pW pB ps bs kP kW kB)(s:ao H H'):fS K H' C a dx pP pW pB ps bs kP kW kB:=
 R.yi (.of s) ((s _ _ R.obj).trans R.obj.symm) ((s _ _ R.pl).trans R.pl.symm) ((s _ _ R.wy).trans R.wy.symm) ((s _ _ R.br).trans R.br.symm)
def fS.mB (R:fS K H C a dx pP pW pB ps bs kP kW kB):kB.map (·.1)=(bs.map (·.1)).map (fun b=>(aeB b:Key)):=by
 rw [ip R.rb,ab_];rfl
def fS.EN (R:fS K H C a dx pP pW pB ps bs kP kW kB):kP.map (·.1)=(ps.map (·.1)).map (fun b=>(aeB b:Key)):=by
 rw [ip R.rp,ab_];rfl
def fS.bar (R:fS K H C a dx pP pW pB ps bs kP kW kB)(x:Str):(bJ kB (.inr x)).isSome=decide (x∈bs.map (·.1)):=by
 by_cases h:x∈bs.map (·.1)
 ·obtain ⟨v,e⟩:=j7 (kvs:=kB) (k:=.inr x) (by rw [R.mB];exact gJ.mpr h)
  rw [e,abU h];rfl
 ·rw [bZ (by rw [R.mB];exact fun z=>h (gJ.mp z)),ab1 h]
  rfl
def fS.pin (R:fS K H C a dx pP pW pB ps bs kP kW kB)(x:Str):(bJ kP (.inr x)).isSome=decide (x∈ps.map (·.1)):=by
 by_cases h:x∈ps.map (·.1)
 ·obtain ⟨v,e⟩:=j7 (kvs:=kP) (k:=.inr x) (by rw [R.EN];exact gJ.mpr h)
  rw [e,abU h];rfl
 ·rw [bZ (by rw [R.EN];exact fun z=>h (gJ.mp z)),ab1 h]
  rfl
def fS.ab (R:fS K H C a dx pP pW pB ps bs kP kW kB):a≠pP/\a≠pW/\a≠pB:=
 ⟨fun z=>(by have h:=R.obj;rw [z,R.pl] at h;cases h),fun z=>(by have h:=R.obj;rw [z,R.wy] at h;cases h),fun z=>(by have h:=R.obj;rw [z,R.br] at h;cases h)⟩
def fS.Vi (R:fS K H C a dx pP pW pB ps bs kP kW kB)(ht:Rd H t (.tup [.str one,.str other])):
  fS K (upd H pB (.dK (kB++[(.inr x,.ref t)]))) C a dx pP pW pB ps (bs++[(x,one,other)]) kP kW (kB++[(.inr x,.ref t)]):=by
 have s:aY H (upd H pB (.dK (kB++[(.inr x,.ref t)]))):=.dict R.br
 exact ⟨by rw [aj R.ab.2.2];exact R.obj,by rw [aj R.ne2];exact R.pl,by rw [aj R.ne3];exact R.wy,ah,R.ne1,R.ne2,R.ne3,Paired.bV R.rp fun _ _ h=>⟨h.1,h.2.aJ s⟩,
  aiB (Paired.bV R.rb fun _ _ h=>⟨h.1,by obtain ⟨p,e,k⟩:=h.2;exact ⟨p,e,s _ _ k⟩⟩) ⟨rfl,t,rfl,s _ _ ht⟩⟩
theorem oQ {R:(Str×α)->(Key×V)->Prop}(x:Str):∀{l:List (Str×α)} {kvs:γ},Paired (fun b kv=>kv.1=.inr b.1/\R b kv) l kvs->Paired (fun b kv=>kv.1=.inr b.1/\R b kv) (l.filter fun b=>decide (b.1≠x)) (jH kvs (.inr x))
 | _,_,.nil=>.nil
 | b::_,kv::_,.cons h t=>by
  unfold jH;rw [afa,afa];have ih:=oQ x t;unfold jH at ih;by_cases e:b.1=x
  ·have e':kv.1=.inr x:=by rw [h.1,e]
   rw [abB (by simp [e]),abB (by simp [e'])];exact ih
  ·have e':¬ kv.1=.inr x:=fun z=>e (aeN (h.1.symm.trans z))
   rw [abC (by simp [e]),abC (by simp [e'])];exact .cons h ih
def fS.QD (R:fS K H C a dx pP pW pB ps bs kP kW kB)(x:Str):
  fS K (upd H pB (.dK (jH kB (.inr x)))) C a dx pP pW pB ps (bs.filter fun b=>decide (b.1≠x)) kP kW (jH kB (.inr x)):=by
 have s:aY H (upd H pB (.dK (jH kB (.inr x)))):=.dict R.br
 exact ⟨by rw [aj R.ab.2.2];exact R.obj,by rw [aj R.ne2];exact R.pl,by rw [aj R.ne3];exact R.wy,ah,R.ne1,R.ne2,R.ne3,Paired.bV R.rp fun _ _ h=>⟨h.1,h.2.aJ s⟩,
  oQ x (Paired.bV R.rb fun _ _ h=>⟨h.1,by obtain ⟨p,e,k⟩:=h.2;exact ⟨p,e,s _ _ k⟩⟩)⟩
theorem cO :∀{l:List α} {m:List β},Paired R l m->Paired (fun b a=>R a b) m l
 | _,_,.nil=>.nil
 | _,_,.cons h t=>.cons h (cO t)
def fS.Vj (R:fS K H C a dx pP pW pB ps bs kP kW kB)(ht:Spot K H (.ref t) p):
  fS K (upd H pP (.dK (kP++[(.inr x,.ref t)]))) C a dx pP pW pB (ps++[(x,p)]) bs (kP++[(.inr x,.ref t)]) kW kB:=by
 have s:aY H (upd H pP (.dK (kP++[(.inr x,.ref t)]))):=.dict R.pl
 exact ⟨by rw [aj R.ab.1];exact R.obj,ah,by rw [aj (aeD R.ne1)];exact R.wy,by rw [aj (aeD R.ne2)];exact R.br,R.ne1,R.ne2,R.ne3,
  aiB (Paired.bV R.rp fun _ _ h=>⟨h.1,h.2.aJ s⟩) ⟨rfl,ht.aJ s⟩,Paired.bV R.rb fun _ _ h=>⟨h.1,by obtain ⟨p,e,k⟩:=h.2;exact ⟨p,e,s _ _ k⟩⟩⟩
def fS.EO (R:fS K H C a dx pP pW pB ps bs kP kW kB)(yj :γ):fS K (upd H pW (.dK yj)) C a dx pP pW pB ps bs kP yj kB:=by
 have s:aY H (upd H pW (.dK yj)):=.dict R.wy
 exact ⟨by rw [aj R.ab.2.1];exact R.obj,by rw [aj R.ne1];exact R.pl,ah,by rw [aj (aeD R.ne3)];exact R.br,R.ne1,R.ne2,R.ne3,
  Paired.bV R.rp fun _ _ h=>⟨h.1,h.2.aJ s⟩,Paired.bV R.rb fun _ _ h=>⟨h.1,by obtain ⟨p,e,k⟩:=h.2;exact ⟨p,e,s _ _ k⟩⟩⟩
def uK (xs:ψ):(xs.map V.str).all jE=true:=by
 rw [ais,List.all_eq_true];exact fun _ _=>rfl
theorem rh :∀(xs:ψ),W9 (.str x) (xs.map V.str)=decide (x∈xs)
 | []=>rfl
 | y::ys=>by
  have ih:=rh (x:=x) ys;unfold W9 at ih ⊢;rw [aaw,agn,ih];by_cases e:y=x
  ·subst e
   simp [m7]
  ·have e':¬ x=y:=fun z=>e z.symm
   simp [m7,e,e']
end
open Builtin.Int (intBits)
def qr (r:Rat):Int×Int:=(r.num,(r.den:Int))
def cI (r:Rat):0<(qr r).2:=by
 have:=r.den_pos;show (0:Int)<(r.den:Int);omega
def nQ (r:Rat):aeS (qr r).1 (qr r).2=1:=by
 have:=r.reduced;show aeS r.num (r.den:Int)=1;unfold aeS;simpa [Nat.Coprime] using this
def d_ (r:Rat):vl (qr r)=r:=by
 show (r.num:Rat) / ((r.den:Int):Rat)=r;rw [<-ait];exact aif r
def uL (h:0<q.2)(g:aeS q.1 q.2=1):q=qr (vl q):=U9 h (cI _) g (nQ _) (d_ _).symm
def fT (h:b≠0):low t b=qr ((t:Rat) / (b:Rat)):=by
 rw [<-vB h];exact uL (mh h) (qg h)
def kY (h:qr a=qr b):a=b:=by
 rw [<-d_ a,<-d_ b,h]
def kZ (i:Int):qr (i:Rat)=(i,1):=by
 have e:(i,(1:Int))=qr (vl (i,1)):=uL (by show (0:Int)<1;decide) (by show aeS i 1=1;simp)
 have v:vl (i,(1:Int))=(i:Rat):=by
  unfold vl;show (i:Rat) / ((1:Int):Rat)=i;have:((1:Int):Rat)=1:=by rfl
  rw [this];grind
 rw [e,v]
def BB (r:Rat):qr (-r)=(-(qr r).1,(qr r).2):=by
 have e:((-(qr r).1,(qr r).2):Int×Int)=qr (vl (-(qr r).1,(qr r).2)):=uL (cI r) (by
  have:=nQ r;show aeS (-(qr r).1) (qr r).2=1;rw [Int.neg_gcd]
  exact this)
 have v:vl (-(qr r).1,(qr r).2)= -r:=by
  have h:=d_ r;unfold vl at h ⊢;push_cast;rw [<-h];grind
 rw [e,v]
def yk :((qr r).2:Rat)≠0:=dD (aeH (cI r))
def MS (a b:Rat):low ((qr a).1*(qr b).2+(qr b).1*(qr a).2) ((qr a).2*(qr b).2)=qr (a+b):=by
 have ha:=cI a;have hb:=cI b;rw [fT (aeH (afm ha hb))];have e1:=d_ a;have e2:=d_ b;have z1:=yk (r:=a);have z2:=yk (r:=b);unfold vl at e1 e2;congr 1;push_cast;grind
def MU (a b:Rat):low ((qr a).1*(qr b).2-(qr b).1*(qr a).2) ((qr a).2*(qr b).2)=qr (a-b):=by
 have ha:=cI a;have hb:=cI b;rw [fT (aeH (afm ha hb))];have e1:=d_ a;have e2:=d_ b;have z1:=yk (r:=a);have z2:=yk (r:=b);unfold vl at e1 e2;congr 1;push_cast;grind
def MV (a b:Rat):low ((qr a).1*(qr b).1) ((qr a).2*(qr b).2)=qr (a*b):=by
 have ha:=cI a;have hb:=cI b;rw [fT (aeH (afm ha hb))];have e1:=d_ a;have e2:=d_ b;have z1:=yk (r:=a);have z2:=yk (r:=b);unfold vl at e1 e2;congr 1;push_cast;grind
structure Sz (k:Nat)(r:Rat):Prop where
 top:intBits (qr r).1<=k
 bot:intBits (qr r).2<=k
def Sz.up (h:Sz k r)(kl:k<=l):Sz l r:=⟨aay h.top kl,aay h.bot kl⟩
def IG (ha:intBits a<=k)(hb:intBits b<=k):intBits (a+b)<=k+1:=by
 rw [intBits_le_iff] at ha hb ⊢;have:=agd a b;rw [agw];omega
def IH (ha:intBits a<=k)(hb:intBits b<=k):intBits (a-b)<=k+1:=by
 rw [intBits_le_iff] at ha hb ⊢;have:=Int.natAbs_sub_le a b;rw [agw];omega
def rj (hb:b≠0)(h1:intBits t<=k)(h2:intBits b<=k):Sz k ((t:Rat) / (b:Rat)):=by
 rw [<-vB hb];have e:=uL (mh (t:=t) hb) (qg hb);exact ⟨by rw [<-e];exact intBits_le_of_natAbs (qL hb) h1,by rw [<-e];exact intBits_le_of_natAbs (qM hb) h2⟩
def MX (hb:b≠0)(e:low t b=qr r)(h1:intBits t<=k)(h2:intBits b<=k):Sz k r:=by
 have z:=fT (t:=t) hb;rw [z] at e;have:=kY e;rw [<-this];exact rj hb h1 h2
def Sz.add (ha:Sz k a)(hb:Sz l b):Sz (k+l+1) (a+b):=
 MX (aeH (afm (cI a) (cI b))) (MS a b) (IG (acr ha.top hb.bot) (by rw [ahu];exact acr hb.top ha.bot)) (aiv (acr ha.bot hb.bot))
def Sz.sub (ha:Sz k a)(hb:Sz l b):Sz (k+l+1) (a-b):=
 MX (aeH (afm (cI a) (cI b))) (MU a b) (IH (acr ha.top hb.bot) (by rw [ahu];exact acr hb.top ha.bot)) (aiv (acr ha.bot hb.bot))
def Sz.mul (ha:Sz k a)(hb:Sz l b):Sz (k+l) (a*b):=
 MX (aeH (afm (cI a) (cI b))) (MV a b) (acr ha.top hb.top) (acr ha.bot hb.bot)
def Sz.neg (ha:Sz k a):Sz k (-a):=by
 refine ⟨?_,?_⟩
 ·rw [BB]
  have:=ha.top;rw [intBits_le_iff] at this ⊢;show (-(qr a).1).natAbs<2^k;rw [ahT];exact this
 ·rw [BB]
  exact ha.bot
def nR {i:Int}(h:i.natAbs<2^k)(hk:1<=k):Sz k (i:Rat):=by
 refine ⟨?_,?_⟩
 ·rw [kZ]
  exact intBits_le_iff.mpr h
 ·rw [kZ]
  refine intBits_le_iff.mpr ?_;show 1<2^k;exact Nat.one_lt_two_pow (by omega)
def cU (K:Frag)(H:Hp)(v:V)(r:Rat):Prop:=jw K H v (qr r)
def gc (K:Frag)(H:Hp)(v:V)(p:Rat×Rat):Prop:=∃a u1 u2,v=.ref a/\bQ K H a [u1,u2]/\cU K H u1 p.1/\cU K H u2 p.2
section
variable {K:Frag}{H H':Hp}{v:V}{r:Rat}{p:Rat×Rat}
def cU.aJ (h:cU K H v r)(s:aY H H'):cU K H' v r:=jw.aJ h s
def cU.same (h:cU K H v r)(s:ao H H'):cU K H' v r:=jw.same h s
def gc.aJ (h:gc K H v p)(s:aY H H'):gc K H' v p:=by
 obtain ⟨a,u1,u2,e,h1,h2,h3⟩:=h;exact ⟨a,u1,u2,e,s.cQ h1,h2.aJ s,h3.aJ s⟩
def gc.same (h:gc K H v p)(s:ao H H'):gc K H' v p:=h.aJ (.of s)
abbrev xy (p:Rat×Rat):Pt:=(qr p.1,qr p.2)
def gc.Y0 (h:gc K H v p):Spot K H v (xy p):=h
def ku (K:Frag)(H:Hp)(us:ζ)(ps:Θ):Prop:=Paired (gc K H) us ps
def ku.aJ (h:ku K H us ps)(s:aY H H'):ku K H' us ps:=Paired.bV h fun _ _ z=>z.aJ s
def ku.same (h:ku K H us ps)(s:ao H H'):ku K H' us ps:=h.aJ (.of s)
end
section
variable {X:Cx}
def ER {σ:L2.St}(I:Inv X pins σ H s)(h1:gc X.K H v p)(h2:gc X.K H v q):p=q:=by
 obtain ⟨a,u1,u2,rfl,t1,⟨b1,rfl,n1⟩,b2,rfl,n2⟩:=h1;obtain ⟨a',w1,w2,e,t2,⟨c1,rfl,m1⟩,c2,rfl,m2⟩:=h2;cases e;cases I.iO t1 t2;have e1:=I.iO n1 m1;have e2:=I.iO n2 m2;simp only [List.cons.injEq,V.int.injEq,and_true] at e1 e2;exact ahU (kY (ahU e1.1 e1.2)) (kY (ahU e2.1 e2.2))
def Y1 (K:Frag)(neg:Bool):R2:=fun x y H Q=>∃p l us ps,y=.ref l/\aT K H l us/\gc K H x p/\ku K H us ps/\Q (.bl (if neg then !decide (p∈ps) else decide (p∈ps))) H
def Y2 {σ:L2.St}{its:ρ}(I:Inv X pins σ H s)(hu:A.units+60<acB)(hx:gc X.K H x p)(rx:RelV x v)(hp:ku X.K H us ps)(rv:Vals us its):
  ∃e:Value->Bool,(∀y,y∈its.toArray->ad5 A s y v (e y))/\its.toArray.any e=decide (p∈ps):=by
 have key:∀(j:Nat)(y:Value),its[j]?=some y->∃u q,us[j]?=some u/\ps[j]?=some q/\RelV u y/\gc X.K H u q:=fun j y ey=>by
  obtain ⟨u,eu,ru⟩:=aA (cO rv) ey;obtain ⟨q,eq,hq⟩:=aA hp eu;exact ⟨u,q,eu,eq,ru,hq⟩
 refine ⟨fun y=> @decide (∃u q,RelV u y/\gc X.K H u q/\q=p) (ae4 _),fun y hy=>?_,?_⟩
 ·obtain ⟨j,hj,ey⟩:=aeR.mp (by simpa using hy:y∈its)
  obtain ⟨u,q,eu,eq,ru,hq⟩:=key j y (by rw [gE hj,ey]);have z:=vq (A:=A) I (.t (fN (xy q))) (.t (fN (xy p))) u x y v hq.Y0.is hx.Y0.is (by unfold alike;exact oP _ _) ru rx (by have:=uJ (xy q);unfold dep;simp only [fN,jr,dep] at this ⊢;omega)
  have e:gY (.t (fN (xy q))) (.t (fN (xy p)))= @decide (∃u q,RelV u y/\gc X.K H u q/\q=p) (ae4 _):=by
   unfold gY;rw [yh];by_cases c:q=p
   ·subst c
    rw [abU rfl]
    symm
    exact @abU _ (ae4 _) ⟨u,q,ru,hq,rfl⟩
   ·rw [ab1 (fun z=>c (ahU (kY (abR aoJ z)) (kY (abR aoK z))))]
    symm
    refine @ab1 _ (ae4 _) fun ⟨u',q',ru',m6,e'⟩=>?_;obtain ⟨a,_,_,rfl,_⟩:=id hq;obtain ⟨a',_,_,rfl,_⟩:=id m6;have r1:y=Value.ref a:=ru;have r2:y=Value.ref a':=ru';rw [r1] at r2;cases r2;exact c ((ER I hq m6).trans e')
  rw [e] at z;exact z
 ·rw [afQ,decide_eq_true_iff]
  simp only [List.any_toArray,agh];constructor
  ·rintro ⟨y,hy,ey⟩
   obtain ⟨j,hj,ej⟩:=aeR.mp hy;obtain ⟨u,q,eu,eq,ru,hq⟩:=key j y (by rw [gE hj,ej]);obtain ⟨u',q',ru',m6,e'⟩:= @abS _ (ae4 _) ey;obtain ⟨a,_,_,rfl,_⟩:=id hq;obtain ⟨a',_,_,rfl,_⟩:=id m6;have r1:y=Value.ref a:=ru;have r2:y=Value.ref a':=ru';rw [r1] at r2;cases r2;rw [<-e',<-ER I hq m6];exact aaq eq
  ·intro hm
   obtain ⟨j,hj,ej⟩:=aeR.mp hm;have lu:us.length=ps.length:=abL hp;have li:us.length=its.length:=rv.length;have Y3 :j<its.length:=by omega
   refine ⟨its[j],aeT Y3,?_⟩;obtain ⟨u,q,eu,eq,ru,hq⟩:=key j its[j] (gE Y3);rw [gE hj,ej] at eq;cases eq;exact @abU _ (ae4 _) ⟨u,p,ru,hq,rfl⟩
def QE (hu:X.A.units+64<acB):jX X (aca .In) (Y1 X.K false):=by
 intro pins s σ H x y v u Q I rx ry h;obtain ⟨p,l,us,ps,rfl,hq,hx,hp,q⟩:=h;cases ry;obtain ⟨its,rv,pl,hz⟩:=I.list hq;obtain ⟨e,he,ea⟩:=Y2 (A:=X.A.in1) I (by rw [in1_units];omega) hx rx hp rv;refine SeqAt.in_listAt e pl.isList he ⟨.bl _,H,I,rfl,?_⟩;rw [ea];exact q
end
def i_ {R:(Str×α)->(Key×V)->Prop}:∀{l:List (Str×α)} {kvs:γ},Paired (fun b kv=>kv.1=.inr b.1/\R b kv) l kvs->(l.map (·.1)).Nodup->(x,y)∈l->∃v,bJ kvs (.inr x)=some v/\R (x,y) (.inr x,v):=fun {l kvs} p nd m=>by
 induction p with
 | nil=>cases m
 | cons h t ih=>
  rw [aaw,aeC] at nd
  rcases aes.mp m with e|m
  ·subst e
   refine ⟨_,bX h.1,?_⟩;have h2:=h.2;rw [<-h.1];exact h2
  ·obtain ⟨v,e,r⟩:=ih nd.2 m
   refine ⟨v,?_,r⟩;rw [bI (fun z=>?_)]
   ·exact e
   ·rw [h.1] at z
    exact nd.1 (aeN z▸aar.mpr ⟨_,m,rfl⟩)
def vG (K:Frag)(H:Hp)(pw:Ρ)(kW:γ):Prop:=
 Paired (fun (p:Str×List (Rat×Rat)) (kv:Key×V)=>kv.1=.inr p.1/\∃l us,kv.2=.ref l/\H l=some (.lst us)/\ku K H us p.2) pw kW
def vG.same {K:Frag}(h:vG K H pw kW)(s:ao H H'):vG K H' pw kW:=
 Paired.bV h fun _ _ z=>⟨z.1,by obtain ⟨l,us,e1,e2,e3⟩:=z.2;exact ⟨l,us,e1,s _ _ e2,e3.same s⟩⟩
def vG.dict {K:Frag}(h:vG K H pw kW)(e:H d=some (.dK kvs)):vG K (upd H d o) pw kW:=
 Paired.bV h fun _ _ z=>⟨z.1,by
  obtain ⟨l,us,e1,e2,e3⟩:=z.2
  exact ⟨l,us,e1,by rw [aj (fun q=>by rw [q,e] at e2;cases e2)];exact e2,e3.aJ (.dict e)⟩⟩
def vG.keys {K:Frag}(h:vG K H pw kW):kW.map (·.1)=(pw.map (·.1)).map (fun b=>(aeB b:Key)):=by
 rw [ip h,ab_];rfl
def fS.ends {K:Frag}(R:fS K H C a dx pP pW pB ps bs kP kW kB)(nd:(bs.map (·.1)).Nodup)(m:(x,one,other)∈bs):
  ∃p,bJ kB (.inr x)=some (.ref p)/\Rd H p (.tup [.str one,.str other]):=by
 obtain ⟨v,e,p,ep,r⟩:=i_ R.rb nd m;have DL :v=.ref p:=ep;exact ⟨p,by rw [e,DL],r⟩
def fS.place {K:Frag}(R:fS K H C a dx pP pW pB ps bs kP kW kB)(nd:(ps.map (·.1)).Nodup)(m:(x,p)∈ps):
  ∃v,bJ kP (.inr x)=some v/\Spot K H v p:=i_ R.rp nd m
structure aw where
 nm:Str
 sp:Rat×Rat
 ws:List (Rat×Rat)
abbrev _root_.ι:=List aw
structure aK where
 nm:Str
 one:aw
 other:aw
abbrev _root_.ς:=List aK
inductive sW (K:Frag)(H:Hp)(C a:abA)(pins:ι)(bars:ς):Prop
|mk (dx pP pW pB:abA)(kP kW kB:γ)(_:fS K H C a dx pP pW pB (pins.map fun p=>(p.nm,xy p.sp)) (bars.map fun b=>(b.nm,b.one.nm,b.other.nm)) kP kW kB)(_:vG K H (pins.map fun p=>(p.nm,p.ws)) kW)
def sW.ex {K:Frag}(h:sW K H C a pins bars):sW K H C a pins bars:=h
structure cV (pins:ι)(bars:ς):Prop where
 np:(pins.map (·.nm)).Nodup
 nb:(bars.map (·.nm)).Nodup
 ends:∀b∈bars,b.one∈pins/\b.other∈pins/\b.one.nm≠b.other.nm
 sz:∀p∈pins,Sz 24 p.sp.1/\Sz 24 p.sp.2/\∀w∈p.ws,Sz 22 w.1/\Sz 22 w.2
 lp:pins.length<=9
 lb:bars.length<=14
 lw:∀p∈pins,p.ws.length<=2
def sW.same {K:Frag}(h:sW K H C a pins bars)(s:ao H H'):sW K H' C a pins bars:=by
 obtain ⟨dx,pP,pW,pB,kP,kW,kB,R,W⟩:=h.ex;exact ⟨dx,pP,pW,pB,kP,kW,kB,R.same s,W.same s⟩
def BC (K:Frag)(H:Hp)(kvs:γ)(F:θ):Prop:=
 ∀nm,(bJ kvs (.inr nm)=none/\F nm=none)\/∃v p,bJ kvs (.inr nm)=some v/\F nm=some p/\gc K H v p
section
variable {K:Frag}{H H':Hp}{kvs:γ}
def BC.same (h:BC K H kvs F)(s:ao H H'):BC K H' kvs F:=fun nm=>by
 rcases h nm with h|⟨v,q,h1,h2,h3⟩
 ·exact .inl h
 ·exact .inr ⟨v,q,h1,h2,h3.same s⟩
def BC.IF (h:BC K H kvs F)(n:gc K H v q):gc K H ((bJ kvs (.inr x)).getD v) ((F x).getD q):=by
 rcases h x with ⟨h1,h2⟩|⟨u,q',h1,h2,h3⟩
 ·rw [h1,h2]
  exact n
 ·rw [h1,h2]
  exact h3
end
def QF {K:Frag}{g:TG}{tb:TS}{D:Ends}(Pv:Nat->L2.St->Hp->Prop)(h0:Pv 0 σ H)(hl:∀i σ H,Pv i σ H->aT K H a xs/\aT K H b ys)
  (hs:∀i x y σ H p,xs[i]?=some x->ys[i]?=some y->Pv i σ H->H p=none->g (.ref p) σ (upd H p (.tup [x,y])) fun σ2 H2=>tb {D with nx:=Pv (i+1),ct:=Pv (i+1),bk:=D.nx} σ2 H2) (hd:∀σ H,Pv (min xs.length ys.length) σ H->D.nx σ H):
  ∃W:Nat->Nat->L2.St->Hp->Prop,(∃m,W 0 m σ H)/\∀i m σ H,W i m σ H->
   ((U6 K a b).stop i H/\D.nx σ H)\/((U6 K a b).go i H/\∃N:L2.St->Hp->Prop,(∀σ' H',N σ' H' ->∃m',m'<m/\W (i+1) m' σ' H')/\∀x H',(U6 K a b).DN i H x H' ->g x σ H' fun σ2 H2=>tb {D with nx:=N,ct:=N,bk:=D.nx} σ2 H2):=by
 refine ⟨fun i m σ H=>m=min xs.length ys.length-i/\i<=min xs.length ys.length/\Pv i σ H,⟨min xs.length ys.length,by simp,aeF _,h0⟩,?_⟩;rintro i m σ H ⟨rfl,hi,p⟩;obtain ⟨q1,q2⟩:=hl i σ H p;by_cases jB:i<min xs.length ys.length
 ·have l1:i<xs.length:=by omega
  have l2:i<ys.length:=by omega
  refine .inr ⟨⟨xs,ys,xs[i],ys[i],q1,q2,gE l1,gE l2⟩,Pv (i+1),fun σ' H' z=>⟨min xs.length ys.length-(i+1),by omega,rfl,by omega,z⟩,fun v H' y=>?_⟩;obtain ⟨c,x,y,e1,e2,rfl,nc,rfl⟩:=y;exact hs i x y σ H c (e1 xs q1) (e2 ys q2) p nc
 ·have e:i=min xs.length ys.length:=by omega
  subst e;exact .inl ⟨⟨xs,ys,q1,q2,by omega⟩,hd σ H p⟩
def Vk {α:Type}{nm:α->Str}{l:List α}(nd:(l.map nm).Nodup){b b':α}(h:b∈l)(h':b' ∈l)(e:nm b=nm b'):b=b':=by
 obtain ⟨i,hi,ei⟩:=aeR.mp h;obtain ⟨j,hj,ej⟩:=aeR.mp h';have q1:(l.map nm)[i]?=some (nm b):=by rw [aaa,gE hi,ei];rfl
 have q2:(l.map nm)[j]?=some (nm b):=by rw [aaa,gE hj,ej,e];rfl
 have ij:=(ae7 (by rw [ir];exact hi) nd).mp (q1.trans q2.symm);subst ij;rw [<-ei,<-ej]
def g7 {α:Type}{nm:α->Str}{l:List α}(nd:(l.map nm).Nodup){b b':α}(h:l[i]?=some b)(m:b' ∈l.take i):nm b'≠nm b:=fun e=>by
 have il:=(Wp.mp h).1;obtain ⟨j,hj,ej⟩:=aeR.mp m;rw [agz] at ej;rw [abv] at hj;have q1:(l.map nm)[j]?=some (nm b):=by rw [aaa,gE (by omega),ej,<-e];rfl
 have q2:(l.map nm)[i]?=some (nm b):=by rw [aaa,h];rfl
 have:=(ae7 (by rw [ir];omega) nd).mp (q1.trans q2.symm);omega
def take_snoc {α:Type}{l:List α}{b:α}(h:l[i]?=some b):l.take (i+1)=l.take i++[b]:=by rw [aeQ,h];rfl
def nV (s:ao H H')(n:H' p=none):H p=none:=by
 cases e:H p with
 | none=>rfl
 | some o=>rw [s _ _ e] at n;cases n
abbrev g8 (h:Heap)(z TI TO:abA)(f0:Value)(fb:Bool):Prop:=
 h.get? z=some {cls:=.type "zip",dict:=none,data:=.fields #[f0,.bool fb,.bool false,.ref TI,.ref TO],slots:= #[]}
section
variable {prog:abQ}{w:World}{A:abV}{E:δ}{s:abH}
def yl (h:s.heap.get? a=some o)(q:Q (some o) s):abG (abK prog w) A (loadIfAlive a) Q E s:=fun Γ p _=>by
 show Sem.wp _ _ (.loadIfAlive a .pure) _ _ _ _;rw [Sem.wp_loadIfAlive,h];exact q
def ym {z TI TO T:abA}(hz:g8 s.heap z TI TO (acm T) fb)(hT:s.heap.get? T=some o)
  (hQ:∀h',g8 h' z TI TO (acm T) true->acn z s.heap h' ->Q false {s with heap:=h'}):abG (abK prog w) A (abX (.ref z)) Q E s:=by
 unfold abX;refine abz (aci hz rfl (x:=acm T) rfl ?_);show abG _ _ (loadIfAlive ((T:Int)).toNat >>=_) _ _ _;refine abz (yl (o:=o) (by simpa using hT) ?_);simp only [Option.isNone_some,afi,if_false];refine abz (aci hz rfl (x:=.bool fb) rfl ?_);cases fb with
 | true=>
  show abG _ _ (if (Value.bool true !=Value.bool true)=true then _ else _) _ _ _;rw [abB (by decide)];exact abF (hQ s.heap hz ⟨rfl,fun _ _=>rfl⟩)
 | false=>
  show abG _ _ (if (Value.bool false !=Value.bool true)=true then _ else _) _ _ _;rw [abC (by decide)];refine abz (acG hz (by simp) fun h' hz' Tb =>abF (hQ h' hz' Tb))
def II {z TI TO T i1 i2 l1 l2:abA}{xs ys:Μ}{Q:δ}(D:ZipApart z TI TO i1 i2 l1 l2)
  (hz:g8 s.heap z TI TO (acm T) fb) (hT:s.heap.get? T=some o) (gm:acd s.heap TI (.ref i1) (.ref i2))
  (h1:s.heap.IsListIter i1 l1 k1) (h2:s.heap.IsListIter i2 l2 k2) (ES:s.heap.IsList l1 xs) (AS:s.heap.IsList l2 ys) (hx:xs[k1]?=some x) (hy:ys[k2]?=some y)
  (hQ:∀h',g8 h' z TI TO (acm T) true->h'.IsListIter i1 l1 (k1+1)->h'.IsListIter i2 l2 (k2+1)->acd h' s.heap.objs.size x y->h'.objs.size=s.heap.objs.size+1->
   (∀c o,c≠z->c≠i1->c≠i2->s.heap.get? c=some o->h'.get? c=some o)->Q (.ref s.heap.objs.size) {s with heap:=h'}):
  abG (abK prog w) A (Builtin.«zip.__next__» ⟨[.ref z],[]⟩) (fun fin s'=>∃v,fin=.done (.ret v)/\Q v s') E s:=by
 show abG _ _ (field (.ref z) 2 >>=_) _ _ _;refine abz (aci hz rfl (x:=.bool false) rfl ?_);show abG _ _ (field (.ref z) 3 >>=_) _ _ _;refine abz (aci hz rfl (x:=.ref TI) rfl ?_);refine abz (acq gm rfl ?_);show abG _ _ (abX (.ref z) >>=_) _ _ _;refine abz (ym hz hT fun h₁ hz₁ BD=>?_);simp only [afi,if_false];refine abz ?_;show abG _ _ (forIn [Value.ref i1,Value.ref i2].toArray _ _) _ _ _;rw [aih];simp only [agR,ag7];refine abz (abz (ace ?_));show abG _ _ (abY (.ref i1) >>=_) _ _ _;refine abz (ado (h1.extBut BD.extBut D.i1z) (ES.extBut BD.extBut D.l1z) hx fun h₂ h1₂ MY=>abF ?_);refine abF ?_;refine abz (abz (ace ?_));show abG _ _ (abY (.ref i2) >>=_) _ _ _;refine abz (ado ((h2.extBut BD.extBut D.i2z).extBut MY.extBut D.i12.symm) ((AS.extBut BD.extBut D.l2z).extBut MY.extBut D.l2i1) hy fun h₄ h2₄ Xc=>abF ?_);refine abF (abF ?_);refine abz (wpAny_newTuple (hsz:=(by show 2<=abE;decide)) ?_);have hsz:h₄.objs.size=s.heap.objs.size:=by rw [Xc.1,MY.1,BD.1]
 refine abF ⟨_,rfl,?_⟩;have hz₄:g8 h₄ z TI TO (acm T) true:=Xc.extBut _ _ D.i2z.symm (MY.extBut _ _ D.i1z.symm hz₁);show Q (.ref h₄.objs.size) _;rw [hsz];refine hQ _ (abD _ hz₄) ((h1₂.extBut Xc.extBut D.i12).at fun o e=>abD _ e) (h2₄.at fun o e=>abD _ e) ?_ (by rw [acf,hsz]) fun c o c1 c3 c4 e=>abD _ (Xc.extBut _ _ c4 (MY.extBut _ _ c3 (BD.extBut _ _ c1 e)));show (h₄.push _).get? _=_;rw [<-hsz];exact abN _ rfl
def MZ {z TI TO T i1 i2 l1 l2:abA}{xs ys:Μ}(hh:A.handled=none)(D:ZipApart z TI TO i1 i2 l1 l2)
  (hz:g8 s.heap z TI TO (acm T) fb) (hT:s.heap.get? T=some o) (gm:acd s.heap TI (.ref i1) (.ref i2))
  (h1:s.heap.IsListIter i1 l1 k1) (h2:s.heap.IsListIter i2 l2 k2) (ES:s.heap.IsList l1 xs) (AS:s.heap.IsList l2 ys) (IJ:xs[k1]?=none\/ys[k2]?=none)
  (hE:∀h' e,(∀c o,c≠z->c≠i1->c≠i2->s.heap.get? c=some o->h'.get? c=some o)->(∃o,h'.get? e=some o/\o.cls=.type "StopIteration")->E (.ref e) {s with heap:=h'}):
  abG (abK prog w) A (Builtin.«zip.__next__» ⟨[.ref z],[]⟩) Q E s:=by
 show abG _ _ (field (.ref z) 2 >>=_) _ _ _;refine abz (aci hz rfl (x:=.bool false) rfl ?_);show abG _ _ (field (.ref z) 3 >>=_) _ _ _;refine abz (aci hz rfl (x:=.ref TI) rfl ?_);refine abz (acq gm rfl ?_);show abG _ _ (abX (.ref z) >>=_) _ _ _;refine abz (ym hz hT fun h₁ hz₁ BD=>?_);simp only [afi,if_false];refine abz ?_;show abG _ _ (forIn [Value.ref i1,Value.ref i2].toArray _ _) _ _ _;rw [aih];simp only [agR,ag7];refine abz (abz (ace ?_));show abG _ _ (abY (.ref i1) >>=_) _ _ _;cases hx:xs[k1]? with
 | none=>
  refine abz (wpAny_nextOf_list_end hh (h1.extBut BD.extBut D.i1z) (ES.extBut BD.extBut D.l1z) hx fun h₂ e MY he=>?_);exact hE h₂ e (fun c o c1 c3 _ x=>MY _ _ c3 (BD.extBut _ _ c1 x)) he
 | some x=>
  have hy:ys[k2]?=none:=by rcases IJ with h|h;rw [hx] at h;cases h;exact h
  refine abz (ado (h1.extBut BD.extBut D.i1z) (ES.extBut BD.extBut D.l1z) hx fun h₂ h1₂ MY=>abF ?_);refine abF ?_;refine abz (abz (ace ?_));show abG _ _ (abY (.ref i2) >>=_) _ _ _;refine abz (wpAny_nextOf_list_end hh ((h2.extBut BD.extBut D.i2z).extBut MY.extBut D.i12.symm) ((AS.extBut BD.extBut D.l2z).extBut MY.extBut D.l2i1) hy fun h₄ e Xc he=>?_);exact hE h₄ e (fun c o c1 c3 c4 x=>Xc _ _ c4 (MY.extBut _ _ c3 (BD.extBut _ _ c1 x))) he
def BE {z TI TO T i1 i2 l1 l2:abA}{xs ys:Μ}{Q:Ξ}(D:ZipApart z TI TO i1 i2 l1 l2)
  (hz:g8 s.heap z TI TO (acm T) fb) (hT:s.heap.get? T=some o) (gm:acd s.heap TI (.ref i1) (.ref i2))
  (h1:s.heap.IsListIter i1 l1 k1) (h2:s.heap.IsListIter i2 l2 k2) (ES:s.heap.IsList l1 xs) (AS:s.heap.IsList l2 ys) (hx:xs[k1]?=some x) (hy:ys[k2]?=some y)
  (hQ:∀h',g8 h' z TI TO (acm T) true->h'.IsListIter i1 l1 (k1+1)->h'.IsListIter i2 l2 (k2+1)->acd h' s.heap.objs.size x y->h'.objs.size=s.heap.objs.size+1->
   (∀c o,c≠z->c≠i1->c≠i2->s.heap.get? c=some o->h'.get? c=some o)->Q (some (.ref s.heap.objs.size)) {s with heap:=h'}):
  abG (abK prog w) A (acS (.ref z)) Q E s:=by
 have Y4 :s.TypeIs (.ref z) "zip":=⟨_,hz,rfl⟩;unfold acS
 exact abz (wpAny_attempt (wpAny_callSpecial?_slot (name:=ab2 "__next__") Y4 acv
  (acp acv Y4 aiF
   (II D hz hT gm h1 h2 ES AS hx hy fun h' a1 a3 a4 a5 a6 a7=>abF (hQ h' a1 a3 a4 a5 a6 a7)) (aiz _))))
def IK {z TI TO T i1 i2 l1 l2:abA}{xs ys:Μ}{Q:Ξ}(hh:A.handled=none)(D:ZipApart z TI TO i1 i2 l1 l2)
  (hz:g8 s.heap z TI TO (acm T) fb) (hT:s.heap.get? T=some o) (gm:acd s.heap TI (.ref i1) (.ref i2))
  (h1:s.heap.IsListIter i1 l1 k1) (h2:s.heap.IsListIter i2 l2 k2) (ES:s.heap.IsList l1 xs) (AS:s.heap.IsList l2 ys) (IJ:xs[k1]?=none\/ys[k2]?=none)
  (hQ:∀h',(∀c o,c≠z->c≠i1->c≠i2->s.heap.get? c=some o->h'.get? c=some o)->Q none {s with heap:=h'}):abG (abK prog w) A (acS (.ref z)) Q E s:=by
 have Y4 :s.TypeIs (.ref z) "zip":=⟨_,hz,rfl⟩;unfold acS
 refine abz (wpAny_attempt (wpAny_callSpecial?_slot (name:=ab2 "__next__") Y4 acv
  (acp acv Y4 aiF (MZ hh D hz hT gm h1 h2 ES AS IJ fun h' e hk he=>?_) (aiz _))))
 obtain ⟨o,ho,hc⟩:=he;refine abz (aiE (T:="StopIteration") (b:=true) ⟨o,ho,hc⟩ isSubtype_stop ?_);exact abF (hQ _ hk)
end
def OX (h:Heap)(z TI TO i1 i2 a b S:abA)(i:Nat):Prop:=(g8 h z TI TO .none false\/∃(T:abA)(o:Obj)(fb:Bool),g8 h z TI TO (acm T) fb/\h.get? T=some o/\T≠z/\T≠TO/\T≠i1/\T≠i2/\T≠S)/\acd h TI (.ref i1) (.ref i2)/\(∃x y,acd h TO x y)/\h.IsListIter i1 a i/\h.IsListIter i2 b i
section
variable {prog:abQ}{w:World}{A:abV}{E:δ}{s:abH}{z TI TO i1 i2 a b S:abA}{i:Nat}
def OX.frame (st:OX h z TI TO i1 i2 a b S i)(k:∀c o,c≠S->h.get? c=some o->h'.get? c=some o)(nz:z≠S)(n1:TI≠S)(n2:TO≠S)(n3:i1≠S)(n4:i2≠S):OX h' z TI TO i1 i2 a b S i:=by
 obtain ⟨hz,gm,⟨x,y,jY⟩,h1,h2⟩:=st;refine ⟨?_,k _ _ n1 gm,⟨x,y,k _ _ n2 jY⟩,h1.at fun o e=>k _ o n3 e,h2.at fun o e=>k _ o n4 e⟩
 rcases hz with hz|⟨T,o,fb,hz,hT,t1,t2,t3,t4,t5⟩
 ·exact .inl (k _ _ nz hz)
 ·exact .inr ⟨T,o,fb,k _ _ nz hz,k _ _ t5 hT,t1,t2,t3,t4,t5⟩
def OX.item {xs ys:Μ}{Q:Ξ}(D:ZipApart z TI TO i1 i2 a b)(st:OX s.heap z TI TO i1 i2 a b S i)(hS:s.heap.get? S=some oS)
  (ES:s.heap.IsList a xs) (AS:s.heap.IsList b ys) (hx:xs[i]?=some x) (hy:ys[i]?=some y)
  (hQ:∀h',OX h' z TI TO i1 i2 a b S (i+1)->acd h' s.heap.objs.size x y->(∀c o,c∉[z,TI,TO,i1,i2]->s.heap.get? c=some o->h'.get? c=some o)->Q (some (.ref s.heap.objs.size)) {s with heap:=h'}):
  abG (abK prog w) A (acS (.ref z)) Q E s:=by
 obtain ⟨hz,gm,⟨x0,y0,jY⟩,h1,h2⟩:=st;have lt:∀{c o},s.heap.get? c=some o->s.heap.objs.size≠c:=fun e=>afz (abJ e);have e1:∃o,s.heap.get? i1=some o:=by obtain ⟨o,e,_⟩:=h1;exact ⟨o,e⟩
 have e2:∃o,s.heap.get? i2=some o:=by obtain ⟨o,e,_⟩:=h2;exact ⟨o,e⟩
 obtain ⟨o1,e1⟩:=e1;obtain ⟨o2,e2⟩:=e2;have Y5:∀{c:abA},c∉[z,TI,TO,i1,i2]->c≠z/\c≠TI/\c≠TO/\c≠i1/\c≠i2:=fun h=>by simpa using h
 rcases hz with hz|⟨T,o,fb,hz,hT,t1,t2,t3,t4,t5⟩
 ·refine wpAny_pyNext_zip_item D hz gm jY h1 h2 ES AS hx hy fun h' a1 a2 a3 a4 a5 a6 a7=>?_
  refine hQ h' ⟨.inr ⟨_,_,false,a1,a5,lt hz,lt jY,lt e1,lt e2,lt hS⟩,a7 _ _ D.TIz D.TITO D.TIi1 D.TIi2 gm,⟨_,_,a2⟩,a3,a4⟩ a5 fun c o hc e=>?_;obtain ⟨c1,c2,c3,c4,c5⟩:=Y5 hc;exact a7 c o c1 c3 c4 c5 e
 ·refine BE D hz hT gm h1 h2 ES AS hx hy fun h' a1 a3 a4 a5 a6 a7=>?_
  refine hQ h' ⟨.inr ⟨T,o,true,a1,a7 _ _ t1 t3 t4 hT,t1,t2,t3,t4,t5⟩,a7 _ _ D.TIz D.TIi1 D.TIi2 gm,⟨_,_,a7 _ _ D.TOz D.TOi1 D.TOi2 jY⟩,a3,a4⟩ a5 fun c o hc e=>?_;obtain ⟨c1,c2,c3,c4,c5⟩:=Y5 hc;exact a7 c o c1 c4 c5 e
def OX.fin {xs ys:Μ}{Q:Ξ}(hh:A.handled=none)(D:ZipApart z TI TO i1 i2 a b)(st:OX s.heap z TI TO i1 i2 a b S i)
  (ES:s.heap.IsList a xs) (AS:s.heap.IsList b ys) (IJ:xs[i]?=none\/ys[i]?=none)
  (hQ:∀h',(∀c o,c∉[z,TI,TO,i1,i2]->s.heap.get? c=some o->h'.get? c=some o)->Q none {s with heap:=h'}):abG (abK prog w) A (acS (.ref z)) Q E s:=by
 obtain ⟨hz,gm,⟨x0,y0,jY⟩,h1,h2⟩:=st;have Y5:∀{c:abA},c∉[z,TI,TO,i1,i2]->c≠z/\c≠TI/\c≠TO/\c≠i1/\c≠i2:=fun h=>by simpa using h
 rcases hz with hz|⟨T,o,fb,hz,hT,t1,t2,t3,t4,t5⟩
 ·refine wpAny_pyNext_zip_end hh D hz gm jY h1 h2 ES AS IJ fun h' kk=>hQ h' fun c o hc e=>?_
  obtain ⟨c1,c2,c3,c4,c5⟩:=Y5 hc;exact kk c o c1 c3 c4 c5 e
 ·refine IK hh D hz hT gm h1 h2 ES AS IJ fun h' kk=>hQ h' fun c o hc e=>?_
  obtain ⟨c1,c2,c3,c4,c5⟩:=Y5 hc;exact kk c o c1 c4 c5 e
end
section
variable {X:Cx}{pins:ε}{σ:L2.St}
def IL (h:H p=none)(o:HO):ao H (upd H p o):=fun b u q=>by rw [aj (ak q h)];exact q
end
def QG (l:abA)(its:Μ)(n:Nat)(b:abA)(fL:Μ)(n2:Nat)(d:Λ)(sl:Ν)(hs0:¬(!its.isEmpty && acu (its.size+fL.size))=true)(hs1:its.size<=abE)(DT:its.size+fL.size<=abE+1):
  Meets (Builtin.«list.extend» ⟨[.ref l,.ref b],[]⟩) (fun _ R s=>s.heap.get? l=some {cls:=.type "list",dict:=none,data:=.seq its n,slots:= #[]}/\s.heap.get? b=some {cls:=.type "tuple",dict:=d,data:=.seq fL n2,slots:=sl}/\
   R (.ok (.ret Value.none)) {s with heap:=s.heap.update l (acN fun x=>x++fL),toks:=s.toks}):=
 .of_wp fun prog w A R s h=>by
  obtain ⟨hp,g,dd,tk,os⟩:=s;obtain ⟨hl,hb,h⟩:=h;have f1:=AutoSeq1.idx_int;have f2:=AutoSeq1.sub_tuple_tuple;have f3:=AutoSeq1.sub_list_list;have f4:=AutoSeq1.sub_tuple_list;have f5:=AutoSeq1.sub_list_tuple;have hz':(its++fL).size<=abE+1:=by rw [Array.size_append];exact DT
  wp_walk using (aiN hl rfl (hz:=hs1) (_hz':=hz')),wpAny_loadPart' hl,wpAny_loadPart' hb
  exact ⟨_,rfl,h⟩
section
variable {X:Cx}
def Y6 (K:Frag):V->List V->Hp->VK->Prop:=fun x vs H Q=>∃l b xs zs,x=.ref l/\vs=[.ref b]/\H l=some (.lst xs)/\bQ K H b zs/\xs.length+zs.length<=1000/\Q .cT (upd H l (.lst (xs++zs)))
def QH:MtR X "list.extend" (Y6 X.K):=by
 intro pins s σ H x vs v us Q I rx rv h;obtain ⟨l,b,xs,zs,rfl,rfl,hH,hB,hz,q⟩:=h;cases rx;obtain ⟨u,rfl,ru⟩:=rv.one;cases ru;obtain ⟨z,its,n,r,hl,e⟩:=I.qJ hH;obtain ⟨fL,r2,tp,z2⟩:=I.tuple hB;have AS:=r2.length;have big:(1000:Nat)<=abE:=by decide
 have hsz:its.toArray.size+fL.toArray.size<=abE:=by rw [aeq,aeq];omega
 have Ma:¬ (!its.toArray.isEmpty && acu (its.toArray.size+fL.toArray.size))=true:=by
  rw [xT hsz,ag4];exact aem
 obtain ⟨⟨c,d,dt,sl⟩,e2,hc,n2,hd⟩:=tp;obtain rfl:c=Value.type "tuple":=hc;obtain rfl:dt=_:=hd
 refine call_meets F.slot_list_extend ⟨_,e,rfl⟩ F.entry_list_extend (F.args_list_extend_2 _ _)
  (QG l its.toArray n b fL.toArray n2 d sl Ma (by rw [aeq];omega) (by omega)) ⟨e,e2,?_⟩
 refine ⟨.cT,_,I.Yd (its':=its++fL) hH e (by simp) (r.append r2) ?_,rfl,q⟩;rw [aba];omega
end
def vH:typeLookup (.type "zip") "__getattr__"=pure none:=by rw [typeLookup_type,builtinLookup_eq_fast];kernel_rfl
def IM:typeLookup (.type "zip") "keys"=pure none:=by rw [typeLookup_type,builtinLookup_eq_fast];kernel_rfl
def BF:entryFor table "zip.__getattribute__"=some Builtin.«object.__getattribute__»:=
 entryFor_alias (id':="object.__getattribute__") (by kernel_rfl) (by decide+kernel) (by decide+kernel) (by kernel_rfl)
def oR:entryFor table "dict.update.loop"=some Builtin.«dict.update.loop»:=entryFor_of_tree (by kernel_rfl)
def iq:plainId "dict.update.loop"=true:=by decide+kernel
def M0 (a:abA)(vs:Μ)(u:Tok):
  Meets (Builtin.«object.__getattribute__» ⟨[.ref a,.str "keys" u],[]⟩) (fun A R s=>s.heap.get? a=some {cls:=.type "zip",dict:=none,data:=.fields vs,slots:= #[]}/\raisesAttr (.ref a) "keys" A R s):=
 Meets.of_wp fun prog w A R s hs=>by
  obtain ⟨hp,g,d,tk,os⟩:=s;obtain ⟨hx,hs⟩:=hs;have hT:(⟨hp,g,d,tk,os⟩:abH).TypeIs (.ref a) "zip":=⟨_,hx,rfl⟩;have hm:=IM;unfold Builtin.«object.__getattribute__»
  repeat (any_goals (first|(assumption)|wp_step))
  exact wpAny_raiseAttrError hs.1 hs.2 (attrMsg_fits (by decide+kernel) (by decide+kernel))
section
variable {prog:abQ}{w:World}{A:abV}{E:δ}{s:abH}
def yn {vs:Μ}{Q:Ξ}(hx:s.heap.get? z=some {cls:=.type "zip",dict:=none,data:=.fields vs,slots:= #[]})(hA:A.handled=none)
  (h:∀h' tk,(∀b o,s.heap.get? b=some o->h'.get? b=some o)->Q none {s with heap:=h',toks:=tk}):abG (abK prog w) A (getAttr? (.ref z) "keys") Q E s:=by
 obtain ⟨hp,g,d,tk,os⟩:=s;have hT:∀tk',(⟨hp,g,d,tk',os⟩:abH).TypeIs (.ref z) "zip":=fun _=>⟨_,hx,rfl⟩;have f1:=sub_AttributeError;have f3:=F.slot_zip_getattribute.lookup;have f4:=F.slot_zip_getattribute.bind (.ref z);have f5:=vH;unfold getAttr? getAttrBy? getAttrBy
 repeat (any_goals (first|(assumption)|exact hT _|((with_reducible show abG _ _ (call (Value.builtin "zip.__getattribute__") _ _) _ _ _);refine call_meets F.slot_zip_getattribute (hT _) BF (F.args_zip_getattribute_2 _ _) (M0 z vs _) ⟨hx,hA,fun h' tk' e OT =>?_⟩)|wp_step))
 obtain ⟨t',u',he⟩:=OT.there;show abG _ _ (getattributeRaised _ _ _ _ _ _ _) _ _ _;unfold getattributeRaised
 repeat (any_goals (first|(assumption)|wp_step))
 exact h _ _ OT.keeps
def tG {z TI TO:abA}{Q:δ}(hA:A.in1.in1.handled=none)(hz:adk s.heap z TI TO f0)
  (hL:∀(h':Heap)(tk:Nat)(R:Υ),(∀b o,s.heap.get? b=some o->h'.get? b=some o)->h'.get? s.heap.objs.size=some {cls:=.type "dict",data:=.dict #[]}->
   (∀s',Q (.ref s.heap.objs.size) s' ->R (.ok (.ret .none)) s')->acA (abK prog w) A.in1 (.builtin "dict.update.loop" ⟨[.ref s.heap.objs.size,.ref z,acm 0,.none],[]⟩) R {s with heap:=h',toks:=tk}):
  abG (abK prog w) A (call (.type "dict") [.ref z]) Q E s:=by
 refine callType_codes (Q₁:=fun obj s₁=>obj=.ref s.heap.objs.size/\s₁={s with heap:=s.heap.push {cls:=.type "dict",data:=.dict #[]}}) F.kt_called_dict (F.kt_typeCall_dict_1 _) F.entry_dict_init (kt_code_dict_new _ ⟨rfl,rfl⟩) ?_;rintro obj s₁ ⟨rfl,rfl⟩;have hS:(s.heap.push {cls:=.type "dict",data:=.dict #[]}).get? s.heap.objs.size=some {cls:=.type "dict",data:=.dict #[]}:=abN _ rfl;have k0:∀b o,s.heap.get? b=some o->(s.heap.push {cls:=.type "dict",data:=.dict #[]}).get? b=some o:=fun b o e=>abD _ e;generalize hN:s.heap.objs.size=S at hS hL ⊢;generalize s.heap.push {cls:=.type "dict",data:=.dict #[]}=hp at hS k0 ⊢;have Y7:hp.get? z=_:=k0 _ _ hz;have hTS:Shared.TypeIs {s with heap:=hp} (.ref S) "dict":=⟨_,hS,rfl⟩;have hT:Shared.TypeIs {s with heap:=hp} (.ref z) "zip":=⟨_,Y7,rfl⟩;refine ⟨hTS,F.args_dict_init_2 _ _,?_⟩;unfold Builtin.«dict.__init__»;refine abz ?_;unfold Builtin.Dict.selfAndRest;refine abz (wpAny_notOrdered_dict hTS ?_);refine abF ?_;show abG _ _ (Builtin.Dict.updateFrom "dict.__init__" S (.ref z) [] .none) _ _ _;unfold Builtin.Dict.updateFrom;refine abz (wpAny_typeOf hT ?_);rw [abC (by decide)];refine abz (yn (s:={s with heap:=hp}) Y7 hA fun h' tk k1=>?_);rw [abC (by rfl)];refine abz (wpAny_rule ?_);have hz3:adk h' z TI TO f0:=k1 _ _ Y7;refine abz (adz (s:={s with heap:=h',toks:=tk}) hz3 ?_);exact abF ⟨aiD iq _,hL _ _ _ (fun b o e=>k1 _ _ (k0 _ _ e)) (k1 _ _ hS) fun s' hq=>⟨rfl,hq⟩⟩
end
section
variable {X:Cx}{pins:ε}{σ:L2.St}
def yo (kvs more:γ)(kv:Key×V):dy kvs (more++[kv])=putK (dy kvs more) kv.1 kv.2:=by
 unfold dy;rw [List.foldl_append];rfl
def Vl {z TI TO i1 i2 a b S:abA}{R:Υ}{ks:List Key}(hh:A'.in1.handled=none)(D:ZipApart z TI TO i1 i2 a b)(na:a≠S)(nb:b≠S)(hk1:ks.length<=1000):
  ∀(k i:Nat)(s:abH)(H:Hp),min ks.length ys.length-i=k->i<=min ks.length ys.length->Inv X pins σ H s->(∀c∈[z,TI,TO,i1,i2],m9 X pins H c)->OX s.heap z TI TO i1 i2 a b S i->
  H a=some (.lst (ks.map kV))->H b=some (.lst ys)->H S=some (.dK (dy [] ((ks.zip ys).take i)))->bw S H0 H->
  (∀s' H',Inv X pins σ H' s' ->bw S H0 H' ->H' S=some (.dK (dy [] (ks.zip ys)))->R (.ok (.ret .none)) s')->
  acA (abK X.prog X.w) A' (.builtin "dict.update.loop" ⟨[.ref S,.ref z,acm (i:Int),.none],[]⟩) R s:=by
 have ayY:(ks.zip ys).length=min ks.length ys.length:=an8;intro k
 induction k with
 | zero=>
  intro i s H hk hi I hf st ha hb hS hks hR;refine codeAny_builtin oR ?_;rw [Around.under_plainId iq _];show abG _ A'.in1 (acS (.ref z) >>=_) _ _ s;obtain ⟨z1,its,n1,r1,l1,e1⟩:=I.qJ ha;obtain ⟨z2,U7,n2,r2,l2,e2⟩:=I.qJ hb;rw [ir] at l1;refine abz (st.fin hh D ⟨_,e1,rfl,_,rfl⟩ ⟨_,e2,rfl,_,rfl⟩ ?_ fun h' kk=>?_)
  ·by_cases c:ks.length<=i
   ·exact .inl (by simp;omega)
   ·exact .inr (by simp;omega)
  ·rw [aeE (by omega)] at hS
   exact abz (abF (abF (hR _ H (Inv.mm (t':=s.toks) I kk hf) hks hS)))
 | succ k ih=>
  intro i s H hk hi I hf st ha hb hS hks hR;refine codeAny_builtin oR ?_;rw [Around.under_plainId iq _];show abG _ A'.in1 (acS (.ref z) >>=_) _ _ s;obtain ⟨z1,its,n1,r1,l1,e1⟩:=I.qJ ha;obtain ⟨z2,U7,n2,r2,l2,e2⟩:=I.qJ hb;have lx:i<ks.length:=by omega
  have ly:i<ys.length:=by omega
  obtain ⟨u,hu,ru⟩:=r1.get (i:=i) (x:=kV ks[i]) (by rw [aaa,gE lx];rfl);obtain ⟨v,hv,rv⟩:=r2.get (i:=i) (x:=ys[i]) (gE ly);obtain ⟨zS0,ayZ,vs0,agt,dd0⟩:=mw I.bM hS;obtain ⟨oS,_,_,eS,_⟩:=id dd0;refine abz (st.item D eS ⟨_,e1,rfl,_,rfl⟩ ⟨_,e2,rfl,_,rfl⟩ (x:=u) (y:=v) (by simpa using hu) (by simpa using hv) fun h' DP ht kk=>?_)
  have Xd:∀c∈[z,TI,TO,i1,i2],c≠S:=fun c hc e=>by
   have:=(hf c hc).1;rw [e,hS] at this;cases this
  have I2:Inv X pins σ H {s with heap:=h',toks:=s.toks}:=Inv.mm (t':=s.toks) I kk hf;obtain ⟨zS,hdS,vs,rel,dd⟩:=mw I2.bM hS;have hT:Shared.TypeIs {s with heap:=h',toks:=s.toks} (.ref s.heap.objs.size) "tuple":=⟨_,ht,rfl⟩;refine abz (ace ?_);refine abz (wpAny_tryCatch ?_);unfold Builtin.Dict.pairItems;refine abz (wpAny_typeOf hT ?_);rw [abC (by decide)];refine abz (acq ht rfl (abF ?_));show abG _ A'.in1 (holding [u,v] (dictSet S u v)) _ _ _;refine ace ?_;have hlen:vs.length<=abE:=by rw [<-rel.length];exact zS
  refine wpAny_dictSet_pairs (hsz:=hlen) (mq ru) dd fun h2 dd2 sb=>?_;have he:∃q,h2.get? S=some q:=let ⟨q,_,_,hq,_⟩:=dd2;⟨q,hq⟩
  have etk:(ks.zip ys).take (i+1)=(ks.zip ys).take i++[(ks[i],ys[i])]:=by
   rw [aeQ];have:(ks.zip ys)[i]?=some (ks[i],ys[i]):=by rw [agl];exact ⟨gE lx,gE ly⟩
   rw [this];rfl
  have Y8:dy [] ((ks.zip ys).take (i+1))=putK (dy [] ((ks.zip ys).take i)) ks[i] ys[i]:=by rw [etk,yo]
  have hl:(putK (dy [] ((ks.zip ys).take i)) ks[i] ys[i]).length<=abE:=by
   rw [<-Y8];have h1:=iG ((ks.zip ys).take (i+1)) [];rw [abv,ahI] at h1;exact aay (show (dy [] ((ks.zip ys).take (i+1))).length<=1000 by omega) (by decide)
  have I3:Inv X pins σ (upd H S (.dK (putK (dy [] ((ks.zip ys).take i)) ks[i] ys[i]))) {s with heap:=h2,toks:=s.toks+1}:=my (s:={s with heap:=h',toks:=s.toks}) (t':=s.toks+1) I2 (by rw [hS];exact True.intro) sb he (qW hl hdS (rel.put ks[i] rv) dd2);have kS:∀c o,c≠S->h'.get? c=some o->h2.get? c=some o:=fun c o n e=>(sb.2 c n).trans e;refine abF ⟨aiD iq _,?_⟩;have nn:∀{c:abA} {o:HO},H c=some o->c≠S->(upd H S (.dK (putK (dy [] ((ks.zip ys).take i)) ks[i] ys[i]))) c=some o:=fun {c o} e n=>by rw [aj n];exact e
  refine ih (i+1) _ _ (by omega) (by omega) I3 (fun c hc=>?_) (DP.frame kS (Xd z (by simp)) (Xd TI (by simp)) (Xd TO (by simp)) (Xd i1 (by simp)) (Xd i2 (by simp))) (nn ha na) (nn hb nb) (by rw [Y8,ah]) (fun c o n e=>nn (hks c o n e) n) hR;obtain ⟨f0,f1,f2,f3,f4,f5⟩:=hf c hc;exact ⟨by rw [aj (Xd c hc)];exact f0,f1,f2,f3,f4,f5⟩
def Vm (ta:TA):TE:=fun σ H Q=>ta σ H fun vs H1=>∃(a b:abA)(ks:List Key)(ys:ζ),vs=[.ref a,.ref b]/\H1 a=some (.lst (ks.map kV))/\H1 b=some (.lst ys)/\ks.length<=1000/\
 ∀(l:abA)(H':Hp),ao H1 H' ->H1 l=none->H' l=some (.dK (dy [] (ks.zip ys)))->Q (.ref l) H'
def boot_dict:abZ "dict"=some (.type "dict"):=by decide+kernel
def M7 {p pos p' pos':Pos}(hc:X.calm=true)(hgl:Gl X "dict")(hml:X.mg "dict"=none)(hg:Gl X "zip")(hm:X.mg "zip"=none)(ha:PA X [e1,e2] ta)(hs:abP [e1,e2] X.env=[(false,abW e1 X.env),(false,abW e2 X.env)]:=by rfl)(DT:abP [e2] X.env=[(false,abW e2 X.env)]:=by rfl)
  (hs3:abP [(.Call (.Name "zip" p) [e1,e2] [] pos:Expr)] X.env=[(false,abW (.Call (.Name "zip" p) [e1,e2] [] pos) X.env)]:=by rfl):
  PE X (.Call (.Name "dict" p') [.Call (.Name "zip" p) [e1,e2] [] pos] [] pos') (Vm ta):=by
 intro pins s σ H Q I h;refine Call_ (i6 I hgl hml boot_dict (ab8 ?_ hs3 rfl));rw [hs3];show abG _ _ (spliced ((false,abW (.Call (.Name "zip" p) [e1,e2] [] pos) X.env)::[])) _ _ s;refine acD ?_;refine Call_ (i6 I hg hm boot_zip (ab8 (cF (ha pos pins s σ H _ I h) fun us s1 ⟨vs,H1,I1,r1,q1⟩=>?_) (by rw [hs,DT]) (by rw [DT];rfl)));obtain ⟨a,b,ks,ys,e,hx,hy,hkl,q⟩:=q1;subst e;cases r1 with
 | cons r rr=>
  cases rr with
  | cons r' rr=>
   cases rr;cases r;cases r';obtain ⟨z1,its,n1,r1,l1,e1⟩:=I1.qJ hx;obtain ⟨z2,U7,n2,r2,l2,e2⟩:=I1.qJ hy;have lt1:a<s1.heap.objs.size:=abJ e1;have Yy:b<s1.heap.objs.size:=abJ e2;refine call_zip_2 ⟨_,e1,rfl,_,rfl⟩ ⟨_,e2,rfl,_,rfl⟩ fun h' hz gm jY xY U8 hsz hk=>aiw ?_;have I2:Inv X pins σ H1 {s1 with heap:=h',toks:=s1.toks}:=I1.kept (t':=s1.toks) hk;have hS:=I2.bM.fresh (aaA h'.objs.size);refine tG (s:={s1 with heap:=h'}) (I1.ok.hd hc) hz fun h2 tk R k2 Y9 hR=>?_;have lt':abO<h'.objs.size:=(I2.mod.glob.keeps I2.bk).lt;have ns:(h'.objs.size==ab7)=false:=beq_eq_false_iff_ne.mpr (aeD (aew (ahy (by decide) lt')));have I3:Inv X pins σ (upd H1 h'.objs.size (.dK [])) {s1 with heap:=h2,toks:=tk}:=I2.laid (t':=tk) k2 (aaA _) ⟨aeF _,ns,[],.nil,_,_,_,Y9,⟨rfl,rfl,rfl⟩,rfl,fun _ he=>by simp at he,Pairs.nil,ahW⟩
   have st:OX h2 (s1.heap.objs.size+4) (s1.heap.objs.size+2) (s1.heap.objs.size+3) s1.heap.objs.size (s1.heap.objs.size+1) a b h'.objs.size 0:=
    ⟨.inl (k2 _ _ hz),k2 _ _ gm,⟨_,_,k2 _ _ jY⟩,xY.at fun o e=>k2 _ o e,U8.at fun o e=>k2 _ o e⟩
   have na:a≠h'.objs.size:=ak hx hS;have nb:b≠h'.objs.size:=ak hy hS;have OY:=IL hS (.dK []);refine Vl (A':=X.A.in1) (H0:=H1) (ks:=ks) (ys:=ys) (I1.ok.hd hc) ?_ na nb hkl (min ks.length ys.length) 0 _ _ (by omega) (aeF _) I3 (fun c' pH =>?_) st (OY _ _ hx) (OY _ _ hy) ah (fun b' o n e=>OY _ _ e) fun s' H' I' ks' Vf =>hR s' ⟨.ref h'.objs.size,H',I',rfl,q _ H' (fun b' o e=>ks' b' o (ak e hS) e) hS Vf⟩
   ·constructor<;>(intro z;simp only [abA] at*;omega)
   ·have hc2:c'=s1.heap.objs.size+4\/c'=s1.heap.objs.size+2\/c'=s1.heap.objs.size+3\/c'=s1.heap.objs.size\/c'=s1.heap.objs.size+1:=by simpa using pH
    have hb:s1.heap.objs.size<=c':=by
     simp only [abA] at*;omega
    have hb2:c'≠h'.objs.size:=by
     rw [hsz];simp only [abA] at*;omega
    refine I1.m_ hb ?_;rw [aj hb2];exact I1.bM.fresh hb
end
def cH.snoc {K:Frag}(h:cH K H us qs)(n:jw K H v q):cH K H (us++[v]) (qs++[q]):=by
 refine ⟨by simp [h.1],fun i u q' e1 e2=>?_⟩;have l:=h.1;by_cases c:i<us.length
 ·rw [aby c] at e1
  rw [aby (by omega)] at e2;exact h.2 i u q' e1 e2
 ·rw [abx (by omega)] at e1 e2
  by_cases z:i-us.length=0
  ·rw [z] at e1
   rw [show i-qs.length=0 by omega] at e2;cases e1;cases e2;exact n
  ·rw [aaz (by simp;omega)] at e1
   cases e1
def cH.aJ {K:Frag}(h:cH K H us qs)(s:aY H H'):cH K H' us qs:=⟨h.1,fun i u q e1 e2=>(h.2 i u q e1 e2).aJ s⟩
variable {X:Cx}
def aY.ks (h0:H D=some (.lst ys))(ks:bw D H H'):aY H H':=fun b xs r=>by
 rcases r with r|⟨o',r⟩
 ·exact .inl (ks _ _ (fun e=>by rw [e,h0] at r;cases r) r)
 ·exact .inr ⟨o',ks _ _ (fun e=>by rw [e,h0] at r;cases r) r⟩
section
variable {X:Cx}{K:Frag}
inductive Y_ (K:Frag)(x:V)(y:V)(H:Hp)(Q:VK):Prop
|mk (p xs i v:_)(_:x=.ref p)(_:y=.int i)(_:aT K H p xs\/bQ K H p xs)(_:iZ xs i=some v)(_:Q v H)
def ET:S5 X (Y_ X.K):=by
 intro value slice pins s σ H x y v u Q I rx ry h hs;obtain ⟨p,xs,i,z,e1,e2,hq,he,q⟩:=h
 rcases hq with hq|hq
 ·exact aR value slice pins s σ H x y v u Q I rx ry ⟨p,xs,i,z,e1,e2,hq,he,q⟩ hs
 ·exact nq value slice pins s σ H x y v u Q I rx ry ⟨p,xs,i,z,e1,e2,hq,he,q⟩ hs
end
section
variable {D:abA}{te:TE}{cap:L2.St}{H1:Hp}{Q:VK}
def rl {K:Frag}(J:List V->Hp->Prop)(nD:H1 D=none)(hn:xs.length<abE)(hS:∀H,ao H1 H->aT K H a xs)(h0:J [] (upd H1 D (.lst [])))
  (he:∀(i:Nat) x ys H (R:VK),xs[i]?=some x->ys.length=i->J ys H->ao H1 H->H D=some (.lst ys)->(∀v H6,ao H H6->J (ys++[v]) (upd H6 D (.lst (ys++[v])))->R v H6)->te (some x::cap) H R)
  (hd:∀ys H,ys.length=xs.length->J ys H->ao H1 H->H D=some (.lst ys)->Q (.ref D) H):
  nC D (c_ 0) kr te (P8 K a) (none::cap) H1 Q:=by
 refine vx xs.length (fun i=>(xs[i]?).getD .cT) (fun i ys H=>ys.length=i/\J ys H/\ao H1 H) ⟨rfl,h0,fun b o e=>by rw [aj (ak e nD)];exact e⟩ ?_ ?_ ?_ ?_
 ·rintro i ys H hi ⟨_,_,s⟩
  exact ⟨⟨xs,xs[i],hS H s,gE hi⟩,fun x H' y=>⟨y.1,by rw [y.2 xs (hS H s)];rfl⟩⟩
 ·rintro ys H ⟨_,_,s⟩
  exact ⟨xs,hS H s,aaA _⟩
 ·rintro i ys H R hi ⟨l,j,s⟩ hD k
  have e:xs[i]?=some xs[i]:=gE hi;have k':=he i _ ys H R e l j s hD fun v H6 s6 jv=>k v H6 (s6 _ _ hD) (by omega) ⟨by simp [l],jv,fun b o e=>by rw [aj (ak e nD)];exact s6 _ _ (s _ _ e)⟩;rw [<-(show (xs[i]?).getD .cT=xs[i] by rw [e];rfl)] at k';exact k'
 ·rintro ys H ⟨l,j,s⟩ hD
  exact hd ys H l j s hD
end
end Ty
namespace Ty
theorem uM {α:Type}[DecidableEq α]:∀{l m:List α},l.Nodup->(∀x∈l,x∈m)->l.length<=m.length
 | [],_,_,_=>aeF _
 | x::l,m,h,k=>by
  obtain ⟨h1,h2⟩:=aeC.mp h;have hx:=k x aa_;have:=uM (l:=l) (m:=m.erase x) h2 fun y hy=>(List.mem_erase_of_ne (fun z:y=x=>h1 (by rw [<-z];exact hy))).mpr (k y (aax _ hy));rw [List.length_erase_of_mem hx] at this;have p:=List.length_pos_of_mem hx;show l.length+1<=m.length;omega
noncomputable def box (B:Nat):Nat->List (List Int)
 | 0=>[[]]
 | n+1=>(box B n).flatMap fun y=>(aev (B+1)).map fun (a:Nat)=>(a:Int)::y
theorem EU {α:Type}(c:Nat):∀l:List α,(l.map fun _=>c).sum=l.length*c
 | []=>by simp
 | _::l=>by
  rw [aaw,ad_,EU c l,aey,ae'];omega
theorem vI (B:Nat):∀n,(box B n).length=(B+1)^n
 | 0=>rfl
 | n+1=>by
  have ih:=vI B n;unfold box;rw [List.length_flatMap];have:((box B n).map fun y=>((aev (B+1)).map fun (a:Nat)=>(a:Int)::y).length)=(box B n).map fun _=>B+1:=abk fun y _=>by rw [ir,aeJ]
  rw [this,EU,ih,agw]
theorem uN (B:Nat):∀n,(box B n).Nodup
 | 0=>by simp [box]
 | n+1=>by
  have ih:=uN B n;unfold box;unfold aog at ih ⊢;rw [List.pairwise_flatMap];refine ⟨fun y _=>?_,ih.imp fun {y1 y2} ne x hx z hz e=>?_⟩
  ·rw [ahb]
   exact anU.imp fun {a b} ne e=>ne (by injection e with e _;exact Int.ofNat.inj e)
  ·obtain ⟨a,_,rfl⟩:=aar.mp hx
   obtain ⟨b,_,rfl⟩:=aar.mp hz;injection e with _ e
   exact ne e
theorem j9 :∀{n:Nat} {y:ξ},y∈box B n ↔ y.length=n/\∀a∈y,0<=a/\a<=(B:Int)
 | 0,y=>by
  unfold box;rw [abg];constructor
  ·intro e
   rw [e];exact ⟨rfl,fun a h=>nomatch h⟩
  ·intro h
   exact afd.mp h.1
 | n+1,y=>by
  unfold box;rw [ae5];constructor
  ·rintro ⟨z,hz,hy⟩
   obtain ⟨a,ha,rfl⟩:=aar.mp hy;obtain ⟨h1,h2⟩:=(j9 (n:=n)).mp hz;have:=aeZ.mp ha;refine ⟨by simp [h1],fun b hb=>?_⟩
   rcases aes.mp hb with e|e
   ·rw [e]
    omega
   ·exact h2 b e
  ·rintro ⟨h1,h2⟩
   match y,h1 with
   | a::z,h1=>
    have ha:=h2 a aa_;refine ⟨z,(j9 (n:=n)).mpr ⟨by simpa using h1,fun b hb=>h2 b (aax _ hb)⟩,aar.mpr ⟨a.toNat,aeZ.mpr (show a.toNat<B+1 by omega),?_⟩⟩;rw [show ((a.toNat:Nat):Int)=a by omega]
noncomputable def iS:List Int->List Int->Int
 | a::e,b::y=>a*b+iS e y
 | _,_=>0
theorem yq:∀(e:ξ) {y z:ξ},y.length=z.length->iS e (aeU (fun a b=>a-b) y z)=iS e y-iS e z
 | [],y,z,h=>by simp [iS]
 | a::e,[],[],h=>by simp [iS]
 | a::e,b::y,c::z,h=>by
  have ih:=yq e (y:=y) (z:=z) (by simpa using h);rw [ahC];simp only [iS];rw [ih,Int.mul_sub];omega
theorem EV :∀{e y:ξ},(∀a∈e,a.natAbs<=A)->(∀b∈y,b.natAbs<=B)->(iS e y).natAbs<=e.length*(A*B)
 | [],y,_,_=>by simp [iS]
 | a::e,[],_,_=>by simp [iS]
 | a::e,b::y,h1,h2=>by
  have ih:=EV (e:=e) (y:=y) (fun x hx=>h1 x (aax _ hx)) fun x hx=>h2 x (aax _ hx);simp only [iS]
  have m:(a*b).natAbs<=A*B:=by
   rw [afc];exact ae6 (h1 a aa_) (h2 b aa_)
  have t:=agd (a*b) (iS e y);rw [aey,ae',ahX];omega
def M8 {eqs:η}(hn:eqs.length<n)(hA:1<=A)(he:∀e∈eqs,e.length=n/\∀a∈e,a.natAbs<=A):∃z:List Int,z.length=n/\(∃a∈z,a≠0)/\(∀a∈z,a.natAbs<=(2*n*A)^eqs.length)/\∀e∈eqs,iS e z=0:=by
 generalize hC:2*n*A=C;generalize hB:C^eqs.length=B
 have c1:1<=C:=by
  rw [<-hC];exact ae6 (show 1<=2*n by omega) hA
 generalize hM:n*(A*B)=M
 have key:¬ ∀y∈box B n,∀z∈box B n,(eqs.map fun e=>iS e y+(M:Int))=(eqs.map fun e=>iS e z+(M:Int))->y=z:=by
  intro inj
  have nd:((box B n).map fun y=>eqs.map fun e=>iS e y+(M:Int)).Nodup:=by
   unfold aog;rw [ahb];refine ahi (fun {y z} hy hz ne e=>ne (inj y hy z hz e)) (uN B n)
  have le:=uM nd (m:=box (2*M) eqs.length) fun x hx=>by
   obtain ⟨y,hy,rfl⟩:=aar.mp hx;obtain ⟨ly,by'⟩:=j9.mp hy;refine j9.mpr ⟨by simp,fun a ha=>?_⟩;obtain ⟨e,hee,rfl⟩:=aar.mp ha
   have b1:=EV (A:=A) (B:=B) (he e hee).2 (y:=y) fun b hb=>by
    have:=by' b hb
    omega
   rw [(he e hee).1,hM] at b1;omega
  rw [ir,vI,vI] at le
  have e1:2*M+1<=C*(B+1):=by
   have e3:2*M=C*B:=by rw [<-hM,<-hC,<-Nat.mul_assoc,<-Nat.mul_assoc]
   rw [e3,Nat.mul_add];omega
  have e2:(2*M+1)^eqs.length<=B*(B+1)^eqs.length:=by
   have:=agZ e1 eqs.length;rw [Nat.mul_pow,hB] at this;exact this
  have e4:(B+1)^(eqs.length+1)<=(B+1)^n:=aet (by omega) hn
  have e5:B*(B+1)^eqs.length<(B+1)^(eqs.length+1):=by
   rw [agw,ag0 ((B+1)^eqs.length)];exact Nat.mul_lt_mul_of_pos_right (aeP B) (Nat.pow_pos (by omega))
  omega
 obtain ⟨y,k1⟩:=ahZ.mp key;obtain ⟨hy,k2⟩:=ahc.mp k1;obtain ⟨z,k3⟩:=ahZ.mp k2;obtain ⟨hz,k4⟩:=ahc.mp k3;obtain ⟨ee,ne⟩:=ahc.mp k4;obtain ⟨ly,by'⟩:=j9.mp hy;obtain ⟨lz,bz⟩:=j9.mp hz;have hl:y.length=z.length:=by omega
 refine ⟨aeU (fun a b=>a-b) y z,by rw [List.length_zipWith];omega,?_,?_,fun e hee=>?_⟩
 ·apply aeV
  intro h;refine ne (List.ext_getElem hl fun i h1 h2=>?_);have h':∀a∈aeU (fun a b=>a-b) y z,a=0:=fun a ha=>aeV fun q=>h ⟨a,ha,q⟩
  have m:y[i]-z[i]∈aeU (fun a b=>a-b) y z:=by
   refine aaq (i:=i) ?_;rw [afj,gE h1,gE h2]
  have:=h' _ m;omega
 ·intro a ha
  obtain ⟨i,ei⟩:=abh ha;rw [afj] at ei
  have hi:i<y.length:=by
   apply aeV;intro q;rw [aaz (by omega)] at ei;cases ei
  rw [gE hi,gE (show i<z.length by omega)] at ei;have ea:y[i]-z[i]=a:=aen ei;have q1:=by' _ (aeT hi)
  have q2:=bz _ (aeT (show i<z.length by omega));omega
 ·rw [yq e hl]
  obtain ⟨i,ei⟩:=abh hee;have e1:=abR (fun l:List Int=>l[i]?) ee;simp only [aaa,ei,afV,Option.some.injEq] at e1;omega
def col (l:ξ)(j:Nat):Rat:=((l.getD j 0:Int):Rat)
inductive dk (A:η):(Nat->Rat)->Prop
 | zero:dk A (fun _=>0)
 | put {f:Nat->Rat} (c:Rat) {a:ξ} (h:a∈A) (hf:dk A f):dk A (fun j=>f j+c*col a j)
def dk.congr (h:dk A f)(e:∀j,f j=g j):dk A g:=(funext e:f=g)▸h
def dk.add (hf:dk A f)(hg:dk A g):dk A (fun j=>f j+g j):=by
 induction hg with
 | zero=>exact hf.congr fun j=>by grind
 | put c h _ ih=>exact (dk.put c h ih).congr fun j=>by grind
def dk.mul (k:Rat)(hf:dk A f):dk A (fun j=>k*f j):=by
 induction hf with
 | zero=>exact dk.zero.congr fun j=>by grind
 | put c h _ ih=>exact (dk.put (k*c) h ih).congr fun j=>by grind
def dk.mem (h:a∈A):dk A (col a):=(dk.put 1 h dk.zero).congr fun j=>by grind
def dk.trans (hf:dk A f)(h:∀a∈A,dk B (col a)):dk B f:=by
 induction hf with
 | zero=>exact dk.zero
 | put c ha _ ih=>exact ih.add ((h _ ha).mul c)
def dk.mono (hf:dk A f)(h:∀a∈A,a∈B):dk B f:=hf.trans fun a ha=>dk.mem (h a ha)
def dk.first {l:ξ}{A:η}(hf:dk (l::A) f):∃a:Rat,dk A (fun j=>f j-a*col l j):=by
 induction hf with
 | zero=>exact ⟨0,dk.zero.congr fun j=>by grind⟩
 | put c h _ ih=>
  obtain ⟨a,ha⟩:=ih
  rcases aes.mp h with e|e
  ·subst e
   exact ⟨a+c,ha.congr fun j=>by grind⟩
  ·exact ⟨a,(dk.put c e ha).congr fun j=>by grind⟩
def dk.last (hf:dk (A++[l]) f):∃a:Rat,dk A (fun j=>f j-a*col l j):=dk.first (hf.mono fun a ha=>by
 rcases abj.mp ha with z|z
 ·exact aax _ z
 ·rw [abg.mp z]
  exact aa_)
def dk.van (hf:dk A f)(h:∀a∈A,col a c=0):f c=0:=by
 induction hf with
 | zero=>rfl
 | put k ha _ ih=>
  dsimp only;rw [ih,h _ ha];grind
structure Lh (nd:π):Prop where
 nn:(nd.map (·.1)).Nodup
 here:∀x∈nd,x.2.getD x.1 0≠0
 off:∀x∈nd,∀y∈nd,x.1≠y.1->x.2.getD y.1 0=0
theorem Lh.zero:∀{nd:π} {f:Nat->Rat},Lh nd->dk (nd.map (·.2)) f->(∀x∈nd,f x.1=0)->∀j,f j=0
 | [],f,_,hf,_=>fun j=>by
  have:∀{g:Nat->Rat},dk [] g->g j=0:=fun {g} h=>h.van fun a ha=>nomatch ha;exact this hf
 | x::r,f,P,hf,hz=>by
  obtain ⟨a,ha⟩:=dk.first hf;have nn:=aeC.mp P.nn
  have v:f x.1-a*col x.2 x.1=0:=ha.van (c:=x.1) fun b hb=>by
   obtain ⟨y,hy,rfl⟩:=aar.mp hb;unfold col;rw [P.off y (aax _ hy) x aa_ (fun z=>nn.1 (by show x.1∈_;rw [<-z];exact aar.mpr ⟨y,hy,rfl⟩))];rfl
  rw [hz x aa_] at v;have Le:col x.2 x.1≠0:=dD (P.here x aa_);have a0:a=0:=by grind
  subst a0;have P':Lh r:=⟨nn.2,fun y hy=>P.here y (aax _ hy),fun y hy z hz=>P.off y (aax _ hy) z (aax _ hz)⟩;exact Lh.zero P' (ha.congr (g:=f) fun j=>by grind) fun y hy=>hz y (aax _ hy)
def Lh.one (P:Lh nd)(hf:dk (nd.map (·.2)) f)(hx:x∈nd)(hz:∀y∈nd,y.1≠x.1->f y.1=0):∃a:Rat,∀j,f j=a*col x.2 j:=by
 have Le:col x.2 x.1≠0:=dD (P.here x hx);refine ⟨f x.1 / col x.2 x.1,fun j=>?_⟩;have g:dk (nd.map (·.2)) fun j=>f j+ -(f x.1 / col x.2 x.1)*col x.2 j:=dk.put _ (aar.mpr ⟨x,hx,rfl⟩) hf
 have:=P.zero g (fun y hy=>by
  by_cases c:y.1=x.1
  ·rw [c]
   grind
  ·rw [hz y hy c]
   have:col x.2 y.1=0:=by
    unfold col;rw [P.off x hx y hy (aeD c)];rfl
   rw [this]
   grind) j
 grind
noncomputable def kJ:List Int->List (List Int)->Nat->Int
 | z::zs,a::A,j=>z*a.getD j 0+kJ zs A j
 | _,_,_=>0
theorem mC:∀(zs:ξ)(A:η),dk A (fun j=>((kJ zs A j:Int):Rat))
 | [],A=>dk.zero.congr fun j=>by simp [kJ]
 | _::_,[]=>dk.zero.congr fun j=>by simp [kJ]
 | z::zs,a::A=>by
  have ih:=(mC zs A).mono (B:=a::A) fun b hb=>aax _ hb;refine (dk.put (z:Rat) (aa_) ih).congr fun j=>?_;simp only [kJ,col];push_cast;grind
theorem vJ (c:Nat):∀(zs:ξ)(A:η),iS (A.map fun a=>a.getD c 0) zs=kJ zs A c
 | [],A=>by cases A<;>simp [kJ,iS]
 | _::_,[]=>by simp [kJ,iS]
 | z::zs,a::A=>by
  simp only [aaw,iS,kJ];rw [vJ c zs A,afl]
theorem BG (j:Nat):∀{zs:ξ} {A:η},(∀z∈zs,z.natAbs<=Z)->(∀a∈A,(a.getD j 0).natAbs<=E)->(kJ zs A j).natAbs<=A.length*(Z*E)
 | [],A,_,_=>by simp [kJ]
 | _::_,[],_,_=>by simp [kJ]
 | z::zs,a::A,h1,h2=>by
  have ih:=BG j (zs:=zs) (A:=A) (fun x hx=>h1 x (aax _ hx)) fun x hx=>h2 x (aax _ hx);simp only [kJ]
  have m:(z*a.getD j 0).natAbs<=Z*E:=by
   rw [afc];exact ae6 (h1 z aa_) (h2 a aa_)
  have t:=agd (z*a.getD j 0) (kJ zs A j);rw [aey,ae',ahX];omega
theorem rm (j:Nat):∀{zs:ξ} {A:η} (z:Int) (a:ξ),zs.length=A.length->kJ (zs++[z]) (A++[a]) j=kJ zs A j+z*a.getD j 0
 | [],[],z,a,_=>by simp [kJ]
 | y::zs,b::A,z,a,h=>by
  have ih:=rm j (zs:=zs) (A:=A) z a (by simpa using h);simp only [agg,kJ];rw [ih];omega
def Y' (l:ξ):Prop:=∀d:Int,(∀j,d ∣ l.getD j 0)->d.natAbs=1
def M9 (p:Y' l){v:Nat->Int}(ha:a≠0)(h:∀j,((v j:Int):Rat)=a*col l j)(j:Nat):(l.getD j 0).natAbs<=(v j).natAbs:=by
 have e:∀j,v j*(a.den:Int)=a.num*l.getD j 0:=fun j=>by
  have h1:=h j
  have h2:a=(a.num:Rat) / ((a.den:Int):Rat):=by
   rw [<-ait];exact (aif a).symm
  have hd:((a.den:Int):Rat)≠0:=dD (by have:=a.den_pos;omega);rw [h2] at h1;unfold col at h1
  have h3:((v j*(a.den:Int):Int):Rat)=((a.num*l.getD j 0:Int):Rat):=by
   rw [ae2,ae2];generalize ((a.den:Int):Rat)=D at hd h1;grind
  exact agS.mp h3
 have dv:∀j,(a.den:Int) ∣ l.getD j 0:=fun j=>by
  have h1:a.den ∣ a.num.natAbs*(l.getD j 0).natAbs:=by
   rw [<-afc,<-e j,afc];exact ⟨(v j).natAbs,by rw [ag0];rfl⟩
  have h2:=Nat.Coprime.dvd_of_dvd_mul_left (Nat.Coprime.symm a.reduced) h1;exact af2.mp (by simpa using h2)
 have d1:a.den=1:=by simpa using p _ dv
 have ej:=e j;rw [d1] at ej;have n0:a.num≠0:=fun z=>ha (Rat.num_eq_zero.mp z);have:v j=a.num*l.getD j 0:=by simpa using ej
 rw [this,afc];exact Nat.le_mul_of_pos_left _ (by omega)
def M_ (p:Y' l):¬ ∀j,l.getD j 0=0:=fun h=>by
 have:=p 0 fun j=>by rw [h j];exact Int.dvd_refl 0
 simp at this
structure Li (os:η)(nd:π)(lv ps qs:η):Prop where
 po:∀p∈ps,p∈os
 qo:∀q∈qs,q∈os
 lp:ps.length=nd.length
 lq:qs.length=lv.length
 s1:∀x∈nd,dk ps (col x.2)
 s2:∀p∈ps,dk (nd.map (·.2)) (col p)
 s3:∀(i:Nat)(l q:ξ),lv[i]?=some l->qs[i]?=some q->dk (ps++[q]) (col l)/\dk (nd.map (·.2)++[l]) (col q)
 ind:∀zs:List Int,zs.length=ps.length->(∀j,kJ zs ps j=0)->∀a∈zs,a=0
def Li.start (os:η):Li os [] os [] os:=by
 refine ⟨by simp,fun q hq=>hq,rfl,rfl,by simp,by simp,fun i l q e1 e2=>?_,fun zs h _ a ha=>?_⟩
 ·rw [e1] at e2
  cases e2;exact ⟨dk.mem (by simp),dk.mem (by simp)⟩
 ·rw [afd.mp h] at ha
  cases ha
def Lh.cols (P:Lh nd)(hl:dk (nd.map (·.2)) (col l))(hz:∀x∈nd,l.getD x.1 0=0):∀j,l.getD j 0=0:=fun j=>by
 have:=P.zero hl (fun x hx=>by unfold col;rw [hz x hx];rfl) j;unfold col at this;exact agS.mp (this.trans (by rfl))
def yr {A:η}(hA:∀a∈A,∀j,(a.getD j 0).natAbs<=2^b):(A.map fun a=>a.getD c 0).length=A.length/\∀x∈A.map (fun a=>a.getD c 0),x.natAbs<=2^b:=by
 refine ⟨by simp,fun x hx=>?_⟩;obtain ⟨a,ha,rfl⟩:=aar.mp hx;exact hA a ha c
def Li.left (O:Li os nd lv ps qs)(P:Lh nd){i b:Nat}{l:ξ}(e:lv[i]?=some l)(hz:∀x∈nd,l.getD x.1 0=0)(hb:∀o∈os,∀j,(o.getD j 0).natAbs<=2^b)(pr:Y' l)(j:Nat):(l.getD j 0).natAbs<=(nd.length+1)*((2*(nd.length+1)*2^b)^nd.length*2^b):=by
 have hi:i<qs.length:=by
  rw [O.lq];exact (Wp.mp e).1
 obtain ⟨q,eq⟩:∃q,qs[i]?=some q:=⟨_,gE hi⟩;obtain ⟨t1,t2⟩:=O.s3 i l q e eq
 have hA:∀a∈ps++[q],∀j,(a.getD j 0).natAbs<=2^b:=fun a ha=>by
  rcases abj.mp ha with z|z
  ·exact hb a (O.po a z)
  ·rw [abg.mp z]
   exact hb q (O.qo q (aaq eq))
 have lA:(ps++[q]).length=nd.length+1:=by simp [O.lp]
 obtain ⟨zs,lz,nz,bz,sz⟩:=M8 (n:=nd.length+1) (A:=2^b) (eqs:=nd.map fun x=>(ps++[q]).map fun a=>a.getD x.1 0) (by simp) (agq) fun y hy=>by
  obtain ⟨x,hx,rfl⟩:=aar.mp hy;rw [<-lA];exact yr hA
 rw [ir] at bz
 have v0:∀x∈nd,kJ zs (ps++[q]) x.1=0:=fun x hx=>by
  rw [<-vJ];exact sz _ (aar.mpr ⟨x,hx,rfl⟩)
 have hv:dk (nd.map (·.2)++[l]) fun j=>((kJ zs (ps++[q]) j:Int):Rat):=(mC zs (ps++[q])).trans fun a ha=>by
  rcases abj.mp ha with z|z
  ·exact (O.s2 a z).mono fun y hy=>aex _ hy
  ·rw [abg.mp z]
   exact t2
 obtain ⟨a,ha⟩:=dk.last hv
 have ez:=P.zero ha fun x hx=>by
  rw [v0 x hx];unfold col;rw [hz x hx];show ((0:Int):Rat)-a*((0:Int):Rat)=0;grind
 by_cases c:a=0
 ·exfalso
  subst c
  have vz:∀j,kJ zs (ps++[q]) j=0:=fun j=>by
   have:=ez j;have h:((kJ zs (ps++[q]) j:Int):Rat)=((0:Int):Rat):=by grind
   exact agS.mp h
  obtain ⟨vK,z,rfl⟩:∃vK z,zs=vK ++[z]:=by
   rcases ahN zs with h|⟨vK,z,h⟩
   ·rw [h] at lz
    simp at lz
   ·exact ⟨vK,z,by rw [h,ahQ]⟩
  have Za :vK.length=ps.length:=by
   rw [O.lp];simpa using lz
  have sp:∀j,kJ vK ps j+z*q.getD j 0=0:=fun j=>by
   rw [<-rm j z q Za];exact vz j
  by_cases z0:z=0
  ·subst z0
   obtain ⟨x,hx,nx⟩:=nz;have all:=O.ind vK Za fun j=>by simpa using sp j
   rcases abj.mp hx with h|h
   ·exact nx (all x h)
   ·exact nx (abg.mp h)
  ·have hq:dk ps (col q):=((mC vK ps).mul (-1 / (z:Rat))).congr fun j=>by
    have s':((kJ vK ps j+z*q.getD j 0:Int):Rat)=((0:Int):Rat):=by rw [sp j]
    rw [an9,ae2] at s';have zr:(z:Rat)≠0:=dD z0;unfold col;grind
   have hl:dk ps (col l):=t1.trans fun a ha=>by
    rcases abj.mp ha with h|h
    ·exact dk.mem h
    ·rw [abg.mp h]
     exact hq
   exact M_ pr (P.cols (hl.trans O.s2) hz)
 ·have le:=M9 pr c (v:=fun j=>kJ zs (ps++[q]) j) (fun j=>by have:=ez j;grind) j
  refine aay le ?_;have:=BG j (zs:=zs) (A:=ps++[q]) bz fun a ha=>hA a ha j;rw [lA] at this;exact this
def Li.need (O:Li os nd lv ps qs)(P:Lh nd)(hx:x∈nd)(hb:∀o∈os,∀j,(o.getD j 0).natAbs<=2^b)(pr:Y' x.2)(j:Nat):(x.2.getD j 0).natAbs<=(nd.length+1)*((2*(nd.length+1)*2^b)^nd.length*2^b):=by
 have hA:∀a∈ps,∀j,(a.getD j 0).natAbs<=2^b:=fun a ha=>hb a (O.po a ha)
 have lf:(nd.filter fun y=>decide (y.1≠x.1)).length<nd.length:=by
  have h1:(nd.filter fun y=>decide (y.1≠x.1)).length<=nd.length:=af5 ..
  rcases Nat.lt_or_eq_of_le h1 with h|h
  ·exact h
  ·have:=List.length_filter_eq_length_iff.mp h x hx
   simp at this
 obtain ⟨zs,lz,nz,bz,sz⟩:=M8 (n:=nd.length) (A:=2^b) (eqs:=(nd.filter fun y=>decide (y.1≠x.1)).map fun y=>ps.map fun a=>a.getD y.1 0) (by rw [ir];exact lf) (agq) fun y hy=>by
  obtain ⟨z,hz,rfl⟩:=aar.mp hy;rw [<-O.lp];exact yr hA
 rw [ir] at bz
 have v0:∀y∈nd,y.1≠x.1->kJ zs ps y.1=0:=fun y hy ne=>by
  rw [<-vJ];exact sz _ (aar.mpr ⟨y,agQ.mpr ⟨hy,by simpa using ne⟩,rfl⟩)
 have hv:dk (nd.map (·.2)) fun j=>((kJ zs ps j:Int):Rat):=(mC zs ps).trans O.s2
 obtain ⟨a,ha⟩:=P.one hv hx fun y hy ne=>by
  rw [v0 y hy ne];rfl
 have c:a≠0:=fun z=>by
  subst z;obtain ⟨y,hy,ny⟩:=nz;refine ny (O.ind zs (by rw [lz,O.lp]) (fun j=>?_) y hy)
  have h:((kJ zs ps j:Int):Rat)=((0:Int):Rat):=by
   rw [ha j];show 0*col x.2 j=0;grind
  exact agS.mp h
 have le:=M9 pr c (v:=fun j=>kJ zs ps j) ha j;refine aay le ?_;have:=BG j (zs:=zs) (A:=ps) bz fun a ha=>hA a ha j;rw [O.lp] at this;refine aay this (ae6 (by omega) (ae6 ?_ (aaA _)));refine aay (agZ (aer _ (show 2*nd.length<=2*(nd.length+1) by omega)) _) ?_;exact aet (Nat.mul_pos (by omega) (an_ _)) (by omega)
def Vn (hs:s+1<=1024):(s+1)*((2*(s+1)*2^b)^s*2^b)<=2^((s+1)*(b+11)):=by
 have h1:2*(s+1)*2^b<=2^(b+11):=by
  have:2*(s+1)<=2^11:=by
   show 2*(s+1)<=2048;omega
  rw [agN,ag0 (2^b)];exact aer _ this
 have h2:(2*(s+1)*2^b)^s<=2^((b+11)*s):=by
  rw [Nat.pow_mul];exact agZ h1 s
 have h3:s+1<=2^11:=by
  show s+1<=2048;omega
 have e:(s+1)*(b+11)=11+((b+11)*s+b):=by
  rw [ae',ahX,ag0 s];omega
 rw [e,agN,agN];exact ae6 h3 (aer _ h2)
def EW (k:sV line lead new c)(h1:dk B (col line))(h2:dk B (col lead)):dk B (col new):=by
 obtain ⟨s,t,u,hs,ht,e⟩:=k.OW;have zs:=dD hs;refine ((h1.mul ((t:Rat) / s)).add (h2.mul (-(u:Rat) / s))).congr fun j=>?_;have ej:((s*new.getD j 0:Int):Rat)=((t*line.getD j 0-u*lead.getD j 0:Int):Rat):=by rw [e j]
 rw [ae2,an',ae2,ae2] at ej;unfold col;grind
def EX (k:sV line lead new c)(h1:dk B (col new))(h2:dk B (col lead)):dk B (col line):=by
 obtain ⟨s,t,u,hs,ht,e⟩:=k.OW;have zt:=dD ht;refine ((h1.mul ((s:Rat) / t)).add (h2.mul ((u:Rat) / t))).congr fun j=>?_;have ej:((s*new.getD j 0:Int):Rat)=((t*line.getD j 0-u*lead.getD j 0:Int):Rat):=by rw [e j]
 rw [ae2,an',ae2,ae2] at ej;unfold col;grind
def Li.step {nd kz :π}{lv BH ps qs:η}{lead:ξ}{j c:Nat}(O:Li os nd lv ps qs)(P:Lh nd)(ej:lv[j]?=some lead)(hz:∀x∈nd,lead.getD x.1 0=0)(hc:lead.getD c 0≠0)
  (lL:BH.length=(lv.eraseIdx j).length) (ML:∀(i:Nat)(x:ξ),(lv.eraseIdx j)[i]?=some x->∃y,BH[i]?=some y/\sV x lead y c) (lN:kz.length=nd.length) (MN:∀(i:Nat)(x:ξ),(nd.map (·.2))[i]?=some x->∃y,(kz.map (·.2))[i]?=some y/\sV x lead y c):∃ps' Na,Li os (kz ++[(c,lead)]) BH ps' Na :=by
 have hj:j<lv.length:=(Wp.mp ej).1;obtain ⟨q,eq⟩:∃q,qs[j]?=some q:=⟨_,gE (by rw [O.lq];exact hj)⟩;obtain ⟨t1,t2⟩:=O.s3 j lead q ej eq;have ml:lead∈(kz ++[(c,lead)]).map (·.2):=by simp
 have old:∀x∈nd.map (·.2),dk ((kz ++[(c,lead)]).map (·.2)) (col x):=fun x hx=>by
  obtain ⟨i,ei⟩:=abh hx;obtain ⟨y,ey,k⟩:=MN i x ei;refine EX k (dk.mem ?_) (dk.mem ml);rw [abq];exact aex _ (aaq ey)
 have agx:∀y∈kz.map (·.2),∃x∈nd.map (·.2),sV x lead y c:=fun y hy=>by
  obtain ⟨i,ei⟩:=abh hy;have hi:=(Wp.mp ei).1;rw [ir] at hi;obtain ⟨x,ex⟩:∃x,(nd.map (·.2))[i]?=some x:=⟨_,gE (by rw [ir];omega)⟩;obtain ⟨y',Lj,k⟩:=MN i x ex;rw [ei] at Lj;cases Lj;exact ⟨x,aaq ex,k⟩
 have up:∀{f:Nat->Rat},dk ps f->dk (ps++[q]) f:=fun h=>h.mono fun a ha=>aex _ ha;refine ⟨ps++[q],qs.eraseIdx j,fun p hp=>?_,fun p hp=>O.qo p (afp hp),by simp [O.lp,lN],?_,fun x hx=>?_,fun p hp=>?_,fun i l' q' e1 e2=>?_,fun zs lz hzs a ha=>?_⟩
 ·rcases abj.mp hp with z|z
  ·exact O.po p z
  ·rw [abg.mp z]
   exact O.qo q (aaq eq)
 ·rw [lL,afn,afn,O.lq]
 ·rcases abj.mp hx with z|z
  ·obtain ⟨y,hy,k⟩:=agx x.2 (aar.mpr ⟨x,z,rfl⟩)
   obtain ⟨x0,hx0,rfl⟩:=aar.mp hy;exact EW k (up (O.s1 x0 hx0)) t1
  ·rw [abg.mp z]
   exact t1
 ·rcases abj.mp hp with z|z
  ·exact (O.s2 p z).trans old
  ·rw [abg.mp z]
   refine t2.trans fun a ha=>?_
   rcases abj.mp ha with h|h
   ·exact old a h
   ·rw [abg.mp h]
    exact dk.mem ml
 ·have hi:=(Wp.mp e1).1
  obtain ⟨x,ex⟩:∃x,(lv.eraseIdx j)[i]?=some x:=⟨_,gE (by omega)⟩;obtain ⟨y',Lj,k⟩:=ML i x ex;rw [e1] at Lj;cases Lj
  obtain ⟨i',f1,f2⟩:∃i',lv[i']?=some x/\qs[i']?=some q':=by
   rw [afL] at ex e2;by_cases h:i<j
   ·rw [abC h] at ex e2
    exact ⟨_,ex,e2⟩
   ·rw [abB h] at ex e2
    exact ⟨_,ex,e2⟩
  obtain ⟨u1,u2⟩:=O.s3 i' x q' f1 f2;constructor
  ·refine EW k (u1.mono fun a ha=>?_) (t1.mono fun a ha=>aex _ ha)
   rcases abj.mp ha with h|h
   ·exact aex _ (aex _ h)
   ·exact aeu _ h
  ·refine u2.trans fun a ha=>?_
   rcases abj.mp ha with h|h
   ·exact (old a h).mono fun b hb=>aex _ hb
   ·rw [abg.mp h]
    exact EX k (dk.mem (by simp)) (dk.mem (aex _ ml))
 ·obtain ⟨vK,z,rfl⟩:∃vK z,zs=vK ++[z]:=by
   rcases ahN zs with h|⟨vK,z,h⟩
   ·rw [h] at lz
    simp at lz
   ·exact ⟨vK,z,by rw [h,ahQ]⟩
  have Za :vK.length=ps.length:=by simpa using lz
  have sp:∀j,kJ vK ps j+z*q.getD j 0=0:=fun j=>by
   rw [<-rm j z q Za];exact hzs j
  have z0:z=0:=by
   apply aeV;intro z0
   have hq:dk ps (col q):=((mC vK ps).mul (-1 / (z:Rat))).congr fun j=>by
    have s':((kJ vK ps j+z*q.getD j 0:Int):Rat)=((0:Int):Rat):=by rw [sp j]
    rw [an9,ae2] at s';have zr:(z:Rat)≠0:=dD z0;unfold col;grind
   have hl:dk ps (col lead):=t1.trans fun a ha=>by
    rcases abj.mp ha with h|h
    ·exact dk.mem h
    ·rw [abg.mp h]
     exact hq
   exact hc (P.cols (hl.trans O.s2) hz c)
  rcases abj.mp ha with h|h
  ·exact O.ind vK Za (fun j=>by have:=sp j;rw [z0] at this;simpa using this) a h
  ·rw [abg.mp h]
   exact z0
end Ty
namespace Ty
open PySem PySem.Spec PyProof.Rows L2
def yt {cap:L2.St}(p:Nat->Bool)(nD:H1 D=none)(hn:n<abE)
  (ht:∀i H (R:Bool->Hp->Prop),i<n->ao H1 H->(∀H',ao H H' ->R (p i) H')->tt (some (.int (i:Int))::cap) H R)
  (he:∀i H (R:VK),R (.int (i:Int)) H->te (some (.int (i:Int))::cap) H R)
  (hd:∀H,ao H1 H->H D=some (.lst (((aev n).filter p).map fun i:Nat=>V.int (i:Int)))->Q (.ref D) H):
  nC D (c_ 0) tt te (SV 0 n) (none::cap) H1 Q:=by
 refine ⟨fun i m σ ys H=>m=n-i/\i<=n/\(∃o,σ=o::cap)/\ao H1 H/\H D=some (.lst ys)/\ys=((aev i).filter p).map fun i:Nat=>V.int (i:Int),⟨n,by simp,aeF _,⟨none,rfl⟩,fun b o e=>by rw [aj (ak e nD)];exact e,ah,rfl⟩,?_⟩;rintro i m σ ys H ⟨rfl,hi,⟨o,rfl⟩,s,hD,ey⟩;by_cases jB:i<n
 ·refine .inr ⟨jB,fun v H' y=>?_⟩
  obtain ⟨rfl,rfl⟩:=y;rw [aeO];unfold c_;refine ht i _ _ jB s fun H2 s2=>?_;have lW:ao H1 H2:=fun b o e=>s2 _ _ (s _ _ e)
  have ly:ys.length<=i:=by
   rw [ey,ir];have:=af5 p (aev i);rw [aeJ] at this;exact this
  by_cases c:p i=true
  ·rw [abC c]
   refine he i _ _ ⟨s2 _ _ hD,by omega,n-(i+1),by omega,rfl,by omega,⟨_,rfl⟩,?_,ah,?_⟩
   ·exact fun b o e=>by
     rw [aj (ak e nD)];exact lW _ _ e
   ·rw [ahM,aij,aho c,ey,abq]
    rfl
  ·rw [abB c]
   refine ⟨n-(i+1),by omega,rfl,by omega,⟨_,rfl⟩,lW,s2 _ _ hD,?_⟩;rw [ahM,aij,ahp c,ey,List.filter_nil,ae_]
 ·have e:i=n:=by omega
  subst e;rw [ey] at hD;exact .inl ⟨aaA _,hd H s hD⟩
section
variable {prog:abQ}{w:World}{Kt:Type}[DecidableEq Kt]{knd:KeyKind prog w Kt}{A:abV}{E:δ}{s:abH}
def Vo {Q:δ}(g:s.heap.IsValIter it d i ps.length ep)(m:s.heap.DictAt knd d ps ep)(hx:ps[i]?=some (k,v))
  (q:∀h',h'.IsValIter it d (i+1) ps.length ep->acn it s.heap h' ->Q v {s with heap:=h'}):abG (abK prog w) A (abY (.ref it)) Q E s:=by
 obtain ⟨o,g1,g2,g3⟩:=id g;obtain ⟨od,es,t1,t2,t3,t4,t5,t6⟩:=id m;have n0:es.size=ps.length:=by rw [<-t5.length];simp
 have lt:i<ps.length:=(Wp.mp hx).1;have Yy:i<es.size:=by rw [n0];exact lt
 have ev:es[i].val=v:=(t5.get? (e:=es[i]) (by simp [Yy]) hx).2;have ow:Builtin.Dict_items.ownsTuple "dict_valueiterator"=false:=by decide
 unfold abY;refine abz (wpAny_callSpecial?_slot (name:=ab2 "__next__") g.typeIs acw (acp acw g.typeIs F.entry_dict_valueiterator_next ?_ (F.args_dict_valueiterator_next_1 _)));refine abz (abF (abz (abz ?_)))
 first|refine abz (acy g.typeIs (abF (abz (aiT g1 g3 ?_))))|refine abz (acO g.typeIs (abF (abz (aiT g1 g3 ?_))))
 simp only [ow,afi,if_false];show abG _ _ (if (Value.ref d==Value.none)=true then _ else _) _ _ s;rw [abB (fun z=>nomatch z)];refine abz (abF (abz (acM t1 t3 ?_)));rw [abB (by rw [n0];simp)];refine abz (abF (abz (aiP t1 t3 ?_)));rw [abB (by simp)];refine abF ?_;simp only [show ¬ ((i:Int)<0) from by omega,if_false,agr,agk Yy];refine abz ?_
 first|refine abz (acy g.typeIs (abF (abz (adt g.typeIs ?_))))|refine abz (acO g.typeIs (abF (abz (adt g.typeIs ?_))))
 show abG _ _ (setField (.ref it) 1 (acm ((i:Int)+1)) >>=_) _ _ s;refine abz (wpAny_setField g1 g3 (by simp) ?_)
 have g':(s.heap.update it (Obj.mapFields (·.setIfInBounds 1 (acm ((i:Int)+1))))).IsValIter it d (i+1) ps.length ep:=
  ⟨_,acI _ g1 (Obj.isFreed_of_fields (Obj.data_mapFields g3 _)),(Obj.cls_mapFields ..).trans g2,by rw [Obj.data_mapFields g3];simp [acm]⟩
 have sb:acn it s.heap (s.heap.update it (Obj.mapFields (·.setIfInBounds 1 (acm ((i:Int)+1))))):=Heap.SameBut.update ..;generalize s.heap.update it (Obj.mapFields (·.setIfInBounds 1 (acm ((i:Int)+1))))=h' at g' sb ⊢;have ty:Shared.TypeIs {s with heap:=h'} (.ref it) "dict_valueiterator":=g'.typeIs (s:={s with heap:=h'});refine abz (ace (abz (adt ty (abz (adt ty ?_)))));show abG _ _ (pure es[i].val) _ _ _;exact abF (abF ⟨_,rfl,abF (ev▸q _ g' sb)⟩)
def QI {Q:δ}(hh:A.handled=none)(g:s.heap.IsValIter it d i ps.length ep)(m:s.heap.DictAt knd d ps ep)(hx:ps.length<=i)
  (q:∀h' e,Heap.ExtBut it s.heap h' ->(∃o,h'.get? e=some o/\o.cls=.type "StopIteration")->E (.ref e) {s with heap:=h'}):abG (abK prog w) A (abY (.ref it)) Q E s:=by
 obtain ⟨o,g1,g2,g3⟩:=id g;obtain ⟨od,es,t1,t2,t3,t4,t5,t6⟩:=id m;have n0:es.size=ps.length:=by rw [<-t5.length];simp
 have ge:es.size<=i:=by rw [n0];exact hx
 have ow:Builtin.Dict_items.ownsTuple "dict_valueiterator"=false:=by decide
 unfold abY;refine abz (wpAny_callSpecial?_slot (name:=ab2 "__next__") g.typeIs acw (acp acw g.typeIs F.entry_dict_valueiterator_next ?_ (F.args_dict_valueiterator_next_1 _)));refine abz (abF (abz (abz ?_)))
 first|refine abz (acy g.typeIs (abF (abz (aiT g1 g3 ?_))))|refine abz (acO g.typeIs (abF (abz (aiT g1 g3 ?_))))
 simp only [ow,afi,if_false];show abG _ _ (if (Value.ref d==Value.none)=true then _ else _) _ _ s;rw [abB (fun z=>nomatch z)];refine abz (abF (abz (acM t1 t3 ?_)));rw [abB (by rw [n0];simp)];refine abz (abF (abz (aiP t1 t3 ?_)));rw [abB (by simp)];refine abF ?_;simp only [show ¬ ((i:Int)<0) from by omega,if_false,agr,Array.getElem?_eq_none ge];refine abz ?_
 first|refine abz (acy g.typeIs (abF ?_))|refine abz (acO g.typeIs (abF ?_))
 show abG _ _ (setField (.ref it) 0 .none >>=_) _ _ s;refine abz (wpAny_setField g1 g3 (by simp) ?_);show abG _ _ (newExc (.type "StopIteration") [] >>=_) _ _ _;refine abz ?_;simp only [newExc,newTuple];refine abz (acK ?_ (by size_fits));refine abz (m:=firstArgMember _ _) (wpAny_of_eq (a:=Value.none) (by first|rfl|(simp only [firstArgMember];rfl)) ?_);refine acK ?_ (by size_fits);simp only [raiseNew];refine abz (wpAny_handled ?_)
 first|rw [show A.in1.handled=none from hh]|rw [hh]
 refine abz (abF (wpAny_throw ?_));exact q _ _ (((Heap.SameBut.update ..).extBut.push _).push _) ⟨_,abN _ rfl,rfl⟩
def QJ {z TI TO i1 i2 d l:abA}{ys:Μ}{Q:δ}(D:ZipApart z TI TO i1 i2 d l)
  (hz:adk s.heap z TI TO .none) (gm:acd s.heap TI (.ref i1) (.ref i2)) (jY:acd s.heap TO a b)
  (h1:s.heap.IsValIter i1 d k ps.length ep) (m:s.heap.DictAt knd d ps ep) (h2:s.heap.IsListIter i2 l k) (hl:s.heap.IsList l ys) (hx:ps[k]?=some (kk,x)) (hy:ys[k]?=some y)
  (q:∀h',adk h' z TI TO (acm s.heap.objs.size)->acd h' TO x y->h'.IsValIter i1 d (k+1) ps.length ep->h'.IsListIter i2 l (k+1)->acd h' s.heap.objs.size x y->
   (∀c o,c≠z->c≠TO->c≠i1->c≠i2->s.heap.get? c=some o->h'.get? c=some o)->Q (.ref s.heap.objs.size) {s with heap:=h'}):
  abG (abK prog w) A (Builtin.«zip.__next__» ⟨[.ref z],[]⟩) (fun fin s'=>∃v,fin=.done (.ret v)/\Q v s') E s:=by
 show abG _ _ (field (.ref z) 2 >>=_) _ _ _;refine abz (aci hz rfl (x:=.bool false) rfl ?_);show abG _ _ (field (.ref z) 3 >>=_) _ _ _;refine abz (aci hz rfl (x:=.ref TI) rfl (abz (acq gm rfl ?_)));show abG _ _ (abX (.ref z) >>=_) _ _ _;refine abz ?_;unfold abX;refine abz (aci hz rfl (x:=.none) rfl (abF ?_));simp only [if_true];refine abz (wpAny_rule (abz (aci hz rfl (x:=.ref TO) rfl (abz (acG hz (by simp) fun p1 z1 b1=>?_)))));have z1:adk p1 z TI TO .ellipsis:=z1;refine abz ?_;simp only [anV,aoa,agR,ag7];refine abz (abz (wpAny_onRaise ?_));show abG _ _ (abY (.ref i1) >>=_) _ _ _;have m1:p1.DictAt knd d ps ep:=m.at' fun o e=>(b1.2 d D.l1z).trans e;refine abz (Vo (s:={s with heap:=p1}) (h1.extBut b1.extBut D.i1z) m1 hx fun p2 g2 b2=>abF ?_);have b2:acn i1 p1 p2:=b2;have o2:acd p2 TO a b:=b2.extBut _ _ D.TOi1 (b1.extBut _ _ D.TOz jY);refine abz (acq o2 rfl (abz (wpAny_updateSeq_pair o2 fun p3 o3 b3=>?_)));have b3:acn TO p2 p3:=b3;have o3:acd p3 TO x b:=o3;refine abz (wpAny_letGo (abF (abz (abz (wpAny_onRaise ?_)))));show abG _ _ (abY (.ref i2) >>=_) _ _ _;have j3:p3.IsListIter i2 l k:=((h2.extBut b1.extBut D.i2z).extBut b2.extBut D.i12.symm).extBut b3.extBut D.TOi2.symm;have l3:p3.IsList l ys:=((hl.extBut b1.extBut D.l2z).extBut b2.extBut D.l2i1).extBut b3.extBut D.l2TO;refine abz (ado (s:={s with heap:=p3}) j3 l3 hy fun p4 j4 b4=>abF ?_);have b4:acn i2 p3 p4:=b4;have o4:acd p4 TO x b:=b4.extBut _ _ D.TOi2 o3;refine abz (acq o4 rfl (abz (wpAny_updateSeq_pair o4 fun p5 o5 b5=>?_)));have b5:acn TO p4 p5:=b5;have o5:acd p5 TO x y:=o5;refine abz (wpAny_letGo (abF (abF (abz (acq o5 rfl (abz (wpAny_newTuple ?_)))))));have sz:p5.objs.size=s.heap.objs.size:=by rw [b5.1,b4.1,b3.1,b2.1,b1.1]
 have z5:adk p5 z TI TO .ellipsis:=b5.extBut _ _ D.TOz.symm (b4.extBut _ _ D.i2z.symm (b3.extBut _ _ D.TOz.symm (b2.extBut _ _ D.i1z.symm z1)));have c5:∀c o,c≠z->c≠TO->c≠i1->c≠i2->s.heap.get? c=some o->p5.get? c=some o:=fun c o c1 c2 c3 c4 e=>b5.extBut _ _ c2 (b4.extBut _ _ c4 (b3.extBut _ _ c2 (b2.extBut _ _ c3 (b1.extBut _ _ c1 e))));have g5:p5.IsValIter i1 d (k+1) ps.length ep:=((g2.extBut b3.extBut D.TOi1.symm).extBut b4.extBut D.i12).extBut b5.extBut D.TOi1.symm;have j5:p5.IsListIter i2 l (k+1):=j4.extBut b5.extBut D.TOi2.symm;have zl:z<p5.objs.size:=abJ z5;show abG _ _ (Builtin.SmallTypes.ownedTupleHandOut (.ref z) (.ref p5.objs.size) >>=_) _ _ _;refine abz ?_;unfold Builtin.SmallTypes.ownedTupleHandOut;have z6:adk (p5.push {cls:=.type "tuple",data:=.seq #[x,y]}) z TI TO .ellipsis:=abD _ z5;refine abz (acG z6 (by simp) fun p7 z7 b7=>?_);have z7:adk p7 z TI TO (acm p5.objs.size):=z7;refine acG z7 (by simp) fun p8 z8 b8=>?_;have z8:adk p8 z TI TO (acm p5.objs.size):=z8;have up:∀c o,c≠z->p5.get? c=some o->p8.get? c=some o:=fun c o c1 e=>b8.extBut _ _ c1 (b7.extBut _ _ c1 (abD _ e));have t8:acd p8 p5.objs.size x y:=b8.extBut _ _ (afz zl) (b7.extBut _ _ (afz zl) (abN _ rfl));rw [sz] at z8 t8;refine abF ⟨_,rfl,?_⟩;show Q (.ref p5.objs.size) _;rw [sz];exact q p8 z8 (up _ _ D.TOz o5) (g5.at fun o e=>up _ o D.i1z e) (j5.at fun o e=>up _ o D.i2z e) t8 fun c o c1 c2 c3 c4 e=>up c o c1 (c5 c o c1 c2 c3 c4 e)
def Vp {z TI TO i1 i2 d:abA}(hh:A.handled=none)(n1:i1≠z)(n2:d≠z)
  (hz:adk s.heap z TI TO .none) (gm:acd s.heap TI (.ref i1) (.ref i2)) (h1:s.heap.IsValIter i1 d k ps.length ep) (m:s.heap.DictAt knd d ps ep) (hx:ps.length<=k)
  (q:∀h' e,(∀c o,c≠z->c≠i1->s.heap.get? c=some o->h'.get? c=some o)->(∃o,h'.get? e=some o/\o.cls=.type "StopIteration")->E (.ref e) {s with heap:=h'}):
  abG (abK prog w) A (Builtin.«zip.__next__» ⟨[.ref z],[]⟩) Q E s:=by
 show abG _ _ (field (.ref z) 2 >>=_) _ _ _;refine abz (aci hz rfl (x:=.bool false) rfl ?_);show abG _ _ (field (.ref z) 3 >>=_) _ _ _;refine abz (aci hz rfl (x:=.ref TI) rfl (abz (acq gm rfl ?_)));show abG _ _ (abX (.ref z) >>=_) _ _ _;refine abz ?_;unfold abX;refine abz (aci hz rfl (x:=.none) rfl (abF ?_));simp only [if_true];refine abz (wpAny_rule (abz (aci hz rfl (x:=.ref TO) rfl (abz (acG hz (by simp) fun p1 z1 b1=>?_)))));have z1:adk p1 z TI TO .ellipsis:=z1;refine abz ?_;simp only [anV,aoa,agR,ag7];refine abz (abz (wpAny_onRaise ?_));show abG _ _ (abY (.ref i1) >>=_) _ _ _;have m1:p1.DictAt knd d ps ep:=m.at' fun o e=>(b1.2 d n2).trans e;refine abz (QI (s:={s with heap:=p1}) hh (h1.extBut b1.extBut n1) m1 hx fun p2 e b2 he=>?_);obtain ⟨oe,e1,e2⟩:=he;have z2:adk p2 z TI TO .ellipsis:=b2 _ _ n1.symm z1;have ne:e≠z:=fun x=>by subst x;rw [z2] at e1;cases e1;simp at e2
 exact acG (s:={s with heap:=p2}) z2 (by simp) fun p3 _ b3=>q p3 e (fun c o c1 c2 x=>b3.extBut _ _ c1 (b2 _ _ c2 (b1.extBut _ _ c1 x))) ⟨oe,b3.extBut _ _ ne e1,e2⟩
def Zc {z TI TO i1 i2 d l:abA}{ys:Μ}{Q:Ξ}(D:ZipApart z TI TO i1 i2 d l)
  (hz:adk s.heap z TI TO .none) (gm:acd s.heap TI (.ref i1) (.ref i2)) (jY:acd s.heap TO a b)
  (h1:s.heap.IsValIter i1 d k ps.length ep) (m:s.heap.DictAt knd d ps ep) (h2:s.heap.IsListIter i2 l k) (hl:s.heap.IsList l ys) (hx:ps[k]?=some (kk,x)) (hy:ys[k]?=some y)
  (q:∀h',adk h' z TI TO (acm s.heap.objs.size)->acd h' TO x y->h'.IsValIter i1 d (k+1) ps.length ep->h'.IsListIter i2 l (k+1)->acd h' s.heap.objs.size x y->
   (∀c o,c≠z->c≠TO->c≠i1->c≠i2->s.heap.get? c=some o->h'.get? c=some o)->Q (some (.ref s.heap.objs.size)) {s with heap:=h'}):
  abG (abK prog w) A (acS (.ref z)) Q E s:=by
 have ty:s.TypeIs (.ref z) "zip":=⟨_,hz,rfl⟩;unfold acS;exact abz (wpAny_attempt (wpAny_callSpecial?_slot (name:=ab2 "__next__") ty acv (acp acv ty aiF (QJ D hz gm jY h1 m h2 hl hx hy fun h' a1 a2 a3 a4 a5 a6=>abF (q h' a1 a2 a3 a4 a5 a6)) (aiz _))))
def Vq {z TI TO i1 i2 d:abA}{Q:Ξ}(hh:A.handled=none)(n1:i1≠z)(n2:d≠z)
  (hz:adk s.heap z TI TO .none) (gm:acd s.heap TI (.ref i1) (.ref i2)) (h1:s.heap.IsValIter i1 d k ps.length ep) (m:s.heap.DictAt knd d ps ep) (hx:ps.length<=k)
  (q:∀h',(∀c o,c≠z->c≠i1->s.heap.get? c=some o->h'.get? c=some o)->Q none {s with heap:=h'}):abG (abK prog w) A (acS (.ref z)) Q E s:=by
 have ty:s.TypeIs (.ref z) "zip":=⟨_,hz,rfl⟩;unfold acS;refine abz (wpAny_attempt (wpAny_callSpecial?_slot (name:=ab2 "__next__") ty acv (acp acv ty aiF (Vp hh n1 n2 hz gm h1 m hx fun h' e hk he=>?_) (aiz _))));obtain ⟨o,e1,e2⟩:=he;exact abz (aiE (T:="StopIteration") (b:=true) ⟨o,e1,e2⟩ isSubtype_stop (abF (q _ hk)))
abbrev zv1 (h:Heap)(d:abA)(n ep:Nat):Heap:=h.push {cls:=.type "dict_valueiterator",data:=.fields #[.ref d,.int 0 0,.int n 0,.int ep 0]}
abbrev zv2 (h:Heap)(d l:abA)(n ep:Nat):Heap:=(zv1 h d n ep).push {cls:=.type "list_iterator",data:=.fields #[.ref l,.int 0 0]}
noncomputable abbrev zv3 (h:Heap)(d l:abA)(n ep:Nat):Heap:=(zv2 h d l n ep).push {cls:=.type "tuple",data:=.seq #[.ref h.objs.size,.ref (zv1 h d n ep).objs.size]}
abbrev zv4 (h:Heap)(d l:abA)(n ep:Nat):Heap:=(zv3 h d l n ep).push {cls:=.type "tuple",data:=.seq #[.none,.none]}
noncomputable abbrev Xe (h:Heap)(d l:abA)(n ep:Nat):Heap:=(zv4 h d l n ep).push {cls:=.type "zip",data:=.fields #[.none,.bool false,.bool false,.ref (zv2 h d l n ep).objs.size,.ref (zv3 h d l n ep).objs.size]}
def QK (knd:KeyKind prog w Kt)(v l d:abA)(ps:List (Kt×Value))(ep:Nat)(ys:Μ):
  MeetsIn prog w (Builtin.«zip.__new__» ⟨[.type "zip",.ref v,.ref l],[]⟩) (fun _ R s=>s.heap.IsValuesView v d/\s.heap.DictAt knd d ps ep/\s.heap.IsList l ys/\
   R (.ok (.ret (.ref (zv4 s.heap d l ps.length ep).objs.size))) {s with heap:=Xe s.heap d l ps.length ep}):=
 .of_wp fun A R s h=>by
  obtain ⟨hp,g,dr,tk,os⟩:=s;obtain ⟨h1,h2,h3,q⟩:=h;have ay6:=sub_zip;have hV:Heap.IsValuesView (Shared.heap ⟨hp,g,dr,tk,os⟩) v d:=h1;have hD:Heap.DictAt knd (Shared.heap ⟨hp,g,dr,tk,os⟩) d ps ep:=h2;have hL:Heap.IsList (Shared.heap ⟨hp.push {cls:=.type "dict_valueiterator",data:=.fields #[.ref d,.int 0 0,.int ps.length 0,.int ep 0]},g,dr,tk,os⟩) l ys:=Heap.IsList.push h3 _
  wp_walk using wpAny_pyIter_values hV hD,aie hL
  exact ⟨_,rfl,q⟩
def IP {ys:Μ}{Q:δ}(hv:s.heap.IsValuesView v d)(m:s.heap.DictAt knd d ps ep)(hl:s.heap.IsList l ys)
  (q:∀h',adk h' (s.heap.objs.size+4) (s.heap.objs.size+2) (s.heap.objs.size+3) .none->acd h' (s.heap.objs.size+2) (.ref s.heap.objs.size) (.ref (s.heap.objs.size+1))->
   acd h' (s.heap.objs.size+3) .none .none->h'.IsValIter s.heap.objs.size d 0 ps.length ep->h'.IsListIter (s.heap.objs.size+1) l 0->(∀c o,s.heap.get? c=some o->h'.get? c=some o)->Q (.ref (s.heap.objs.size+4)) {s with heap:=h'}):
  abG (abK prog w) A (call (.type "zip") [.ref v,.ref l]) Q E s:=by
 refine callType_newIn F.called_zip (by decide) (F.typeCall_zip_2 _ _) (F.newCall_zip_2 _ _) (fun obj=>F.args_object_init_3 obj _ _) F.entry_zip_new (QK knd v l d ps ep ys) ⟨hv,m,hl,?_⟩;have z1:(zv1 s.heap d ps.length ep).objs.size=s.heap.objs.size+1:=acf ..;have z2:(zv2 s.heap d l ps.length ep).objs.size=s.heap.objs.size+2:=by rw [acf,z1]
 have z3:(zv3 s.heap d l ps.length ep).objs.size=s.heap.objs.size+3:=by rw [acf,z2]
 have z4:(zv4 s.heap d l ps.length ep).objs.size=s.heap.objs.size+4:=by rw [acf,z3]
 have on:∀{h:Heap} {c:abA} {o p:Obj},h.get? c=some o->(h.push p).get? c=some o:=fun e=>abD _ e;have g5:(Xe s.heap d l ps.length ep).get? (zv4 s.heap d l ps.length ep).objs.size=some _:=abN _ rfl;have g4:(Xe s.heap d l ps.length ep).get? (zv3 s.heap d l ps.length ep).objs.size=some _:=on (abN _ rfl);have g3:(Xe s.heap d l ps.length ep).get? (zv2 s.heap d l ps.length ep).objs.size=some _:=on (on (abN _ rfl));have g2:(Xe s.heap d l ps.length ep).get? (zv1 s.heap d ps.length ep).objs.size=some _:=on (on (on (abN _ rfl)));have g1:(Xe s.heap d l ps.length ep).get? s.heap.objs.size=some _:=on (on (on (on (abN _ rfl))));show _/\_;rw [z2,z3,z4] at g5;rw [z1,z2] at g3;rw [z3] at g4;rw [z1] at g2;rw [z4];exact ⟨⟨_,g5,rfl⟩,q _ g5 g3 g4 ⟨_,g1,rfl,rfl⟩ ⟨_,g2,rfl,rfl⟩ fun c o x=>on (on (on (on (on x))))⟩
end
def Nb (K:Frag)(d:abA)(o:Obj)(kvs:γ)(b:abA):It:=
 ⟨fun i H=>H d=some (.fB o (.dK kvs))/\i<kvs.length/\∃ys y,aT K H b ys/\ys[i]?=some y,
  fun i H v H'=>∃p k x y,kvs[i]?=some (k,x)/\(∀ys,aT K H b ys->ys[i]?=some y)/\v=.ref p/\H p=none/\H'=upd H p (.tup [x,y]),
  fun i H=>H d=some (.fB o (.dK kvs))/\kvs.length<=i⟩
def QL {K:Frag}{es:Ζ}(d b z TI TO i1 i2:abA)(o:Obj)(kvs:γ)(he:o.data=.dict Ti ep)(D:ZipApart z TI TO i1 i2 d b):
  Turn P w K (.Tuple es k pos) (Nb K d o kvs b) [z,TI,TO,i1,i2] z (fun i h=>adk h z TI TO .none/\acd h TI (.ref i1) (.ref i2)/\(∃x y,acd h TO x y)/\h.IsValIter i1 d i kvs.length ep/\h.IsListIter i2 b i) where
 mem:=by simp
 obj:=fun i h st c hc=>by
  obtain ⟨hz,gm,⟨x,y,jY⟩,⟨o1,e1,c1,d1⟩,⟨o2,e2,c2,d2⟩⟩:=st;have pH :c=z\/c=TI\/c=TO\/c=i1\/c=i2:=by simpa using hc
  rcases pH with e|e|e|e|e<;>subst e
  ·exact ⟨_,hz,fun v z=>by cases z⟩
  ·exact ⟨_,gm,fun v z=>by cases z⟩
  ·exact ⟨_,jY,fun v z=>by cases z⟩
  ·exact ⟨_,e1,fun v z=>by rw [d1] at z;cases z⟩
  ·exact ⟨_,e2,fun v z=>by rw [d2] at z;cases z⟩
 keep:=fun i h h' st k=>by
  obtain ⟨hz,gm,⟨x,y,jY⟩,h1,h2⟩:=st;exact ⟨k z (by simp) _ hz,k TI (by simp) _ gm,⟨x,y,k TO (by simp) _ jY⟩,h1.at fun o e=>k i1 (by simp) o e,h2.at fun o e=>k i2 (by simp) o e⟩
 item:=by
  intro X hP hw hK hc i pins s σ H E I hf st hg;subst hP hw hK;obtain ⟨hz,gm,⟨x0,y0,jY⟩,h1,h2⟩:=st;obtain ⟨fz,hi,ys,y,qy,ey⟩:=hg;obtain ⟨hd,vs,rel,da,_⟩:=nJ I.bM fz he;have ek:kvs[i]?=some kvs[i]:=gE hi;obtain ⟨⟨k',u⟩,ev,e1,ru⟩:=aA rel ek;have lv:=rel.length;rw [lv] at h1;obtain ⟨U7,pI,p',_⟩:=I.list qy;obtain ⟨v,hv,rv'⟩:=pI.get ey;refine Zc D hz gm jY h1 da h2 p'.isList ev (y:=v) (by simpa using hv) fun h' a1 a2 a3 a4 a5 a7=>?_;refine ⟨_,rfl,wpAny_letOwnedTupleGo_zip (s:={s with heap:=h'}) a1 fun EF b1 sb=>?_⟩;have nz:∀c,c≠z->∀o,h'.get? c=some o->EF.get? c=some o:=fun c hc o e=>(sb.2 c hc).trans e
  have kk:∀b o,b∉[z,TI,TO,i1,i2]->s.heap.get? b=some o->EF.get? b=some o:=fun b o hb e=>by
   have ff :b≠z/\b≠TI/\b≠TO/\b≠i1/\b≠i2:=by simpa using hb
   exact nz b ff.1 o (a7 b o ff.1 ff.2.2.1 ff.2.2.2.1 ff.2.2.2.2 e)
  have sz:∀c o,s.heap.get? c=some o->s.heap.objs.size≠c:=fun c o e=>afz (abJ e);have hn:=I.bM.fresh (aaA s.heap.objs.size)
  have I2:Inv X pins σ (upd H s.heap.objs.size (.tup [kvs[i].2,y])) {s with heap:=EF,toks:=s.toks}:=
   Inv.qk I kk hf (aaA _) (by show 2<=abE;decide) (its:=[u,v]) (.cons ru (.cons rv' .nil)) ⟨_,nz _ (sz _ _ hz) _ a5,rfl,_,rfl⟩
  rw [<-lv] at a3;refine ⟨.ref s.heap.objs.size,_,I2,rfl,⟨s.heap.objs.size,kvs[i].1,kvs[i].2,y,ek,fun ys' q=>by rw [I.iN q qy];exact ey,rfl,hn,rfl⟩,⟨b1,nz _ D.TIz _ (a7 _ _ D.TIz D.TITO D.TIi1 D.TIi2 gm),⟨_,_,nz _ D.TOz _ a2⟩,a3.at fun o e=>nz _ D.i1z o e,a4.at fun o e=>nz _ D.i2z o e⟩,fun b hb=>?_⟩
  have ob:∃o,s.heap.get? b=some o:=by
   obtain ⟨o1,e1,_⟩:=h1;obtain ⟨o2,e2,_⟩:=h2;have pH :b=z\/b=TI\/b=TO\/b=i1\/b=i2:=by simpa using hb
   rcases pH with e|e|e|e|e<;>subst e
   ·exact ⟨_,hz⟩
   ·exact ⟨_,gm⟩
   ·exact ⟨_,jY⟩
   ·exact ⟨_,e1⟩
   ·exact ⟨_,e2⟩
  obtain ⟨o,e⟩:=ob;rw [aj (aeD (sz _ _ e))];exact (hf b hb).1
 done:=by
  intro X hP hw hK hc i pins s σ H E I hf st hg;subst hP hw hK;obtain ⟨hz,gm,⟨x0,y0,jY⟩,h1,h2⟩:=st;obtain ⟨fz,hi⟩:=hg;obtain ⟨hd,vs,rel,da,_⟩:=nJ I.bM fz he;have lv:=rel.length;rw [lv] at h1;refine Vq (I.ok.hd hc) D.i1z D.l1z hz gm h1 da (by omega) fun h' kk=>⟨rfl,Inv.mm I (fun b o hb e=>?_) hf⟩;have ff :b≠z/\b≠TI/\b≠TO/\b≠i1/\b≠i2:=by simpa using hb
  exact kk b o ff.1 ff.2.2.2.1 e
 self:=fun _ _ _ _ _ st h=>adz st.1 h
section
variable {X:Cx}
def Zd (K:Frag)(te:TE)(ta:TA):TI:=fun σ H R=>te σ H fun x H1=>∃d,x=.ref d/\(∃kvs,H1 d=some (.dK kvs))/\ta σ H1 fun vs H2=>∃b kvs,vs=[.ref b]/\(∃ys,aT K H2 b ys)/\H2 d=some (.dK kvs)/\∀o,R (Nb K d o kvs b) (upd H2 d (.fB o (.dK kvs)))
def Inv.Vr {σ:L2.St}(I:Inv X pins σ H s)(h:s.heap.get? a=some o/\H a=none/\a≠X.env.locals/\a∉X.fs/\∀v,o.data≠.cell v):Inv X ((a,o)::pins) σ H s:=by
 refine ⟨I.ok,I.os,I.bare,I.base,I.loc,I.cell,I.free,I.iM,fun p hp=>?_,I.bM,I.len⟩
 rcases abj.mp hp with z|z
 ·exact I.pin p (aex _ z)
 ·rcases aes.mp z with z|z
  ·rw [z]
   exact h
  ·exact I.pin p (aeu _ z)
def Inv.QM {pins:ε}{σ:L2.St}(I:Inv X (p::pins) σ H s):Inv X pins σ H s:=by
 refine ⟨I.ok,I.os,I.bare,I.base,I.loc,I.cell,I.free,I.iM,fun p hp=>?_,I.bM,I.len⟩
 rcases abj.mp hp with z|z
 ·exact I.pin p (aex _ z)
 ·exact I.pin p (aeu _ (aax _ z))
def QN {p pos apos eJ:Pos}{es:Ζ}{k:Nat}{vd:Pos}(hg:Gl X "zip")(hm:X.mg "zip"=none)(ho:PE X e te)(ha:PA X [e2] ta)
  (hs:abP [.Call (.Attribute e "values" apos) [] [] eJ,e2] X.env=[(false,abW (.Call (.Attribute e "values" apos) [] [] eJ) X.env),(false,abW e2 X.env)]:=by rfl) (DT:abP [e2] X.env=[(false,abW e2 X.env)]:=by rfl)
  (xR:acR e "values" X.env (abW e X.env)=abW e X.env:=by rfl) (xS:(apos.endLine==eJ.line)=true:=by rfl):
  PI X (.Tuple es k vd) (.Call (.Name "zip" p) [.Call (.Attribute e "values" apos) [] [] eJ,e2] [] pos) (Zd X.K te ta):=by
 intro pins s σ H R I h;refine Call_ (i6 I hg hm boot_zip (ab8 ?_ (by rw [hs,DT]) (by rw [DT];rfl)));rw [hs];show abG _ _ (spliced ((false,abW (.Call (.Attribute e "values" apos) [] [] eJ) X.env)::ack pos [(false,abW e2 X.env)])) _ _ s;refine acD (wpAny_Call_method0_late xR xS (cF (ho pins s σ H _ I h) fun v s1 ⟨x,H1,I1,r1,q1⟩=>?_));obtain ⟨d,rfl,⟨kv0,e0⟩,q⟩:=q1;cases r1;obtain ⟨h1,h2,hd⟩:=AW I1 (.inl ⟨kv0,.inl e0⟩);obtain ⟨_,_,vs0,agt,dd0⟩:=mw I1.bM e0;refine ⟨"dict","dict.values",F.plainAttrs_dict,F.slot_dict_values,F.type_dict_values,h1,h2,acC rfl (PySem.evalArgs_none ?_)⟩;refine aiM F.slot_dict_values h1 F.entry_dict_values (F.args_dict_values_1 _) (meets_dict_values (bF X.prog X.w) d hd) ⟨⟨vs0,dd0⟩,?_⟩;have I2:Inv X pins σ H1 {s1 with heap:=s1.heap.push {cls:=.type "dict_values",data:=.fields #[.ref d]}}:=I1.kept (t':=s1.toks) fun b o e=>abD _ e;obtain ⟨f0,f1,f2,f3,f4,f5⟩:=I1.m_ (aaA s1.heap.objs.size) (I1.bM.fresh (aaA _));have I3:=Inv.Vr I2 (a:=s1.heap.objs.size) (o:={cls:=.type "dict_values",data:=.fields #[.ref d]}) ⟨abN _ rfl,f0,f1,f2,fun v z=>by cases z⟩;have hb2:ack pos [(false,abW e2 X.env)]=ack pos (abP [e2] X.env):=by rw [DT]
 show abG _ _ (spliced (ack pos [(false,abW e2 X.env)])) _ _ _;rw [hb2];refine cF (ha pos _ _ σ H1 _ I3 q) fun us s3 ⟨ws,H3,I4,r4,q4⟩=>?_;obtain ⟨b,kvs,rfl,⟨ys,hy⟩,ed,q⟩:=q4;obtain ⟨u,rfl⟩:∃u,us=[u]:=by cases r4 with|cons h t=>cases t;exact ⟨_,rfl⟩
 cases r4 with
 | cons rb _=>
 cases rb;have hv:=(I4.pin (s1.heap.objs.size,_) (aeu _ aa_)).1;have I5:=Inv.QM I4;obtain ⟨z,Lb,vs,rel,o,YJ,ep,OV,hx,jL,hk,hp,hn⟩:=mw I5.bM ed;have da:s3.heap.DictAt (bF X.prog X.w) d vs ep:=⟨o,YJ,OV,hx,jL,hk,hp,hn⟩;have lv:=rel.length;have I6:=Inv.freeze I5 ed OV;obtain ⟨U7,pI,pl,_⟩:=I5.list hy;have lt1:d<s3.heap.objs.size:=abJ OV;have Yy:b<s3.heap.objs.size:=by obtain ⟨ob,e1,_⟩:=pl.isList;exact abJ e1
 refine IP (knd:=bF X.prog X.w) (d:=d) ⟨_,hv,rfl,rfl⟩ da pl.isList fun h' hz gm jY xY U8 hk=>adz (s:={s3 with heap:=h'}) hz ?_;rw [<-lv] at xY;refine ⟨s3.heap.objs.size+4,[s3.heap.objs.size+4,s3.heap.objs.size+2,s3.heap.objs.size+3,s3.heap.objs.size,s3.heap.objs.size+1],_,_,_,rfl,I6.kept (t':=s3.toks) hk,QL d b _ _ _ _ _ o kvs jL ?_,⟨hz,gm,⟨_,_,jY⟩,xY,U8⟩,fun c hc=>?_,q o⟩
 ·constructor<;>(intro z;simp only [abA] at*;omega)
 ·have pH :s3.heap.objs.size<=c:=by
   have:c=s3.heap.objs.size+4\/c=s3.heap.objs.size+2\/c=s3.heap.objs.size+3\/c=s3.heap.objs.size\/c=s3.heap.objs.size+1:=by simpa using hc
   simp only [abA] at*;omega
  exact I6.m_ pH (I6.bM.fresh pH)
def Nc {K:Frag}{g:TG}{tb:TS}{D:Ends}(Pv:Nat->L2.St->Hp->Prop)(hy:kvs.length<=ys.length)(h0:Pv 0 σ H)(hl:∀i σ H,i<=kvs.length->Pv i σ H->H d=some (.fB o (.dK kvs))/\aT K H b ys)
  (hs:∀i k x y σ H p,kvs[i]?=some (k,x)->ys[i]?=some y->Pv i σ H->H p=none->g (.ref p) σ (upd H p (.tup [x,y])) fun σ2 H2=>tb {D with nx:=Pv (i+1),ct:=Pv (i+1),bk:=D.nx} σ2 H2) (hd:∀σ H,Pv kvs.length σ H->D.nx σ H):
  ∃W:Nat->Nat->L2.St->Hp->Prop,(∃m,W 0 m σ H)/\∀i m σ H,W i m σ H->
   ((Nb K d o kvs b).stop i H/\D.nx σ H)\/((Nb K d o kvs b).go i H/\∃N:L2.St->Hp->Prop,(∀σ' H',N σ' H' ->∃m',m'<m/\W (i+1) m' σ' H')/\∀x H',(Nb K d o kvs b).DN i H x H' ->g x σ H' fun σ2 H2=>tb {D with nx:=N,ct:=N,bk:=D.nx} σ2 H2):=by
 refine ⟨fun i m σ H=>m=kvs.length-i/\i<=kvs.length/\Pv i σ H,⟨kvs.length,by simp,aeF _,h0⟩,?_⟩;rintro i m σ H ⟨rfl,hi,p⟩;obtain ⟨q1,q2⟩:=hl i σ H hi p;by_cases jB:i<kvs.length
 ·have ey:ys[i]?=some ys[i]:=gE (by omega)
  refine .inr ⟨⟨q1,jB,ys,ys[i],q2,ey⟩,Pv (i+1),fun σ' H' z=>⟨kvs.length-(i+1),by omega,rfl,by omega,z⟩,fun x H' y=>?_⟩;obtain ⟨a,k,x',y',ek,Lj,rfl,na,rfl⟩:=y;exact hs i k x' y' σ _ a ek (Lj ys q2) p na
 ·have e:i=kvs.length:=by omega
  subst e;exact .inl ⟨⟨q1,aaA _⟩,hd σ H p⟩
end
section
variable {D:abA}{te:TE}{cap:L2.St}{H1:Hp}{Q:VK}
def yu (J:List V->Hp->Prop)(nD:H1 D=none)(hn:n<abE)(h0:J [] (upd H1 D (.lst [])))
  (he:∀(i:Nat) ys H (R:VK),i<n->ys.length=i->J ys H->ao H1 H->H D=some (.lst ys)->(∀v H6,ao H H6->J (ys++[v]) (upd H6 D (.lst (ys++[v])))->R v H6)->te (some (.int (0+(i:Int)))::cap) H R)
  (hd:∀ys H,ys.length=n->J ys H->ao H1 H->H D=some (.lst ys)->Q (.ref D) H):
  nC D (c_ 0) kr te (SV 0 n) (none::cap) H1 Q:=by
 refine vx n (fun i=>.int (0+(i:Int))) (fun i ys H=>ys.length=i/\J ys H/\ao H1 H) ⟨rfl,h0,fun b o e=>by rw [aj (ak e nD)];exact e⟩ ?_ ?_ ?_ ?_
 ·rintro i ys H hi _
  exact ⟨hi,fun x H' y=>y⟩
 ·rintro ys H _
  exact aaA n
 ·rintro i ys H R hi ⟨l,j,s⟩ hD k
  exact he i ys H R hi l j s hD fun v H6 s6 jv=>k v H6 (s6 _ _ hD) (by omega) ⟨by simp [l],jv,fun b o e=>by rw [aj (ak e nD)];exact s6 _ _ (s _ _ e)⟩
 ·rintro ys H ⟨l,j,s⟩ hD
  exact hd ys H l j s hD
end
def Nd {K:Frag}(h:X.K=K)(hu:X.A.units+64<acB):jX X (aca .NotEq) (D_ K):=by subst h;exact qh hu
def Nf (x y z:Value):argsOk "min" ⟨[x,y,z],[]⟩:=by
 unfold argsOk
 kernel_rfl
abbrev tI (i j k:Int)(t u v:Tok):Array (Int×Tok):= #[(i,t),(j,u),(k,v)]
def Ng {E:δ}{R:δ}(hb:B.handled=none)
  (h:∀(m:Int)(tm:Tok)(h':Heap)(n:Nat),(m=i\/m=j\/m=k)->m<=i->m<=j->m<=k->(∀b o,s.heap.get? b=some o->h'.get? b=some o)->R (.int m tm) {s with heap:=h',toks:=n}):
  abG (abK P w) B (call (.builtin "min") [.int i t,.int j u,.int k v]) R E s:=by
 have nm:(toString "min"++toString ".loop":String)="min.loop":=by decide
 have tup:(s.heap.push {cls:=.type "tuple",data:=.seq #[Value.int i t,Value.int j u,Value.int k v]}).IsTuple s.heap.objs.size (intItems (tI i j k t u v)):=
  ⟨_,abN _ rfl,rfl,0,by simp [intItems]⟩
 have yv:(s.heap.push {cls:=.type "tuple",data:=.seq #[Value.int i t,Value.int j u,Value.int k v]}).objs.size=s.heap.objs.size+1:=
  acf ..
 have Ze:(intItems (tI i j k t u v)).size=3:=by simp [intItems]
 refine call_function_tree F.kind_min F.plain_min F.entry_min
  (Nf _ _ _) ?_
 show abG _ B.in1 (Builtin.Builtins.bindParams "min"
  ["key","default"] 0 ⟨[],[]⟩ >>=_) _ _ s
 refine abz (wpAny_of_eq (show Builtin.Builtins.bindParams "min"
  ["key","default"] 0 ⟨[],[]⟩=pure [none,none] from rfl) ?_)
 show abG _ B.in1 (newTuple [.int i t,.int j u,.int k v] >>=_) _ _ s;refine abz (acK ?_ (by show 3<=abE;decide));refine abz (wpAny_pyIter_tuple tup ?_);refine abz (acK ?_ (by first|(show 0<=abE;decide)|(show 1<=abE;decide)|(show 2<=abE;decide)));rw [nm];have nI:s.heap.objs.size≠(s.heap.push {cls:=.type "tuple",data:=.seq #[Value.int i t,Value.int j u,Value.int k v]}).objs.size:=by rw [yv];omega
 have W:=Walks.tuple (prog:=P) (w:=w) (A:=B.in1) hb _ s.heap.objs.size nI (intItems (tI i j k t u v))
 have low:∀b,b∈[(s.heap.push {cls:=.type "tuple",data:=.seq #[Value.int i t,Value.int j u,Value.int k v]}).objs.size,s.heap.objs.size]->b<s.heap.objs.size+2:=fun b ff =>by
  rw [yv] at ff
  rcases aes.mp ff with e|ff
  ·omega
  ·have:=abg.mp ff
   omega
 refine abF ⟨aiD F.plain_min_loop _,?_⟩
 refine codeAny_min_loop_first W _ (CmpOf.ints_lt (numAt (tI i j k t u v)) fun _ _=>intItems_at) _ (fun hm=>?_) (by rw [Ze];decide)
  (W.frame 0 _ _ ⟨⟨_,abN _ rfl,rfl,rfl⟩,tup.push _⟩ fun b _ o e=>abD _ e) (abN _ rfl) fun r h' n hr hk=>?_
 ·have:=low _ hm
  revert this
  show ¬ ((s.heap.push _).push _).objs.size<_;rw [acf,yv];omega
 ·rw [Ze] at hr
  have v0:numAt (tI i j k t u v) 0=i:=rfl;have v1:numAt (tI i j k t u v) 1=j:=rfl;have v2:numAt (tI i j k t u v) 2=k:=rfl
  obtain ⟨a,ea,ha⟩:∃a,argBest (fun i' j'=>decide (numAt (tI i j k t u v) i'<numAt (tI i j k t u v) j')) 2=a/\((a=0/\i<=j/\i<=k)\/(a=1/\j<=i/\j<=k)\/(a=2/\k<=i/\k<=j)):=by
   refine ⟨_,rfl,?_⟩;by_cases c1:j<i
   ·by_cases c2:k<j
    ·exact .inr (.inr ⟨by simp [argBest,v0,v1,v2,c1,c2],by omega,by omega⟩)
    ·exact .inr (.inl ⟨by simp [argBest,v0,v1,v2,c1,c2],by omega,by omega⟩)
   ·by_cases c2:k<i
    ·exact .inr (.inr ⟨by simp [argBest,v0,v1,v2,c1,c2],by omega,by omega⟩)
    ·exact .inl ⟨by simp [argBest,v0,v1,v2,c1,c2],by omega,by omega⟩
  have hr':(intItems (tI i j k t u v))[a]?=some r:=by rw [<-ea];exact hr
  obtain ⟨tm,rfl⟩:=intItems_at hr'
  have old:∀b o,s.heap.get? b=some o->h'.get? b=some o:=fun b o e=>by
   refine hk b o (fun hm=>?_) (fun z=>?_) (abD _ (abD _ (abD _ e)))
   ·have:=abJ e
    rw [abg.mp hm] at this;have more:(s.heap.push {cls:=.type "tuple",data:=.seq #[Value.int i t,Value.int j u,Value.int k v]}).objs.size<s.heap.objs.size:=this;rw [yv] at more;omega
   ·have:=abJ e
    rw [z] at this;have more:((s.heap.push _).push _).objs.size<s.heap.objs.size:=this;rw [acf,yv] at more;omega
  rcases ha with ⟨rfl,h1,h2⟩|⟨rfl,h1,h2⟩|⟨rfl,h1,h2⟩
  ·exact h i tm h' n (.inl rfl) (ah0 _) h1 h2 old
  ·exact h j tm h' n (.inr (.inl rfl)) h1 (ah0 _) h2 old
  ·exact h k tm h' n (.inr (.inr rfl)) h1 h2 (ah0 _) old
section
variable {X:Cx}
def vals3 {us:ρ}(r:Vals [x,y,z] us):∃a b c,us=[a,b,c]/\RelV x a/\RelV y b/\RelV z c:=by
 cases r with
 | cons r1 r2=>
  obtain ⟨b,c,rfl,r3,r4⟩:=vals2 r2;exact ⟨_,b,c,rfl,r1,r3,r4⟩
inductive To (xs:ζ)(H:Hp)(Q:VK):Prop
|mk (i j k:Int)(_:xs=[.int i,.int j,.int k])(_:∀m:Int,(m=i\/m=j\/m=k)->m<=i->m<=j->m<=k->Q (.int m) H)
def IQ (hc:X.calm=true):ie X (.builtin "min") To:=by
 intro pins s σ H xs us Q I r h;obtain ⟨i,j,k,rfl,q⟩:=h;obtain ⟨a,b,c,rfl,⟨t,rfl⟩,⟨t',rfl⟩,⟨t'',rfl⟩⟩:=vals3 r;exact Ng (I.ok.hd hc) fun m tm h' n h1 h2 h3 h4 kk=>⟨.int m,H,I.kept kk,⟨_,rfl⟩,q m h1 h2 h3 h4⟩
end
variable {X:Cx}
def Tp (K:Frag):R2:=fun x y H Q=>∃(a b:abA)(k1 k2:γ)(ds:List Da),x=.ref a/\y=.ref b/\Rd H a (.dK k1)/\Rd H b (.dK k2)/\k1.map (·.1)=k2.map (·.1)/\k1.length<=ds.length/\
 (∀(i:Nat)(d:Da)(u v:Key×V),ds[i]?=some d->k1[i]?=some u->k2[i]?=some v->Is K H d u.2/\Is K H d v.2/\alike d d=true/\gY d d=true/\dep d<=60)/\Q (.bl true) H
def EY (hu:X.A.units+64<acB):jX X (aca .Eq) (Tp X.K):=by
 intro pins s σ H x y v u Q I rx ry h;obtain ⟨a,b,k1,k2,ds,rfl,rfl,e1,e2,ek,ld,hv,q⟩:=h;cases rx;cases ry;obtain ⟨z,hd,vs,rel,dd⟩:=jn I.bM e1;obtain ⟨z2,hd2,ws,Vs,dd2⟩:=jn I.bM e2;refine MM (by omega) hd hd2 dd dd2 (by rw [<-rel.keys,<-Vs.keys,ek]) (fun i x y hx hy=>?_) ⟨.bl true,H,I,rfl,q⟩
 have li:i<k1.length:=by
  have:=(Wp.mp hx).1;rw [rel.length];exact this
 have li2:i<k2.length:=by
  have:=(Wp.mp hy).1;rw [Vs.length];exact this
 have li3:i<ds.length:=by omega
 have g1:=gE li;have g2:=gE li2;obtain ⟨x',ex,_,rx⟩:=aA rel g1;obtain ⟨y',ey,_,ry⟩:=aA Vs g2;rw [hx] at ex;rw [hy] at ey;cases ex;cases ey;obtain ⟨h1,h2,h3,h4,h5⟩:=hv i _ _ _ (gE li3) g1 g2;have:=vq I _ _ _ _ _ _ X.A.in1 h1 h2 h3 rx ry (by rw [in1_units];omega);rw [h4] at this;exact this
inductive EZ {A0 A1:Type}(p:A0->A1->Prop):Prop where
 | mk (a0:A0)(a1:A1)(h:p a0 a1):EZ p
inductive IS {A0 A1 A2:Type}(p:A0->A1->A2->Prop):Prop where
 | mk (a0:A0)(a1:A1)(a2:A2)(h:p a0 a1 a2):IS p
inductive Lk {A0 A1 A2 A3:Type}(p:A0->A1->A2->A3->Prop):Prop where
 | mk (a0:A0)(a1:A1)(a2:A2)(a3:A3)(h:p a0 a1 a2 a3):Lk p
inductive Zf {A0 A1 A2 A3 A4:Type}(p:A0->A1->A2->A3->A4->Prop):Prop where
 | mk (a0:A0)(a1:A1)(a2:A2)(a3:A3)(a4:A4)(h:p a0 a1 a2 a3 a4):Zf p
inductive Ex6 {A0 A1 A2 A3 A4 A5:Type}(p:A0->A1->A2->A3->A4->A5->Prop):Prop where
 | mk (a0:A0)(a1:A1)(a2:A2)(a3:A3)(a4:A4)(a5:A5)(h:p a0 a1 a2 a3 a4 a5):Ex6 p
inductive Ex7 {A0 A1 A2 A3 A4 A5 A6:Type}(p:A0->A1->A2->A3->A4->A5->A6->Prop):Prop where
 | mk (a0:A0)(a1:A1)(a2:A2)(a3:A3)(a4:A4)(a5:A5)(a6:A6)(h:p a0 a1 a2 a3 a4 a5 a6):Ex7 p
inductive Ex9 {A0 A1 A2 A3 A4 A5 A6 A7 A8:Type}(p:A0->A1->A2->A3->A4->A5->A6->A7->A8->Prop):Prop where
 | mk (a0:A0)(a1:A1)(a2:A2)(a3:A3)(a4:A4)(a5:A5)(a6:A6)(a7:A7)(a8:A8)(h:p a0 a1 a2 a3 a4 a5 a6 a7 a8):Ex9 p
inductive Zg {A0 A1 A2 A3 A4 A5 A6 A7 A8 A9 A10 A11 A12 A13:Type}(p:A0->A1->A2->A3->A4->A5->A6->A7->A8->A9->A10->A11->A12->A13->Prop):Prop where
 | mk (a0:A0)(a1:A1)(a2:A2)(a3:A3)(a4:A4)(a5:A5)(a6:A6)(a7:A7)(a8:A8)(a9:A9)(a10:A10)(a11:A11)(a12:A12)(a13:A13)(h:p a0 a1 a2 a3 a4 a5 a6 a7 a8 a9 a10 a11 a12 a13):Zg p
section
variable {P:abQ}{w:World}{K:Frag}{mg:ν}{base:Heap}{CX:ma}{N ps:ψ}{k:Nat}{sp:Sp}{st:Stmt}
def Def.oo (D:Def K mg x st ps)(S:av N ps (ae st))
  (gW:∀{f:abA} {ck:Value} {A:abV} {outer:List Env} {s:abH} {vs:ζ} {Q:VK} {E:XK} (H:Hp),cB k (A.deeper (adg x (ae st) s.heap.objs.size f ck))->sp vs H Q E->
   ∃t,PSs (jD CX P w K mg base N x (ae st) f ck A outer s H E).xw (aq st) t/\t {nx:=fun _ H'=>Q .cT H',rt:=Q} (start N vs) H) (len:∀vs H Q E,sp vs H Q E->vs.length=ps.length:=by intro vs H Q E h;cases h;subst_vars;rfl):Fn P w K mg base CX (k+1) x ps sp:=D.ok S len fun _ _ _ _ _ H _ _ _ hr h=>gW H hr h
def Def.op (D:Def K mg x st ps)(S:av N ps (ae st))
  (gW:∀(f:abA)(ck:Value)(A:abV)(outer:List Env)(s:abH)(H:Hp)(vs:ζ)(Q:VK)(E:XK),cB k (A.deeper (adg x (ae st) s.heap.objs.size f ck))->sp vs H Q E->
   ∃t,PSs (jD CX P w K mg base N x (ae st) f ck A outer s H E).xw (aq st) t/\t {nx:=fun _ H'=>Q .cT H',rt:=Q} (start N vs) H) (len:∀vs H Q E,sp vs H Q E->vs.length=ps.length:=by intro vs H Q E h;cases h;subst_vars;rfl):Fn P w K mg base CX (k+1) x ps sp:=D.ok S len gW
def gu (F:qe K name qual st f fd)(S:av N ps (ae st))
  (gW:∀{ck:Value} {A:abV} {outer:List Env} {s:abH} {vs:ζ} {Q:VK} {E:XK} (H:Hp),cB k (A.deeper (adg qual (ae st) s.heap.objs.size f ck))->sp vs H Q E->
   ∃t,PSs (cxr P w K mg base N qual (ae st) f ck A outer s H E).xw (aq st) t/\t {nx:=fun _ H'=>Q .cT H',rt:=Q} (start N vs) H) (len:∀vs H Q E,sp vs H Q E->vs.length=ps.length:=by intro vs H Q E h;cases h;subst_vars;rfl):dq P w K mg base (aZ P w) (k+1) f fd ps sp:=EM F S len fun _ _ _ _ H _ _ _ hr h=>gW H hr h
def IT (P:abQ)(w:World):Passes (aZ P w) X.xw E0:=kI aZ.AU
end
section
variable {X:Cx}{i:Nat}{x y:Str}{a b c d e e1 e2 e3 e4 e5 elt target iter:Expr}{es ifs:Ζ}{te ta tb t1 t2 t3 t4 t5:TE}{wi:TI}{g:TG}{tt:TT}{pos pos' py tF p:Pos}{scope:Scope}{tn fr:ψ}{caps:List Nat}
def aG (i:Nat)(hN:X.N.Nodup)(he:PE X e te)(hi:X.N[i]?=some x:=by rfl)(hx:Loc X.env.scope x:=by first|exact .inl rfl|exact .inr rfl)(hs:adv e (some (.Name x pos')) pos.line X.env=pure false:=by rfl)(hf:X.fn x=true\/X.env.scope.names.lookup x=some .local:=by first|exact .inl rfl|exact .inr rfl|assumption):
  PS X (.Assign [.Name x pos'] e pos) (AH te (c_ i)):=UD hN hi hx he hs hf
def bP (i:Nat)(hN:X.N.Nodup)(hi:X.N[i]?=some x:=by rfl)(hx:Loc X.env.scope x:=by first|exact .inl rfl|exact .inr rfl)(hf:X.fn x=true\/X.env.scope.names.lookup x=some .local:=by first|exact .inl rfl|exact .inr rfl|assumption):PG X (.Name x pos) (c_ i):=gG hN hi hx hf
def bE (hr:S5 X r)(ha:PE X a ta)(hb:PE X b tb)(hs:DX b:=by exact fun _ _=>rfl):PE X (.Subscript a b pos) (Qa r ta tb):=L6 hr ha hb hs
def bx (ho:jX X (aca op) r)(ha:PE X a ta)(hb:PE X b tb)(hm:adB op b=false:=by exact nh _):PT X (.Compare a [op] [b] pos) (S1 (Qa r ta tb)):=qb ho ha hb hm
def aX (h1:PE X e1 t1)(s1:isStar e1=false:=by rfl):PA X [e1] (oJ t1 gj):=pM h1 jC s1
def aI (h1:PE X e1 t1)(h2:PE X e2 t2)(s1:isStar e1=false:=by rfl)(s2:isStar e2=false:=by rfl):PA X [e1,e2] (oJ t1 (oJ t2 gj)):=pM h1 (aX h2 s2) s1
def bD (h1:PE X e1 t1)(h2:PE X e2 t2)(h3:PE X e3 t3)(s1:isStar e1=false:=by rfl)(s2:isStar e2=false:=by rfl)(s3:isStar e3=false:=by rfl):PA X [e1,e2,e3] (oJ t1 (oJ t2 (oJ t3 gj))):=pM h1 (aI h2 h3 s2 s3) s1
def FA (h1:closureFor scope X.env=pure (bg X.env fr):=by exact rfl)(h2:∀y∈scope.names,y.2≠.cell:=by decide+kernel)(h3:scope.kind=.function:=by exact rfl)(h4:∀y∈scope.names,y.2=.local->scope.names.lookup y.1=some .local:=by decide+kernel)(h5:∀y∈scope.names,y.2=.free->y.1∈fr:=by decide+kernel)(h6:caps.map (fun i=>X.N[i]?)=fr.map some:=by exact rfl)
  (h7:iF X.env fr:=by repeat (first|exact trivial|refine ⟨by first|exact ahh rfl|exact anR rfl,?_⟩)) (h8:iF (compEnvC scope [] 0 X.env) fr:=by repeat (first|exact trivial|refine ⟨by first|exact ahh rfl|exact anR rfl,?_⟩)):vw X scope fr caps:=⟨h1,h2,h3,h4,h5,h6,h7,h8⟩
def Nh (hi:PI X target iter wi)(hg:∀C s H fp,PG (qi X (tn++fr) scope (bg X.env fr) C s H fp) target g)(ht:∀C s H fp,PF (qi X (tn++fr) scope (bg X.env fr) C s H fp) ifs tt)(he:∀{C s H fp},PE (qi X (tn++fr) scope (bg X.env fr) C s H fp) elt te)
  (hc:X.calm=true:=by rfl) (B:vw X scope fr caps:=by exact FA) (hs:∀x,acj iter X.env x=pure x:=by intro _;rfl):PE X (.ListComp elt [⟨target,iter,ifs,0⟩] scope pos) (oM tn.length caps wi g tt te):=ED hc B hi hg ht (fun _ _ _ _=>he) hs
def Zh (hN:(tn++fr).Nodup)(h0:(tn++fr)[0]?=some y)(hx:∀C s H fp,Loc (qi X (tn++fr) scope (bg X.env fr) C s H fp).env.scope y)(hl:∀C s H fp,(qi X (tn++fr) scope (bg X.env fr) C s H fp).fn y=true\/(qi X (tn++fr) scope (bg X.env fr) C s H fp).env.scope.names.lookup y=some .local):∀C s H fp,PG (qi X (tn++fr) scope (bg X.env fr) C s H fp) (.Name y py) (c_ 0):=fun C s H fp=>gG hN h0 (hx C s H fp) (hl C s H fp)
def eV (hi:PI X (.Name y py) iter wi)(he:∀{C s H fp},PE (qi X (tn++fr) scope (bg X.env fr) C s H fp) elt te)
  (hc:X.calm=true:=by rfl) (B:vw X scope fr caps:=by exact FA) (hs:∀x,acj iter X.env x=pure x:=by intro _;rfl) (hN:(tn++fr).Nodup:=by decide+kernel) (h0:(tn++fr)[0]?=some y:=by rfl) (hx:∀C s H fp,Loc (qi X (tn++fr) scope (bg X.env fr) C s H fp).env.scope y:=by exact fun _ _ _ _=>.inl rfl) (hl:∀C s H fp,(qi X (tn++fr) scope (bg X.env fr) C s H fp).fn y=true\/(qi X (tn++fr) scope (bg X.env fr) C s H fp).env.scope.names.lookup y=some .local:=by intro _ _ _ _;first|exact .inl rfl|exact .inr rfl):PE X (.ListComp elt [⟨.Name y py,iter,[],0⟩] scope pos) (oM tn.length caps wi (c_ 0) kr te):=ED hc B hi (Zh hN h0 hx hl) (fun _ _ _ _=>qQ) (fun _ _ _ _=>he) hs
def Ni (hN:X.N.Nodup)(hi:PI X target iter wi)(hg:∀C s H fp,PG (qi X (tn++fr) scope (bg X.env fr) C s H fp) target g)(ht:∀C s H fp,PF (qi X (tn++fr) scope (bg X.env fr) C s H fp) ifs tt)(he:∀{C s H fp},PE (qi X (tn++fr) scope (bg X.env fr) C s H fp) elt te)
  (UY:X.N[i]?=some x:=by rfl) (hx:Loc X.env.scope x:=by first|exact .inl rfl|exact .inr rfl) (hc:X.calm=true:=by rfl) (B:vw X scope fr caps:=by exact FA) (Ld:adv (.ListComp elt [⟨target,iter,ifs,0⟩] scope pos) (some (.Name x py)) tF.line X.env=pure true:=by rfl)
  (hs:∀x,acj iter X.env x=pure x:=by intro _;rfl) (hf:X.fn x=true\/X.env.scope.names.lookup x=some .local:=by first|exact .inl rfl|exact .inr rfl|assumption):
  PS X (.Assign [.Name x py] (.ListComp elt [⟨target,iter,ifs,0⟩] scope pos) tF) (AH (oM tn.length caps wi g tt te) (c_ i)):=EE hN UY hx hc B hi hg ht (fun _ _ _ _=>he) Ld hs hf
def rn (hN:X.N.Nodup)(hi:PI X (.Name y yp) iter wi)(he:∀{C s H fp},PE (qi X (tn++fr) scope (bg X.env fr) C s H fp) elt te)
  (UY:X.N[i]?=some x:=by rfl) (hx:Loc X.env.scope x:=by first|exact .inl rfl|exact .inr rfl) (hc:X.calm=true:=by rfl) (B:vw X scope fr caps:=by exact FA) (Ld:adv (.ListComp elt [⟨.Name y yp,iter,[],0⟩] scope pos) (some (.Name x py)) tF.line X.env=pure true:=by rfl)
  (hs:∀x,acj iter X.env x=pure x:=by intro _;rfl) (hf:X.fn x=true\/X.env.scope.names.lookup x=some .local:=by first|exact .inl rfl|exact .inr rfl|assumption) (Zi:(tn++fr).Nodup:=by decide+kernel) (h0:(tn++fr)[0]?=some y:=by rfl) (hx2:∀C s H fp,Loc (qi X (tn++fr) scope (bg X.env fr) C s H fp).env.scope y:=by exact fun _ _ _ _=>.inl rfl) (hl:∀C s H fp,(qi X (tn++fr) scope (bg X.env fr) C s H fp).fn y=true\/(qi X (tn++fr) scope (bg X.env fr) C s H fp).env.scope.names.lookup y=some .local:=by intro _ _ _ _;first|exact .inl rfl|exact .inr rfl):
  PS X (.Assign [.Name x py] (.ListComp elt [⟨.Name y yp,iter,[],0⟩] scope pos) tF) (AH (oM tn.length caps wi (c_ 0) kr te) (c_ i)):=EE hN UY hx hc B hi (Zh Zi h0 hx2 hl) (fun _ _ _ _=>qQ) (fun _ _ _ _=>he) Ld hs hf
def aL {E:XK}(F:Fn X.prog X.w X.K X.mg X.base (aZ P w) k x ps sp)(hr:cB l X.A)(ha:PA X (e::es) t)(hk:k<=l:=by decide)(hx:Passes (aZ P w) X E:=by exact kI aZ.AU)(hg:Gl X x:=by rfl)(tw:(x==("__debug__":Str))=false:=by decide)
  (he:abP (e::es) X.env=(false,abW e X.env)::abP es X.env:=by rfl) (pJ:(ack pos (abP es X.env)).any (·.1)=false:=by rfl):PE X (.Call (.Name x p) (e::es) [] pos) (DU sp [] E t):=jm F (hr.mono hk) hx ha hg tw he pJ
def yx {E:XK}(F:Fn X.prog X.w X.K X.mg X.base (aZ P w) k x ps sp)(hr:cB l X.A)(ha:PA X (e::es) t)(hk:k<=l:=by decide)(hx:Passes (aZ P w) X E:=by exact Yu aZ.AU rfl)(hg:Gl X x:=by rfl)(tw:(x==("__debug__":Str))=false:=by decide)
  (he:abP (e::es) X.env=(false,abW e X.env)::abP es X.env:=by rfl) (pJ:(ack pos (abP es X.env)).any (·.1)=false:=by rfl):PE X (.Call (.Name x p) (e::es) [] pos) (DU sp [] E t):=jm F (hr.mono hk) hx ha hg tw he pJ
end
end Ty
namespace T_k66
open PySem PySem.Spec PyProof.Rows L2 Ty
open Builtin.Int (intBits)
abbrev ap (a:abA):Option V:=some (.ref a)
theorem sq2 {a b c:TS}{D σ H}(s:let y:=c;let z:=XT b y;XT a z D σ H):XT a (XT b c) D σ H:=s
theorem sq3 {a b c d:TS}{D σ H}(s:let x:=d;let y:=XT c x;let z:=XT b y;XT a z D σ H):XT a (XT b (XT c d)) D σ H:=s
theorem sq4 {a b c d e:TS}{D σ H}(s:let w:=e;let x:=XT d w;let y:=XT c x;let z:=XT b y;XT a z D σ H):XT a (XT b (XT c (XT d e))) D σ H:=s
theorem sq6 {a b c d e f g:TS}{D σ H}(s:let u:=g;let v:=XT f u;let w:=XT e v;let x:=XT d w;let y:=XT c x;let z:=XT b y;XT a z D σ H):XT a (XT b (XT c (XT d (XT e (XT f g))))) D σ H:=s
theorem sq10 {a b c d e f g h i j k:TS}{D σ H}(s:let B:=k;let A:=XT j B;let r:=XT i A;let t:=XT h r;let u:=XT g t;let v:=XT f u;let w:=XT e v;let x:=XT d w;let y:=XT c x;let z:=XT b y;XT a z D σ H):XT a (XT b (XT c (XT d (XT e (XT f (XT g (XT h (XT i (XT j k))))))))) D σ H:=s
theorem sq13 {a b c d e f g h i j k l m n:TS}{D σ H}(s:let F:=n;let E:=XT m F;let C:=XT l E;let B:=XT k C;let A:=XT j B;let r:=XT i A;let t:=XT h r;let u:=XT g t;let v:=XT f u;let w:=XT e v;let x:=XT d w;let y:=XT c x;let z:=XT b y;XT a z D σ H):XT a (XT b (XT c (XT d (XT e (XT f (XT g (XT h (XT i (XT j (XT k (XT l (XT m n)))))))))))) D σ H:=s
abbrev zIv:=Nat->L2.St->Hp->Prop
abbrev ac (P:abQ)(w:World)(K:Frag)(mg:ν)(base:Heap):=Fn P w K mg base (aZ P w)
abbrev ad (P:abQ)(w:World)(K:Frag)(mg:ν)(base:Heap):=bL P w K mg base (aZ P w)
abbrev am (P:abQ)(w:World)(K:Frag)(mg:ν)(base:Heap):=dq P w K mg base (aZ P w)
def z0L:0<=abE:=by decide
def z1L:1<=abE:=by decide
def z2L:2<=abE:=by decide
def z4L:4<=abE:=by decide
def z6L:6<=abE:=by decide
def z10L:10<=abE:=by decide
seal L2.PE L2.PS L2.PSs L2.PA
abbrev zaa:List Str:=["_law_pins_here","_law_bars_here","_law_pulls_here","_law_pushes_here"]
abbrev zab:List Str:=["one","other"]
abbrev zac:List Str:=["_law_one","_law_other"]
abbrev zad:List Str:=["_law_cell","_law_prime","_law_many"]
abbrev zae:List Str:=["_law_frame_here","_law_pins_here","_law_bars_here","_law_grips_here","_law_cell","_law_k"]
abbrev zaf:List Str:=["self","name","one","other"]
abbrev zag:List Str:=["_law_top","_law_bottom"]
abbrev zah:List Str:=["_law_pins_here","_law_bars_here","_law_told_here"]
abbrev zai:List Str:=["self"]
abbrev zaj:List Str:=["_law_found","_law_k","_law_axis","_law_draw"]
abbrev zak:List Str:=["_law_script","_law_k"]
abbrev zal:List Str:=["self","pin"]
abbrev zam:List Str:=["F","one","other"]
abbrev zan:List Str:=["_law_pins_here","_law_bar","_law_axis"]
abbrev zao:List Str:=["_law_script","_law_bars_here","_law_start"]
abbrev zap:List Str:=["_law_script","_law_pins_here","_law_start"]
abbrev zaq:List Str:=["_law_pins_here","_law_bars_here"]
abbrev zar:List Str:=["top","bottom"]
abbrev zas:List Str:=["lines","many"]
abbrev zat:List Str:=["_law_script","_law_pins_here"]
abbrev zau:List Str:=["_law_pins_here","_law_motion"]
abbrev zav:List Str:=["_law_script","_law_bars_here"]
abbrev zaw:List Str:=["self","name","x","y","hold"]
abbrev zax:List Str:=["F","numbers"]
abbrev zay:List Str:=["_law_cell","_law_k"]
abbrev zaz:List Str:=["_law_script","_law_most"]
abbrev zaA:List Str:=["_law_load","_law_motion"]
abbrev zaB:List Str:=["_law_cell","_law_kind"]
abbrev zaC:List Str:=["line","lead","column"]
abbrev zaD:List Str:=["F","firm","bar_rows"]
abbrev zaE:List Str:=["_law_cell","_law_k","_law_style","_law_at"]
abbrev zaF:List Str:=["rows","due","many"]
abbrev zaG:List Str:=["_law_one"]
abbrev zaH:List Str:=["self","x","y"]
abbrev zaI:List Str:=["F","grips","load"]
abbrev zaJ:List Str:=["F","draws"]
abbrev zaK:List Str:=["rows","many"]
abbrev zaL:List Str:=["lines","column"]
abbrev zaM:List Str:=["self","bar"]
abbrev zaN:List Str:=["firm","longer"]
abbrev zaO:List Str:=["whole","other","times","less"]
abbrev zaP:List Str:=["self","name"]
abbrev zaQ:List Str:=["F","motion"]
abbrev zaR:List Str:=["numbers"]
abbrev zaS:List Str:=["F","grips"]
abbrev zaT:List Str:=["_law_cell"]
abbrev zaU:List Str:=["share","whole"]
abbrev zaV:List Str:=["_law_x"]
def sq {N P:ψ}{sc:Scope}(a:sc.kind=.function:=by exact rfl)(b:sc.isCoroutine=false:=by exact rfl)(c:sc.isGenerator=false:=by exact rfl)(d:N.Nodup:=by decide+kernel)(e:N.take P.length=P:=by exact rfl)(f:∀x∈P,sc.names.lookup x=some .local\/sc.names.lookup x=some .cell:=by decide+kernel)(g:∀y∈sc.names,y.2≠.free:=by decide+kernel):av N P sc:=⟨a,b,c,d,e,f,g⟩
def pY (P:abQ)(w:World){X:Cx}:Passes (aZ P w) X.xw E0:=kI aZ.AU
def pX {X:Cx}:Passes (aZ P w) X.xw E0:=kI aZ.AU
def _root_.L2.cB.mo (r:L2.cB k A)(h:j<=k:=by decide):L2.cB j A:=r.mono h
def aF (h:PE X a ta):PE X (.Subscript a (.Constant (.int i) j p1) p2) (Qa (L7 X.K) ta (tC (.int i))):=L6 nq h af (fun _ _=>rfl)
def uO (h:PE X a ta):PE X (.Subscript a (.Constant (.int i) j p1) p2) (Qa (Ql X.K) ta (tC (.int i))):=L6 aR h af (fun _ _=>rfl)
def bl1{P:List Value->Prop}(h:∀a:Value,P [a]):∀us:List Value,us.length=1->P us|[_],_=>h _
def blS{P:List Value->Prop}{n:Nat}(h:∀a us,us.length=n->P (a::us)):∀us:List Value,us.length=n+1->P us|a::us,e=>h a us (Nat.succ.inj e)
def bl2{P:List Value->Prop}(h:∀a b:Value,P [a,b]):∀us:List Value,us.length=2->P us:=blS fun a=>bl1 (h a)
def bl3{P:List Value->Prop}(h:∀a b c:Value,P [a,b,c]):∀us:List Value,us.length=3->P us:=blS fun a=>bl2 (h a)
def bl4{P:List Value->Prop}(h:∀a b c d:Value,P [a,b,c,d]):∀us:List Value,us.length=4->P us:=blS fun a=>bl3 (h a)
def bl5{P:List Value->Prop}(h:∀a b c d e:Value,P [a,b,c,d,e]):∀us:List Value,us.length=5->P us:=blS fun a=>bl4 (h a)
def bl6{P:List Value->Prop}(h:∀a b c d e f:Value,P [a,b,c,d,e,f]):∀us:List Value,us.length=6->P us:=blS fun a=>bl5 (h a)
def bl7{P:List Value->Prop}(h:∀a b c d e f g:Value,P [a,b,c,d,e,f,g]):∀us:List Value,us.length=7->P us:=blS fun a=>bl6 (h a)
def _root_.L2.qe.FC {K:Frag}{st:Stmt}(F:L2.qe K x qual st f fd)
 (h:∀(kV doc pm:Value)(an:Λ)(ck ct:Value)(us:ρ),us.length=ps.length->bindArgs (fnOf x qual (au st) (aq st) (ae st) .none kV doc pm an ck ct) ⟨us,[]⟩=pure (ps.zip us):=by intro _ _ _ _ _ _;first|exact bl1 fun _=>rfl|exact bl2 fun _ _=>rfl|exact bl3 fun _ _ _=>rfl|exact bl4 fun _ _ _ _=>rfl|exact bl5 fun _ _ _ _ _=>rfl):Binds K fd ps []:=F.binds h
inductive HXx (K:Frag)(x:Str)(st:Stmt):Prop|mk{f:abA}{oc:Value}{od an:Λ}{sR:Ν}{kV doc pm ck ct:Value}(a:nsIn K abO x=some (some (.ref f)))(l:K.lookup f=some ⟨oc,od,.func (fnOf x x (au st) (aq st) (ae st) .none kV doc pm an ck ct),sR⟩)(c:codeIn K ck x=true)(k:keepIn K (.ref f)=true):HXx K x st
inductive HXy (K:Frag)(C:abA)(x q:Str)(st:Stmt):Prop|mk{f:abA}{oc:Value}{od an:Λ}{sR:Ν}{kV doc pm ck ct:Value}(a:abT K (.ref C) x=some (some (.ref f)))(i:aiJ K (.ref f)=true)(l:K.lookup f=some ⟨oc,od,.func (fnOf x q (au st) (aq st) (ae st) .none kV doc pm an ck ct),sR⟩)(c:codeIn K ck q=true)(k:keepIn K (.ref f)=true):HXy K C x q st
def fO {K:Frag}{mg:ν}{st:Stmt}(X:K.In h)(G:h.Ns abO mg)(H:HXx K x st)
 (b:∀(kV doc pm:Value)(an:Λ)(ck ct:Value)(us:ρ),us.length=ps.length->bindArgs (fnOf x x (au st) (aq st) (ae st) .none kV doc pm an ck ct) ⟨us,[]⟩=pure (ps.zip us):=by intro _ _ _ _ _ _;first|exact bl1 fun _=>rfl|exact bl2 fun _ _=>rfl|exact bl3 fun _ _ _=>rfl|exact bl4 fun _ _ _ _=>rfl|exact bl5 fun _ _ _ _ _=>rfl|exact bl6 fun _ _ _ _ _ _=>rfl|exact bl7 fun _ _ _ _ _ _ _=>rfl):Def K mg x st ps:=have ⟨a,l,c,k⟩:=H;Def.of (dP l c k) ((dP l c k).binds b) (mg_of X G a)
def top (i:Nat):Stmt:=PySem.Challenge.pw_trussyard_k66_whole_firmer_frames.main.body.getD i (.Pass ⟨0,0,0,0⟩)
abbrev g9:Stmt:=top 15
abbrev BI:Stmt:=top 16
abbrev dz:Stmt:=top 17
abbrev yy:Stmt:=top 18
abbrev IU:Stmt:=top 19
abbrev de:Stmt:=top 22
abbrev IV:Stmt:=top 23
abbrev BJ:Stmt:=top 24
abbrev cC:Stmt:=top 25
abbrev IW:Stmt:=top 27
abbrev IX:Stmt:=top 28
abbrev d0:Stmt:=top 29
abbrev IY:Stmt:=top 30
abbrev IZ:Stmt:=top 31
abbrev I_:Stmt:=top 32
abbrev JA:Stmt:=top 33
abbrev JB:Stmt:=top 34
abbrev JC:Stmt:=top 36
abbrev JD:Stmt:=top 37
abbrev JE:Stmt:=top 38
abbrev JF:Stmt:=top 39
abbrev JG:Stmt:=top 40
abbrev JH:Stmt:=top 41
abbrev JI:Stmt:=top 42
abbrev JJ:Stmt:=top 43
abbrev gQ:Stmt:=top 45
abbrev fh:Stmt:=top 46
abbrev gS:Stmt:=top 47
abbrev fj:Stmt:=top 48
abbrev d3:Stmt:=top 49
abbrev JK:Stmt:=top 59
abbrev JL:Stmt:=top 60
abbrev JM:Stmt:=top 61
abbrev JN:Stmt:=top 62
abbrev JO:Stmt:=top 63
abbrev JP:Stmt:=top 64
abbrev BK:Stmt:=top 66
abbrev JQ:Stmt:=top 67
abbrev JR:Stmt:=top 68
abbrev JS:Stmt:=top 69
abbrev JT:Stmt:=top 70
abbrev JU:Stmt:=top 71
abbrev JV:Stmt:=top 72
abbrev JW:Stmt:=top 73
abbrev JX:Stmt:=top 74
abbrev JY:Stmt:=top 75
abbrev JZ:Stmt:=top 76
abbrev J_:Stmt:=top 77
abbrev J':Stmt:=top 78
abbrev Kf:Stmt:=top 79
abbrev fk:Stmt:=top 80
abbrev fq:Stmt:=top 81
abbrev d5:Stmt:=top 82
abbrev dH:Stmt:=top 83
abbrev fU:Stmt:=top 84
abbrev fV:Stmt:=top 85
abbrev mD:Stmt:=top 86
abbrev Kg:Stmt:=inClass (top 53) 0
abbrev pQ:Stmt:=inClass (top 53) 1
abbrev Kh:Stmt:=inClass (top 53) 2
abbrev Ki:Stmt:=inClass (top 53) 3
abbrev Kj:Stmt:=inClass (top 53) 4
abbrev Kk:Stmt:=inClass (top 53) 5
abbrev Kl:Stmt:=inClass (top 53) 7
abbrev Km:Stmt:=inClass (top 53) 8
abbrev Kn:Stmt:=inClass (top 53) 9
abbrev Ko:Stmt:=inClass (top 53) 10
abbrev Kp:Stmt:=inClass (top 53) 11
abbrev QO:Stmt:=inClass (top 55) 0
abbrev Kq:Stmt:=inClass (top 56) 0
abbrev Kr:Stmt:=inClass (top 56) 1
abbrev Ks:Stmt:=inClass (top 57) 0
section
variable {P:abQ}{w:World}{K:Frag}{mg:ν}{base:Heap}{CX:ma}
def Nm (H:Hp)(v:V)(q:Int×Int):Prop:=∃p,v=.ref p/\H p=some (.tup [.int q.1,.int q.2])
structure Zj (k:Nat)(q:Int×Int):Prop where
 pos:0<q.2
 top:intBits q.1<=k
 bot:intBits q.2<=k
def aE (h:H p=none)(o:HO):ao H (upd H p o):=fun b u q=>by rw [aj (ak q h)];exact q
def nw (n:H l=none)(e:upd H l o=H'):ao H H'/\H' l=some o:=by subst e;exact ⟨aE n o,ah⟩
def gives (H:Hp)(Q:VK)(q:Int×Int):Prop:=∀(p:abA)(H':Hp),ao H H' ->H' p=some (.tup [.int q.1,.int q.2])->Q (.ref p) H'
inductive iT (vs:ζ)(H:Hp)(Q:VK)(E_:XK):Prop
|mk (a b:Int)(_:vs=[.int a,.int b])(_:Q (.int (gz a b)) H)
def addQ (x y:Int×Int):Int×Int:=low (x.1*y.2+y.1*x.2) (x.2*y.2)
def subQ (x y:Int×Int):Int×Int:=low (x.1*y.2-y.1*x.2) (x.2*y.2)
def mulQ (x y:Int×Int):Int×Int:=low (x.1*y.1) (x.2*y.2)
def vL (hx:Zj k x)(hy:Zj l y):x.2*y.2≠0:=aeH (afm hx.pos hy.pos)
def iU {a b:V}:iZ [a,b] 0=some a:=rfl
def iu {a b:V}:iZ [a,b] 1=some b:=rfl
def Nm.kept (h:Nm H v q)(hD:H D=some (.lst ys))(k:bw D H H'):Nm H' v q:=by
 obtain ⟨p,e,z⟩:=h;exact ⟨p,e,k p _ (fun e=>by rw [e,hD] at z;cases z) z⟩
inductive Ln (H:Hp)(v:V)(l:ξ):Prop
|mk (p:_)(_:v=.ref p)(_:H p=some (.lst (l.map V.int)))
def Ln.same (h:Ln H v l)(s:ao H H'):Ln H' v l:=by
 obtain ⟨p,e,k⟩:=h;exact ⟨p,e,s _ _ k⟩
def sX (H:Hp)(us:ζ)(ls:η):Prop:=us.length=ls.length/\∀(i:Nat)(u:V)(l:ξ),us[i]?=some u->ls[i]?=some l->Ln H u l
def sX.same (h:sX H us ls)(s:ao H H'):sX H' us ls:=⟨h.1,fun i u l e1 e2=>(h.2 i u l e1 e2).same s⟩
def uP {l:ξ}(h:j<l.length):iZ (l.map V.int) (j:Int)=some (.int (l.getD j 0)):=bG (by rw [aaa,gE h,abi,gE h];rfl)
def getD_mem {l:ξ}(e:l[j]?=some x):l.getD j 0=x:=by rw [abi,e];rfl
def Bd (b:Nat)(l:ξ):Prop:=∀j,(l.getD j 0).natAbs<=2^b
def Bd.mem (h:Bd b l)(hx:x∈l):x.natAbs<=2^b:=by
 obtain ⟨i,hi⟩:=abh hx;rw [<-getD_mem hi];exact h i
def Bd.up (h:Bd b l)(hc:b<=c):Bd c l:=fun j=>qT (h j) hc
def FD:av ["one","other","left"] zab (ae IU):=sq
def Zk (D:Def K mg "greatest_shared" IU zab)(uQ:mg "abs"=none):Fn P w K mg base CX 1 "greatest_shared" zab iT:=by
 refine D.oo FD fun H hr h=>?_;obtain ⟨a,b,rfl,q⟩:=h
 refine ⟨_,(aa (qF abI (bx lZ (pv 1) af) (aa (aG 2 FD.nd (ay eQ (pv 0) (pv 1))) (aa (aG 0 FD.nd (pv 1)) (ag (aG 1 FD.nd (pv 2)))))) (ag (aC (aH xI rfl uQ S_ (aX (pv 0)))))),?_⟩
 refine xH (fun σ H'=>IS fun (x y:Int) (l:Α)=>σ=[some (.int x),some (.int y),l]/\H'=H/\aeS x y=aeS a b) (fun σ _=>match σ with|[_,some (.int y),_]=>y.natAbs|_=>0) ⟨a,b,none,rfl,rfl,rfl⟩ ?_ ?_
 ·rintro σ H' ⟨x,y,l,rfl,rfl,g⟩
  refine ⟨_,rfl,rfl,_,rfl,?_⟩;refine bB (fun c=>?_) (fun c=>?_)
  ·have hy:y≠0:=by
    intro z;subst z;simp at c
   exact ⟨_,rfl,_,rfl,_,_,rfl,rfl,hy,_,rfl,_,rfl,⟨_,_,_,rfl,rfl,by rw [xU];exact g⟩,uv hy⟩
  ·have hy:y=0:=by
    have:=agA.mpr c;simp at this;exact this
   subst hy;refine ⟨_,rfl,x,rfl,?_⟩
   have e:(if x<0 then -x else x)=gz a b:=by
    rw [aik] at g;unfold gz;rw [<-g];split<;>omega
   rw [e];exact q
 ·rintro σ H' Q1 Q2 h ⟨v,e1,e2,k,ek,z⟩
  exact ⟨v,e1,e2,k,ek,h _ _ z⟩
inductive fW (vs:ζ)(H:Hp)(Q:VK)(E_:XK):Prop
|mk (t b:Int)(_:vs=[.int t,.int b])(_:b≠0)(_:gives H Q (low t b))
def Nj:av ["top","bottom","shared"] zar (ae yy):=sq
def Zl (ht:P.given.tree=none)(D:Def K mg "lowest_terms" yy zar)(BL:ac P w K mg base 1 "greatest_shared" zab iT):ac P w K mg base 33 "lowest_terms" zar fW:=by
 refine D.op Nj fun f ck A outer s H vs Q E hr h=>?_;obtain ⟨t,b,rfl,hb,q⟩:=h
 have Zm:∃tt,PSs (jD (aZ P w) P w K mg base ["top","bottom","shared"] "lowest_terms" (ae yy) f ck A outer s H E).xw ((aq yy).drop 2) tt/\∀g:Int,g=sg t b->tt {nx:=fun _ H'=>Q .cT H',rt:=Q} [some (.int t),some (.int b),some (.int g)] H:=by
  refine ⟨_,(ag (aC (aV (aI (ay (g6 ht (Ty.cB.py hr (by decide)) rfl rfl rfl rfl rfl) (pv 0) (pv 2)) (ay (g6 ht (Ty.cB.py hr (by decide)) rfl rfl rfl rfl rfl) (pv 1) (pv 2)))))),?_⟩;rintro g rfl;have c:=qK (t:=t) hb;refine ⟨_,rfl,_,rfl,_,_,rfl,rfl,c,_,rfl,_,rfl,_,_,rfl,rfl,c,z2L,fun p hp=>?_⟩;exact q p _ (aE hp _) ah
 obtain ⟨t2,p2,q2⟩:=Zm;refine ⟨_,(aa (aG 2 Nj.nd (aL BL hr (aI (pv 0) (pv 1)))) (aa (bu (bx oG (pv 1) af) (ag (aG 2 Nj.nd (SY LR (pv 2)))) aQ) p2)),_,rfl,_,rfl,t,b,rfl,_,rfl,_,_,rfl,rfl,_,rfl,?_⟩;refine bB (fun c=>?_) (fun c=>?_)
 ·refine ⟨_,rfl,_,rfl,q2 _ ?_⟩
  have c':b<0:=abS c;unfold sg;rw [abC c']
 ·refine q2 _ ?_
  have c':¬ b<0:=of_decide_eq_false (agA.mpr c);unfold sg;rw [abB c']
inductive Vt (K:Frag)(vs:ζ)(H:Hp)(Q:VK)(E_:XK):Prop
|mk (a:abA)(qs:ο)(T B:Nat)(_:vs=[.ref a])(_:agj K H a qs)(_:(∀q∈qs,Sm T B q))(_:T<=20000)(_:B*qs.length<=100000)(_:B<=8000)(_:qs.length<=1000)(_:∀(p l:abA)(ts:ξ)(b:Int)(H':Hp),ao H H' ->H l=none->H' p=some (.tup [.ref l,.int b])->H' l=some (.lst (ts.map V.int))->0<b->b.natAbs<=2^(B*qs.length)->oN ts qs b->(∀t∈ts,t.natAbs<=2^(T+B*qs.length))->Q (.ref p) H')
def FE:av ["row","bottom","number"] ["row"] (ae JE):=sq
def Zn (D:Def K mg "whole_row" JE ["row"])(BL:ac P w K mg base 1 "greatest_shared" zab iT):ac P w K mg base 2 "whole_row" ["row"] (Vt K):=by
 refine D.oo FE fun H hr h=>?_;obtain ⟨a,qs,T,B,rfl,⟨us,hS,hN⟩,sm,hT,hB,hB1,hl,q⟩:=h
 refine ⟨_,(aa (aG 1 FE.nd af) (aa (bq abI rfl (bo (pv 0)) (bP 2 FE.nd) (ag (aG 1 FE.nd (ay cu (ay xW (pv 1) (aL BL hr (aI (pv 1) (aF (pv 2))))) (aF (pv 2)))))) (ag (aC (aV (aI (eV (tn:=["number"]) (fr:=["bottom"]) (caps:=[1]) (bo (pv 0)) (ay cu (bE (dZ (K:=K) rfl) (pv 0) af) (ay xW (pv 1) (bE (dZ (K:=K) rfl) (pv 0) af)))) (pv 1))))))),?_⟩;dsimp only [cxr,jD,Cx.xw,Cx.tu];refine sq2 ?_;intros
 have hlu:=hN.1
 have qat:∀{i:Nat} {u:V},us[i]?=some u->∃q,qs[i]?=some q/\jw K H u q/\Sm T B q:=fun {i u} e=>by
  have hi:i<us.length:=(Wp.mp e).1;have e2:qs[i]?=some (qs[i]'(by omega)):=gE (by omega);exact ⟨_,e2,hN.2 i u _ e e2,sm _ (aeT _)⟩
 refine ⟨_,rfl,a,rfl,⟨_,hS⟩,let I:zIv:=fun i σ H'=>EZ fun (b:Int) (o:Α)=>σ=[ap a,some (.int b),o]/\H'=H/\0<b/\b.natAbs<=2^(B*i)/\∀j,j<i->∀q,qs[j]?=some q->q.2 ∣ b;bW (K:=K) (a:=a) (xs:=us) I ⟨1,none,rfl,rfl,by decide,by simp,fun j h=>abM h (afe _)⟩ (fun i σ H' _ ⟨b,o,_,e,_⟩=>by rw [e];exact hS) ?_ ?_⟩
 ·rintro i u σ H' hu ⟨b,o,rfl,rfl,hb,hs,hd⟩
  obtain ⟨n,en,⟨p,rfl,hp⟩,sn⟩:=qat hu;have hi:i<qs.length:=(Wp.mp en).1;have nb:n.2.natAbs<=2^B:=sn.bot;obtain ⟨l1,l2,l3,l4⟩:=Mq hb sn.pos;have gp:=vn (t:=b) (b:=n.2) (by have:=sn.pos;omega);have gl:=Yi (t:=b) (b:=n.2) (by have:=sn.pos;omega)
  have sz:(b.fdiv (gz b n.2)*n.2).natAbs<=2^(B*(i+1)):=by
   refine aay l4 ?_;rw [Nat.mul_succ,agN];exact ae6 hs nb
  have bi:B*i<=100000:=aay (Nat.mul_le_mul_left B (by omega)) hB;have g1:gz b n.2 ∣ b:=afw ..;refine ⟨_,rfl,_,rfl,_,rfl,p,_,_,_,rfl,rfl,hp,iu,b,n.2,rfl,_,_,rfl,rfl,⟨by omega,aay (jZ (aay gl nb) (aeP B)) (by omega)⟩,_,rfl,p,_,_,_,rfl,rfl,hp,iu,_,_,rfl,rfl,qm (aay (iP (by omega) g1) hs) nb (by omega) (by omega),_,_,rfl,rfl,l1,sz,fun j hj q' e'=>?_⟩
  rcases ae0.mp hj with z|z
  ·exact Int.dvd_trans (hd j z q' e') l2
  ·subst z
   rw [en] at e';cases e';exact l3
 ·rintro σ H' ⟨b,o,rfl,rfl,hb,hs,hd⟩
  rw [hlu] at hs hd;refine ⟨_,rfl,a,rfl,⟨_,hS⟩,fun D nD=>?_⟩;refine dG (cap:=[some (.int b)]) (K:=K) (a:=a) (xs:=us) (fun i v _=>∃q,qs[i]?=some q/\v=.int (q.1*b.fdiv q.2)) nD (by rw [hlu];exact aaZ hl (by decide)) (fun H2 s2=>s2.seq hS) (fun _ _ _ _ _ _ _ h=>h) ?_ ?_
  ·intro i u H2 R hu s2 k
   obtain ⟨n,en,⟨p,rfl,hp⟩,sn⟩:=qat hu;have YA:=Ty.ao.cQ s2 hp;have dv:=hd i (Wp.mp en).1 n en;have n0:n.2≠0:=by have:=sn.pos;omega
   exact ⟨_,rfl,p,_,_,_,rfl,rfl,YA,iU,_,rfl,_,rfl,p,_,_,_,rfl,rfl,YA,iu,_,_,rfl,rfl,⟨n0,aay (jZ sn.bot (aeP B)) (by omega)⟩,_,_,rfl,rfl,qm sn.top (aay (iP n0 dv) hs) (by omega) (by omega),k _ _ (ao.refl _) ⟨n,en,rfl⟩⟩
  ·intro ys H2 hy iH s2 hD
   have ey:ys=(qs.map fun n=>n.1*b.fdiv n.2).map V.int:=by
    refine aeK fun i=>?_;by_cases hi:i<ys.length
    ·have e1:ys[i]?=some ys[i]:=gE hi
     obtain ⟨n,en,ev⟩:=iH i _ e1;rw [e1,ev,aaa,aaa,en];rfl
    ·rw [aaz (by omega),aaz (by simp;omega)]
   refine ⟨_,rfl,z2L,fun p np=>?_⟩;have s3:=aE np (.tup [.ref D,.int b]);refine q p D (qs.map fun n=>n.1*b.fdiv n.2) b _ (s2.trans s3) nD ah (s3 _ _ (by rw [hD,ey])) hb hs ⟨by simp,fun i t n e1 e2=>?_⟩ (fun t ht=>?_)
   ·rw [aaa,e2] at e1
    have HN :n.1*b.fdiv n.2=t:=aen e1;rw [<-HN];exact HU (sm n (aaq e2)).pos (hd i (Wp.mp e2).1 n e2)
   ·obtain ⟨n,hn,rfl⟩:=aar.mp ht
    obtain ⟨i,hi⟩:=abh hn;have n0:n.2≠0:=by have:=(sm n hn).pos;omega
    exact vC (sm n hn).top (aay (iP n0 (hd i (Wp.mp hi).1 n hi)) hs)
structure Dv (l l':ξ):Prop where
 len:l'.length=l.length
 fac:∃g:Int,g≠0/\∀j,g*l'.getD j 0=l.getD j 0
def Vu (l:ξ):Prop:=Y' l\/∀j,l.getD j 0=0
def yz {l:ξ}(h:∀j,d ∣ l.getD j 0){i:Nat}(e:l[i]?=some x):d ∣ x:=by
 rw [<-getD_mem e];exact h i
inductive nX (vs:ζ)(H:Hp)(Q:VK)(E_:XK):Prop
|mk (v:V)(l:ξ)(_:vs=[v])(_:Ln H v l)(_:l.length<=1000)(_:∀v' l' H',ao H H' ->Ln H' v' l' ->Dv l l' ->Vu l' ->(v'=v\/∃p,v'=.ref p/\H p=none)->Q v' H')
def QP (l:ξ):Dv l l:=⟨rfl,1,by decide,fun j=>Int.one_mul _⟩
def FF:av ["line","shared","whole"] ["line"] (ae JJ):=sq
def Zo (ht:P.given.tree=none)(D:Def K mg "divided" JJ ["line"])(BL:ac P w K mg base 1 "greatest_shared" zab iT):ac P w K mg base 33 "divided" ["line"] nX:=by
 refine D.op FF fun f ck A outer s H vs Q E hr h=>?_;obtain ⟨v,l,rfl,⟨a,rfl,ha⟩,hn,q⟩:=h;have same:Vu l->Q (.ref a) H:=fun pz=>q _ l H (ao.refl H) ⟨a,rfl,ha⟩ (QP l) pz (.inl rfl)
 refine ⟨_,(aa (aG 1 FF.nd af) (aa (bq abI rfl (bo (pv 0)) (bP 2 FF.nd) (aa (aG 1 FF.nd (aL BL hr (aI (pv 2) (pv 1)))) (ag (bu (bx e_ (pv 1) af) (ag (aC (pv 0))) aQ)))) (ag (aC (xE (bx uk (pv 1) af) (eV (tn:=["whole"]) (fr:=["shared"]) (caps:=[1]) (bo (pv 0)) (ay (g6 ht (Ty.cB.py hr (by decide)) rfl rfl rfl rfl rfl) (pv 0) (pv 1))) (pv 0)))))),?_⟩
 refine ⟨_,rfl,a,rfl,⟨_,aT.of ha⟩,let I:zIv:=fun i σ H'=>EZ fun (g:Int) (o:Α)=>σ=[ap a,some (.int g),o]/\H'=H/\0<=g/\(∀j,j<i->∀x,l[j]?=some x->g ∣ x)/\(∀d:Int,(∀j,j<i->∀x,l[j]?=some x->d ∣ x)->d ∣ g)/\(0<i->g≠1);bW (K:=K) (a:=a) (xs:=l.map V.int) I ⟨0,none,rfl,rfl,by decide,(fun j h=>abM h (afe _)),(fun d _=>Int.dvd_zero d),fun h=>abM h (aeY _)⟩ (fun i σ H' _ ⟨g,o,_,e,_⟩=>by rw [e];exact aT.of ha) ?_ ?_⟩
 ·rintro i u σ H' hu ⟨g,o,rfl,rfl,g0,hg,hd,_⟩
  rw [aaa] at hu;obtain ⟨x,ex,rfl⟩:=aaB.mp hu;have d1:gz x g ∣ x:=afw ..;have d2:gz x g ∣ g:=afk ..;have p0:0<=gz x g:=Int.natCast_nonneg _;refine ⟨_,rfl,_,rfl,x,g,rfl,_,rfl,rfl,_,rfl,?_⟩;refine bB (fun z=>⟨_,rfl,same (.inl fun d Lb =>?_)⟩) (fun z=>?_)
  ·have z':gz x g=1:=by simpa using abS z
   have h1:d ∣ gz x g:=aob (yz Lb ex) (hd d fun j _ y ey=>yz Lb ey);rw [z'] at h1;have:=af2.mpr h1;simpa using this
  refine ⟨_,_,rfl,rfl,p0,fun j hj y ey=>?_,fun d h=>?_,fun _ e=>z (by rw [e];rfl)⟩
  ·rcases ae0.mp hj with z|z
   ·exact Int.dvd_trans d2 (hg j z y ey)
   ·subst z
    rw [ex] at ey;cases ey;exact d1
  ·exact aob (h i (aeP _) x ex) (hd d fun j hj y ey=>h j (age hj) y ey)
 ·rintro σ H' ⟨g,o,rfl,rfl,g0,hg,hd,hg1⟩
  rw [ir] at hg hd hg1;refine ⟨_,rfl,_,_,rfl,rfl,_,rfl,bB (fun c=>?_) (fun c=>⟨_,rfl,same (.inr fun j=>?_)⟩)⟩;rotate_left
  ·have c':¬ (1:Int)<g:=fun z=>c (abU z)
   by_cases hj:j<l.length
   ·have gz:g=0:=by
     have:=hg1 (by omega);omega
    have ej:l[j]?=some l[j]:=gE hj;have:=hg j hj _ ej;rw [gz] at this;rw [getD_mem ej];exact Int.zero_dvd.mp this
   ·rw [abi,aaz (by omega)]
    rfl
  have g1:(1:Int)<g:=abS c;have gn:g≠0:=by omega
  refine ⟨_,rfl,a,rfl,⟨_,aT.of ha⟩,fun D nD=>?_⟩;refine dG (cap:=[some (.int g)]) (K:=K) (a:=a) (xs:=l.map V.int) (fun i v _=>∃x,l[i]?=some x/\v=.int (x.fdiv g)) nD (by rw [ir];exact aaZ hn (by decide)) (fun H2 s2=>aT.of (s2 _ _ ha)) (fun _ _ _ _ _ _ _ h=>h) ?_ ?_
  ·intro i u H2 R hu s2 k
   rw [aaa] at hu;obtain ⟨x,ex,rfl⟩:=aaB.mp hu;exact ⟨_,rfl,_,rfl,_,_,rfl,rfl,gn,k _ _ (ao.refl _) ⟨x,ex,rfl⟩⟩
  ·intro ys H2 hy iH s2 hD
   rw [ir] at hy
   have ey:ys=(l.map fun x=>x.fdiv g).map V.int:=by
    refine aeK fun i=>?_;by_cases hi:i<ys.length
    ·have e1:ys[i]?=some ys[i]:=gE hi
     obtain ⟨x,ex,ev⟩:=iH i _ e1;rw [e1,ev,aaa,aaa,ex];rfl
    ·rw [aaz (by omega),aaz (by simp;omega)]
   have fac:∀j,g*(l.map fun x=>x.fdiv g).getD j 0=l.getD j 0:=fun j=>by
    by_cases hj:j<l.length
    ·have ej:l[j]?=some l[j]:=gE hj
     rw [getD_mem (l:=l.map fun x=>x.fdiv g) (x:=l[j].fdiv g) (by rw [aaa,ej];rfl),getD_mem ej];exact (cM gn (hg j hj _ ej)).symm
    ·rw [abi,abi,aaz (by simp;omega),aaz (by omega)]
     simp
   refine q _ (l.map fun x=>x.fdiv g) H2 s2 ⟨D,rfl,by rw [hD,ey]⟩ ⟨by simp,g,gn,fac⟩ (.inl fun d Lb =>?_) (.inr ⟨D,rfl,nD⟩)
   have h1:d*g ∣ g:=hd (d*g) fun j hj x ex=>by
    rw [<-getD_mem ex,<-fac j,afl];exact Int.mul_dvd_mul_left g (Lb j)
   obtain ⟨k,hk⟩:=h1
   have h2:g*(d*k)=g*1:=by
    rw [Int.mul_one];rw [<-agM,afl g d];exact hk.symm
   have h3:=Int.eq_of_mul_eq_mul_left gn h2;have h4:d ∣ 1:=⟨k,h3.symm⟩;simpa using af2.mpr h4
inductive nY (vs:ζ)(H:Hp)(Q:VK)(E_:XK):Prop
|mk (u v:V)(l m:ξ)(c b1 b2:Nat)(_:vs=[u,v,.int (c:Int)])(_:Ln H u l)(_:Ln H v m)(_:m.length=l.length)(_:c<l.length)(_:l.length<=1000)(_:m.getD c 0≠0)(_:Bd b1 l)(_:Bd b2 m)(_:b1<=29000000)(_:b2<=29000000)(_:∀v' l' H',ao H H' ->Ln H' v' l' ->sV l m l' c->Bd (b1+b2+1) l' ->(l'=l\/Vu l')->(v'=u\/∃p,v'=.ref p/\H p=none)->Q v' H')
def QQ (ha:a≠0):a=gz a b*a.fdiv (gz a b)/\b=gz a b*b.fdiv (gz a b)/\gz a b≠0/\a.fdiv (gz a b)≠0/\(a.fdiv (gz a b)).natAbs<=a.natAbs/\(b.fdiv (gz a b)).natAbs<=b.natAbs:=by
 have gn:gz a b≠0:=by
  intro z;have z':((aeS a b:Nat):Int)=0:=z;have:aeS a b=0:=by omega
  exact ha (Int.gcd_eq_zero_iff.mp this).1
 have d1:gz a b ∣ a:=afw ..;have d2:gz a b ∣ b:=afk ..;have e1:=cM gn d1;refine ⟨e1,cM gn d2,gn,fun z=>?_,iP gn d1,iP gn d2⟩;rw [z,agv] at e1;exact ha e1
def QR {l m:ξ}{ys:ζ}(hl:m.length=l.length)(hy:ys.length=l.length)(h:∀(i:Nat)(v:V),ys[i]?=some v->∃x y,l[i]?=some x/\m[i]?=some y/\v=.int (t*x-u*y)):ys=(aeU (fun x y=>t*x-u*y) l m).map V.int:=by
 refine aeK fun i=>?_;by_cases hi:i<ys.length
 ·have e1:ys[i]?=some ys[i]:=gE hi
  obtain ⟨x,y,ex,ey,ev⟩:=h i _ e1;rw [e1,ev,aaa,afj,ex,ey];rfl
 ·rw [aaz (by omega),aaz (by simp;omega)]
def Nk {l m:ξ}(hl:m.length=l.length)(j:Nat):(aeU (fun x y=>t*x-u*y) l m).getD j 0=t*l.getD j 0-u*m.getD j 0:=by
 by_cases hj:j<l.length
 ·have e1:l[j]?=some l[j]:=gE hj
  have e2:m[j]?=some (m[j]'(by omega)):=gE (by omega);rw [getD_mem e1,getD_mem e2];exact getD_mem (by rw [afj,e1,e2])
 ·rw [abi,abi,abi,aaz (by simp;omega),aaz (by omega),aaz (by omega)]
  simp
def FG:av ["line","lead","column","shared","times","less"] zaC (ae JI):=sq
def Zp (ht:P.given.tree=none)(D:Def K mg "cleared" JI zaC)(gC:mg "zip"=none)(BL:ac P w K mg base 1 "greatest_shared" zab iT)(agy:ac P w K mg base 33 "divided" ["line"] nX):ac P w K mg base 34 "cleared" zaC nY:=by
 refine D.oo FG fun H hr h=>?_;obtain ⟨u,v,l,m,c,b1,b2,rfl,⟨a,rfl,ha⟩,⟨a',rfl,ha'⟩,hl,hc,hn,hm,B1,B2,hb1,hb2,q⟩:=h
 refine ⟨_,(aa (bu (bx e_ (bE aR (pv 0) (pv 2)) af) (ag (aC (pv 0))) aQ) (aa (aG 3 FG.nd (aL BL hr (aI (bE aR (pv 1) (pv 2)) (bE aR (pv 0) (pv 2))))) (aa (aG 4 FG.nd (ay (g6 ht (Ty.cB.py hr (by decide)) rfl rfl rfl rfl rfl) (bE aR (pv 1) (pv 2)) (pv 3))) (aa (aG 5 FG.nd (ay (g6 ht (Ty.cB.py hr (by decide)) rfl rfl rfl rfl rfl) (bE aR (pv 0) (pv 2)) (pv 3))) (ag (aC (aL agy hr (aX (Nh (tn:=["whole","other"]) (fr:=["times","less"]) (caps:=[4,5]) (vy rfl gC (aI (pv 0) (pv 1))) (fun _ _ _ _=>(vA (K:=K) (n:=2) rfl rfl (a_ (gG (i:=0) (show (zaO:List Str).Nodup from by decide+kernel) rfl (ahh rfl)) (a_ (gG (i:=1) (show (zaO:List Str).Nodup from by decide+kernel) rfl (ahh rfl)) cX)))) (fun _ _ _ _=>qQ) (ay cG (ay cu (pv 2) (pv 0)) (ay cu (pv 3) (pv 1)))))))))))),?_⟩
 have ea:=uP (l:=l) hc;have em:=uP (l:=m) (j:=c) (by omega);refine ⟨_,rfl,_,rfl,a,_,_,_,rfl,rfl,aT.of ha,ea,rfl,_,rfl,?_⟩;refine bB (fun z=>?_) (fun z=>?_)
 ·have z':l.getD c 0=0:=by simpa using abS z
  exact ⟨_,rfl,q _ l H (ao.refl H) ⟨a,rfl,ha⟩ ⟨rfl,z',1,1,0,by decide,by decide,fun j=>by omega⟩ (B1.up (by omega)) (.inl rfl) (.inl rfl)⟩
 ·obtain ⟨f1,f2,f3,f4,f5,f6⟩:=QQ (a:=m.getD c 0) (b:=l.getD c 0) hm
  refine ⟨_,rfl,_,rfl,a',_,_,_,rfl,rfl,aT.of ha',em,_,rfl,_,rfl,a,_,_,_,rfl,rfl,aT.of ha,ea,_,_,rfl,_,rfl,_,rfl,a',_,_,_,rfl,rfl,aT.of ha',em,_,rfl,_,_,rfl,rfl,f3,_,rfl,_,rfl,a,_,_,_,rfl,rfl,aT.of ha,ea,_,rfl,_,_,rfl,rfl,f3,_,rfl,_,rfl,a,a',rfl,⟨_,aT.of ha⟩,⟨_,aT.of ha'⟩,fun D1 n1=>?_⟩;have st:((m.getD c 0).fdiv (gz (m.getD c 0) (l.getD c 0))).natAbs<=2^b2:=aay f5 (B2 c);have su:((l.getD c 0).fdiv (gz (m.getD c 0) (l.getD c 0))).natAbs<=2^b1:=aay f6 (B1 c);refine xZ (cap:=[some (.int ((m.getD c 0).fdiv (gz (m.getD c 0) (l.getD c 0)))),some (.int ((l.getD c 0).fdiv (gz (m.getD c 0) (l.getD c 0))))]) (K:=K) (xs:=l.map V.int) (ys:=m.map V.int) (fun i v _=>∃x y,l[i]?=some x/\m[i]?=some y/\v=.int ((m.getD c 0).fdiv (gz (m.getD c 0) (l.getD c 0))*x-(l.getD c 0).fdiv (gz (m.getD c 0) (l.getD c 0))*y)) n1 (by rw [ir];exact aaZ hn (by decide)) (by simpa using hl) (fun H2 s2=>aT.of (s2 _ _ ha)) (fun H2 s2=>aT.of (s2 _ _ ha')) (fun _ _ _ _ _ _ _ h=>h) ?_ ?_
  ·intro i x y H2 R ex ey s2 k
   rw [aaa] at ex ey;obtain ⟨x',zX,rfl⟩:=aaB.mp ex;obtain ⟨y',Lj,rfl⟩:=aaB.mp ey;exact ⟨_,rfl,_,rfl,_,_,rfl,rfl,qm st (B1.mem (aaq zX)) (by omega) (by omega),_,rfl,_,rfl,_,_,rfl,rfl,qm su (B2.mem (aaq Lj)) (by omega) (by omega),_,_,rfl,rfl,k _ _ (ao.refl _) ⟨x',y',zX,Lj,rfl⟩⟩
  ·intro ys H2 hy iH s2 hD
   rw [ir] at hy;have ey:=QR hl hy iH;refine ⟨_,_,rfl,⟨D1,rfl,by rw [hD,ey]⟩,by simp;omega,fun v' l' H3 s3 L3 dv pz fr=>?_⟩;obtain ⟨g,gn,hg⟩:=dv.fac;have OW:∀j,g*l'.getD j 0=(m.getD c 0).fdiv (gz (m.getD c 0) (l.getD c 0))*l.getD j 0-(l.getD c 0).fdiv (gz (m.getD c 0) (l.getD c 0))*m.getD j 0:=fun j=>by rw [hg j,Nk hl]
   refine q v' l' H3 (s2.trans s3) L3 ⟨by rw [dv.len];simp [hl],?_,g,_,_,gn,f4,OW⟩ (fun j=>?_) (.inr pz) ?_
   ·have e:=OW c
    have z2:(m.getD c 0).fdiv (gz (m.getD c 0) (l.getD c 0))*l.getD c 0-(l.getD c 0).fdiv (gz (m.getD c 0) (l.getD c 0))*m.getD c 0=0:=by
     generalize gz (m.getD c 0) (l.getD c 0)=G at*;generalize (m.getD c 0).fdiv G=t at*;generalize (l.getD c 0).fdiv G=u at*;rw [f1,f2];grind
    rw [z2] at e
    rcases ahL.mp e with y|y
    ·exact abM y gn
    ·exact y
   ·have b:(g*l'.getD j 0).natAbs<=2^(b1+b2+1):=by
     rw [OW j,Int.sub_eq_add_neg];refine U_ (qT (vC st (B1 j)) (by omega)) ?_;rw [ahT];exact vC su (B2 j)
    exact aay (eK gn) b
   ·rcases fr with z|⟨p,e,n⟩
    ·exact .inr ⟨D1,z,n1⟩
    ·exact .inr ⟨p,e,s2.free n⟩
inductive vM (K:Frag)(vs:ζ)(H:Hp)(Q:VK)(E_:XK):Prop
|mk (a:abA)(us:ζ)(ls:List (List Int:_))(c:Nat)(_:vs=[.ref a,.int (c:Int)])(_:aT K H a us)(_:sX H us ls)(_:(∀l∈ls,c<l.length))(_:(∀(i:Nat)(l:ξ)(H':Hp),ao H H' ->ls[i]?=some l->l.getD c 0≠0->Q (.int (i:Int)) H'))(_:((∀l∈ls,l.getD c 0=0)->∀H',ao H H' ->Q .cT H'))
def sX.at (h:sX H us ls){i:Nat}(e:us[i]?=some u):∃l,ls[i]?=some l/\Ln H u l:=by
 have hi:i<us.length:=(Wp.mp e).1;have hl:=h.1;have e2:ls[i]?=some (ls[i]'(by omega)):=gE (by omega);exact ⟨_,e2,h.2 i u _ e e2⟩
def sX.at' (h:sX H us ls){i:Nat}{l:ξ}(e:ls[i]?=some l):∃u,us[i]?=some u/\Ln H u l:=by
 have hi:i<ls.length:=(Wp.mp e).1;have hl:=h.1;have e2:us[i]?=some (us[i]'(by omega)):=gE (by omega);exact ⟨_,e2,h.2 i _ l e2 e⟩
def Nl:av ["lines","column","at","line"] zaL (ae JH):=sq
def Zq (D:Def K mg "first_not_nought" JH zaL)(fu:mg "enumerate"=none):ac P w K mg base 1 "first_not_nought" zaL (vM K):=by
 refine D.oo Nl fun H hr h=>?_;obtain ⟨a,us,ls,c,rfl,hS,L,hc,q1,q2⟩:=h;have lu:=L.1
 refine ⟨_,(aa (bq abI rfl (EJ rfl fu (aX (pv 0))) (fE rfl (a_ (bP 2 Nl.nd) (a_ (bP 3 Nl.nd) cX))) (ag (bu (bx lZ (bE aR (pv 3) (pv 1)) af) (ag (aC (pv 2))) aQ))) (ag (aC qD))),?_⟩
 refine ⟨_,rfl,a,rfl,⟨_,hS⟩,let I:zIv:=fun i σ H'=>∃o1 o2:Option V,σ=[ap a,some (.int (c:Int)),o1,o2]/\ao H H'/\∀j,j<i->∀l,ls[j]?=some l->l.getD c 0=0;yd (K:=K) (a:=a) (xs:=us) I ⟨none,none,rfl,ao.refl H,fun j h=>abM h (afe _)⟩ (fun i σ H' _ ⟨o1,o2,_,s1,_⟩=>s1.seq hS) ?_ ?_⟩
 ·rintro i u σ H' p hu ⟨o1,o2,rfl,s1,z⟩ np
  obtain ⟨l,el,b,rfl,hb⟩:=L.at hu;have s2:=s1.trans (aE np (.tup [.int (i:Int),.ref b]));have hcl:=hc l (aaq el);refine ⟨p,_,rfl,bQ.of ah,rfl,_,_,rfl,_,_,rfl,rfl,_,rfl,_,rfl,b,_,_,_,rfl,rfl,aT.of (s2 _ _ hb),uP hcl,rfl,_,rfl,?_⟩;refine bB (fun y=>?_) (fun y=>?_)
  ·have y':l.getD c 0≠0:=by simpa using y
   exact ⟨_,rfl,q1 i l _ s2 el y'⟩
  ·have y':l.getD c 0=0:=by simpa using y
   refine ⟨_,_,rfl,s2,fun j hj l' e'=>?_⟩
   rcases ae0.mp hj with w|w
   ·exact z j w l' e'
   ·subst w
    rw [el] at e';cases e';exact y'
 ·rintro σ H' ⟨o1,o2,rfl,s1,z⟩
  refine q2 (fun l hl=>?_) H' s1;obtain ⟨j,hj⟩:=abh hl;exact z j (by have:=(Wp.mp hj).1;omega) l hj
structure Red (os:η)(L c b:Nat)(nd:π)(lv:η):Prop where
 tJ:∀x∈nd,x.2.length=L
 k_:∀l∈lv,l.length=L
 cols:∀x∈nd,x.1<c
 asc:(nd.map (·.1)).Pairwise (· < ·)
 here:∀x∈nd,x.2.getD x.1 0≠0
 off:∀x∈nd,∀y∈nd,x.1≠y.1->x.2.getD y.1 0=0
 low:∀x∈nd,∀j,j<x.1->x.2.getD j 0=0
 zero:∀l∈lv,∀j,j<c->l.getD j 0=0
 yA:∀x∈nd,nN os x.2
 mE:∀l∈lv,nN os l
 sol:∀z,((∀x∈nd,ev x.2 z=0)/\(∀l∈lv,ev l z=0)) ↔ ∀o∈os,ev o z=0
 OZ:∀x∈nd,Bd b x.2
 Nn:∀l∈lv,Bd b l
 cnt:nd.length+lv.length=os.length
def Red.start {os:η}(hL:∀o∈os,o.length=L)(hb:∀o∈os,Bd b o):Red os L 0 b [] os where
 tJ:=by simp
 k_:=hL
 cols:=by simp
 asc:=by simp
 here:=by simp
 off:=by simp
 low:=by simp
 zero:=fun _ _ j h=>abM h (afe _)
 yA:=by simp
 mE:=fun l h=>yc h
 sol:=fun z=>by simp
 OZ:=by simp
 Nn:=hb
 cnt:=by simp
def Red.skip {os:η}(h:Red os L c b nd lv)(hz:∀l∈lv,l.getD c 0=0):Red os L (c+1) b nd lv where
 tJ:=h.tJ
 k_:=h.k_
 cols:=fun x hx=>age (h.cols x hx)
 asc:=h.asc
 here:=h.here
 off:=h.off
 low:=h.low
 zero:=fun l hl j hj=>by
  rcases ae0.mp hj with z|z
  ·exact h.zero l hl j z
  ·subst z
   exact hz l hl
 yA:=h.yA
 mE:=h.mE
 sol:=h.sol
 OZ:=h.OZ
 Nn:=h.Nn
 cnt:=h.cnt
structure Made (os:η)(lead:ξ)(c b:Nat)(xs ys:η):Prop where
 len:ys.length=xs.length
 to:∀(i:Nat)(x:ξ),xs[i]?=some x->∃y,ys[i]?=some y/\sV x lead y c/\Bd b y
def Made.ex {os:η}(h:Made os lead c b xs ys){y:ξ}(hy:y∈ys):∃x∈xs,sV x lead y c/\Bd b y:=by
 obtain ⟨i,hi⟩:=abh hy;have hl:=h.len;have jB:i<ys.length:=(Wp.mp hi).1;have e:xs[i]?=some (xs[i]'(by omega)):=gE (by omega);obtain ⟨y',e',r⟩:=h.to i _ e;rw [hi] at e';cases e';exact ⟨_,aaq e,r⟩
def Made.all {os:η}(h:Made os lead c b xs ys){x:ξ}(hx:x∈xs):∃y∈ys,sV x lead y c/\Bd b y:=by
 obtain ⟨i,hi⟩:=abh hx;obtain ⟨y,e,r⟩:=h.to i x hi;exact ⟨y,aaq e,r⟩
def Red.step {os:η}{lv BH rest:η}{lead:ξ}(h:Red os L c b nd lv)(g_:lead∈lv)(rg:∀l∈rest,l∈lv)(Mb:∀l∈lv,l=lead\/l∈rest)(hlen:rest.length+1=lv.length)
  (hc:lead.getD c 0≠0) (ML:Made os lead c (2*b+1) rest BH) (hk:kz.map (·.1)=nd.map (·.1)) (MN:Made os lead c (2*b+1) (nd.map (·.2)) (kz.map (·.2))):Red os L (c+1) (2*b+1) (kz ++[(c,lead)]) BH :=by
 have ll:=h.k_ lead g_;have lz:=h.zero lead g_;have hl':kz.length=nd.length:=by simpa using abR afb hk
 have pairs:∀x' ∈kz,∃x∈nd,x.1=x'.1/\sV x.2 lead x'.2 c/\Bd (2*b+1) x'.2:=by
  intro x' OT;obtain ⟨i,hi⟩:=abh OT;have jB:i<kz.length:=(Wp.mp hi).1;have e:nd[i]?=some (nd[i]'(by omega)):=gE (by omega);have e1:(kz.map (·.1))[i]?=(nd.map (·.1))[i]? :=by rw [hk]
  rw [aaa,aaa,hi,e] at e1;obtain ⟨y,e2,r⟩:=MN.to i (nd[i]'(by omega)).2 (by rw [aaa,e];rfl);rw [aaa,hi] at e2;simp at e1 e2;subst e2;exact ⟨_,aaq e,e1.symm,r⟩
 have back:∀x∈nd,∃x' ∈kz,x'.1=x.1/\sV x.2 lead x'.2 c:=by
  intro x hx;obtain ⟨i,hi⟩:=abh hx;have jB:i<nd.length:=(Wp.mp hi).1;have e:kz[i]?=some (kz[i]'(by omega)):=gE (by omega);have e1:(kz.map (·.1))[i]?=(nd.map (·.1))[i]? :=by rw [hk]
  rw [aaa,aaa,hi,e] at e1;obtain ⟨y,e2,r⟩:=MN.to i x.2 (by rw [aaa,hi];rfl);rw [aaa,e] at e2;simp at e1 e2;exact ⟨_,aaq e,e1,by rw [e2];exact r.1⟩
 have QS:∀x∈kz ++[(c,lead)],x∈kz \/x=(c,lead):=fun x hx=>by simpa using hx
 exact {
  tJ:=fun x hx=>by
   rcases QS x hx with z|z
   ·obtain ⟨y,hy,_,k,_⟩:=pairs x z
    rw [k.len];exact h.tJ y hy
   ·subst z
    exact ll
  k_:=fun l hl=>by
   obtain ⟨x,hx,k,_⟩:=ML.ex hl;rw [k.len];exact h.k_ x (rg x hx)
  cols:=fun x hx=>by
   rcases QS x hx with z|z
   ·obtain ⟨y,hy,e,_⟩:=pairs x z
    rw [<-e];exact age (h.cols y hy)
   ·subst z
    exact aeP _
  asc:=by
   rw [abq,hk,List.pairwise_append];refine ⟨h.asc,by simp,fun a ha b' ff =>?_⟩;obtain ⟨x,hx,rfl⟩:=aar.mp ha;have:b'=c:=by simpa using ff
   subst this;exact h.cols x hx
  here:=fun x hx=>by
   rcases QS x hx with z|z
   ·obtain ⟨y,hy,e,k,_⟩:=pairs x z
    rw [<-e];exact k.at (lz _ (h.cols y hy)) (h.here y hy)
   ·subst z
    exact hc
  off:=fun x hx y hy ne=>by
   rcases QS x hx with z|z<;>rcases QS y hy with u|u
   ·obtain ⟨x0,hx0,e0,k0,_⟩:=pairs x z
    obtain ⟨y0,Ku,e1,_⟩:=pairs y u;rw [<-e1];exact k0.zero (h.off x0 hx0 y0 Ku (by rw [e0,e1];exact ne)) (lz _ (h.cols y0 Ku))
   ·subst u
    obtain ⟨x0,hx0,e0,k0,_⟩:=pairs x z;exact k0.MD
   ·subst z
    obtain ⟨y0,Ku,e1,_⟩:=pairs y u;rw [<-e1];exact lz _ (h.cols y0 Ku)
   ·subst z
    subst u;exact abM rfl ne
  low:=fun x hx j hj=>by
   rcases QS x hx with z|z
   ·obtain ⟨y,hy,e,k,_⟩:=pairs x z
    rw [<-e] at hj;exact k.zero (h.low y hy j hj) (lz j (ahy hj (h.cols y hy)))
   ·subst z
    exact lz j hj
  zero:=fun l hl j hj=>by
   obtain ⟨x,hx,k,_⟩:=ML.ex hl
   rcases ae0.mp hj with z|z
   ·exact k.zero (h.zero x (rg x hx) j z) (lz j z)
   ·subst z
    exact k.MD
  yA:=fun x hx=>by
   rcases QS x hx with z|z
   ·obtain ⟨y,hy,_,k,_⟩:=pairs x z
    exact k.comb (h.yA y hy) (h.mE lead g_)
   ·subst z
    exact h.mE lead g_
  mE:=fun l hl=>by
   obtain ⟨x,hx,k,_⟩:=ML.ex hl;exact k.comb (h.mE x (rg x hx)) (h.mE lead g_)
  sol:=fun z=>by
   rw [<-h.sol z];constructor
   ·rintro ⟨a1,a2⟩
    have az:ev lead z=0:=a1 (c,lead) (by simp);refine ⟨fun x hx=>?_,fun l hl=>?_⟩
    ·obtain ⟨x',OT,_,k⟩:=back x hx
     exact (k.ev (by rw [ll,h.tJ x hx]) az).mp (a1 x' (by simp [OT]))
    ·rcases Mb l hl with u|u
     ·rw [u]
      exact az
     ·obtain ⟨y,hy,k,_⟩:=ML.all u
      exact (k.ev (by rw [ll,h.k_ l hl]) az).mp (a2 y hy)
   ·rintro ⟨a1,a2⟩
    have az:=a2 lead g_;refine ⟨fun x hx=>?_,fun l hl=>?_⟩
    ·rcases QS x hx with u|u
     ·obtain ⟨y,hy,_,k,_⟩:=pairs x u
      exact (k.ev (by rw [ll,h.tJ y hy]) az).mpr (a1 y hy)
     ·subst u
      exact az
    ·obtain ⟨x,hx,k,_⟩:=ML.ex hl
     exact (k.ev (by rw [ll,h.k_ x (rg x hx)]) az).mpr (a2 x (rg x hx))
  OZ:=fun x hx=>by
   rcases QS x hx with z|z
   ·obtain ⟨y,hy,_,_,k⟩:=pairs x z
    exact k
   ·subst z
    exact (h.Nn lead g_).up (by omega)
  Nn:=fun l hl=>by
   obtain ⟨x,hx,_,k⟩:=ML.ex hl;exact k
  cnt:=by
   have a:=ML.len;have b:=h.cnt;rw [aba,hl'];simp
   omega}
def uR (H:Hp)(kvs:γ)(nd:π):Prop:=kvs.length=nd.length/\∀(i:Nat)(kv:Key×V)(x:Nat×List Int),kvs[i]?=some kv->nd[i]?=some x->kv.1=.inl (x.1:Int)/\Ln H kv.2 x.2
def uR.same (h:uR H kvs nd)(s:ao H H'):uR H' kvs nd:=⟨h.1,fun i kv x e1 e2=>⟨(h.2 i kv x e1 e2).1,(h.2 i kv x e1 e2).2.same s⟩⟩
def Ln.put (h:Ln H v l)(e:H d=some (.dK kvs)):Ln (upd H d o) v l:=by
 obtain ⟨p,e1,k⟩:=h;exact ⟨p,e1,by rw [aj (fun z=>by rw [z,e] at k;cases k)];exact k⟩
def sX.put (h:sX H us ls)(e:H d=some (.dK kvs)):sX (upd H d o) us ls:=⟨h.1,fun i u l e1 e2=>(h.2 i u l e1 e2).put e⟩
def uR.put (h:uR H kvs nd)(e:H d=some (.dK kv2)):uR (upd H d o) kvs nd:=⟨h.1,fun i kv x e1 e2=>⟨(h.2 i kv x e1 e2).1,(h.2 i kv x e1 e2).2.put e⟩⟩
def mF (s:ao H H')(n:H d=none):ao H (upd H' d o):=fun b o' e=>by
 rw [aj (fun z=>by rw [z,n] at e;cases e)];exact s _ _ e
def uR.at (h:uR H kvs nd){i:Nat}(e:nd[i]?=some x):∃v,kvs[i]?=some (.inl (x.1:Int),v)/\Ln H v x.2:=by
 have hi:i<nd.length:=(Wp.mp e).1;have hl:=h.1;have e2:kvs[i]?=some (kvs[i]'(by omega)):=gE (by omega);obtain ⟨a,b⟩:=h.2 i _ x e2 e;exact ⟨(kvs[i]'(by omega)).2,by rw [e2,<-a],b⟩
def uR.keys (h:uR H kvs nd):kvs.map (·.1)=nd.map (fun x=>(ag_ (x.1:Int):Key)):=by
 refine aeK fun i=>?_;have hl:=h.1;rw [aaa,aaa];by_cases hi:i<nd.length
 ·have e:nd[i]?=some nd[i]:=gE hi
  obtain ⟨v,e2,_⟩:=h.at e;rw [e,e2];rfl
 ·rw [aaz (by omega),aaz (by omega)]
  rfl
theorem mG :∀{kvs:γ} {i:Nat},(kvs.map (·.1)).Nodup->kvs[i]?=some (k,v)->bJ kvs k=some v
 | [],_,_,e=>by simp at e
 | p::r,0,_,e=>by
  cases e;exact bX (p:=(k,v)) rfl
 | p::r,i+1,n,e=>by
  rw [aaw,aeC] at n;have e':r[i]?=some (k,v):=by simpa using e
  have ne:¬ p.1=k:=fun z=>n.1 (by rw [z];exact aar.mpr ⟨(k,v),aaq e',rfl⟩);rw [bI ne];exact mG n.2 e'
theorem FH :∀{kvs:γ},k∉kvs.map (·.1)->bJ kvs k=none
 | [],_=>rfl
 | p::r,h=>by
  have h':k≠p.1/\k∉r.map (·.1):=by simpa using h
  rw [bI (fun z=>h'.1 z.symm)];exact FH h'.2
theorem map_put :∀{kvs:γ} {i:Nat},(kvs.map (·.1)).Nodup->kvs[i]?=some (k,v)->kvs.map (fun kv=>if kv.1=k then (kv.1,v') else kv)=kvs.set i (k,v')
 | [],_,_,e=>by simp at e
 | p::r,0,n,e=>by
  rw [aaw,aeC] at n;cases e
  have hr:r.map (fun kv=>if kv.1=k then (kv.1,v') else kv)=r:=by
   refine (abk (fun q hq=>?_)).trans (List.map_id r);have ne:¬ q.1=k:=fun z=>n.1 (by show k∈_;rw [<-z];exact aar.mpr ⟨q,hq,rfl⟩);rw [abB ne];rfl
  rw [aaw,hr,abC rfl,List.set_cons_zero]
 | p::r,i+1,n,e=>by
  rw [aaw,aeC] at n;have e':r[i]?=some (k,v):=by simpa using e
  have ne:¬ p.1=k:=fun z=>n.1 (by rw [z];exact aar.mpr ⟨(k,v),aaq e',rfl⟩);rw [aaw,abB ne,map_put n.2 e',List.set_cons_succ]
def QT {kvs:γ}(n:(kvs.map (·.1)).Nodup)(e:kvs[i]?=some (k,v)):putK kvs k v'=kvs.set i (k,v'):=by
 unfold putK;rw [iQ,mG n e];exact map_put n e
def uR.set (h:uR H kvs nd){i c:Nat}(hv:Ln H v l):uR H (kvs.set i (.inl (c:Int),v)) (nd.set i (c,l)):=by
 have hl:=h.1;refine ⟨by simp [hl],fun j kv x e1 e2=>?_⟩;rw [aeX] at e1 e2;by_cases z:i=j
 ·subst z
  rw [abC rfl] at e1 e2;by_cases hi:i<kvs.length
  ·rw [abC hi] at e1
   rw [abC (by omega)] at e2;cases e1;cases e2;exact ⟨rfl,hv⟩
  ·rw [abB hi] at e1
   cases e1
 ·rw [abB z] at e1 e2
  exact h.2 j kv x e1 e2
def uR.snoc (h:uR H kvs nd){c:Nat}(hv:Ln H v l):uR H (kvs++[(.inl (c:Int),v)]) (nd++[(c,l)]):=by
 have hl:=h.1;refine ⟨by simp [hl],fun j kv x e1 e2=>?_⟩;by_cases z:j<kvs.length
 ·rw [aby z] at e1
  rw [aby (by omega)] at e2;exact h.2 j kv x e1 e2
 ·rw [abx (by omega)] at e1 e2
  rw [<-hl] at e2;by_cases y:j-kvs.length=0
  ·rw [y] at e1 e2
   cases e1;cases e2;exact ⟨rfl,hv⟩
  ·rw [aaz (by simp;omega)] at e1
   cases e1
theorem keys_nodup:∀{nd:π},(nd.map (·.1)).Pairwise (· < ·)->(nd.map (fun x=>(ag_ (x.1:Int):Key))).Nodup
 | [],_=>by simp
 | x::r,h=>by
  rw [aaw,List.pairwise_cons] at h;rw [aaw,aeC];refine ⟨fun z=>?_,keys_nodup h.2⟩;obtain ⟨y,hy,e⟩:=aar.mp z;have e':(y.1:Int)=x.1:=an0 e;have:=h.1 y.1 (aar.mpr ⟨y,hy,rfl⟩);omega
def bb (b k:Nat):Nat:=(k+1)*(b+11)
def vN (b:Nat)(h:k<=m):bb b k<=bb b m:=aer _ (by omega)
def vO (b k:Nat):b<=bb b k:=by
 unfold bb;rw [ae',ahX];omega
def Red.piv {os:η}(R:Red os L c b nd lv):Lh nd:=⟨R.asc.imp fun h e=>by omega,R.here,R.off⟩
def Pr (os:η)(l:ξ):Prop:=l∈os\/Vu l
def Red.small {os:η}(R:Red os L c b nd lv)(O:Li os nd lv ps qs)(hb:∀o∈os,Bd b0 o)(hk:nd.length<=k)(Xf:k<=1000)(pN:∀x∈nd,Pr os x.2)(pL:∀l∈lv,Pr os l):Red os L c (bb b0 k) nd lv:=by
 have le:∀{n:Nat},n<=(nd.length+1)*((2*(nd.length+1)*2^b0)^nd.length*2^b0)->n<=2^bb b0 k:=fun {n} h=>aay h (aay (Vn (by omega)) (aet (by decide) (aer _ (by omega))));have z:∀{n:Nat},n=0->n<=2^bb b0 k:=fun {n} h=>by rw [h];exact aeF _
 refine {R with OZ:=fun x hx j=>?_,Nn:=fun l hl j=>?_}
 ·rcases pN x hx with h|h|h
  ·exact aay (hb _ h j) (aet (by decide) (vO _ _))
  ·exact le (O.need R.piv hx hb h j)
  ·exact z (by rw [h j];rfl)
 ·rcases pL l hl with h|h|h
  ·exact aay (hb _ h j) (aet (by decide) (vO _ _))
  ·obtain ⟨i,ei⟩:=abh hl
   exact le (O.left R.piv ei (fun x hx=>R.zero l hl x.1 (R.cols x hx)) hb h j)
  ·exact z (by rw [h j];rfl)
def mH {i:Nat}(h:i<=xs.length):iD xs none (some (i:Int))=xs.take i:=by
 unfold iD;rw [HT.qd,HT.xP,agT h];rfl
def gT {i:Nat}(h:i<=xs.length):iD xs (some (i:Int)) none=xs.drop i:=by
 unfold iD;rw [HT.qd,HT.xP,agT h];exact aeE (by simp)
def Red.up {os:η}(h:Red os L c b nd lv)(hb:b<=b'):Red os L c b' nd lv:={h with OZ:=fun x hx=>(h.OZ x hx).up hb,Nn:=fun x hx=>(h.Nn x hx).up hb}
def sX.erase (h:sX H us ls)(j:Nat):sX H (us.eraseIdx j) (ls.eraseIdx j):=by
 have hl:=h.1;refine ⟨by rw [afn,afn,hl],fun i u l e1 e2=>?_⟩;rw [afL] at e1 e2;by_cases z:i<j
 ·rw [abC z] at e1 e2
  exact h.2 _ _ _ e1 e2
 ·rw [abB z] at e1 e2
  exact h.2 _ _ _ e1 e2
theorem nZ {α β:Type}{P:Nat->α->β->Prop}:∀(xs:List α),(∀i x,xs[i]?=some x->∃y,P i x y)->∃ys:List β,ys.length=xs.length/\∀i x y,xs[i]?=some x->ys[i]?=some y->P i x y
 | [],_=>⟨[],rfl,fun i x y e=>by simp at e⟩
 | x::xs,h=>by
  obtain ⟨y,hy⟩:=h 0 x rfl;obtain ⟨ys,hl,hp⟩:=nZ (P:=fun i=>P (i+1)) xs (fun i x e=>h (i+1) x (by simpa using e));refine ⟨y::ys,by simp [hl],fun i x' y' e1 e2=>?_⟩;cases i with
  | zero=>
   cases e1;cases e2;exact hy
  | succ i=>exact hp i x' y' (by simpa using e1) (by simpa using e2)
inductive n_ (K:Frag)(vs:ζ)(H:Hp)(Q:VK)(E_:XK):Prop
|mk (a:abA)(us:ζ)(os:List (List Int:_))(L m b:Nat)(_:vs=[.ref a,.int (m:Int)])(_:aT K H a us)(_:sX H us os)(_:(∀o∈os,o.length=L))(_:m<=L)(_:L<=1000)(_:os.length<=1000)(_:(∀o∈os,Bd b o))(_:bb b (min m os.length)<=29000000)(_:∀(p d a':abA)(kvs:γ)(mI :ζ)(nd:π)(lv:η)(H':Hp),ao H H' ->H d=none->H p=none->H' p=some (.tup [.ref d,.ref a'])->H' d=some (.dK kvs)->aT K H' a' mI ->uR H' kvs nd->sX H' mI lv->Red os L m (bb b (min m os.length)) nd lv->Q (.ref p) H')
def oT:av ["lines","many","needed","left","column","at","lead","place"] zas (ae JG):=sq
def Zr (D:Def K mg "reduced" JG zas)(bf:mg "range"=none)(cf:mg "list"=none)(agB:ac P w K mg base 1 "first_not_nought" zaL (vM K))(Zs:ac P w K mg base 34 "cleared" zaC nY):ac P w K mg base 35 "reduced" zas (n_ K):=by
 refine D.oo oT fun H hr h=>?_;obtain ⟨a,us,os,L,m,b,rfl,hS,hL,hlen,hm,Vv,ho,hB,hb,q⟩:=h
 refine ⟨_,(aa (aG 2 oT.nd dc) (aa (aG 3 oT.nd (pv 0)) (aa (bq abI rfl (bY rfl bf (aX (pv 1))) (bP 4 oT.nd) (aa (aG 5 oT.nd (aL agB hr (aI (pv 3) (pv 4)))) (aa (bu (bx LU (pv 5) qD) (ag xF) aQ) (aa (aG 6 oT.nd (bE aR (pv 3) (pv 5))) (aa (rn (i:=3) (tn:=["line"]) (fr:=["lead","column"]) (caps:=[6,4]) oT.nd (bo (ay jF (cL dY (pv 3) dX (dw (pv 5))) (cL dY (pv 3) (dw (ay bC (pv 5) af)) dX))) (yx Zs hr (bD (pv 0) (pv 1) (pv 2)))) (aa (bq abI rfl (bo (bO (fQ rfl) rfl cf iE (aX (pv 2)))) (bP 7 oT.nd) (ag (cx (bH hr) (pv 2) (pv 7) (aL Zs hr (bD (cY (bH hr) (pv 2) (pv 7) (fun _ _=>rfl)) (pv 6) (pv 4))) rfl))) (ag (cx (bH hr) (pv 2) (pv 4) (pv 6) rfl)))))))) (ag (aC (aV (aI (pv 2) (pv 3)))))))),?_⟩;dsimp only [cxr,jD,Cx.xw,Cx.tu];refine sq3 ?_;intros
 refine fun d Xg=>?_;have s0:ao H (upd H d (.dK [])):=aE Xg _;refine ⟨_,rfl,_,rfl,_,rfl,by omega,by omega,?_⟩
 refine let I:zIv:=fun i σ H'=>Ex9 fun (al:abA) (rq:ζ) (kvs:γ) (nd:π) (lv:η) (o4 o5 o6 o7:Α)=>σ=[ap a,some (.int (m:Int)),ap d,ap al,o4,o5,o6,o7]/\ao H H'/\H' d=some (.dK kvs)/\aT K H' al rq/\sX H' rq lv/\uR H' kvs nd/\nd.length<=i/\Red os L i (bb b (min m os.length)) nd lv/\(∃ps qs,Li os nd lv ps qs)/\(∀x∈nd,Pr os x.2)/\∀l∈lv,Pr os l;cA (lo:=0) (n:=m) I
  ⟨a,us,[],[],os,none,none,none,none,rfl,s0,ah,s0.seq hS,hL.same s0,⟨rfl,by simp⟩,aaA _,(Red.start hlen hB).up (vO _ _),⟨[],os,Li.start os⟩,(by simp),fun l hl=>.inl hl⟩ ?_ ?_
 ·rintro i σ H1 hi ⟨al,rq,kvs,nd,lv,o4,o5,o6,o7,rfl,s1,hd,Tq,Kv,hN,hni,R,⟨ps,qs,O⟩,pN,pL⟩
  refine ⟨_,rfl,_,rfl,al,rq,lv,i,by rw [aeO];rfl,Tq,Kv,fun l hl=>by rw [R.k_ l hl];omega,fun j lead H2 s2 ej hj=>?_,fun hz H2 s2=>?_⟩
  ·have hjl:j<lv.length:=(Wp.mp ej).1
   have hul:=Kv.1;have cnt:=R.cnt;have hbk:=hb;have hd2:=s2 _ _ hd;have Y9:=s2.seq Tq;have Tr:=Kv.same s2;have Zi:=hN.same s2;obtain ⟨u,eu,hu⟩:=Tr.at' ej;have g_:lead∈lv:=aaq ej;refine ⟨_,rfl,rfl,_,rfl,bB (fun z=>by simp at z) (fun _=>?_)⟩;refine ⟨_,rfl,_,rfl,al,_,_,_,rfl,rfl,Y9,bG eu,_,rfl,_,rfl,_,rfl,al,rq,rfl,Y9,fun p1 n1=>?_⟩;have t1:=aE n1 (.lst (iD rq none (some (j:Int))));refine ⟨_,rfl,_,rfl,_,_,rfl,rfl,_,rfl,al,rq,rfl,t1.seq Y9,fun p2 n2=>?_⟩;have t2:=aE n2 (.lst (iD rq (some ((j:Int)+1)) none))
   have Zt:iD rq none (some (j:Int))++iD rq (some ((j:Int)+1)) none=rq.eraseIdx j:=by
    rw [mH (by omega),show ((j:Int)+1)=((j+1:Nat):Int) from by omega,gT (by omega),List.eraseIdx_eq_take_drop_succ]
   have agC:(iD rq none (some (j:Int))).length+(iD rq (some ((j:Int)+1)) none).length<=abE:=by
    rw [<-aba,Zt];exact aay (aay (ahq ..) (show rq.length<=1000 by omega)) (by decide)
   refine ⟨p1,p2,_,_,rfl,rfl,t2 _ _ ah,ah,agC,fun p3 n3=>?_⟩;have t3:=aE n3 (.lst (iD rq none (some (j:Int))++iD rq (some ((j:Int)+1)) none));refine ⟨p3,rfl,⟨_,aT.of ah⟩,fun D nD=>?_⟩;have tt:=(t1.trans t2).trans t3;have hE:=(Tr.same tt).erase j;have hu3:=hu.same tt;have er:(rq.eraseIdx j).length<=1000:=aay (ahq ..) (show rq.length<=1000 by omega);refine qU (cap:=[some u,some (.int ((0:Int)+i))]) (K:=K) (a:=p3) (xs:=rq.eraseIdx j) (fun k v H=>∃x y p,(lv.eraseIdx j)[k]?=some x/\v=.ref p/\p≠D/\H p=some (.lst (y.map V.int))/\sV x lead y i/\Bd (2*bb b (min m os.length)+1) y/\(y=x\/Vu y)) nD (aaZ er (by decide)) (fun H3 s3=>aT.of (s3 _ _ (by rw [ah,Zt]))) ?_ ?_ ?_
   ·rintro k v H3 H4 ys hD3 ks ⟨x,y,p,e1,e2,e3,e4,e5⟩
    exact ⟨x,y,p,e1,e2,e3,ks _ _ e3 e4,e5⟩
   ·rintro k x H3 RR ex s3 ⟨ys0,agD⟩ kk
    obtain ⟨l,el,hl⟩:=hE.at ex;have HZ:l∈lv:=afp (aaq el);have hll:=R.k_ l HZ;have hld:=R.k_ lead g_;refine ⟨_,rfl,_,rfl,_,rfl,x,u,l,lead,i,bb b (min m os.length),bb b (min m os.length),by rw [aeO];rfl,hl.same s3,hu3.same s3,by rw [hll,hld],by omega,by omega,hj,R.Nn l HZ,R.Nn lead g_,hbk,hbk,fun v' l' H4 s4 L4 cl bd pz fr=>?_⟩;obtain ⟨p,e1,e2⟩:=L4;refine kk v' H4 s4 ⟨l,l',p,el,e1,?_,e2,cl,by rw [Nat.two_mul];exact bd,pz⟩
    rcases fr with z|⟨p',z,n⟩
    ·obtain ⟨px',z1,z2⟩:=hl
     rw [z1,e1] at z;cases z;exact ak z2 nD
    ·rw [e1] at z
     cases z;exact fun y=>by rw [y,agD] at n;cases n
   ·intro ys H3 hy iH s3 hD
    obtain ⟨BH,hl',hp⟩:=nZ (P:=fun k v y=>∃x p,(lv.eraseIdx j)[k]?=some x/\v=.ref p/\p≠D/\H3 p=some (.lst (y.map V.int))/\sV x lead y i/\Bd (2*bb b (min m os.length)+1) y/\(y=x\/Vu y)) ys (fun k v e=>by
     obtain ⟨x,y,p,r⟩:=iH k v e
     exact ⟨y,x,p,r⟩)
    have Zu:sX H3 ys BH :=⟨hl'.symm,fun k v y e1 e2=>by
     obtain ⟨x,p,_,e,_,r,_⟩:=hp k v y e1 e2
     exact ⟨p,e,r⟩⟩
    have les:(rq.eraseIdx j).length=(lv.eraseIdx j).length:=hE.1
    have ML:Made os lead i (2*bb b (min m os.length)+1) (lv.eraseIdx j) BH :=⟨by omega,fun k x e=>by
     have hk:k<(lv.eraseIdx j).length:=(Wp.mp e).1;have e1:ys[k]?=some (ys[k]'(by omega)):=gE (by omega);have e2:BH[k]?=some (BH[k]'(by omega)):=gE (by omega);obtain ⟨x',p,r1,_,_,_,r2,r3,_⟩:=hp k _ _ e1 e2;rw [e] at r1;cases r1
     exact ⟨_,e2,r2,r3⟩⟩
    have PL:∀l∈BH,Pr os l:=fun l hl=>by
     obtain ⟨k,ek⟩:=abh hl;have hk:k<BH.length:=(Wp.mp ek).1;have e1:ys[k]?=some (ys[k]'(by omega)):=gE (by omega);obtain ⟨x',p,r1,_,_,_,_,_,r4⟩:=hp k _ _ e1 ek
     rcases r4 with z|z
     ·rw [z]
      exact pL x' (afp (aaq r1))
     ·exact .inr z
    have OY:=tt.trans s3;have Ts:=OY _ _ hd2;have hN3:=Zi.same OY;have hu4:=hu3.same s3;refine ⟨_,rfl,d,kvs,rfl,Rd.of Ts,fun l3 n3=>?_⟩;have t4:=aE n3 (.lst (kvs.map fun kv=>kV kv.1));refine ⟨l3,rfl,⟨_,aT.of ah⟩,?_⟩;have dl:d≠l3:=ak Ts n3
    refine let I:zIv:=fun t σ H'=>IS fun (o7:Α) (kA :γ) (kz :π)=>σ=[ap a,some (.int (m:Int)),ap d,ap D,some (.int ((0:Int)+i)),some (.int (j:Int)),some u,o7]/\ao H H'/\H' d=some (.dK kA)/\H' l3=some (.lst (kvs.map fun kv=>kV kv.1))/\H' D=some (.lst ys)/\sX H' ys BH /\Ln H' u lead/\uR H' kA kz /\kz.map (·.1)=nd.map (·.1)/\ ∀(k:Nat)(x:Nat×List Int),nd[k]?=some x->∃y,kz[k]?=some (x.1,y)/\(t<=k->y=x.2)/\(k<t->(sV x.2 lead y i/\Bd (2*bb b (min m os.length)+1) y)/\(y=x.2\/Vu y));bW (K:=K) (a:=l3) (xs:=kvs.map fun kv=>kV kv.1) I
     ⟨_,kvs,nd,rfl,((s1.trans s2).trans OY).trans t4,t4 _ _ Ts,ah,t4 _ _ hD,Zu.same t4,hu4.same t4,hN3.same t4,rfl,fun k x e=>⟨x.2,e,fun _=>rfl,fun z=>abM z (afe _)⟩⟩ (fun t σ H' _ h=>by
      obtain ⟨_,_,_,_,_,_,h,_⟩:=h
      exact aT.of h) ?_ ?_
    ·rintro t u7 σ H4 hu7 ⟨o7,kA,kz,rfl,s4,z_,hl4,Zv,hL4,hu5,O0,Vw,Xh⟩
     rw [aaa] at hu7;obtain ⟨kv,uS,rfl⟩:=aaB.mp hu7;have htl:t<kvs.length:=(Wp.mp uS).1;have hnl:=hN.1;have ex:nd[t]?=some (nd[t]'(by omega)):=gE (by omega);obtain ⟨x,hx⟩:∃x,nd[t]?=some x:=⟨_,ex⟩;obtain ⟨kx,hxm⟩:kv.1=.inl (x.1:Int)/\x∈nd:=⟨(hN3.2 t kv x uS hx).1,aaq hx⟩;obtain ⟨y,ey,y1,_⟩:=Xh t x hx;have y2:=y1 (aaA _);subst y2;obtain ⟨v,ev,hv⟩:=O0.at ey
     have nk:(kA.map (·.1)).Nodup:=by
      rw [O0.keys];exact keys_nodup (by rw [Vw];exact R.asc)
     have vat:=mG nk ev;have hxl:=R.tJ x hxm;have hld:=R.k_ lead g_
     have dg:dh H4 d (kV kv.1) (some v):=by
      rw [kx,<-vat];exact dh.k z_
     refine ⟨_,rfl,_,rfl,d,v,rfl,dg,_,rfl,_,rfl,v,u,x.2,lead,i,bb b (min m os.length),bb b (min m os.length),by rw [aeO];rfl,hv,hu5,by rw [hxl,hld],by omega,by omega,hj,R.OZ x hxm,R.Nn lead g_,hbk,hbk,fun v' l' H5 s5 L5 cl bd pz fr=>?_⟩;have Vx:=s5 _ _ z_;have l4':=O0.1;have l5':kz.length=nd.length:=by simpa using abR afb Vw
     refine ⟨_,rfl,_,rfl,d,_,rfl,gI.k Vx (aaZ (show kA.length<=1000 by omega) (by decide)),?_⟩;rw [kx,QT nk ev];have dn:d≠D:=fun z=>by rw [z,Zv] at z_;cases z_
     refine ⟨_,kA.set t (.inl (x.1:Int),v'),kz.set t (x.1,l'),rfl,mF (s4.trans s5) Xg,ah,by rw [aj (aeD dl)];exact s5 _ _ hl4,by rw [aj (aeD dn)];exact s5 _ _ Zv,(hL4.same s5).put Vx,(hu5.same s5).put Vx,((O0.same s5).set L5).put Vx,?_,fun k x' ek=>?_⟩
     ·rw [List.map_set,Vw]
      refine aeK fun k=>?_;rw [aeX];by_cases z:t=k
      ·subst z
       rw [abC rfl,abC (by simp;omega),aaa,hx];rfl
      ·rw [abB z]
     ·obtain ⟨y',Lj,a1,a2⟩:=Xh k x' ek
      by_cases z:t=k
      ·subst z
       rw [hx] at ek;cases ek;refine ⟨l',by rw [aeX,abC rfl,abC (by omega)],fun w=>by omega,fun _=>⟨⟨cl,by rw [Nat.two_mul];exact bd⟩,pz⟩⟩
      ·exact ⟨y',by rw [aeX,abB z];exact Lj,fun w=>a1 (by omega),fun w=>a2 (by omega)⟩
    ·rintro σ H4 ⟨o7,kA,kz,rfl,s4,z_,hl4,Zv,hL4,hu5,O0,Vw,Xh⟩
     have l4':=O0.1;have l5':kz.length=nd.length:=by simpa using abR afb Vw
     have hnl:=hN.1;rw [ir] at Xh
     have MN:Made os lead i (2*bb b (min m os.length)+1) (nd.map (·.2)) (kz.map (·.2)):=⟨by simp [l5'],fun k x e=>by
      rw [aaa] at e;obtain ⟨x0,e0,rfl⟩:=aaB.mp e;have hk:k<nd.length:=(Wp.mp e0).1;obtain ⟨y,ey,_,a2⟩:=Xh k x0 e0
      exact ⟨y,by rw [aaa,ey];rfl,(a2 (by omega)).1⟩⟩
     have hno:bJ kA (.inl ((0:Int)+i))=none:=FH (fun z=>by
      rw [O0.keys] at z;obtain ⟨x',OT,e⟩:=aar.mp z;have e1:(x'.1:Int)=0+i:=an0 e;have:x'.1∈nd.map (·.1):=by rw [<-Vw];exact aar.mpr ⟨x',OT,rfl⟩
      obtain ⟨x,hx,e2⟩:=aar.mp this;have:=R.cols x hx
      omega)
     refine ⟨_,rfl,_,rfl,_,rfl,d,_,rfl,gI.k (k:=.inl ((0:Int)+i)) z_ (aaZ (show kA.length<=1000 by omega) (by decide)),?_⟩;rw [dE u hno];have dn:d≠D:=fun z=>by rw [z,Zv] at z_;cases z_
     have agH:∀l∈lv.eraseIdx j,l∈lv:=fun l h=>afp h
     have agI:∀l∈lv,l=lead\/l∈lv.eraseIdx j:=fun l h=>by
      obtain ⟨k,ek⟩:=abh h
      rcases Nat.lt_trichotomy k j with z|z|z
      ·exact .inr (aaq (i:=k) (by rw [afL,abC z];exact ek))
      ·subst z
       rw [ej] at ek;cases ek;exact .inl rfl
      ·exact .inr (aaq (i:=k-1) (by rw [afL,abB (by omega),show k-1+1=k by omega];exact ek))
     have Vy:(lv.eraseIdx j).length+1=lv.length:=by rw [afn,abC hjl];omega
     have R2:=R.step g_ agH agI Vy hj ML Vw MN
     obtain ⟨ps',Na,O2⟩:=O.step R.piv ej (fun x hx=>R.zero lead g_ x.1 (R.cols x hx)) hj ML.len (fun k x e=>by
      obtain ⟨y,ey,k1,_⟩:=ML.to k x e
      exact ⟨y,ey,k1⟩) l5' fun k x e=>by
      obtain ⟨y,ey,k1,_⟩:=MN.to k x e;exact ⟨y,ey,k1⟩
     have PN:∀x∈kz ++[(i,lead)],Pr os x.2:=fun x hx=>by
      rcases abj.mp hx with z|z
      ·obtain ⟨k,ek⟩:=abh z
       have hk:k<kz.length:=(Wp.mp ek).1;obtain ⟨x0,e0⟩:∃x0,nd[k]?=some x0:=⟨_,gE (by omega)⟩;obtain ⟨y,ey,_,a2⟩:=Xh k x0 e0;rw [ek] at ey;cases ey
       rcases (a2 (by omega)).2 with u|u
       ·show Pr os y
        rw [u];exact pN x0 (aaq e0)
       ·exact .inr u
      ·rw [abg.mp z]
       exact pL lead g_
     have Zw:=R2.cnt;have R3:=R2.small O2 hB (k:=min m os.length) (by rw [aba] at Zw ⊢;simp at Zw ⊢;omega) (by omega) PN PL;refine ⟨D,ys,_,kz ++[(i,lead)],BH,_,_,_,_,rfl,mF s4 Xg,ah,aT.of (by rw [aj (aeD dn)];exact Zv),hL4.put z_,(by rw [aeO];exact (O0.snoc hu5).put z_),by simp;omega,R3,⟨ps',Na,O2⟩,PN,PL⟩
  ·refine ⟨_,rfl,rfl,_,rfl,bB (fun _=>?_) (fun z=>by simp at z)⟩
   exact ⟨al,rq,kvs,nd,lv,_,_,_,_,rfl,s1.trans s2,s2 _ _ hd,s2.seq Tq,Kv.same s2,hN.same s2,by omega,R.skip hz,⟨ps,qs,O⟩,pN,pL⟩
 ·rintro σ H1 ⟨al,rq,kvs,nd,lv,o4,o5,o6,o7,rfl,s1,hd,Tq,Kv,hN,hni,R,⟨ps,qs,O⟩,pN,pL⟩
  refine ⟨_,rfl,_,rfl,z2L,fun p np=>?_⟩;have sp:=aE np (.tup [.ref d,.ref al]);have cnt:=R.cnt;exact q p d al kvs rq nd lv _ (s1.trans sp) Xg (s1.free np) ah (sp _ _ hd) (sp.seq Tq) (hN.same sp) (Kv.same sp) R
def FI (hb:b≠0)(h1:t.natAbs<=2^T)(h2:b.natAbs<=2^B):Sm T B (low t b):=⟨mh hb,qg hb,aay (qL hb) h1,aay (qM hb) h2⟩
def mJ {l:ξ}(h:l.length<=j):l.getD j 0=0:=by
 rw [abi,aaz h];rfl
def yB (m t:Nat)(nd:π)(qs:ο):Prop:=qs.length=m/\(∀i,i<t->∀x,nd[i]?=some x->qs[x.1]?=some (low (x.2.getD m 0) (x.2.getD x.1 0)))/\∀j,j<m->(∀i,i<t->∀x,nd[i]?=some x->x.1≠j)->qs[j]?=some (0,1)
def yB.sm {os:η}(R:Red os (m+1) m b nd lv)(F:yB m nd.length nd qs):∀q∈qs,Sm b b q:=by
 intro q hq;obtain ⟨j,hj⟩:=abh hq;have hjm:j<m:=by have:=(Wp.mp hj).1;rw [<-F.1];exact this
 by_cases c:∃(i:Nat)(x:Nat×List Int),nd[i]?=some x/\x.1=j
 ·obtain ⟨i,x,e,rfl⟩:=c
  have hi:i<nd.length:=(Wp.mp e).1;have h1:=F.2.1 i hi x e;rw [hj] at h1;cases h1;have hm:=aaq e;exact FI (R.here x hm) (R.OZ x hm m) (R.OZ x hm x.1)
 ·have h1:=F.2.2 j hjm (fun i _ x e z=>c ⟨i,x,e,z⟩)
  rw [hj] at h1;cases h1;exact ⟨by decide,by decide,aeF _,agq⟩
def yB.sol {os:η}(R:Red os (m+1) m b nd lv)(F:yB m nd.length nd qs)(hz:∀l∈lv,l.getD m 0=0):∀o∈os,ev o (oO (qs.map vl))=0:=by
 have ql:=F.1
 have zl:∀j q,qs[j]?=some q->oO (qs.map vl) j=vl q:=fun j q e=>by
  have hj:j<qs.length:=(Wp.mp e).1;unfold oO;rw [abC (by rw [ir];exact hj),abi,aaa,e];rfl
 have zm:oO (qs.map vl) m= -1:=by
  unfold oO;rw [abB (by rw [ir];omega)]
 refine (R.sol _).mp ⟨fun x hx=>?_,fun l hl=>?_⟩
 ·obtain ⟨i,e⟩:=abh hx
  have hi:i<nd.length:=(Wp.mp e).1;have hc:=R.cols x hx;have hh:=R.here x hx;have h1:=F.2.1 i hi x e;have zc:=zl _ _ h1;rw [vB hh] at zc
  have other:∀j,j≠x.1->j≠m->((x.2.getD j 0:Int):Rat)*oO (qs.map vl) j=0:=by
   intro j n1 n2;by_cases hj:j<m
   ·by_cases c:∃(i:Nat)(x:Nat×List Int),nd[i]?=some x/\x.1=j
    ·obtain ⟨i',y,e',rfl⟩:=c
     rw [R.off x hx y (aaq e') (aeD n1)];simp
    ·have h2:=F.2.2 j hj (fun i _ x e z=>c ⟨i,x,e,z⟩)
     rw [zl _ _ h2];unfold vl;simp;grind
   ·rw [mJ (by rw [R.tJ x hx];omega)]
    simp
  have sp:oO (qs.map vl)=fun i=>(if i=m then 0 else oO (qs.map vl) i)+(if i=m then -1 else 0):=by
   funext i;by_cases z:i=m
   ·rw [abC z,abC z,z,zm]
    grind
   ·rw [abB z,abB z]
    grind
  rw [sp,My]
  have a1:=vF x.2 (fun i=>if i=m then 0 else oO (qs.map vl) i) x.1 (fun j hj=>by
   by_cases z:j=m
   ·simp [z]
   ·rw [abB z]
    exact other j hj z)
  have a2:=vF x.2 (fun i=>if i=m then (-1:Rat) else 0) m (fun j hj=>by rw [abB hj];simp);rw [a1,a2];rw [abB (by omega),abC rfl,zc];have hh':=dD hh;grind
 ·refine vE l _ (fun j=>?_)
  have:l.getD j 0=0:=by
   by_cases h1:j<m
   ·exact R.zero l hl j h1
   ·by_cases h2:j=m
    ·rw [h2]
     exact hz l hl
    ·exact mJ (by rw [R.k_ l hl];omega)
  rw [this];simp
def yB.put {os:η}(R:Red os (m+1) m b nd lv)(F:yB m t nd qs)(e:nd[t]?=some x):yB m (t+1) nd (qs.set x.1 (low (x.2.getD m 0) (x.2.getD x.1 0))):=by
 have ql:=F.1;have hx:=R.cols x (aaq e)
 have dis:∀i y,i<t->nd[i]?=some y->y.1≠x.1:=fun i y hi ey=>by
  have a:=List.pairwise_iff_getElem.mp R.asc i t (by rw [ir];exact (Wp.mp ey).1) (by rw [ir];exact (Wp.mp e).1) hi;simp only [List.getElem_map] at a;have e1:=(Wp.mp ey).2;have e2:=(Wp.mp e).2;rw [e1,e2] at a;omega
 refine ⟨by simp [ql],fun i hi y ey=>?_,fun j hj h=>?_⟩
 ·rcases ae0.mp hi with z|z
  ·rw [aeX,abB (aeD (dis i y z ey))]
   exact F.2.1 i z y ey
  ·subst z
   rw [e] at ey;cases ey;rw [aeX,abC rfl,abC (by omega)]
 ·rw [aeX,abB (h t (aeP _) x e)]
  exact F.2.2 j hj (fun i hi y ey=>h i (age hi) y ey)
def Vz (h:j<n):Lc n (j:Int)=some j:=by
 unfold Lc;simp;omega
def bQ.putL (h:bQ K H a xs)(e:H d=some (.lst ys)):bQ K (upd H d o) a xs:=by
 rcases h with (h|⟨o',h⟩)|h
 ·exact .inl (.inl (by rw [aj (fun z=>by rw [z,e] at h;cases h)];exact h))
 ·exact .inl (.inr ⟨o',by rw [aj (fun z=>by rw [z,e] at h;cases h)];exact h⟩)
 ·exact .inr h
inductive lh (K:Frag)(vs:ζ)(H:Hp)(Q:VK)(E_:XK):Prop
|mk (a:abA)(us:ζ)(os:List (List Int:_))(m b:Nat)(_:vs=[.ref a,.int (m:Int)])(_:aT K H a us)(_:sX H us os)(_:(∀o∈os,o.length=m+1))(_:m<=900)(_:os.length<=900)(_:(∀o∈os,Bd b o))(_:bb b (min m os.length)<=29000000)(_:(∀(l:ξ)(H':Hp),ao H H' ->l.length=m+1->nN os l->(∀j,j<m->l.getD j 0=0)->l.getD m 0≠0->Q .cT H'))(_:(∀(x:abA)(mI :ζ)(qs:ο)(H':Hp),ao H H' ->H x=none->H' x=some (.lst mI)->cH K H' mI qs->qs.length=m->(∀q∈qs,Sm (bb b (min m os.length)) (bb b (min m os.length)) q)->(∀o∈os,ev o (oO (qs.map vl))=0)->Q (.ref x) H'))
def yC:av ["lines","many","told","x","column","line"] zas (ae JF):=sq
def Zx (hN:∀H:Hp,bQ K H aN [.int 0,.int 1])(og:mg "NOUGHT"=some (.ref aN))(D:Def K mg "solution_of" JF zas)(Np:mg "any"=none)(agJ:ac P w K mg base 35 "reduced" zas (n_ K))(vP:ac P w K mg base 33 "lowest_terms" zar fW):ac P w K mg base 36 "solution_of" zas (lh K):=by
 refine D.oo yC fun H hr h=>?_;obtain ⟨a,us,os,m,b,rfl,hS,hL,hlen,hm,ho,hB,hb,q1,q2⟩:=h
 refine ⟨_,(aa (aG 2 yC.nd (aL agJ hr (aI (pv 0) (pv 1)))) (aa (bu (eh (aH (IA rfl) rfl Np YO (aX (eV (tn:=["line"]) (fr:=["many"]) (caps:=[1]) (bo (aF (pv 2))) (l_ lZ (bE (qS (K:=K) rfl) (pv 0) (pv 1)) af (nh _)))))) (ag (aC qD)) aQ) (aa (aG 3 yC.nd (ay vk (cg (aX (fC (v:=.ref aN) rfl og rfl))) (pv 1))) (aa (bq abI rfl (mz (aF (pv 2))) (fE rfl (a_ (bP 4 yC.nd) (a_ (bP 5 yC.nd) cX))) (ag (vc (aL vP hr (aI (bE aR (pv 5) (pv 1)) (bE aR (pv 5) (pv 4)))) (AG (pv 3) (pv 4) set_list)))) (ag (aC (pv 3))))))),?_⟩;dsimp only [cxr,jD,Cx.xw,Cx.tu];refine sq4 ?_;intros
 refine ⟨_,rfl,_,rfl,a,us,os,m+1,m,b,rfl,hS,hL,hlen,by omega,by omega,by omega,hB,hb,fun p d a' kvs mI nd lv H1 s1 Xg np hp hd Tq hN1 Vv R=>?_⟩;have lu:=Vv.1;have cnt:=R.cnt;refine ⟨_,rfl,p,_,_,_,rfl,rfl,bQ.of hp,iu,a',rfl,⟨_,Tq⟩,fun D1 n1=>?_⟩;refine dG (cap:=[some (.int (m:Int))]) (K:=K) (a:=a') (xs:=mI) (fun k v _=>∃l,lv[k]?=some l/\v=.bl (decide (l.getD m 0≠0))) n1 (aaZ (show mI.length<=1000 by omega) (by decide)) (fun H2 s2=>s2.seq Tq) (fun _ _ _ _ _ _ _ h=>h) ?_ ?_
 ·intro k x H2 RR ex s2 kk
  obtain ⟨l,el,b',rfl,ff⟩:=Vv.at ex;have hll:=R.k_ l (aaq el);refine ⟨_,rfl,_,rfl,b',_,_,_,rfl,rfl,aT.of (s2 _ _ ff),uP (by omega),rfl,kk _ _ (ao.refl _) ⟨l,el,?_⟩⟩;simp
 ·intro ys H2 hy iH s2 hD
  have ey:ys=(lv.map fun l=>decide (l.getD m 0≠0)).map V.bl:=by
   refine aeK fun i=>?_;by_cases hi:i<ys.length
   ·have e1:ys[i]?=some ys[i]:=gE hi
    obtain ⟨l,el,e⟩:=iH i _ e1;rw [e1,e,aaa,aaa,el];rfl
   ·rw [aaz (by omega),aaz (by simp;omega)]
  subst ey;refine ⟨D1,_,rfl,aT.of hD,_,rfl,?_⟩;have lW:=s1.trans s2;refine bB (fun c=>?_) (fun c=>?_)
  ·obtain ⟨b',ff,hb1⟩:=agh.mp c
   obtain ⟨l,hl,rfl⟩:=aar.mp ff;have hn:l.getD m 0≠0:=abS hb1;exact q1 l H2 lW (R.k_ l hl) (R.mE l hl) (R.zero l hl) hn
  ·have hz:∀l∈lv,l.getD m 0=0:=fun l hl=>by
    by_cases z:l.getD m 0=0
    ·exact z
    ·exact abM (agh.mpr ⟨true,aar.mpr ⟨l,hl,abU z⟩,rfl⟩) c
   refine ⟨z1L,fun p3 n3=>?_⟩;have s3:=aE n3 (.lst [V.ref aN]);refine ⟨_,rfl,p3,_,_,rfl,rfl,ah,by omega,by omega,aay (show 1*(m:Int).toNat<=1000 by omega) (by decide),fun x n4=>?_⟩;have s4:=aE n4 (.lst (ac_ (m:Int).toNat [V.ref aN]).flatten);have O1:=(lW.trans s3).trans s4;have nx:H x=none:=(lW.trans s3).free n4;have er:(ac_ (m:Int).toNat [V.ref aN]).flatten=ac_ m (V.ref aN):=by simp
   have hp4:=s4 _ _ (s3 _ _ (s2 _ _ hp));have z_:=s4 _ _ (s3 _ _ (s2 _ _ hd));have O0:=((hN1.same s2).same s3).same s4;have dx:d≠x:=ak (s3 _ _ (s2 _ _ hd)) n4;refine ⟨_,rfl,p,_,_,_,rfl,rfl,bQ.of hp4,iU,d,kvs,rfl,z_,fun o=>?_⟩
   refine let I:zIv:=fun t σ H'=>Lk fun (o4 o5:Α) (Nq:ζ) (qs:ο)=>σ=[ap a,some (.int (m:Int)),ap p,ap x,o4,o5]/\ao H H'/\H' d=some (.fB o (.dK kvs))/\H' x=some (.lst Nq)/\cH K H' Nq qs/\uR H' kvs nd/\yB m t nd qs;j0 (d:=d) (o:=o) (kvs:=kvs) I
    ⟨none,none,ac_ m (V.ref aN),ac_ m (0,1),rfl,mF O1 Xg,ah,by rw [aj (aeD dx),ah,er],⟨by simp,fun i u q' e1 e2=>?_⟩,O0.put z_,⟨by simp,fun i hi=>abM hi (afe _),fun j hj _=>by rw [aeI,abC hj]⟩⟩ (fun t σ H' _ h=>by
     obtain ⟨_,_,_,_,_,_,h,_⟩:=h
     exact h) ?_ ?_
   ·rw [aeI] at e1 e2
    by_cases z:i<m
    ·rw [abC z] at e1 e2
     cases e1;cases e2;exact ⟨aN,rfl,hN _⟩
    ·rw [abB z] at e1
     cases e1
   ·rintro t k v σ H5 p7 uS ⟨o4,o5,Nq,qs,rfl,s5,Vx,hx5,QU,Zy,F⟩ n7
    have ht:t<kvs.length:=(Wp.mp uS).1;have hl5:=Zy.1;obtain ⟨c,ec⟩:∃c,nd[t]?=some c:=⟨_,gE (by omega)⟩;obtain ⟨k1,k2⟩:=Zy.2 t _ c uS ec;have k1':k=.inl (c.1:Int):=k1;subst k1';obtain ⟨b',eb,ff⟩:=k2;have VA :v=.ref b':=eb;subst VA;have hcm:=aaq ec;have hcl:=R.tJ c hcm;have hcc:=R.cols c hcm;have s7:=aE n7 (.tup [kV (.inl (c.1:Int)),.ref b']);have hb7:=s7 _ _ ff;refine ⟨p7,_,rfl,bQ.of ah,rfl,_,_,rfl,_,_,rfl,rfl,_,rfl,_,rfl,b',_,_,_,rfl,rfl,aT.of hb7,uP (by omega),_,rfl,_,rfl,b',_,_,_,rfl,rfl,aT.of hb7,uP (by omega),_,_,rfl,R.here c hcm,fun p8 H8 s8 e8=>?_⟩;have QV:=s7.trans s8;have hx8:=QV _ _ hx5;have l2:=QU.1;have xn:∀{b0:abA} {o0:HO},H b0=some o0->b0≠x:=fun e=>ak e nx;have dx8:=QV _ _ Vx;refine ⟨_,rfl,_,rfl,x,Nq,_,c.1,rfl,rfl,hx8,Vz (by rw [l2,F.1];exact hcc),?_⟩;refine ⟨_,_,Nq.set c.1 (.ref p8),qs.set c.1 (low (c.2.getD m 0) (c.2.getD c.1 0)),rfl,mF (s5.trans QV) nx,by rw [aj dx];exact dx8,ah,?_,?_,F.put R ec⟩
    ·have base:cH K H8 (Nq.set c.1 (.ref p8)) (qs.set c.1 (low (c.2.getD m 0) (c.2.getD c.1 0))):=(QU.same QV).set ⟨p8,rfl,bQ.of e8⟩
     refine ⟨base.1,fun i u q' e1 e2=>?_⟩;obtain ⟨p9,e9,h9⟩:=base.2 i u q' e1 e2;exact ⟨p9,e9,bQ.putL h9 hx8⟩
    ·have base:=Zy.same QV
     refine ⟨base.1,fun i kv y e1 e2=>⟨(base.2 i kv y e1 e2).1,?_⟩⟩;obtain ⟨p9,e9,h9⟩:=hN1.2 i kv y e1 e2 |>.2
     refine ⟨p9,e9,?_⟩
     have px9:p9≠x:=fun z=>by
      have:=(s3 _ _ (s2 _ _ h9));rw [z,n4] at this;cases this
     rw [aj px9];obtain ⟨p10,Xi,h10⟩:=(base.2 i kv y e1 e2).2;rw [e9] at Xi;cases Xi;exact h10
   ·rintro σ H5 ⟨o4,o5,Nq,qs,rfl,s5,Vx,hx5,QU,Zy,F⟩
    have hl5:=Zy.1;rw [hl5] at F;exact ⟨_,rfl,q2 x Nq qs H5 s5 nx hx5 QU F.1 (F.sm R) (F.sol R hz)⟩
def js (H:Hp)(r:abA)(ls:ω)(b6:Η):Prop:=H r=some (.lst (ls.map V.ref))/\ls.length=b6.length/\∀(i:Nat)(l:abA)(vs:ζ),ls[i]?=some l->b6[i]?=some vs->H l=some (.lst vs)
def js.same (h:js H r ls b6)(s:ao H H'):js H' r ls b6:=⟨s _ _ h.1,h.2.1,fun i l vs e1 e2=>s _ _ (h.2.2 i l vs e1 e2)⟩
def Shape (T B m:Nat)(fX:Ε):Prop:=∀qs∈fX,qs.length=m/\∀q∈qs,Sm T B q
def hW (K:Frag)(H:Hp)(b6:Η)(fX:Ε):Prop:=b6.length=fX.length/\∀(i:Nat)(vs:ζ)(qs:ο),b6[i]?=some vs->fX[i]?=some qs->cH K H vs qs
def hW.same (h:hW K H b6 fX)(s:ao H H'):hW K H' b6 fX:=⟨h.1,fun i vs qs e1 e2=>(h.2 i vs qs e1 e2).same s⟩
def Nr {α:Type}{xs:List α}{x y:α}(e:(xs++[x])[j]?=some y):(j<xs.length/\xs[j]?=some y)\/(j=xs.length/\x=y):=by
 by_cases c:j<xs.length
 ·rw [aby c] at e
  exact .inl ⟨c,e⟩
 ·rw [abx (by omega)] at e
  by_cases z:j-xs.length=0
  ·rw [z] at e
   exact .inr ⟨by omega,aen e⟩
  ·rw [aaz (by simp;omega)] at e
   cases e
def js.snoc (h:js H r ls b6)(nr:r∉ls)(hD:H D=some (.lst us))(nD:D≠r):js (upd H r (.lst (ls.map V.ref++[.ref D]))) r (ls++[D]) (b6++[us]):=by
 obtain ⟨m1,m2,m3⟩:=h;refine ⟨by rw [ah,abq];rfl,by simp [m2],fun j l vs e1 e2=>?_⟩
 rcases Nr e1 with ⟨c1,d1⟩|⟨c1,d1⟩<;>rcases Nr e2 with ⟨c2,d2⟩|⟨c2,d2⟩
 ·have ne:l≠r:=fun z=>nr (by rw [<-z];exact aaq d1)
  rw [aj ne];exact m3 j l vs d1 d2
 ·omega
 ·omega
 ·subst d1 d2
  rw [aj nD];exact hD
def js.row (h:js H r ls b6){i:Nat}{vs:ζ}(e:b6[i]?=some vs):∃l,ls[i]?=some l/\H l=some (.lst vs):=by
 have hi:i<b6.length:=(Wp.mp e).1;have l1:=h.2.1;have e1:ls[i]?=some (ls[i]'(by omega)):=gE (by omega);exact ⟨_,e1,h.2.2 i _ _ e1 e⟩
def oh (b6:Η)(j:Nat):List V:=b6.map fun vs=>vs.getD j .cT
def jo (b6:Η)(m:Nat):List (List V):=(aev m).map fun j=>oh b6 j
inductive rA (vs:ζ)(H:Hp)(Q:VK)(E_:XK):Prop
|mk (r:abA)(ls:ω)(b6:List (List V:_))(m:Int)(_:vs=[.ref r,.int m])(_:js H r ls b6)(_:0<=m)(_:m<=1000)(_:ls.length<=1000)(_:(∀vs∈b6,m<=(vs.length:Int)))(_:∀c cs H',ao H H' ->js H' c cs (jo b6 m.toNat)->Q (.ref c) H')
inductive mK (vs:ζ)(H:Hp)(Q:VK)(E_:XK):Prop
|mk (r:abA)(ls:ω)(b6:List (List V:_))(m:Int)(_:vs=[.ref r,.int m])(_:js H r ls b6)(_:0<=m)(_:m<=1000)(_:ls.length<=1000)(_:(∀vs∈b6,m<=(vs.length:Int)))(_:∀c cs H',ao H H' ->H c=none->(∀l∈cs,H l=none)->js H' c cs (jo b6 m.toNat)->Q (.ref c) H')
def Nt:av ["rows","many","columns","column"] zaK (ae JD):=sq
def Zz (D:Def K mg "turned" JD zaK)(bf:mg "range"=none):ac P w K mg base 1 "turned" zaK mK:=by
 refine D.op Nt fun f ck A outer s H vs Q E hr h=>?_;obtain ⟨r,ls,b6,m,rfl,M,m0,m1,hn,hv,q⟩:=h
 refine ⟨_,(aa (aG 2 Nt.nd (cg jC)) (aa (bq abI rfl (bY rfl bf (aX (pv 1))) (bP 3 Nt.nd) (ag (bN (oK ab9 acg ach fe (pv 2) (aX (eV (tn:=["row"]) (fr:=["column"]) (caps:=[3]) (bo (pv 0)) (bE (qS (K:=K) rfl) (pv 0) (pv 1)))))))) (ag (aC (pv 2))))),?_⟩
 have l1:=M.2.1;refine ⟨z0L,fun c nc=>?_⟩;refine ⟨_,rfl,_,rfl,by omega,by omega,?_⟩;refine let I:zIv:=fun i σ H'=>EZ fun (o:Α) (cs:ω)=>σ=[ap r,some (.int m),ap c,o]/\ao H H'/\js H' c cs (jo b6 i)/\c∉cs/\∀l∈cs,H l=none;cA (lo:=0) (n:=m.toNat) I ⟨none,[],rfl,aE nc _,⟨ah,rfl,fun i l vs e=>by simp at e⟩,by simp,fun l h=>by cases h⟩ ?_ ?_
 ·rintro i σ H' hi ⟨o,cs,rfl,s1,C,ncs,nws⟩
  have M':=M.same s1;refine ⟨_,rfl,.inl ⟨rfl,_,aT.of C.1⟩,_,rfl,r,rfl,⟨_,aT.of M'.1⟩,fun D nD=>?_⟩;refine dG (cap:=[some (.int ((0:Int)+i))]) (K:=K) (a:=r) (xs:=ls.map V.ref) (fun k v _=>∃vs,b6[k]?=some vs/\v=vs.getD i .cT) nD (by rw [ir];exact aaZ hn (by decide)) (fun H2 s2=>aT.of (s2 _ _ M'.1)) (fun _ _ _ _ _ _ _ h=>h) ?_ ?_
  ·intro k u H2 R hu s2 kk
   rw [aaa] at hu;obtain ⟨l,el,rfl⟩:=aaB.mp hu;have hk:k<ls.length:=(Wp.mp el).1;have ev:b6[k]?=some (b6[k]'(by omega)):=gE (by omega);have hl:=M'.2.2 k l _ el ev
   have YM :i<(b6[k]'(by omega)).length:=by
    have:=hv _ (aaq ev);omega
   have ea:iZ (b6[k]'(by omega)) ((0:Int)+(i:Int))=some ((b6[k]'(by omega)).getD i .cT):=by
    rw [aeO];exact bG (by rw [gE YM,abi,gE YM];rfl)
   exact ⟨_,rfl,_,rfl,l,_,_,_,rfl,rfl,aT.of (s2 _ _ hl),ea,kk _ _ (ao.refl _) ⟨_,ev,rfl⟩⟩
  ·intro ys H2 hy iH s2 hD
   rw [ir] at hy
   have ey:ys=oh b6 i:=by
    refine aeK fun k=>?_;unfold oh;by_cases hk:k<ys.length
    ·have e1:ys[k]?=some ys[k]:=gE hk
     obtain ⟨vs,ev,e2⟩:=iH k _ e1;rw [e1,e2,aaa,ev];rfl
    ·rw [aaz (by omega),aaz (by simp;omega)]
   subst ey;have lc:cs.length=i:=by have:=C.2.1;simpa [jo] using this
   have nDc:D≠c:=fun z=>by rw [z,C.1] at nD;cases nD
   have fc:∀b o,H b=some o->b≠c:=fun b o e=>ak e nc;refine ⟨c,_,_,rfl,rfl,s2 _ _ C.1,by rw [ir,lc];exact aaZ (show i<=1000 by omega) (by decide),?_⟩;refine ⟨_,cs++[D],rfl,fun b o e=>?_,?_,fun z=>?_,fun l hl=>?_⟩
   ·rw [aj (fc b o e)]
    exact s2 _ _ (s1 _ _ e)
   ·have e:jo b6 (i+1)=jo b6 i++[oh b6 i]:=by simp [jo,ahM]
    rw [e];exact (C.same s2).snoc ncs hD nDc
   ·rcases abj.mp z with y|y
    ·exact ncs y
    ·exact nDc (abg.mp y).symm
   ·rcases abj.mp hl with y|y
    ·exact nws l y
    ·rw [abg.mp y]
     exact s1.free nD
 ·rintro σ H' ⟨o,cs,rfl,s1,C,ncs,nws⟩
  exact ⟨_,rfl,q c cs H' s1 nc nws C⟩
def Nu (F:Fn P w K mg base CX k x ps mK):Fn P w K mg base CX k x ps rA:=by
 obtain ⟨f,fd,G,r⟩:=F.ex;refine ⟨f,fd,G.imp fun vs H Q E h=>?_,r⟩;obtain ⟨r,ls,b6,m,e,h1,h2,h3,h4,h5,q⟩:=h;exact ⟨r,ls,b6,m,e,h1,h2,h3,h4,h5,fun c cs H' s _ _ M=>q c cs H' s M⟩
def cW (fX:Ε)(j:Nat):List (Int×Int):=fX.map fun qs=>qs.getD j (0,1)
def VB (sh:Shape T B m fX)(hj:j<m):∀q∈cW fX j,Sm T B q:=fun q hq=>by
 unfold cW at hq;obtain ⟨qs,hqs,rfl⟩:=aar.mp hq;obtain ⟨hl,hs⟩:=sh qs hqs;rw [abi,gE (by omega)];exact hs _ (aeT _)
def Bd.of (h:∀t∈l,t.natAbs<=2^b):Bd b l:=fun j=>by
 by_cases hj:j<l.length
 ·have e:l[j]?=some l[j]:=gE hj
  rw [getD_mem e];exact h _ (aeT hj)
 ·rw [mJ (by omega)]
  exact aeF _
abbrev Wl:=List Int×Int×abA×abA
def WlP (T B m:Nat)(qs:ο)(d:Int×Int)(w:Wl):Prop:=oN w.1 (qs++[d]) w.2.1/\0<w.2.1/\w.2.1.natAbs<=2^(B*(m+1))/\∀t∈w.1,t.natAbs<=2^(T+B*(m+1))
def Nv {Ll:η}(h:∀l∈Ll,l.length=n)(hj:j<n):oh (Ll.map fun l=>l.map V.int) j=(Ll.map fun l=>l.getD j 0).map V.int:=by
 unfold oh;rw [ab_,ab_];refine abk fun l hl=>?_;have hlen:=h l hl;have e:l[j]?=some (l[j]'(by omega)):=gE (by omega);show (l.map V.int).getD j .cT=.int (l.getD j 0);rw [getD_mem e,abi,aaa,e];rfl
theorem rC (j:Nat):∀{ws:List Wl} {ss ys:ο} {cs:ο},ss.length=ws.length->ys.length=ws.length->cs.length=ws.length->
  (∀(i:Nat)(w:Wl)(s y:Int×Int),ws[i]?=some w->ss[i]?=some s->ys[i]?=some y->vl y=vl s*w.2.1)->(∀(i:Nat)(w:Wl)(c:Int×Int),ws[i]?=some w->cs[i]?=some c->((w.1.getD j 0:Int):Rat)=vl c*w.2.1)->ib ys cs=fG (ss.map vl) (ws.map (·.1)) j
 | [],[],[],[],_,_,_,_,_=>by simp [ib,fG]
 | w::ws,s::ss,y::ys,c::cs,h1,h2,h3,h4,h5=>by
  have ih:=rC j (ws:=ws) (ss:=ss) (ys:=ys) (cs:=cs) (by simpa using h1) (by simpa using h2) (by simpa using h3) (fun i w s y e1 e2 e3=>h4 (i+1) w s y (by simpa using e1) (by simpa using e2) (by simpa using e3)) (fun i w c e1 e2=>h5 (i+1) w c (by simpa using e1) (by simpa using e2));have a:=h4 0 w s y rfl rfl rfl;have b:=h5 0 w c rfl rfl;have ed:ib (y::ys) (c::cs)=vl y*vl c+ib ys cs:=by simp [ib]
  simp only [aaw,fG];rw [ed,ih,a,b];grind
 | [],_::_,_,_,h,_,_,_,_=>by simp at h
 | [],[],_::_,_,_,h,_,_,_=>by simp at h
 | [],[],[],_::_,_,_,h,_,_=>by simp at h
 | _::_,[],_,_,h,_,_,_,_=>by simp at h
 | _::_,_::_,[],_,_,h,_,_,_=>by simp at h
 | _::_,_::_,_::_,[],_,_,h,_,_=>by simp at h
noncomputable def AA (m:Nat)(Ll:η):List (List Int):=(aev m).map (fun j=>(Ll.map fun l=>l.getD j 0)++[0])++[(Ll.map fun l=>l.getD m 0)++[1]]
def vQ {o:ξ}(h:o∈AA m Ll):∃k,k<m+1/\o=(Ll.map fun l=>l.getD k 0)++[if k=m then 1 else 0]/\True:=by
 unfold AA at h
 rcases abj.mp h with z|z
 ·obtain ⟨j,hj,rfl⟩:=aar.mp z
  have Y3 :j<m:=aeZ.mp hj;exact ⟨j,by omega,by rw [abB (by omega)],trivial⟩
 ·exact ⟨m,by omega,by rw [abC rfl];exact abg.mp z,trivial⟩
def VC (h:k<m+1):(Ll.map fun l=>l.getD k 0)++[if k=m then 1 else 0]∈AA m Ll:=by
 unfold AA;by_cases z:k=m
 ·subst z
  rw [abC rfl];simp
 ·rw [abB z]
  exact abj.mpr (.inl (aar.mpr ⟨k,aeZ.mpr (by omega),rfl⟩))
def BM {ws:List Wl}(hlen:∀l∈ws.map (·.1),l.length=m+1)(hn:ws.length=n)(c0:nN (ws.map (·.1)) l0)(h0:∀j,j<m->l0.getD j 0=0)(h0m:l0.getD m 0≠0)(c1:nN (AA m (ws.map (·.1))) l1)(l1l:l1.length=n+1)(h1:∀j,j<n->l1.getD j 0=0)(hp:∀o∈AA m (ws.map (·.1)),o.length=n+1):l1.getD n 0=0:=by
 obtain ⟨y0,ly,ey⟩:=c0;have azv :=dD h0m;have ly':(y0.map fun a=>a*(1 / ((l0.getD m 0:Int):Rat))).length=(ws.map (·.1)).length:=by simp [ly]
 have all:∀o∈AA m (ws.map (·.1)),ev o (oO (y0.map fun a=>a*(1 / ((l0.getD m 0:Int):Rat))))=0:=by
  intro o ho;obtain ⟨k,hk,rfl,_⟩:=vQ ho;rw [AZ k _ (ws.map (·.1)) _ ly',ra,<-ey k];by_cases z:k=m
  ·subst z
   rw [abC rfl];have e':((1:Int):Rat)=1:=by simp
   rw [e'];grind
  ·rw [abB z,h0 k (by omega)]
   simp;grind
 have e:=Qy (n:=n+1) c1 (by omega) (fun o ho=>by rw [hp o ho];exact aaA _) all
 rw [vF l1 _ n (fun j hj=>by
  by_cases z:j<n
  ·rw [h1 j z]
   simp
  ·rw [mJ (by omega)]
   simp)] at e
 have zn:oO (y0.map fun a=>a*(1 / ((l0.getD m 0:Int):Rat))) n= -1:=by
  unfold oO;rw [abB (by rw [ly',ir];omega)]
 rw [zn] at e;have:((l1.getD n 0:Int):Rat)=0:=by grind
 exact_mod_cast this
def Kw {d:Int×Int}(h:oN ts (qs++[d]) b)(hj:j<qs.length):((ts.getD j 0:Int):Rat)=vl (qs.getD j (0,1))*b:=by
 have l:=h.1;rw [aba] at l;simp at l;have e1:ts[j]?=some (ts[j]'(by omega)):=gE (by omega);have e2:qs[j]?=some qs[j]:=gE hj;have:=h.2 j _ _ e1 (by rw [aby hj];exact e2);rw [getD_mem e1,abi,e2];exact this
def BN {d:Int×Int}(h:oN ts (qs++[d]) b)(hm:qs.length=m):((ts.getD m 0:Int):Rat)=vl d*b:=by
 have l:=h.1;rw [aba] at l;simp at l;have e1:ts[m]?=some (ts[m]'(by omega)):=gE (by omega);have:=h.2 m _ d e1 (by rw [abx (by omega),hm];simp);rw [getD_mem e1];exact this
inductive qp (K:Frag)(vs:ζ)(H:Hp)(Q:VK)(E_:XK):Prop
|mk (r dl:abA)(m:Nat)(ls:ω)(b6:List (List V:_))(fX:Ε)(dus:ζ)(ds:ο)(T B Z:Nat)(_:vs=[.ref r,.ref dl,.int (m:Int)])(_:js H r ls b6)(_:hW K H b6 fX)(_:H dl=some (.lst dus))(_:cH K H dus ds)(_:ds.length=fX.length)(_:Shape T B m fX)(_:(∀d∈ds,Sm T B d))(_:m<=100)(_:fX.length<=100)(_:T<=20000)(_:B*(m+1)<=100000)(_:B<=8000)(_:bb (T+B*(m+1)) (min (m+1) fX.length)<=Z)(_:Z<=29000000)(_:(∀(p x:abA)(us:ζ)(xs:ο)(H':Hp),ao H H' ->H' p=some (.tup [.str "solved",.ref x])->H' x=some (.lst us)->cH K H' us xs->xs.length=m->(∀q∈xs,Sm Z Z q)->(∀(i:Nat)(qs:ο)(d:Int×Int),fX[i]?=some qs->ds[i]?=some d->ib qs xs=vl d)->Q (.ref p) H'))(_:(∀(p y:abA)(us:ζ)(ys:ο)(H':Hp),ao H H' ->H' p=some (.tup [.str "paper",.ref y])->H' y=some (.lst us)->cH K H' us ys->ys.length=fX.length->(∀q∈ys,Sm (Z+B*(m+1)) Z q)->(∀j,j<m->ib ys (cW fX j)=0)->ib ys ds=1->Q (.ref p) H'))
def rE:av ["rows","due","many","wholes","lines","x","columns","papers","shares"] zaF (ae JC):=sq
def ZA (D:Def K mg "solve_rows" JC zaF)(gC:mg "zip"=none)(aU:mg "len"=none)(agP:ac P w K mg base 2 "whole_row" ["row"] (Vt K))(ZC:ac P w K mg base 36 "solution_of" zas (lh K))(VD:ac P w K mg base 1 "turned" zaK rA)(vP:ac P w K mg base 33 "lowest_terms" zar fW):
  ac P w K mg base 37 "solve_rows" zaF (qp K):=by
 refine D.op rE fun f ck A outer s H vs Q E hr h=>?_;obtain ⟨r,dl,m,ls,b6,fX,dus,ds,T,B,Z,rfl,M,NN,hdl,ND,hds,sh,sd,hm,hn,hT,hB,hB1,hZ,hZ1,q1,q2⟩:=h
 refine ⟨_,(aa (Ni (i:=3) (tn:=["row","number"]) (fr:=[]) (caps:=[]) rE.nd (vy rfl gC (aI (pv 0) (pv 1))) (fun _ _ _ _=>(vA (K:=K) (n:=2) rfl rfl (a_ (gG (i:=0) (show (["row","number"]:List Str).Nodup from by decide+kernel) rfl (ahh rfl)) (a_ (gG (i:=1) (show (["row","number"]:List Str).Nodup from by decide+kernel) rfl (ahh rfl)) cX)))) (fun _ _ _ _=>qQ) (yx agP hr (aX (ay jF (pv 0) (cg (aX (pv 1))))))) (aa (rn (i:=4) (tn:=["whole"]) (fr:=[]) (caps:=[]) rE.nd (bo (pv 3)) (bE (dZ (K:=K) rfl) (pv 0) af)) (aa (aG 5 rE.nd (aL ZC hr (aI (pv 4) (pv 2)))) (aa (bu (bx Qe (pv 5) qD) (ag (aC (aV (aI eY (pv 5))))) aQ) (aa (aG 6 rE.nd (aL VD hr (aI (pv 4) (ay bC (pv 2) af)))) (aa (aG 7 rE.nd (ay jF (eV (tn:=["column"]) (fr:=[]) (caps:=[]) (bo (cL dY (pv 6) dX (dw (pv 2)))) (ay jF (pv 0) (cg (aX af)))) (cg (aX (ay jF (bE aR (pv 6) (pv 2)) (cg (aX af))))))) (aa (aG 8 rE.nd (aL ZC hr (aI (pv 7) (aH aD rfl aU bS (aX (pv 4)))))) (ag (aC (aV (aI eY (Nh (tn:=zaU) (fr:=[]) (caps:=[]) (vy rfl gC (aI (pv 8) (pv 3))) (fun _ _ _ _=>(vA (K:=K) (n:=2) rfl rfl (a_ (gG (i:=0) (show (zaU:List Str).Nodup from by decide+kernel) rfl (ahh rfl)) (a_ (gG (i:=1) (show (zaU:List Str).Nodup from by decide+kernel) rfl (ahh rfl)) cX)))) (fun _ _ _ _=>qQ) (yx vP hr (aI (ay ig (bE (dZ (K:=K) rfl) (pv 0) af) (bE (dZ (K:=K) rfl) (pv 1) af)) (bE (dZ (K:=K) rfl) (pv 0) af))))))))))))))),?_⟩;dsimp only [cxr,jD,Cx.xw,Cx.tu];refine sq6 ?_;intros
 have l1:=M.2.1;have l2:=NN.1;have l3:=ND.1;refine ⟨_,rfl,_,rfl,r,dl,rfl,⟨_,aT.of M.1⟩,⟨_,aT.of hdl⟩,fun D1 n1=>?_⟩;refine ID (cap:=[]) (K:=K) (xs:=ls.map V.ref) (ys:=dus) (fun i v H=>∃w:Wl,v=.ref w.2.2.2/\w.2.2.1≠D1/\H w.2.2.2=some (.tup [.ref w.2.2.1,.int w.2.1])/\H w.2.2.1=some (.lst (w.1.map V.int))/\∀qs d,fX[i]?=some qs->ds[i]?=some d->WlP T B m qs d w) n1 (by rw [ir];exact aaZ (show ls.length<=1000 by omega) (by decide)) (by rw [ir];omega) (fun H2 s2=>aT.of (s2 _ _ M.1)) (fun H2 s2=>aT.of (s2 _ _ hdl)) ?_ ?_ ?_
 ·rintro i v H2 H3 ys hD ks ⟨w,e1,e2,e3,e4,e5⟩
  exact ⟨w,e1,e2,ks _ _ (fun z=>by rw [z,hD] at e3;cases e3) e3,ks _ _ e2 e4,e5⟩
 ·rintro i x y H2 RR ex ey s2 ⟨ys0,hD0⟩ kk
  rw [aaa] at ex;obtain ⟨l,el,rfl⟩:=aaB.mp ex;have hi:i<ls.length:=(Wp.mp el).1;obtain ⟨qs,eq⟩:∃qs,fX[i]?=some qs:=⟨_,gE (by omega)⟩;obtain ⟨vs,ev⟩:∃vs,b6[i]?=some vs:=⟨_,gE (by omega)⟩;have hl:=M.2.2 i l vs el ev;have hq:=NN.2 i vs qs ev eq;obtain ⟨d,ed,nd⟩:=ND.at ey;obtain ⟨lq,sq⟩:=sh qs (aaq eq);have lvs:=hq.1;refine ⟨_,rfl,_,rfl,z1L,fun p1 np1=>?_⟩;have t1:=aE np1 (.lst [y]);refine ⟨l,p1,vs,_,rfl,rfl,t1 _ _ (s2 _ _ hl),ah,aay (show vs.length+1<=1000 by omega) (by decide),fun p2 np2=>?_⟩;have t2:=aE np2 (.lst (vs++[y]));have t12:=t1.trans t2;refine ⟨p2,qs++[d],T,B,rfl,⟨_,aT.of ah,(cH.snoc ((hq.same s2).same t12) ((nd.same s2).same t12))⟩,fun q' m6 =>?_,hT,by rw [aba,lq];exact hB,hB1,by rw [aba,lq];show m+1<=1000;omega,fun p3 l3' ts b H3 s3 nl hp3 hl3 hb hbs wh hts=>?_⟩
  ·rcases abj.mp m6 with z|z
   ·exact sq q' z
   ·rw [abg.mp z]
    exact sd d (aaq ed)
  ·refine kk _ _ (t12.trans s3) ⟨(ts,b,l3',p3),rfl,fun z=>?_,hp3,hl3,fun Na d' e1 e2=>?_⟩
   ·have:=t12 _ _ hD0
    rw [show l3'=D1 from z,this] at nl;cases nl
   ·rw [eq] at e1
    rw [ed] at e2;cases e1;cases e2;rw [aba,lq] at hbs hts;exact ⟨wh,hb,hbs,hts⟩
 ·intro zs H2 hz iH s2 hD1
  rw [ir] at hz;obtain ⟨ws,lw,hw⟩:=nZ (P:=fun i v (w:Wl)=>v=.ref w.2.2.2/\w.2.2.1≠D1/\H2 w.2.2.2=some (.tup [.ref w.2.2.1,.int w.2.1])/\H2 w.2.2.1=some (.lst (w.1.map V.int))/\∀qs d,fX[i]?=some qs->ds[i]?=some d->WlP T B m qs d w) zs iH
  have ez:zs=ws.map (fun w=>V.ref w.2.2.2):=by
   refine aeK fun i=>?_;rw [aaa];by_cases hi:i<zs.length
   ·have e1:zs[i]?=some zs[i]:=gE hi
    have e2:ws[i]?=some (ws[i]'(by omega)):=gE (by omega);have h:=(hw i _ _ e1 e2).1;rw [e1,e2,h];rfl
   ·rw [aaz (by omega),aaz (by omega)]
    rfl
  subst ez;have QW:ws.length=fX.length:=by omega
  have Xj:∀(i:Nat)(w:Wl),ws[i]?=some w->H2 w.2.2.2=some (.tup [.ref w.2.2.1,.int w.2.1])/\H2 w.2.2.1=some (.lst (w.1.map V.int))/\∀qs d,fX[i]?=some qs->ds[i]?=some d->WlP T B m qs d w:=fun i w e=>(hw i _ w (by rw [aaa,e];rfl) e).2.2
  have wp:∀(i:Nat)(w:Wl),ws[i]?=some w->∃qs d,fX[i]?=some qs/\ds[i]?=some d/\WlP T B m qs d w:=fun i w e=>by
   have hi:i<ws.length:=(Wp.mp e).1;obtain ⟨qs,eq⟩:∃qs,fX[i]?=some qs:=⟨_,gE (by omega)⟩;obtain ⟨d,ed⟩:∃d,ds[i]?=some d:=⟨_,gE (by omega)⟩;exact ⟨qs,d,eq,ed,(Xj i w e).2.2 qs d eq ed⟩
  have QX:∀l∈ws.map (·.1),l.length=m+1:=fun l hl=>by
   obtain ⟨w,VE,rfl⟩:=aar.mp hl;obtain ⟨i,e⟩:=abh VE;obtain ⟨qs,d,eq,_,wh,_⟩:=wp i w e;have:=wh.1;rw [aba,(sh qs (aaq eq)).1] at this;exact this
  have wbd:∀l∈ws.map (·.1),Bd (T+B*(m+1)) l:=fun l hl=>by
   obtain ⟨w,VE,rfl⟩:=aar.mp hl;obtain ⟨i,e⟩:=abh VE;obtain ⟨qs,d,eq,_,_,_,_,h⟩:=wp i w e;exact Bd.of h
  have hlm:(ws.map (·.1)).length=fX.length:=by rw [ir];exact QW
  refine ⟨_,rfl,D1,rfl,⟨_,aT.of hD1⟩,fun D2 n2=>?_⟩;refine dG (cap:=[]) (K:=K) (a:=D1) (xs:=ws.map (fun w=>V.ref w.2.2.2)) (fun k v _=>∃w,ws[k]?=some w/\v=.ref w.2.2.1) n2 (by rw [ir];exact aaZ (show ws.length<=1000 by omega) (by decide)) (fun H3 s3=>aT.of (s3 _ _ hD1)) (fun _ _ _ _ _ _ _ h=>h) ?_ ?_
  ·intro k x H3 RR ex s3 kk
   rw [aaa] at ex;obtain ⟨w,ew,rfl⟩:=aaB.mp ex;exact ⟨_,rfl,w.2.2.2,_,_,_,rfl,rfl,bQ.of (s3 _ _ (Xj k w ew).1),iU,kk _ _ (ao.refl _) ⟨w,ew,rfl⟩⟩
  intro ys H3 hy ZD s3 ZE
  have ey:ys=(ws.map (fun w=>w.2.2.1)).map V.ref:=by
   refine aeK fun i=>?_;rw [ir] at hy;by_cases hi:i<ys.length
   ·have e1:ys[i]?=some ys[i]:=gE hi
    obtain ⟨w,e2,e3⟩:=ZD i _ e1;rw [e1,e3,aaa,aaa,e2];rfl
   ·rw [aaz (by omega),aaz (by simp;omega)]
  subst ey
  have hLl:sX H3 ((ws.map (fun w=>w.2.2.1)).map V.ref) (ws.map (·.1)):=⟨by simp,fun i u l e1 e2=>by
   rw [aaa,aaa] at e1;rw [aaa] at e2;cases e:ws[i]? with
   | none=>rw [e] at e2;cases e2
   | some w=>
    rw [e] at e1 e2;cases e1;cases e2
    exact ⟨w.2.2.1,rfl,s3 _ _ (Xj i w e).2.1⟩⟩
  have hMm:js H3 D2 (ws.map (fun w=>w.2.2.1)) ((ws.map (·.1)).map fun l=>l.map V.int):=⟨ZE,by simp,fun i l vs e1 e2=>by
   rw [aaa] at e1;rw [aaa,aaa] at e2;cases e:ws[i]? with
   | none=>rw [e] at e2;cases e2
   | some w=>
    rw [e] at e1 e2;cases e1;cases e2
    exact s3 _ _ (Xj i w e).2.1⟩
  have mn:bb (T+B*(m+1)) (min m (ws.map (·.1)).length)<=Z:=aay (vN _ (by rw [hlm];omega)) hZ;have s23:=s2.trans s3;refine ⟨_,rfl,_,rfl,D2,_,ws.map (·.1),m,T+B*(m+1),rfl,aT.of ZE,hLl,QX,by omega,by omega,wbd,aay mn hZ1,fun l0 H4 s4 l0l cm l00 l0m=>?_,fun x mI xs H4 s4 nx hx nxs lxs sxs sol=>?_⟩
  ·refine ⟨_,rfl,rfl,_,rfl,bB (fun z=>by simp at z) (fun _=>?_)⟩
   have M4:=hMm.same s4;refine ⟨_,rfl,_,rfl,_,_,rfl,rfl,D2,ws.map (fun w=>w.2.2.1),_,(m:Int)+1,rfl,M4,by omega,by omega,by rw [ir];omega,fun vs hvs=>?_,fun c cs H5 s5 M5=>?_⟩
   ·obtain ⟨l,hl,rfl⟩:=aar.mp hvs
    rw [ir,QX l hl];omega
   have lcs:cs.length=m+1:=by
    have:=M5.2.1;unfold jo at this;simp at this;omega
   have col:∀k,k<m+1->∃l,cs[k]?=some l/\H5 l=some (.lst (((ws.map (·.1)).map fun l=>l.getD k 0).map V.int)):=fun k hk=>by
    have e:(jo ((ws.map (·.1)).map fun l=>l.map V.int) ((m:Int)+1).toNat)[k]?=some (((ws.map (·.1)).map fun l=>l.getD k 0).map V.int):=by
     rw [<-Nv QX hk];unfold jo;rw [aaa,aeW (by omega)];rfl
    exact M5.row e
   refine ⟨_,rfl,_,rfl,_,rfl,c,_,rfl,aT.of M5.1,fun p6 n6=>?_⟩;have t6:=aE n6 (.lst (iD (cs.map V.ref) none (some (m:Int))));refine ⟨p6,rfl,⟨_,aT.of ah⟩,fun D6 nD6=>?_⟩;have lcl:((ws.map (·.1)).map fun l=>l.getD 0 0).length<=100:=by simp;omega
   refine qU (cap:=[]) (K:=K) (a:=p6) (xs:=(cs.map V.ref).take m) (fun k v H=>∃p,v=.ref p/\p≠D6/\H p=some (.lst ((List.map (fun l:List Int=>l.getD k 0) (ws.map (fun w:Wl=>w.1))++[(0:Int)]).map V.int))) nD6 (aaZ (show ((cs.map V.ref).take m).length<=1000 by simp;omega) (by decide)) (fun H7 s7=>aT.of (s7 _ _ (by rw [ah,mH (by simp;omega)]))) ?_ ?_ ?_
   ·rintro k v H7 H8 ys hD ks ⟨p,e1,e2,e3⟩
    exact ⟨p,e1,e2,ks _ _ e2 e3⟩
   ·rintro k x H7 RR ex s7 ⟨ys0,Ku⟩ kk
    have hk:k<m:=by have:=(Wp.mp ex).1;simp at this;omega
    obtain ⟨l,el,hl⟩:=col k (by omega);rw [List.getElem?_take,abC hk,aaa,el] at ex;cases ex;refine ⟨_,rfl,z1L,fun pz nz=>?_⟩;have tz:=aE nz (.lst [.int 0]);refine ⟨l,pz,_,_,rfl,rfl,tz _ _ (s7 _ _ (t6 _ _ hl)),ah,aay (show _<=1000 by simp;omega) (by decide),fun pn nn=>?_⟩;have tn:=aE nn (.lst (((ws.map (·.1)).map fun l=>l.getD k 0).map V.int++[.int 0]));refine kk _ _ (tz.trans tn) ⟨pn,rfl,fun z=>?_,by rw [ah,abq];rfl⟩;have:=tz _ _ Ku;rw [z,this] at nn;cases nn
   intro O3 H7 hy6 ZF s7 hD6;have ly6:O3.length=m:=by rw [hy6];simp;omega
   have t67:=t6.trans s7;obtain ⟨lm,elm,agU⟩:=col m (by omega);refine ⟨_,rfl,_,rfl,c,_,_,_,rfl,rfl,aT.of (t67 _ _ M5.1),bG (by rw [aaa,elm];rfl),z1L,fun pz nz=>?_⟩;have tz:=aE nz (.lst [.int 1]);refine ⟨lm,pz,_,_,rfl,rfl,tz _ _ (t67 _ _ agU),ah,aay (show _<=1000 by simp;omega) (by decide),fun pn nn=>?_⟩;have tn:=aE nn (.lst (((ws.map (·.1)).map fun l=>l.getD m 0).map V.int++[.int 1]));refine ⟨z1L,fun pL nL=>?_⟩;have tL:=aE nL (.lst [V.ref pn]);have tzL:=(tz.trans tn).trans tL;refine ⟨D6,pL,O3,_,rfl,rfl,tzL _ _ hD6,ah,aay (show O3.length+1<=1000 by omega) (by decide),fun pP nP=>?_⟩;have tP:=aE nP (.lst (O3++[V.ref pn]));have s7P:=tzL.trans tP;have hpn:=tP _ _ (tL _ _ (ah (H:=upd H7 pz (.lst [.int 1])) (a:=pn) (o:=.lst (((ws.map (·.1)).map fun l=>l.getD m 0).map V.int++[.int 1]))));have eP:upd (upd (upd (upd H7 pz (.lst [.int 1])) pn (.lst (((ws.map (·.1)).map fun l=>l.getD m 0).map V.int++[.int 1]))) pL (.lst [V.ref pn])) pP (.lst (O3++[V.ref pn])) pP=some (.lst (O3++[V.ref pn])):=ah
   have agV:∀(k:Nat)(v:V),O3[k]?=some v->Ln H7 v (((ws.map (·.1)).map fun l=>l.getD k 0)++[0]):=fun k v e=>by
    obtain ⟨p,e1,_,e3⟩:=ZF k v e;exact ⟨p,e1,e3⟩
   have s5P:=t67.trans s7P;generalize upd (upd (upd (upd H7 pz (.lst [.int 1])) pn (.lst (((ws.map (·.1)).map fun l=>l.getD m 0).map V.int++[.int 1]))) pL (.lst [V.ref pn])) pP (.lst (O3++[V.ref pn]))=H9 at*
   have agW:sX H9 (O3++[V.ref pn]) (AA m (ws.map (·.1))):=by
    refine ⟨by simp [AA,ly6],fun k u l e1 e2=>?_⟩;unfold AA at e2;by_cases hk:k<m
    ·rw [aby (by omega)] at e1
     rw [aby (by simpa using hk),aaa,aeW hk] at e2;cases e2;exact (agV k u e1).same s7P
    ·rw [abx (by omega)] at e1
     rw [abx (by simp;omega)] at e2;by_cases hkm:k=m
     ·subst hkm
      rw [show k-O3.length=0 by omega] at e1;rw [show k-((aev k).map fun j=>((ws.map (·.1)).map fun l=>l.getD j 0)++[0]).length=0 by simp] at e2;cases e1;cases e2;exact ⟨pn,rfl,by rw [hpn,abq];rfl⟩
     ·rw [aaz (by simp;omega)] at e1
      cases e1
   have ppl:∀o∈AA m (ws.map (·.1)),o.length=fX.length+1:=fun o ho=>by
    rcases vQ ho with ⟨k,hk,e⟩
    rw [e.1];simp [QW]
   have ppb:∀o∈AA m (ws.map (·.1)),Bd (T+B*(m+1)) o:=fun o ho=>by
    rcases vQ ho with ⟨k,hk,e,hc⟩
    rw [e];refine Bd.of fun t ht=>?_
    rcases abj.mp ht with z|z
    ·obtain ⟨l,hl,rfl⟩:=aar.mp z
     exact wbd l hl k
    ·rw [abg.mp z]
     refine aay ?_ (agq (n:=T+B*(m+1)));split<;>decide
   have lpp:(AA m (ws.map (·.1))).length=m+1:=by simp [AA]
   have mn2:bb (T+B*(m+1)) (min fX.length (AA m (ws.map (·.1))).length)<=Z:=aay (vN _ (by rw [lpp];omega)) hZ;have s39:=(s4.trans s5).trans s5P;refine ⟨_,rfl,_,rfl,D2,_,rfl,.inl (aT.of (s39 _ _ ZE)),pP,_,AA m (ws.map (·.1)),fX.length,T+B*(m+1),by simp [QW],aT.of eP,agW,ppl,by omega,by omega,ppb,aay mn2 hZ1,fun l1 OU uB l1l cm1 ZG l1m=>?_,fun x2 Nq ss OU uB nx2 hx2 nss lss sss agY=>?_⟩
   ·exact abM (BM QX QW cm l00 l0m cm1 l1l ZG ppl) l1m
   have csm:∀k,k<m+1->fG (ss.map vl) (ws.map (·.1)) k=if k=m then 1 else 0:=fun k hk=>by
    have e:=agY _ (VC hk);rw [AZ k _ (ws.map (·.1)) (ss.map vl) (by simp [QW,lss])] at e;by_cases z:k=m
    ·rw [abC z] at e ⊢
     have e':((1:Int):Rat)=1:=by simp
     rw [e'] at e;grind
    ·rw [abB z] at e ⊢
     have e':((0:Int):Rat)=0:=by simp
     rw [e'] at e;grind
   have VF:=s39.trans uB;have ZH:=VF _ _ (s3 _ _ hD1);have azV:=nss.1;refine ⟨_,rfl,_,rfl,x2,D1,rfl,⟨_,aT.of hx2⟩,⟨_,aT.of ZH⟩,fun D9 n9=>?_⟩;refine xZ (cap:=[]) (K:=K) (xs:=Nq) (ys:=ws.map (fun w=>V.ref w.2.2.2)) (fun k v H=>∃w q,ws[k]?=some w/\ss[k]?=some q/\Nm H v (low (q.1*w.2.1) q.2)) n9 (aaZ (show Nq.length<=1000 by omega) (by decide)) (by rw [ir];omega) (fun Mi z9=>aT.of (z9 _ _ hx2)) (fun Mi z9=>aT.of (z9 _ _ ZH)) ?_ ?_ ?_
   ·rintro k v Mi H12 ys hD ks ⟨w,q,e1,e2,e3⟩
    exact ⟨w,q,e1,e2,e3.kept hD ks⟩
   ·intro k x y Mi RR ex ey z9 kk
    obtain ⟨q,VG,ps,rfl,hps⟩:=nss.at ex;rw [aaa] at ey;obtain ⟨w,ew,rfl⟩:=aaB.mp ey;obtain ⟨qs,d,eqs,ZI,wh,wb,wbs,_⟩:=wp k w ew;have sq:=sss q (aaq VG);have hw1:=z9 _ _ (VF _ _ (s3 _ _ (Xj k w ew).1));have ZJ:=Ty.ao.cQ z9 hps;exact ⟨_,rfl,ps,_,_,_,rfl,rfl,ZJ,iU,_,rfl,w.2.2.2,_,_,_,rfl,rfl,bQ.of hw1,iu,_,_,rfl,rfl,f' (qT sq.top mn2) wbs (by omega),_,rfl,ps,_,_,_,rfl,rfl,ZJ,iu,_,_,rfl,by have:=sq.pos;omega,fun p8 H8 s8 e8=>kk _ _ s8 ⟨w,q,ew,VG,p8,rfl,e8⟩⟩
   intro us9 Mi h9 ZK z9 hD9;refine ⟨z2L,fun p12 ZL=>?_⟩;have lW:=aE ZL (.tup [.str "paper",.ref D9]);have yat:∀(k:Nat)(w:Wl)(q:Int×Int),ws[k]?=some w->ss[k]?=some q->(aeU (fun (w:Wl) (q:Int×Int)=>low (q.1*w.2.1) q.2) ws ss)[k]?=some (low (q.1*w.2.1) q.2):=fun k w q e1 e2=>by rw [afj,e1,e2]
   have Nw:(aeU (fun (w:Wl) (q:Int×Int)=>low (q.1*w.2.1) q.2) ws ss).length=fX.length:=by simp [QW,lss]
   have vly:∀(k:Nat)(w:Wl)(q y:Int×Int),ws[k]?=some w->ss[k]?=some q->(aeU (fun (w:Wl) (q:Int×Int)=>low (q.1*w.2.1) q.2) ws ss)[k]?=some y->vl y=vl q*w.2.1:=fun k w q y e1 e2 e3=>by
    rw [yat k w q e1 e2] at e3;cases e3;have sq:=sss q (aaq e2);rw [vB (by have:=sq.pos;omega)];unfold vl;push_cast;grind
   refine q2 p12 D9 us9 (aeU (fun (w:Wl) (q:Int×Int)=>low (q.1*w.2.1) q.2) ws ss) _ (((s23.trans VF).trans z9).trans lW) ah (lW _ _ hD9) ⟨by rw [h9,Nw];omega,fun k u y e1 e2=>?_⟩ Nw (fun y hy=>?_) (fun j hj=>?_) ?_
   ·obtain ⟨w,q,ew,VG,p,e,hp⟩:=ZK k u e1
    rw [yat k w q ew VG] at e2;cases e2;exact ⟨p,e,bQ.of (lW _ _ hp)⟩
   ·obtain ⟨k,hk⟩:=abh hy
    have hkl:k<fX.length:=by rw [<-Nw];exact (Wp.mp hk).1
    obtain ⟨w,ew⟩:∃w,ws[k]?=some w:=⟨_,gE (by omega)⟩;obtain ⟨q,VG⟩:∃q,ss[k]?=some q:=⟨_,gE (by omega)⟩;rw [yat k w q ew VG] at hk;cases hk;obtain ⟨qs,d,eqs,ZI,wh,wb,wbs,_⟩:=wp k w ew;have sq:=sss q (aaq VG);exact FI (by have:=sq.pos;omega) (vC (qT sq.top mn2) wbs) (qT sq.bot mn2)
   ·rw [rC j (ws:=ws) (ss:=ss) (by omega) (by rw [Nw,QW]) (by simp [cW,QW]) vly ?_,csm j (by omega),abB (by omega)]
    intro k w cq ew ec;obtain ⟨qs,d,eqs,ZI,wh,_⟩:=wp k w ew;unfold cW at ec;rw [aaa,eqs] at ec;cases ec;exact Kw wh (by rw [(sh qs (aaq eqs)).1];exact hj)
   ·rw [rC m (ws:=ws) (ss:=ss) (by omega) (by rw [Nw,QW]) (by omega) vly ?_,csm m (by omega),abC rfl]
    intro k w cq ew ec;obtain ⟨qs,d,eqs,ZI,wh,_⟩:=wp k w ew;rw [ec] at ZI;cases ZI;exact BN wh (sh qs (aaq eqs)).1
  ·refine ⟨_,rfl,rfl,_,rfl,bB (fun _=>?_) (fun z=>by simp at z)⟩
   refine ⟨_,rfl,z2L,fun p5 n5=>?_⟩;have s5:=aE n5 (.tup [.str "solved",.ref x]);refine q1 p5 x mI xs _ ((s23.trans s4).trans s5) ah (s5 _ _ hx) (nxs.same s5) lxs (fun q hq=>(sxs q hq).up mn mn) (fun i qs d eq ed=>?_);have hi:i<fX.length:=(Wp.mp eq).1;obtain ⟨w,ew⟩:∃w,ws[i]?=some w:=⟨_,gE (by omega)⟩;obtain ⟨wh,wb,_⟩:=(Xj i w ew).2.2 qs d eq ed;have e0:=sol w.1 (aar.mpr ⟨w,aaq ew,rfl⟩);rw [ye wh (by rw [lxs,(sh qs (aaq eq)).1])] at e0;have wb':=dD (b:=w.2.1) (by omega);grind
inductive lj (K:Frag)(f:Int×Int->Int×Int->Int×Int)(vs:ζ)(H:Hp)(Q:VK)(E_:XK):Prop
|mk (u v:V)(x y:Int×Int)(_:vs=[u,v])(_:jw K H u x)(_:jw K H v y)(_:Zj 8000000 x)(_:Zj 8000000 y)(_:gives H Q (f x y))
def Kx:av zab zab (ae g9):=sq
def Ky (hM:qP CX)(D:Def K mg "sum_of" g9 zab)(vP:Fn P w K mg base CX 33 "lowest_terms" zar fW):Fn P w K mg base CX 34 "sum_of" zab (lj K addQ):=by
 refine D.op Kx fun f ck A outer s H vs Q E hr h=>?_;obtain ⟨u,v,x,y,rfl,⟨p1,rfl,h1⟩,⟨p2,rfl,h2⟩,k1,k2,q⟩:=h;have px:=kI (X:=jD CX P w K mg base zab "sum_of" (ae g9) f ck A outer s H E) hM;refine ⟨_,(ag (aC (jm vP hr.mo px (aI (ay bC (ay cu (aF (pv 0)) (aF (pv 1))) (ay cu (aF (pv 1)) (aF (pv 0)))) (ay cu (aF (pv 0)) (aF (pv 1))))))),?_⟩;have b1:=k1.top;have b2:=k1.bot;have b3:=k2.top;have b4:=k2.bot;have c:∀{i j:Int},intBits i<=8000000->intBits j<=8000000->qN i j:=fun a b=>⟨aay a (by decide),aay b (by decide)⟩;exact ⟨_,rfl,p1,_,_,_,rfl,rfl,h1,iU,_,rfl,p2,_,_,_,rfl,rfl,h2,iu,_,_,rfl,rfl,c b1 b4,_,rfl,p2,_,_,_,rfl,rfl,h2,iU,_,rfl,p1,_,_,_,rfl,rfl,h1,iu,_,_,rfl,rfl,c b3 b2,_,_,rfl,rfl,_,rfl,p1,_,_,_,rfl,rfl,h1,iu,_,rfl,p2,_,_,_,rfl,rfl,h2,iu,_,_,rfl,rfl,c b2 b4,_,_,rfl,vL k1 k2,q⟩
def ZM:av zab zab (ae BI):=sq
def ZN (hM:qP CX)(D:Def K mg "difference_of" BI zab)(vP:Fn P w K mg base CX 33 "lowest_terms" zar fW):Fn P w K mg base CX 34 "difference_of" zab (lj K subQ):=by
 refine D.op ZM fun f ck A outer s H vs Q E hr h=>?_;obtain ⟨u,v,x,y,rfl,⟨p1,rfl,h1⟩,⟨p2,rfl,h2⟩,k1,k2,q⟩:=h;have px:=kI (X:=jD CX P w K mg base zab "difference_of" (ae BI) f ck A outer s H E) hM;refine ⟨_,(ag (aC (jm vP hr.mo px (aI (ay cG (ay cu (aF (pv 0)) (aF (pv 1))) (ay cu (aF (pv 1)) (aF (pv 0)))) (ay cu (aF (pv 0)) (aF (pv 1))))))),?_⟩;have b1:=k1.top;have b2:=k1.bot;have b3:=k2.top;have b4:=k2.bot;have c:∀{i j:Int},intBits i<=8000000->intBits j<=8000000->qN i j:=fun a b=>⟨aay a (by decide),aay b (by decide)⟩;exact ⟨_,rfl,p1,_,_,_,rfl,rfl,h1,iU,_,rfl,p2,_,_,_,rfl,rfl,h2,iu,_,_,rfl,rfl,c b1 b4,_,rfl,p2,_,_,_,rfl,rfl,h2,iU,_,rfl,p1,_,_,_,rfl,rfl,h1,iu,_,_,rfl,rfl,c b3 b2,_,_,rfl,rfl,_,rfl,p1,_,_,_,rfl,rfl,h1,iu,_,rfl,p2,_,_,_,rfl,rfl,h2,iu,_,_,rfl,rfl,c b2 b4,_,_,rfl,vL k1 k2,q⟩
def tK:av zab zab (ae dz):=sq
def tN (hM:qP CX)(D:Def K mg "product_of" dz zab)(vP:Fn P w K mg base CX 33 "lowest_terms" zar fW):Fn P w K mg base CX 34 "product_of" zab (lj K mulQ):=by
 refine D.op tK fun f ck A outer s H vs Q E hr h=>?_;obtain ⟨u,v,x,y,rfl,⟨p1,rfl,h1⟩,⟨p2,rfl,h2⟩,k1,k2,q⟩:=h;have px:=kI (X:=jD CX P w K mg base zab "product_of" (ae dz) f ck A outer s H E) hM;refine ⟨_,(ag (aC (jm vP hr.mo px (aI (ay cu (aF (pv 0)) (aF (pv 1))) (ay cu (aF (pv 0)) (aF (pv 1))))))),?_⟩;have b1:=k1.top;have b2:=k1.bot;have b3:=k2.top;have b4:=k2.bot;have c:∀{i j:Int},intBits i<=8000000->intBits j<=8000000->qN i j:=fun a b=>⟨aay a (by decide),aay b (by decide)⟩;exact ⟨_,rfl,p1,_,_,_,rfl,rfl,h1,iU,_,rfl,p2,_,_,_,rfl,rfl,h2,iU,_,_,rfl,rfl,c b1 b3,_,rfl,p1,_,_,_,rfl,rfl,h1,iu,_,rfl,p2,_,_,_,rfl,rfl,h2,iu,_,_,rfl,rfl,c b2 b4,_,_,rfl,vL k1 k2,q⟩
inductive iI (K:Frag)(f:Rat->Rat->Rat)(vs:ζ)(H:Hp)(Q:VK)(E_:XK):Prop
|mk (u v:V)(x y:Rat)(_:vs=[u,v])(_:cU K H u x)(_:cU K H v y)(_:Sz 8000000 x)(_:Sz 8000000 y)(_:gives H Q (qr (f x y)))
def oi (h:Sz k r):Zj k (qr r):=⟨cI r,h.top,h.bot⟩
def VH (F:Fn P w K mg base CX k x ps (lj K addQ)):Fn P w K mg base CX k x ps (iI K fun a b=>a+b):=by
 obtain ⟨f,fd,G,r⟩:=F.ex;refine ⟨f,fd,G.imp fun vs H Q E h=>?_,r⟩;obtain ⟨u,v,a,b,e,h1,h2,k1,k2,q⟩:=h;refine ⟨u,v,qr a,qr b,e,h1,h2,oi k1,oi k2,?_⟩;unfold addQ;rw [MS];exact q
def VI (F:Fn P w K mg base CX k x ps (lj K subQ)):Fn P w K mg base CX k x ps (iI K fun a b=>a-b):=by
 obtain ⟨f,fd,G,r⟩:=F.ex;refine ⟨f,fd,G.imp fun vs H Q E h=>?_,r⟩;obtain ⟨u,v,a,b,e,h1,h2,k1,k2,q⟩:=h;refine ⟨u,v,qr a,qr b,e,h1,h2,oi k1,oi k2,?_⟩;unfold subQ;rw [MU];exact q
def VJ (F:Fn P w K mg base CX k x ps (lj K mulQ)):Fn P w K mg base CX k x ps (iI K fun a b=>a*b):=by
 obtain ⟨f,fd,G,r⟩:=F.ex;refine ⟨f,fd,G.imp fun vs H Q E h=>?_,r⟩;obtain ⟨u,v,a,b,e,h1,h2,k1,k2,q⟩:=h;refine ⟨u,v,qr a,qr b,e,h1,h2,oi k1,oi k2,?_⟩;unfold mulQ;rw [MV];exact q
def Ny (K:Frag)(H:Hp)(Q:VK)(p:Rat×Rat):Prop:=∀(v:V)(H':Hp),ao H H' ->gc K H' v p->Q v H'
inductive vR (K:Frag)(f:Rat->Rat->Rat)(vs:ζ)(H:Hp)(Q:VK)(E_:XK):Prop
|mk (u v:V)(x y:Rat×Rat)(_:vs=[u,v])(_:gc K H u x)(_:gc K H v y)(_:Sz 8000000 x.1)(_:Sz 8000000 x.2)(_:Sz 8000000 y.1)(_:Sz 8000000 y.2)(_:Ny K H Q (f x.1 y.1,f x.2 y.2))
def ZO:av zab zab (ae BJ):=sq
def ZP (hM:qP CX)(D:Def K mg "pair_difference" BJ zab)(ZQ:Fn P w K mg base CX 34 "difference_of" zab (iI K fun a b=>a-b)):Fn P w K mg base CX 35 "pair_difference" zab (vR K fun a b=>a-b):=by
 refine D.op ZO fun f ck A outer s H vs Q E hr h=>?_;obtain ⟨u,v,x,y,rfl,⟨p1,a1,a2,rfl,h1,n1,n2⟩,⟨p2,b1,b2,rfl,h2,m1,m2⟩,k1,k2,l1,l2,q⟩:=h;have px:=kI (X:=(jD (aZ P w) P w K mg base zab "pair_difference" (ae BJ) f ck A outer s H E)) hM;refine ⟨_,(ag (aC (aV (aI (jm ZQ hr.mo px (aI (aF (pv 0)) (aF (pv 1)))) (jm ZQ hr.mo px (aI (aF (pv 0)) (aF (pv 1)))))))),_,rfl,p1,_,_,_,rfl,rfl,h1,iU,_,rfl,p2,_,_,_,rfl,rfl,h2,iU,a1,b1,_,_,rfl,n1,m1,k1,l1,fun c1 H1 s1 e1=>?_⟩;refine ⟨_,rfl,p1,_,_,_,rfl,rfl,Ty.ao.cQ s1 h1,iu,_,rfl,p2,_,_,_,rfl,rfl,Ty.ao.cQ s1 h2,iu,a2,b2,_,_,rfl,n2.same s1,m2.same s1,k2,l2,fun c2 H2 s2 e2=>?_⟩;refine ⟨z2L,fun c3 n3=>?_⟩;have s3:=aE n3 (.tup [.ref c1,.ref c2]);exact q (.ref c3) _ (fun b o z=>s3 _ _ (s2 _ _ (s1 _ _ z))) ⟨c3,_,_,rfl,bQ.of ah,⟨c1,rfl,bQ.of (s3 _ _ (s2 _ _ e1))⟩,⟨c2,rfl,bQ.of (s3 _ _ e2)⟩⟩
def ZR (x y:Rat×Rat):Rat:=x.1*y.1+x.2*y.2
inductive Nz (K:Frag)(vs:ζ)(H:Hp)(Q:VK)(E_:XK):Prop
|mk (u v:V)(x y:Rat×Rat)(_:vs=[u,v])(_:gc K H u x)(_:gc K H v y)(_:Sz 3000000 x.1)(_:Sz 3000000 x.2)(_:Sz 3000000 y.1)(_:Sz 3000000 y.2)(_:gives H Q (qr (ZR x y)))
def pR:av zab zab (ae cC):=sq
def pS (hM:qP CX)(D:Def K mg "pair_product" cC zab)(rF:Fn P w K mg base CX 34 "sum_of" zab (iI K fun a b=>a+b))(dB:Fn P w K mg base CX 34 "product_of" zab (iI K fun a b=>a*b)):Fn P w K mg base CX 35 "pair_product" zab (Nz K):=by
 refine D.op pR fun f ck A outer s H vs Q E hr h=>?_;obtain ⟨u,v,x,y,rfl,⟨p1,a1,a2,rfl,h1,n1,n2⟩,⟨p2,b1,b2,rfl,h2,m1,m2⟩,k1,k2,l1,l2,q⟩:=h;have px:=kI (X:=(jD (aZ P w) P w K mg base zab "pair_product" (ae cC) f ck A outer s H E)) hM;refine ⟨_,(ag (aC (jm rF hr.mo px (aI (jm dB hr.mo px (aI (aF (pv 0)) (aF (pv 1)))) (jm dB hr.mo px (aI (aF (pv 0)) (aF (pv 1)))))))),_,rfl,p1,_,_,_,rfl,rfl,h1,iU,_,rfl,p2,_,_,_,rfl,rfl,h2,iU,a1,b1,_,_,rfl,n1,m1,k1.up (by decide),l1.up (by decide),fun c1 H1 s1 e1=>?_⟩;refine ⟨_,rfl,p1,_,_,_,rfl,rfl,Ty.ao.cQ s1 h1,iu,_,rfl,p2,_,_,_,rfl,rfl,Ty.ao.cQ s1 h2,iu,a2,b2,_,_,rfl,n2.same s1,m2.same s1,k2.up (by decide),l2.up (by decide),fun c2 H2 s2 e2=>?_⟩;refine ⟨.ref c1,.ref c2,_,_,rfl,⟨c1,rfl,bQ.of (s2 _ _ e1)⟩,⟨c2,rfl,bQ.of e2⟩,(k1.mul l1).up (by decide),(k2.mul l2).up (by decide),fun c3 H3 s3 e3=>?_⟩;exact q c3 H3 (fun b o z=>s3 _ _ (s2 _ _ (s1 _ _ z))) e3
inductive vS (K:Frag)(C:abA)(vs:ζ)(H:Hp)(Q:VK)(E_:XK):Prop
|mk (a dx:abA)(_:vs=[.ref a])(_:H a=some (.ins C dx []))(_:∀(pP pW pB:abA)(H':Hp),bw a H H' ->H pP=none->H pW=none->H pB=none->fS K H' C a dx pP pW pB [] [] [] [] []->Q .cT H')
def QY :fF "pin_places" x []=([("pin_places",x)]:List (Str×V)):=rfl
def QZ :fF "pin_ways" y [("pin_places",x)]=([("pin_places",x),("pin_ways",y)]:List (Str×V)):=by
 simp only [fF];rw [abB (by decide)]
def Q0 :fF "bar_ends" z [("pin_places",x),("pin_ways",y)]=([("pin_places",x),("pin_ways",y),("bar_ends",z)]:List (Str×V)):=by
 simp only [fF];rw [abB (by decide),abB (by decide)]
def ZS:av zai zai (ae Kg):=sq
def ZT (F:qe K "__init__" "Frame.__init__" Kg f fd)(fc:Lg K C):am P w K mg base 1 f fd zai (vS K C):=by
 refine gu F ZS fun H hr h=>?_;obtain ⟨a,dx,rfl,ha,q⟩:=h
 refine ⟨_,(aa (ve (pv 0) dc rfl) (aa (ve (pv 0) dc rfl) (ag (ve (pv 0) dc rfl)))),?_⟩
 intro pP nP;have aP:a≠pP:=ak ha nP;refine ⟨_,rfl,a,C,dx,_,rfl,(by rw [aj aP];exact ha),fc.cls,fc.pl,(by show 0<1000;decide),?_⟩;rw [QY];generalize e1:upd (upd H pP (.dK [])) a (.ins C dx [("pin_places",.ref pP)])=H1;have o1:H1 a=some (.ins C dx [("pin_places",.ref pP)]):=by rw [<-e1,ah]
 have p1:H1 pP=some (.dK []):=by rw [<-e1,aj (aeD aP),ah]
 have k1:∀b o,b≠a->H b=some o->H1 b=some o:=fun b o n e=>by rw [<-e1,aj n,aj (ak e nP)];exact e
 intro pW nW;have aW:a≠pW:=ak o1 nW;refine ⟨_,rfl,a,C,dx,_,rfl,(by rw [aj aW];exact o1),fc.cls,fc.wy,(by show 1<1000;decide),?_⟩;rw [QZ];generalize e2:upd (upd H1 pW (.dK [])) a (.ins C dx [("pin_places",.ref pP),("pin_ways",.ref pW)])=H2;have PW:pP≠pW:=ak p1 nW;have o2:H2 a=some (.ins C dx [("pin_places",.ref pP),("pin_ways",.ref pW)]):=by rw [<-e2,ah]
 have w2:H2 pW=some (.dK []):=by rw [<-e2,aj (aeD aW),ah]
 have k2:∀b o,b≠a->H1 b=some o->H2 b=some o:=fun b o n e=>by rw [<-e2,aj n,aj (ak e nW)];exact e
 intro pB nB;have aB:a≠pB:=ak o2 nB;have p2:=k2 _ _ (aeD aP) p1;refine ⟨_,rfl,a,C,dx,_,rfl,(by rw [aj aB];exact o2),fc.cls,fc.br,(by show 2<1000;decide),?_⟩;rw [Q0];have PB:pP≠pB:=ak p2 nB;have WB:pW≠pB:=ak w2 nB;have k3:∀b o,b≠a->H2 b=some o->(upd (upd H2 pB (.dK [])) a (.ins C dx [("pin_places",.ref pP),("pin_ways",.ref pW),("bar_ends",.ref pB)])) b=some o:=fun b o n e=>by rw [aj n,aj (ak e nB)];exact e
 have f1:∀b,b≠a->H1 b=none->H b=none:=fun b n e=>by
  cases z:H b with
  | none=>rfl
  | some o=>rw [k1 b o n z] at e;cases e
 have f2:∀b,b≠a->H2 b=none->H b=none:=fun b n e=>by
  cases z:H b with
  | none=>rfl
  | some o=>rw [k2 b o n (k1 b o n z)] at e;cases e
 refine q pP pW pB _ (fun b o n e=>k3 b o n (k2 b o n (k1 b o n e))) nP (f1 _ (aeD aW) nW) (f2 _ (aeD aB) nB) ⟨ah,k3 _ _ (aeD aP) p2,k3 _ _ (aeD aW) w2,?_,PW,PB,WB,.nil,.nil⟩;rw [aj (aeD aB),ah]
inductive jM (K:Frag)(C:abA)(vs:ζ)(H:Hp)(Q:VK)(E_:XK):Prop
|mk (a dx pP pW pB:abA)(ps:Κ)(bs:Δ)(kP kW kB:γ)(_:vs=[.ref a])(_:fS K H C a dx pP pW pB ps bs kP kW kB)(_:∀(l:abA)(H':Hp),ao H H' ->H l=none->H' l=some (.lst ((bs.map (·.1)).map V.str))->Q (.ref l) H')
def ZU:av zai zai (ae Km):=sq
def ZV (F:qe K "bars" "Frame.bars" Km f fd)(fc:Lg K C)(cf:mg "list"=none):am P w K mg base 1 f fd zai (jM K C):=by
 refine gu F ZU fun H hr h=>?_;obtain ⟨a,dx,pP,pW,pB,ps,bs,kP,kW,kB,rfl,R,q⟩:=h;refine ⟨_,(ag (aC (bO (fQ rfl) rfl cf iE (aX (dJ (pv 0) rfl))))),_,rfl,a,C,dx,_,_,rfl,R.obj,fc.cls,fc.br,rfl,pB,kB,rfl,.inl R.br,fun l nl=>?_⟩;refine q l _ (aE nl _) nl ?_;rw [ah]
 have e:kB.map (fun kv=>kV kv.1)=(bs.map (·.1)).map V.str:=by
  have z:kB.map (fun kv=>kV kv.1)=(kB.map (·.1)).map kV:=by rw [ab_];rfl
  rw [z,R.mB,ab_];rfl
 rw [e]
inductive ja (K:Frag)(C:abA)(vs:ζ)(H:Hp)(Q:VK)(E_:XK):Prop
|mk (a dx pP pW pB:abA)(ps:Κ)(bs:Δ)(kP kW kB:γ)(_:vs=[.ref a])(_:fS K H C a dx pP pW pB ps bs kP kW kB)(_:∀(l:abA)(H':Hp),ao H H' ->H l=none->H' l=some (.lst ((ps.map (·.1)).map V.str))->Q (.ref l) H')
def ZW:av zai zai (ae Kl):=sq
def ZX (F:qe K "pins" "Frame.pins" Kl f fd)(fc:Lg K C)(cf:mg "list"=none):am P w K mg base 1 f fd zai (ja K C):=by
 refine gu F ZW fun H hr h=>?_;obtain ⟨a,dx,pP,pW,pB,ps,bs,kP,kW,kB,rfl,R,q⟩:=h;refine ⟨_,(ag (aC (bO (fQ rfl) rfl cf iE (aX (dJ (pv 0) rfl))))),_,rfl,a,C,dx,_,_,rfl,R.obj,fc.cls,fc.pl,rfl,pP,kP,rfl,.inl R.pl,fun l nl=>?_⟩;refine q l _ (aE nl _) nl ?_;rw [ah]
 have e:kP.map (fun kv=>kV kv.1)=(ps.map (·.1)).map V.str:=by
  have z:kP.map (fun kv=>kV kv.1)=(kP.map (·.1)).map kV:=by rw [ab_];rfl
  rw [z,R.EN,ab_];rfl
 rw [e]
inductive fY (K:Frag)(C:abA)(vs:ζ)(H:Hp)(Q:VK)(E_:XK):Prop
|mk (a dx pP pW pB:abA)(ps:Κ)(bs:Δ)(kP kW kB:γ)(x:Str)(_:vs=[.ref a,.str x])(_:fS K H C a dx pP pW pB ps bs kP kW kB)(_:x∈ps.map (·.1))(_:Q .cT H)
def ZY:av zal zal (ae Kj):=sq
def ZZ (F:qe K "check_pin" "Frame.check_pin" Kj f fd)(fc:Lg K C):am P w K mg base 1 f fd zal (fY K C):=by
 refine gu F ZY fun H hr h=>?_;obtain ⟨a,dx,pP,pW,pB,ps,bs,kP,kW,kB,x,rfl,R,hx,q⟩:=h;refine ⟨_,(ag (bu (qE (nH (bH hr) (pv 1) (dJ (pv 0) rfl))) (ag (c6)) aQ)),_,rfl,_,rfl,a,C,dx,_,_,rfl,R.obj,fc.cls,fc.pl,rfl,pP,_,rfl,dh.k (k:=.inr x) R.pl,_,rfl,?_⟩;rw [R.pin x,abU hx];exact q
inductive qt (K:Frag)(C:abA)(vs:ζ)(H:Hp)(Q:VK)(E_:XK):Prop
|mk (a dx pP pW pB:abA)(ps:Κ)(bs:Δ)(kP kW kB:γ)(x:Str)(p:Pt)(_:vs=[.ref a,.str x])(_:fS K H C a dx pP pW pB ps bs kP kW kB)(_:(ps.map (·.1)).Nodup)(_:(x,p)∈ps)(_:∀v,Spot K H v p->Q v H)
def Z0:av zal zal (ae Kn):=sq
def Z1 (F:qe K "place" "Frame.place" Kn f fd)(fc:Lg K C)(MC:ad P w K mg base 1 C "check_pin" zal (fY K C)):am P w K mg base 2 f fd zal (qt K C):=by
 refine gu F Z0 fun H hr h=>?_;obtain ⟨a,dx,pP,pW,pB,ps,bs,kP,kW,kB,x,p,rfl,R,nd,hx,q⟩:=h
 refine ⟨_,(aa (bN (eC (k:=1) (pv 0) hr.mo (IT P w) (aX (pv 1)))) (ag (aC (cY (bH hr) (dJ (pv 0) rfl) (pv 1) (fun _ _=>rfl))))),?_⟩
 refine ⟨_,rfl,a,C,dx,_,_,_,rfl,R.obj,rfl,MC,_,rfl,a,dx,pP,pW,pB,ps,bs,kP,kW,kB,x,rfl,R,aar.mpr ⟨_,hx,rfl⟩,?_⟩;obtain ⟨v,ev,hv⟩:=R.place nd hx;exact ⟨_,rfl,a,C,dx,_,_,rfl,R.obj,fc.cls,fc.pl,rfl,_,rfl,pP,v,rfl,(by rw [<-ev];exact dh.k (k:=.inr x) R.pl),q v hv⟩
inductive rG (K:Frag)(C:abA)(vs:ζ)(H:Hp)(Q:VK)(E_:XK):Prop
|mk (a dx pP pW pB:abA)(ps:Κ)(bs:Δ)(kP kW kB:γ)(x one other:Str)(_:vs=[.ref a,.str x])(_:fS K H C a dx pP pW pB ps bs kP kW kB)(_:(bs.map (·.1)).Nodup)(_:(x,one,other)∈bs)(_:∀p,Rd H p (.tup [.str one,.str other])->Q (.ref p) H)
def Z2:av zaM zaM (ae Kp):=sq
def Z3 (F:qe K "ends" "Frame.ends" Kp f fd)(fc:Lg K C):am P w K mg base 1 f fd zaM (rG K C):=by
 refine gu F Z2 fun H hr h=>?_;obtain ⟨a,dx,pP,pW,pB,ps,bs,kP,kW,kB,x,one,other,rfl,R,nd,hx,q⟩:=h
 refine ⟨_,(aa (bu (qE (nH (bH hr) (pv 1) (dJ (pv 0) rfl))) (ag (c6)) aQ) (ag (aC (cY (bH hr) (dJ (pv 0) rfl) (pv 1) (fun _ _=>rfl))))),?_⟩
 have hm:x∈bs.map (·.1):=aar.mpr ⟨_,hx,rfl⟩;refine ⟨_,rfl,_,rfl,a,C,dx,_,_,rfl,R.obj,fc.cls,fc.br,rfl,pB,_,rfl,dh.k (k:=.inr x) R.br,_,rfl,?_⟩;rw [R.bar x,abU hm];obtain ⟨p,ev,hv⟩:=R.ends nd hx;exact ⟨_,rfl,a,C,dx,_,_,rfl,R.obj,fc.cls,fc.br,rfl,_,rfl,pB,.ref p,rfl,(by rw [<-ev];exact dh.k (k:=.inr x) R.br),q p hv⟩
inductive rH (K:Frag)(C:abA)(vs:ζ)(H:Hp)(Q:VK)(E_:XK):Prop
|mk (a dx pP pW pB:abA)(ps:Κ)(bs:Δ)(kP kW kB:γ)(pw:Ρ)(x:Str)(ws:Θ)(_:vs=[.ref a,.str x])(_:fS K H C a dx pP pW pB ps bs kP kW kB)(_:vG K H pw kW)(_:(pw.map (·.1)).Nodup)(_:(x,ws)∈pw)(_:x∈ps.map (·.1))(_:∀(l:abA)(us:ζ)(H':Hp),ao H H' ->H l=none->H' l=some (.lst us)->ku K H' us ws->Q (.ref l) H')
def Z4:av zal zal (ae Ko):=sq
def Z5 (F:qe K "ways" "Frame.ways" Ko f fd)(fc:Lg K C)(cf:mg "list"=none)(MC:ad P w K mg base 1 C "check_pin" zal (fY K C)):am P w K mg base 2 f fd zal (rH K C):=by
 refine gu F Z4 fun H hr h=>?_;obtain ⟨a,dx,pP,pW,pB,ps,bs,kP,kW,kB,pw,x,ws,rfl,R,W,nd,hx,hp,q⟩:=h
 refine ⟨_,(aa (bN (eC (k:=1) (pv 0) hr.mo (IT P w) (aX (pv 1)))) (ag (aC (bO kX rfl cf iE (aX (cY (bH hr) (dJ (pv 0) rfl) (pv 1) (fun _ _=>rfl))))))),?_⟩
 refine ⟨_,rfl,a,C,dx,_,_,_,rfl,R.obj,rfl,MC,_,rfl,a,dx,pP,pW,pB,ps,bs,kP,kW,kB,x,rfl,R,hp,?_⟩;obtain ⟨v,ev,l,us,el,hl,pt⟩:=i_ W nd hx;have el':v=.ref l:=el;subst el';exact ⟨_,rfl,a,C,dx,_,_,rfl,R.obj,fc.cls,fc.wy,rfl,_,rfl,pW,.ref l,rfl,(by rw [<-ev];exact dh.k (k:=.inr x) R.wy),l,us,rfl,aT.of hl,fun l2 n2=>q l2 us _ (aE n2 _) n2 ah (pt.same (aE n2 _))⟩
def VL (K:Frag)(H:Hp)(Q:VK)(ws:Θ):Prop:=∀(l:abA)(us:ζ)(H':Hp),ao H H' ->H l=none->H' l=some (.lst us)->ku K H' us ws->Q (.ref l) H'
def mL (h:(qr x).1=0):x=0:=by
 have:=d_ x;unfold vl at this;rw [h] at this;have z:=yk (r:=x);have e:((0:Int):Rat)=0:=by rfl
 rw [e] at this;grind
inductive vT (K:Frag)(C:abA)(vs:ζ)(H:Hp)(Q:VK)(E_:XK):Prop
|mk (a dx:abA)(ux uy:V)(x y:Rat)(_:vs=[.ref a,ux,uy])(_:H a=some (.ins C dx []))(_:cU K H ux x)(_:cU K H uy y)(_:¬ (x=0/\y=0))(_:∀p,H p=none->Q .cT (upd (upd H p (.tup [ux,uy])) a (.ins C dx [("way",.ref p)])))
def Z6:av zaH zaH (ae Kq):=sq
def Z7 (F:qe K "__init__" "Roller.__init__" Kq f fd)(cl:xK K C)(nw:gU K C "way"):am P w K mg base 1 f fd zaH (vT K C):=by
 refine gu F Z6 fun H hr h=>?_;obtain ⟨a,dx,ux,uy,x,y,rfl,ha,⟨p1,rfl,h1⟩,⟨p2,rfl,h2⟩,nz,q⟩:=h;have sz:(2:Nat)<=abE:=by decide
 refine ⟨_,(aa (bu (PW.pt (va (bx e_ (aF (pv 1)) af) (qa (bx e_ (aF (pv 2)) af)))) (ag (c6)) aQ) (ag (ve (pv 0) (aV (aI (pv 1) (pv 2))) rfl))),?_⟩
 refine ⟨_,rfl,p1,_,_,_,rfl,rfl,h1,iU,rfl,_,rfl,?_⟩;refine bB (fun c1=>?_) (fun c1=>?_)
 ·have e1:(qr x).1=0:=by simpa using abS c1
  refine ⟨_,rfl,p2,_,_,_,rfl,rfl,h2,iU,rfl,_,rfl,?_⟩;refine bB (fun c2=>?_) (fun c2=>?_)
  ·have e2:(qr y).1=0:=by simpa using abS c2
   exact abM ⟨mL e1,mL e2⟩ nz
  ·exact ⟨_,rfl,_,rfl,sz,fun p hp=>⟨_,rfl,a,C,dx,[],rfl,(by rw [aj (ak ha hp)];exact ha),cl,nw,(by show 0<1000;decide),q p hp⟩⟩
 ·refine Qp ?_
  exact ⟨_,rfl,_,rfl,sz,fun p hp=>⟨_,rfl,a,C,dx,[],rfl,(by rw [aj (ak ha hp)];exact ha),cl,nw,(by show 0<1000;decide),q p hp⟩⟩
inductive mM (K:Frag)(C:abA)(vs:ζ)(H:Hp)(Q:VK)(E_:XK):Prop
|mk (a dx p:abA)(w:Rat×Rat)(_:vs=[.ref a])(_:H a=some (.ins C dx [("way",.ref p)]))(_:gc K H (.ref p) w)(_:VL K H Q [w])
def Z8:av zai zai (ae Kr):=sq
def Z9 (F:qe K "ways" "Roller.ways" Kr f fd)(cl:xK K C)(nw:gU K C "way"):am P w K mg base 1 f fd zai (mM K C):=by
 refine gu F Z8 fun H hr h=>?_;obtain ⟨a,dx,p,w,rfl,ha,hw,q⟩:=h;refine ⟨_,(ag (aC (cg (aX (dJ (pv 0) rfl))))),_,rfl,a,C,dx,_,.ref p,rfl,ha,cl,nw,(by simp),z1L,fun l hl=>?_⟩;exact q l [.ref p] _ (aE hl _) hl ah (.cons (hw.same (aE hl _)) .nil)
inductive mN (K:Frag)(vs:ζ)(H:Hp)(Q:VK)(E_:XK):Prop
|mk (a:abA)(_:vs=[.ref a])(_:VL K H Q [(1,0),(0,1)])
def vU:qr 1=(1,1):=by
 have:=kZ 1;simpa using this
def dI:qr 0=(0,1):=by
 have:=kZ 0;simpa using this
def FJ (ea:qr a=x)(eb:qr b=y)(h:H p=some (.tup [.ref p1,.ref p2]))(h1:H p1=some (.tup [.int x.1,.int x.2]))(h2:H p2=some (.tup [.int y.1,.int y.2])):gc K H (.ref p) (a,b):=
 ⟨p,.ref p1,.ref p2,rfl,bQ.of h,⟨p1,rfl,by rw [ea];exact bQ.of h1⟩,⟨p2,rfl,by rw [eb];exact bQ.of h2⟩⟩
def Z_:av zai zai (ae Ks):=sq
def Z' (F:qe K "ways" "Fixed.ways" Ks f fd):am P w K mg base 1 f fd zai (mN K):=by
 refine gu F Z_ fun H hr h=>?_;obtain ⟨a,rfl,q⟩:=h;have sz:(2:Nat)<=abE:=by decide
 refine ⟨_,(ag (aC (cg (aI (aV (aI (aV (aI af af)) (aV (aI af af)))) (aV (aI (aV (aI af af)) (aV (aI af af)))))))),sz,fun p1 n1=>?_⟩;have s1:=aE n1 (.tup [.int 1,.int 1]);have e1:upd H p1 (.tup [.int 1,.int 1]) p1=some (.tup [.int 1,.int 1]):=ah;generalize upd H p1 (.tup [.int 1,.int 1])=H1 at s1 e1 ⊢;refine ⟨sz,fun p2 n2=>?_⟩;have s2:=aE n2 (.tup [.int 0,.int 1]);have e2:upd H1 p2 (.tup [.int 0,.int 1]) p2=some (.tup [.int 0,.int 1]):=ah;generalize upd H1 p2 (.tup [.int 0,.int 1])=H2 at s2 e2 ⊢;refine ⟨sz,fun p3 n3=>?_⟩;have s3:=aE n3 (.tup [.ref p1,.ref p2]);have e3:upd H2 p3 (.tup [.ref p1,.ref p2]) p3=some (.tup [.ref p1,.ref p2]):=ah;generalize upd H2 p3 (.tup [.ref p1,.ref p2])=H3 at s3 e3 ⊢;refine ⟨sz,fun p4 n4=>?_⟩;have s4:=aE n4 (.tup [.int 0,.int 1]);have e4:upd H3 p4 (.tup [.int 0,.int 1]) p4=some (.tup [.int 0,.int 1]):=ah;generalize upd H3 p4 (.tup [.int 0,.int 1])=H4 at s4 e4 ⊢;refine ⟨sz,fun p5 n5=>?_⟩;have s5:=aE n5 (.tup [.int 1,.int 1]);have e5:upd H4 p5 (.tup [.int 1,.int 1]) p5=some (.tup [.int 1,.int 1]):=ah;generalize upd H4 p5 (.tup [.int 1,.int 1])=H5 at s5 e5 ⊢;refine ⟨sz,fun p6 n6=>?_⟩;have s6:=aE n6 (.tup [.ref p4,.ref p5]);have e6:upd H5 p6 (.tup [.ref p4,.ref p5]) p6=some (.tup [.ref p4,.ref p5]):=ah;generalize upd H5 p6 (.tup [.ref p4,.ref p5])=H6 at s6 e6 ⊢;refine ⟨sz,fun l nl=>?_⟩;have s7:=aE nl (.lst [.ref p3,.ref p6]);have e7:upd H6 l (.lst [.ref p3,.ref p6]) l=some (.lst [.ref p3,.ref p6]):=ah;generalize upd H6 l (.lst [.ref p3,.ref p6])=H7 at s7 e7 ⊢;have FK:=s1.trans (s2.trans (s3.trans (s4.trans (s5.trans s6))));have w1:gc K H7 (.ref p3) (1,0):=FJ vU dI (s7 _ _ (s6 _ _ (s5 _ _ (s4 _ _ e3)))) (s7 _ _ (s6 _ _ (s5 _ _ (s4 _ _ (s3 _ _ (s2 _ _ e1)))))) (s7 _ _ (s6 _ _ (s5 _ _ (s4 _ _ (s3 _ _ e2)))));have w2:gc K H7 (.ref p6) (0,1):=FJ dI vU (s7 _ _ e6) (s7 _ _ (s6 _ _ (s5 _ _ e4))) (s7 _ _ (s6 _ _ e5));exact q l [.ref p3,.ref p6] H7 (FK.trans s7) (FK.free nl) e7 (.cons w1 (.cons w2 .nil))
def Tt (P:abQ)(w:World)(K:Frag)(mg:ν)(base:Heap)(H:Hp)(hv:V)(ws:Θ):Prop:=(hv=.cT/\ws=[])\/∃(h Ch dxh:abA)(Xk:List (Str×V))(psh:ψ)(sph:Sp),hv=.ref h/\H h=some (.ins Ch dxh Xk)/\Xk.lookup ("ways":Str)=none/\ad P w K mg base 2 Ch "ways" psh sph/\(∀H1,H1 h=some (.ins Ch dxh Xk)->aY H H1->∀Q',VL K H1 Q' ws->sph [.ref h] H1 Q' E0)
inductive fZ (P:abQ)(w:World)(K:Frag)(mg:ν)(base:Heap)(C:abA)(vs:ζ)(H:Hp)(Q:VK)(E_:XK):Prop
|mk (a dx pP pW pB:abA)(ps:Κ)(bs:Δ)(kP kW kB:γ)(pw:Ρ)(x:Str)(u v hv:V)(p:Pt)(ws:Θ)(_:vs=[.ref a,.str x,u,v,hv])(_:fS K H C a dx pP pW pB ps bs kP kW kB)(_:vG K H pw kW)(_:pw.map (·.1)=ps.map (·.1))(_:jw K H u p.1)(_:jw K H v p.2)(_:x∉ps.map (·.1))(_:(∀z∈ps,z.2≠p))(_:ps.length<24)(_:Tt P w K mg base H hv ws)(_:∀(H':Hp)(NA yj :γ),(∀b o,b≠pP->b≠pW->H b=some o->H' b=some o)->fS K H' C a dx pP pW pB (ps++[(x,p)]) bs NA yj kB->vG K H' (pw++[(x,ws)]) yj ->Q .cT H')
def NC:av ["self","name","x","y","hold","pin","spot"] zaw (ae pQ):=sq
def aab (F:Vh K "put_pin" "Frame.put_pin" pQ f fd)(fc:Lg K C)(VM:mg "MOST_PINS"=some (.int 24 tkP))(aU:mg "len"=none)(cf:mg "list"=none):am P w K mg base 3 f fd zaw (fZ P w K mg base C):=by
 refine MO F NC (fun vs H Q E h=>?_) (fun ck A outer s H vs Q E hr h=>?_)
 ·obtain ⟨a,dx,pP,pW,pB,ps,bs,kP,kW,kB,pw,x,u,v,hv,p,ws,rfl,_⟩:=h
  rfl
 obtain ⟨a,dx,pP,pW,pB,ps,bs,kP,kW,kB,pw,x,u,v,hvv,p,ws,rfl,R,W,ew,hu,hv,hx,hs,hl,hH,q⟩:=h
 refine ⟨_,(aa (bu (qE (Mu (bH hr) (pv 1) (dJ (pv 0) rfl))) (ag (c6)) aQ) (aa (j6 (bq abI rfl (mz (dJ (pv 0) rfl)) (fE rfl (a_ (bP 5 NC.nd) (a_ (bP 6 NC.nd) cX))) (ag (bu (bx (D' hr.units) (pv 6) (aV (aI (pv 2) (pv 3)))) (ag (c6)) aQ)))) (aa (bu (bx S0 (aH nO rfl aU bS (aX (dJ (pv 0) rfl))) (fC (v:=.int 24) rfl VM ⟨_,rfl⟩)) (ag (c6)) aQ) (aa (cx (bH hr) (dJ (pv 0) rfl) (pv 1) (aV (aI (pv 2) (pv 3))) rfl) (ag (cx (bH hr) (dJ (pv 0) rfl) (pv 1) (xE (bx LU (pv 4) qD) (cg jC) (bO kX rfl cf iE (aX (eR (k:=2) (pv 4) hr.mo (pY P w))))) rfl)))))),?_⟩;dsimp only [cxr,jD,Cx.xw,Cx.tu];refine sq4 ?_;intros
 refine ⟨_,rfl,_,rfl,a,C,dx,_,_,rfl,R.obj,fc.cls,fc.pl,rfl,pP,_,rfl,dh.k (k:=.inr x) R.pl,_,rfl,?_⟩;rw [R.pin x,ab1 hx];have lk:kP.length=ps.length:=(abL R.rp).symm;refine ⟨_,rfl,a,C,dx,_,_,rfl,R.obj,fc.cls,fc.pl,rfl,pP,kP,rfl,R.pl,fun o=>?_⟩;have k0:bw pP H (upd H pP (.fB o (.dK kP))):=fun b o' n e=>by rw [aj n];exact e
 refine let I:zIv:=fun t σ H'=>EZ fun (o2 o3:Α)=>σ=[ap a,some (.str x),some u,some v,some hvv,o2,o3]/\bw pP H H'/\H' pP=some (.fB o (.dK kP));j0 (d:=pP) (o:=o) (kvs:=kP) I ⟨none,none,rfl,k0,ah⟩ (fun t σ H' _ h=>by
   obtain ⟨_,_,_,_,h⟩:=h
   exact h) ?_ ?_
 ·rintro t k y σ H6 p7 uS ⟨o2,o3,rfl,k6,Kz⟩ n7
  obtain ⟨z,ez,hz1,Y7⟩:=aA (cO R.rp) uS;have ag3 :k=.inr z.1:=hz1;subst ag3
  have s6:aY H H6:=fun b xs r=>by
   rcases r with r|⟨o',r⟩
   ·exact .inl (k6 _ _ (fun e=>by rw [e,R.pl] at r;cases r) r)
   ·exact .inr ⟨o',k6 _ _ (fun e=>by rw [e,R.pl] at r;cases r) r⟩
  have s7:=aE n7 (.tup [kV (.inr z.1),y]);have s67:aY H (upd H6 p7 (.tup [kV (.inr z.1),y])):=s6.trans (.of s7);refine ⟨p7,_,rfl,bQ.of ah,rfl,_,_,rfl,_,_,rfl,rfl,_,rfl,_,rfl,_,rfl,z2L,fun t8 n8=>?_⟩;have s8:=aE n8 (.tup [u,v]);have QV:aY H (upd (upd H6 p7 (.tup [kV (.inr z.1),y])) t8 (.tup [u,v])):=s67.trans (.of s8);refine ⟨fN z.2,fN p,.inl ⟨(Spot.aJ Y7 QV).is,(Spot.is (p:=p) ⟨t8,u,v,rfl,bQ.of ah,hu.aJ QV,hv.aJ QV⟩)⟩,oP _ _,uJ _,?_⟩;rw [yh];refine ⟨_,rfl,bB (fun c=>abM (abS c) (hs z (aaq ez))) (fun _=>?_)⟩;exact ⟨_,_,rfl,fun b o' n e=>s8 _ _ (s7 _ _ (k6 b o' n e)),s8 _ _ (s7 _ _ Kz)⟩
 ·rintro σ H1 ⟨o2,o3,rfl,k1,NF⟩
  refine ⟨pP,o,kP,NF,fun o' u' z=>(by have z':H pP=some (.fB o' u'):=z;rw [R.pl] at z';cases z'),?_⟩
  have s2:ao H (upd H1 pP (.dK kP)):=fun b o' e=>by
   by_cases n:b=pP
   ·subst n
    rw [R.pl] at e;rw [ah];exact e
   ·rw [aj n]
    exact k1 b o' n e
  generalize upd H1 pP (.dK kP)=H2 at s2 ⊢;have R2:=R.same s2;refine ⟨_,rfl,a,C,dx,_,_,rfl,R2.obj,fc.cls,fc.pl,rfl,pP,kP,rfl,.inl R2.pl,_,_,rfl,rfl,_,rfl,?_⟩;refine bB (fun c=>?_) (fun _=>?_)
  ·have c':(24:Int)<=(kP.length:Int):=abS c
   omega
  refine ⟨_,rfl,_,rfl,z2L,fun t nt=>?_⟩;have s3:=aE nt (.tup [u,v]);have R3:=R2.same s3;have hu3:=(hu.same s2).same s3;have hv3:=(hv.same s2).same s3;refine ⟨_,rfl,a,C,dx,_,_,rfl,R3.obj,fc.cls,fc.pl,rfl,_,rfl,pP,_,rfl,gI.k (k:=.inr x) R3.pl (aaZ (show kP.length<=1000 by omega) (by decide)),?_⟩;have e:putK kP (.inr x) (.ref t)=kP++[(.inr x,.ref t)]:=dE _ (bZ (by rw [R.EN];exact fun z=>hx (gJ.mp z)));rw [e];have R4:=R3.Vj (x:=x) (p:=p) (t:=t) ⟨t,u,v,rfl,bQ.of ah,hu3,hv3⟩;have k4:∀b o,b≠pP->H b=some o->(upd (upd H2 t (.tup [u,v])) pP (.dK (kP++[(.inr x,.ref t)]))) b=some o:=fun b o n e=>by rw [aj n];exact s3 _ _ (s2 _ _ e)
  generalize upd (upd H2 t (.tup [u,v])) pP (.dK (kP++[(.inr x,.ref t)]))=H4 at R4 k4 ⊢
  have lw:kW.length=ps.length:=by
   have e1:kW.length=pw.length:=(abL W).symm;have e2:=abR afb ew;rw [ir,ir] at e2;omega
  have t4:aY H H4:=fun b xs r=>by
   rcases r with r|⟨o',r⟩
   ·exact .inl (k4 _ _ (fun e=>by rw [e,R.pl] at r;cases r) r)
   ·exact .inr ⟨o',k4 _ _ (fun e=>by rw [e,R.pl] at r;cases r) r⟩
  have W4:vG K H4 pw kW:=Paired.bV W fun _ _ z=>⟨z.1,by
   obtain ⟨l,us,e1,e2,e3⟩:=z.2
   exact ⟨l,us,e1,k4 _ _ (fun e=>by rw [e,R.pl] at e2;cases e2) e2,e3.aJ t4⟩⟩
  refine ⟨_,rfl,rfl,_,rfl,?_⟩
  rcases hH with ⟨rfl,rfl⟩|⟨h,Ch,dxh,Xk,psh,sph,rfl,hh,hlk,MH,zZ⟩
  ·refine bB (fun _=>?_) (fun c=>abM (by decide) c)
   refine ⟨by show 0<=abE;decide,fun l2 n6=>?_⟩;have s6:=aE n6 (.lst []);have R6:=R4.same s6;have W6:=W4.same s6;refine ⟨_,rfl,a,C,dx,_,_,rfl,R6.obj,fc.cls,fc.wy,rfl,_,rfl,pW,_,rfl,gI.k (k:=.inr x) R6.wy (aaZ (show kW.length<=1000 by omega) (by decide)),?_⟩;have ek:putK kW (.inr x) (.ref l2)=kW++[(.inr x,.ref l2)]:=dE _ (bZ (by rw [W.keys,ew];exact fun z=>hx (gJ.mp z)));rw [ek];have ne6:l2≠pW:=fun z=>by have h:=R6.wy;rw [<-z,ah] at h;cases h
   exact q _ _ _ (fun b o n1 n2 e=>by rw [aj n2];exact s6 _ _ (k4 b o n1 e)) (R6.EO _) (aiB (W6.dict R6.wy) ⟨rfl,l2,[],rfl,by rw [aj ne6,ah],.nil⟩)
  have h4:H4 h=some (.ins Ch dxh Xk):=k4 _ _ (fun e=>by rw [e,R.pl] at hh;cases hh) hh;refine bB (fun c=>abM (abS c) (fun z=>nomatch z)) (fun _=>?_);refine ⟨_,rfl,h,Ch,dxh,Xk,psh,sph,rfl,h4,hlk,MH,zZ H4 h4 t4 _ fun l1 us H5 s5 n5 e5 p5=>?_⟩;refine ⟨l1,us,rfl,aT.of e5,fun l2 n6=>?_⟩;have s6:=aE n6 (.lst us);have R6:=(R4.same s5).same s6;have W6:=(W4.same s5).same s6;refine ⟨_,rfl,a,C,dx,_,_,rfl,R6.obj,fc.cls,fc.wy,rfl,_,rfl,pW,_,rfl,gI.k (k:=.inr x) R6.wy (aaZ (show kW.length<=1000 by omega) (by decide)),?_⟩;have ek:putK kW (.inr x) (.ref l2)=kW++[(.inr x,.ref l2)]:=dE _ (bZ (by rw [W.keys,ew];exact fun z=>hx (gJ.mp z)));rw [ek];have FL:ao H4 (upd H5 l2 (.lst us)):=fun b o z=>s6 _ _ (s5 _ _ z);refine q _ _ _ (fun b o n1 n2 e=>by rw [aj n2];exact FL _ _ (k4 b o n1 e)) (R6.EO _) ?_;have ne6:l2≠pW:=fun z=>by have h:=R6.wy;rw [<-z,ah] at h;cases h
  exact aiB (W6.dict R6.wy) ⟨rfl,l2,us,rfl,by rw [aj ne6,ah],(p5.same s6).aJ (.dict R6.wy)⟩
inductive jb (K:Frag)(C:abA)(vs:ζ)(H:Hp)(Q:VK)(E_:XK):Prop
|mk (a dx pP pW pB:abA)(ps:Κ)(bs:Δ)(kP kW kB:γ)(x one other:Str)(_:vs=[.ref a,.str x,.str one,.str other])(_:fS K H C a dx pP pW pB ps bs kP kW kB)(_:x∉bs.map (·.1))(_:one∈ps.map (·.1))(_:other∈ps.map (·.1))(_:one≠other)(_:bs.length<60)(_:Q .cT H)
def aac:av zaf zaf (ae Ki):=sq
def aad (F:qe K "check_bar" "Frame.check_bar" Ki f fd)(fc:Lg K C)(VN:mg "MOST_BARS"=some (.int 60 tkB))(aU:mg "len"=none)
  (MC:ad P w K mg base 1 C "check_pin" zal (fY K C)):am P w K mg base 2 f fd zaf (jb K C):=by
 refine gu F aac fun H hr h=>?_;obtain ⟨a,dx,pP,pW,pB,ps,bs,kP,kW,kB,x,one,other,rfl,R,hx,h1,h2,ne,hl,q⟩:=h
 refine ⟨_,(aa (bu (qE (Mu (bH hr) (pv 1) (dJ (pv 0) rfl))) (ag (c6)) aQ) (aa (bN (eC (k:=1) (pv 0) hr.mo (IT P w) (aX (pv 2)))) (aa (bN (eC (k:=1) (pv 0) hr.mo (IT P w) (aX (pv 3)))) (aa (bu (bx e_ (pv 2) (pv 3)) (ag (c6)) aQ) (ag (bu (bx S0 (aH nO rfl aU bS (aX (dJ (pv 0) rfl))) (fC (v:=.int 60) rfl VN ⟨_,rfl⟩)) (ag (c6)) aQ)))))),?_⟩
 refine ⟨_,rfl,_,rfl,a,C,dx,_,_,rfl,R.obj,fc.cls,fc.br,rfl,pB,_,rfl,dh.k (k:=.inr x) R.br,_,rfl,?_⟩;rw [R.bar x,ab1 hx];refine ⟨_,rfl,a,C,dx,_,_,_,rfl,R.obj,rfl,MC,_,rfl,a,dx,pP,pW,pB,ps,bs,kP,kW,kB,one,rfl,R,h1,_,rfl,a,C,dx,_,_,_,rfl,R.obj,rfl,MC,_,rfl,a,dx,pP,pW,pB,ps,bs,kP,kW,kB,other,rfl,R,h2,_,rfl,_,rfl,rfl,_,rfl,bB (fun c=>abM (by simpa [m7] using c) ne) (fun _=>?_)⟩;have lk:kB.length=bs.length:=(abL R.rb).symm;refine ⟨_,rfl,a,C,dx,_,_,rfl,R.obj,fc.cls,fc.br,rfl,pB,kB,rfl,.inl R.br,_,_,rfl,rfl,_,rfl,bB (fun c=>?_) (fun _=>q)⟩;have c':(60:Int)<=(kB.length:Int):=abS c;omega
inductive jN (K:Frag)(C:abA)(vs:ζ)(H:Hp)(Q:VK)(E_:XK):Prop
|mk (a dx pP pW pB:abA)(ps:Κ)(bs:Δ)(kP kW kB:γ)(x one other:Str)(_:vs=[.ref a,.str x,.str one,.str other])(_:fS K H C a dx pP pW pB ps bs kP kW kB)(_:x∉bs.map (·.1))(_:one∈ps.map (·.1))(_:other∈ps.map (·.1))(_:one≠other)(_:bs.length<60)(_:∀(H':Hp)(NG :γ),bw pB H H' ->fS K H' C a dx pP pW pB ps (bs++[(x,one,other)]) kP kW NG ->Q .cT H')
def aae:av zaf zaf (ae Kh):=sq
def aaf (F:qe K "put_bar" "Frame.put_bar" Kh f fd)(fc:Lg K C)
  (MC:ad P w K mg base 2 C "check_bar" zaf (jb K C)):am P w K mg base 3 f fd zaf (jN K C):=by
 refine EM F aae (fun vs H Q E h=>?_) (fun ck A outer s H vs Q E hr h=>?_)
 ·obtain ⟨a,dx,pP,pW,pB,ps,bs,kP,kW,kB,x,one,other,rfl,_⟩:=h
  rfl
 obtain ⟨a,dx,pP,pW,pB,ps,bs,kP,kW,kB,x,one,other,rfl,R,hx,h1,h2,ne,hl,q⟩:=h
 refine ⟨_,(aa (bN (eC (k:=2) (pv 0) hr.mo (pY P w) (bD (pv 1) (pv 2) (pv 3)))) (ag (cx (bH hr) (dJ (pv 0) rfl) (pv 1) (aV (aI (pv 2) (pv 3))) rfl))),?_⟩
 refine ⟨_,rfl,a,C,dx,_,_,_,rfl,R.obj,rfl,MC,_,rfl,_,rfl,_,rfl,a,dx,pP,pW,pB,ps,bs,kP,kW,kB,x,one,other,rfl,R,hx,h1,h2,ne,hl,_,rfl,_,rfl,z2L,fun t nt=>?_⟩;have s:=aE nt (.tup [.str one,.str other]);have R':=R.same s;have lk:kB.length=bs.length:=(abL R.rb).symm;refine ⟨_,rfl,a,C,dx,_,_,rfl,R'.obj,fc.cls,fc.br,rfl,_,rfl,pB,_,rfl,gI.k (k:=.inr x) R'.br (aaZ (show kB.length<=1000 by omega) (by decide)),?_⟩;have e:putK kB (.inr x) (.ref t)=kB++[(.inr x,.ref t)]:=dE _ (bZ (by rw [R.mB];exact fun z=>hx (gJ.mp z)));rw [e];refine q _ _ (fun b o n z=>?_) (R'.Vi (.inl ah));rw [aj n];exact s _ _ z
inductive j_ (K:Frag)(C:abA)(vs:ζ)(H:Hp)(Q:VK)(E_:XK):Prop
|mk (a dx pP pW pB:abA)(ps:Κ)(bs:Δ)(kP kW kB:γ)(x:Str)(_:vs=[.ref a,.str x])(_:fS K H C a dx pP pW pB ps bs kP kW kB)(_:x∈bs.map (·.1))(_:∀(H':Hp)(NG :γ),bw pB H H' ->fS K H' C a dx pP pW pB ps (bs.filter fun b=>decide (b.1≠x)) kP kW NG ->Q .cT H')
def aag:av zaP zaP (ae Kk):=sq
def aah (F:qe K "take_bar" "Frame.take_bar" Kk f fd)(fc:Lg K C):am P w K mg base 1 f fd zaP (j_ K C):=by
 refine gu F aag fun H hr h=>?_;obtain ⟨a,dx,pP,pW,pB,ps,bs,kP,kW,kB,x,rfl,R,hx,q⟩:=h
 refine ⟨_,(aa (bu (qE (nH (bH hr) (pv 1) (dJ (pv 0) rfl))) (ag (c6)) aQ) (ag (bN (Mv (dJ (pv 0) rfl) (pv 1) ⟨rfl,rfl,rfl,rfl⟩)))),?_⟩
 refine ⟨_,rfl,_,rfl,a,C,dx,_,_,rfl,R.obj,fc.cls,fc.br,rfl,pB,_,rfl,dh.k (k:=.inr x) R.br,_,rfl,?_⟩;rw [R.bar x,abU hx];obtain ⟨v,ev⟩:=j7 (kvs:=kB) (k:=.inr x) (by rw [R.mB];exact gJ.mpr hx);exact ⟨_,rfl,a,C,dx,_,_,rfl,R.obj,fc.cls,fc.br,rfl,pB,rfl,.inl ⟨_,.inl R.br⟩,_,rfl,kB,.inr x,v,R.br,rfl,ev,q _ _ (fun b o n z=>by rw [aj n];exact z) (R.QD x)⟩
def jt (p q:aw):Rat×Rat:=(q.sp.1-p.sp.1,q.sp.2-p.sp.2)
inductive FN (K:Frag)(C:abA)(vs:ζ)(H:Hp)(Q:VK)(E_:XK):Prop
|mk (a:abA)(pins:ι)(bars:ς)(p q:aw)(_:vs=[.ref a,.str p.nm,.str q.nm])(_:sW K H C a pins bars)(_:cV pins bars)(_:p∈pins)(_:q∈pins)(_:Ny K H Q (jt p q))
def Tu {pins:ι}(h:(pins.map (·.nm)).Nodup):((pins.map fun p=>(p.nm,xy p.sp)).map (·.1)).Nodup:=by
 rw [ab_];exact h
def Tv {pins:ι}(h:(pins.map (·.nm)).Nodup):((pins.map fun p=>(p.nm,p.ws)).map (·.1)).Nodup:=by
 rw [ab_];exact h
def Tw {bars:ς}(h:(bars.map (·.nm)).Nodup):((bars.map fun b=>(b.nm,b.one.nm,b.other.nm)).map (·.1)).Nodup:=by
 rw [ab_];exact h
def aai:av zam zam (ae IV):=sq
def aaj (D:Def K mg "arm_between" IV zam)(MP:ad P w K mg base 2 C "place" zal (qt K C))(VO:ac P w K mg base 35 "pair_difference" zab (vR K fun a b=>a-b)):ac P w K mg base 36 "arm_between" zam (FN K C):=by
 refine D.oo aai fun H hr h=>?_;obtain ⟨a,pins,bars,p,q,rfl,R,g,hp,hq,k⟩:=h;obtain ⟨dx,pP,pW,pB,kP,kW,kB,R,W⟩:=R.ex;refine ⟨_,(ag (aC (aL VO hr (aI (eC (k:=2) (pv 0) hr.mo (IT P w) (aX (pv 2))) (eC (k:=2) (pv 0) hr.mo (IT P w) (aX (pv 1))))))),_,rfl,a,C,dx,_,_,_,rfl,R.obj,rfl,MP,_,rfl,a,dx,pP,pW,pB,_,_,kP,kW,kB,q.nm,xy q.sp,rfl,R,Tu g.np,aar.mpr ⟨q,hq,rfl⟩,fun v1 h1=>?_⟩;refine ⟨_,rfl,a,C,dx,_,_,_,rfl,R.obj,rfl,MP,_,rfl,a,dx,pP,pW,pB,_,_,kP,kW,kB,p.nm,xy p.sp,rfl,R,Tu g.np,aar.mpr ⟨p,hp,rfl⟩,fun v2 h2=>?_⟩;have z1:=g.sz q hq;have z2:=g.sz p hp;exact ⟨v1,v2,q.sp,p.sp,rfl,h1,h2,z1.1.up (by decide),z1.2.1.up (by decide),z2.1.up (by decide),z2.2.1.up (by decide),k⟩
def mv (M:θ)(x:Str):Rat×Rat:=(M x).getD (0,0)
def cj (F:θ)(pins:ι):List (Int×Int):=pins.flatMap fun p=>[qr (mv F p.nm).1,qr (mv F p.nm).2]
theorem cP (F:θ):∀pins:List aw,(cj F pins).length=2*pins.length
 | []=>rfl
 | p::ps=>by
  have:=cP F ps;unfold cj at this ⊢;rw [aeo,aba,this];simp;omega
def KA (F:θ)(ps:ι)(p:aw):cj F (ps++[p])=cj F ps++[qr (mv F p.nm).1,qr (mv F p.nm).2]:=by
 unfold cj;rw [ae9];simp
def fM (x:Str)(w:Rat×Rat):Str->Option (Rat×Rat):=fun y=>if y=x then some w else none
def cJ (b:aK):Str->Option (Rat×Rat):=fun y=>if y=b.one.nm then some (jt b.one b.other) else if y=b.other.nm then some (jt b.other b.one) else none
def oj (pins:ι)(p:aw):List (List (Int×Int)):=p.ws.map fun w=>cj (fM p.nm w) pins
noncomputable def gd (pins:ι)(bars:ς):List (List (Int×Int)):=(pins.flatMap fun p=>oj pins p)++bars.map fun b=>cj (cJ b) pins
structure ix (K:Frag)(H:Hp)(r:abA)(ls:ω)(b6:Η)(fX:Ε):Prop where
 jx:js H r ls b6
 num:hW K H b6 fX
 nr:r∉ls
def ix.same (h:ix K H r ls b6 fX)(s:ao H H'):ix K H' r ls b6 fX:=⟨h.jx.same s,h.num.same s,h.nr⟩
def BO (h:hW K H b6 fX)(n:cH K H us qs):hW K H (b6++[us]) (fX++[qs]):=by
 refine ⟨by simp [h.1],fun i u q' e1 e2=>?_⟩;have l:=h.1;by_cases c:i<b6.length
 ·rw [aby c] at e1
  rw [aby (by omega)] at e2;exact h.2 i u q' e1 e2
 ·rw [abx (by omega)] at e1 e2
  by_cases z:i-b6.length=0
  ·rw [z] at e1
   rw [show i-fX.length=0 by omega] at e2;cases e1;cases e2;exact n
  ·rw [aaz (by simp;omega)] at e1
   cases e1
def Q3 {H:Hp}{ls:ω}{b6:Η}(hl:ls.length=b6.length)(h:∀(i:Nat)(l:abA)(vs:ζ),ls[i]?=some l->b6[i]?=some vs->H l=some (.lst vs))(e:H l=some (.lst us)):
  ∀(i:Nat)(l':abA)(vs:ζ),(ls++[l])[i]?=some l' ->(b6++[us])[i]?=some vs->H l'=some (.lst vs):=fun i l' vs e1 e2=>by
 by_cases c:i<ls.length
 ·rw [aby c] at e1
  rw [aby (by omega)] at e2;exact h i l' vs e1 e2
 ·rw [abx (by omega)] at e1 e2
  by_cases z:i-ls.length=0
  ·rw [z] at e1
   rw [show i-b6.length=0 by omega] at e2;cases e1;cases e2;exact e
  ·rw [aaz (by simp;omega)] at e1
   cases e1
def ix.push (h:ix K H r ls b6 fX)(e:H l=some (.lst us))(ne:l≠r)(n:cH K H us qs):
  ix K (upd H r (.lst (ls.map V.ref++[.ref l]))) r (ls++[l]) (b6++[us]) (fX++[qs]):=by
 have st:aY H (upd H r (.lst (ls.map V.ref++[.ref l]))):=.list h.jx.1
 have hm:∀(i:Nat)(l':abA)(vs:ζ),ls[i]?=some l' ->b6[i]?=some vs->(upd H r (.lst (ls.map V.ref++[.ref l]))) l'=some (.lst vs):=fun i l' vs e1 e2=>by
  rw [aj (fun z:l'=r=>h.nr (by rw [<-z];exact aaq e1))];exact h.jx.2.2 i l' vs e1 e2
 refine ⟨⟨by rw [ah,abq];rfl,by simp [h.jx.2.1],Q3 h.jx.2.1 hm (by rw [aj ne];exact e)⟩,?_,?_⟩
 ·exact BO ⟨h.num.1,fun i vs qs e1 e2=>(h.num.2 i vs qs e1 e2).aJ st⟩ (n.aJ st)
 ·intro z
  rcases abj.mp z with z|z
  ·exact h.nr z
  ·exact ne (abg.mp z).symm
inductive iV (K:Frag)(C:abA)(vs:ζ)(H:Hp)(Q:VK)(E_:XK):Prop
|mk (a d:abA)(pins:ι)(bars:ς)(kvs:γ)(F:θ)(_:vs=[.ref a,.ref d])(_:sW K H C a pins bars)(_:pins.length<=100)(_:H d=some (.dK kvs))(_:BC K H kvs F)(_:∀(l:abA)(us:ζ)(H':Hp),ao H H' ->H l=none->H' l=some (.lst us)->cH K H' us (cj F pins)->Q (.ref l) H')
def iy (pins:ι):((pins.map fun p=>(p.nm,xy p.sp)).map (·.1))=pins.map (·.nm):=by rw [ab_];rfl
def NH:av ["F","draws","row","pin"] zaJ (ae IW):=sq
def aak (hM:∀H:Hp,gc K H (.ref aM) (0,0))(BP:mg "NO_MOVE"=some (.ref aM))(D:Def K mg "pair_row" IW zaJ)(MP:ad P w K mg base 1 C "pins" zai (ja K C)):ac P w K mg base 2 "pair_row" zaJ (iV K C):=by
 refine D.oo NH fun H hr h=>?_;obtain ⟨a,d,pins,bars,kvs,F,rfl,R,lp,hd,hP,q⟩:=h
 refine ⟨_,(aa (aG 2 NH.nd (cg jC)) (aa (bq abI rfl (bo (eR (k:=1) (pv 0) hr.mo (IT P w))) (bP 3 NH.nd) (ag (bN (oK ab9 PySem.F.slot_list_extend PySem.F.type_list_extend QH (pv 2) (aX (jJ (bH hr) (pv 1) (pv 3) (fC (v:=.ref aM) rfl BP rfl) ⟨rfl,rfl,rfl,rfl⟩)))))) (ag (aC (pv 2))))),?_⟩
 refine ⟨z0L,?_⟩;intro l nl;generalize eX:upd _ l _=H1;have ⟨s1,el⟩:=nw nl eX;have R1:=R.same s1;obtain ⟨dx,pP,pW,pB,kP,kW,kB,F1,W1⟩:=R1.ex;refine ⟨_,rfl,a,C,dx,_,_,_,rfl,F1.obj,rfl,MP,a,dx,pP,pW,pB,_,_,kP,kW,kB,rfl,F1,fun lp H2 s2 BQ xA=>?_⟩;rw [iy] at xA;have tO:=s1.trans s2;have VP:lp≠l:=fun z=>by rw [z,el] at BQ;cases BQ
 refine ⟨lp,rfl,⟨_,aT.of xA⟩,let I:zIv:=fun i σ H'=>EZ fun (o3:Α) (us:ζ)=>σ=[ap a,ap d,ap l,o3]/\ao H H'/\H' lp=some (.lst ((pins.map (·.nm)).map V.str))/\H' l=some (.lst us)/\cH K H' us (cj F (pins.take i));bW (K:=K) (a:=lp) (xs:=(pins.map (·.nm)).map V.str) I ⟨none,[],rfl,tO,xA,s2 _ _ el,⟨rfl,fun i u q e=>by simp at e⟩⟩ (fun i σ H' _ h=>by
   obtain ⟨_,_,_,_,h,_⟩:=h
   exact aT.of h) ?_ ?_⟩
 ·rintro i z σ H4 hi ⟨o3,us,rfl,s4,l4,e4,n4⟩
  rw [aaa,aaa] at hi;obtain ⟨x,hx,rfl⟩:=aaB.mp hi;obtain ⟨p,hp,rfl⟩:=aaB.mp hx;have il:i<pins.length:=(Wp.mp hp).1;have d4:=s4 _ _ hd;have g1:gc K H4 ((bJ kvs (.inr p.nm)).getD (.ref aM)) (mv F p.nm):=(hP.same s4).IF (hM H4);obtain ⟨b,u1,u2,eb,hb,h1,h2⟩:=g1
  have lu:us.length<=200:=by
   have:=n4.1;rw [cP,abv] at this;omega
  refine ⟨_,rfl,.inl ⟨rfl,_,aT.of e4⟩,_,rfl,d,rfl,.inl ⟨_,.inl d4⟩,_,rfl,_,dh.k (k:=.inr p.nm) d4,l,b,us,[u1,u2],rfl,by rw [eb],e4,hb,by simp;omega,?_⟩;have st:aY H4 (upd H4 l (.lst (us++[u1,u2]))):=.list e4;refine ⟨_,us++[u1,u2],rfl,fun c o z=>?_,?_,ah,?_⟩
  ·rw [aj (ak z nl)]
   exact s4 _ _ z
  ·rw [aj VP]
   exact l4
  ·rw [take_snoc hp,KA]
   have a1:=cH.snoc (K:=K) (n4.aJ st) (cU.aJ h1 st);have a2:=cH.snoc (K:=K) a1 (cU.aJ h2 st);simpa using a2
 ·rintro σ H4 ⟨o3,us,rfl,s4,l4,e4,n4⟩
  rw [ir,ir,aeA] at n4;exact ⟨_,rfl,q l us H4 s4 nl e4 n4⟩
inductive om (K:Frag)(C:abA)(vs:ζ)(H:Hp)(Q:VK)(E_:XK):Prop
|mk (a d:abA)(pins:ι)(bars:ς)(kvs:γ)(F:θ)(_:vs=[.ref a,.ref d])(_:sW K H C a pins bars)(_:pins.length<=100)(_:H d=some (.dK kvs))(_:BC K H kvs F)(_:(∀kv∈kvs,∃x∈pins.map (·.nm),kv.1=.inr x))(_:∀(l:abA)(us:ζ)(H':Hp),ao H H' ->H l=none->H' l=some (.lst us)->cH K H' us (cj F pins)->Q (.ref l) H')
def NI:av ["F","load","pins","pin"] ["F","load"] (ae IX):=sq
def aal (D:Def K mg "load_row" IX ["F","load"])(MP:ad P w K mg base 1 C "pins" zai (ja K C))(NJ:ac P w K mg base 2 "pair_row" zaJ (iV K C)):ac P w K mg base 3 "load_row" ["F","load"] (om K C):=by
 refine D.oo NI fun H hr h=>?_;obtain ⟨a,d,pins,bars,kvs,F,rfl,R,lp,hd,hP,hk,q⟩:=h
 refine ⟨_,(aa (aG 2 NI.nd (eR (k:=1) (pv 0) hr.mo (IT P w))) (aa (j6 (bq abI rfl (EL (pv 1)) (bP 3 NI.nd) (ag (bu (qb me (pv 3) (pv 2) rfl) (ag (c6)) aQ)))) (ag (aC (aL NJ hr (aI (pv 0) (pv 1))))))),?_⟩
 obtain ⟨dx,pP,pW,pB,kP,kW,kB,F1,W1⟩:=R.ex;refine ⟨_,rfl,a,C,dx,_,_,_,rfl,F1.obj,rfl,MP,a,dx,pP,pW,pB,_,_,kP,kW,kB,rfl,F1,fun l H1 s1 nl el=>?_⟩;rw [iy] at el;have NF:=s1 _ _ hd;refine ⟨_,rfl,d,kvs,rfl,NF,fun o=>?_⟩;have ld:l≠d:=fun z=>by rw [z,NF] at el;cases el
 refine let I:zIv:=fun t σ H'=>∃(o2:Α),σ=[ap a,ap d,ap l,o2]/\H'=upd H1 d (.fB o (.dK kvs));yf (d:=d) (o:=o) (kvs:=kvs) I ⟨none,rfl,rfl⟩ (fun t σ H' _ h=>by
   obtain ⟨_,_,rfl⟩:=h
   exact ah) ?_ ?_
 ·rintro t k y σ H6 uS ⟨o2,rfl,rfl⟩
  obtain ⟨x,hx,ex⟩:=hk _ (aaq uS);have zX :k=.inr x:=ex;subst zX;refine ⟨_,rfl,_,rfl,l,_,rfl,.inl (aT.of (by rw [aj ld];exact el)),rfl,uK _,_,rfl,bB (fun c=>?_) (fun _=>⟨_,rfl,rfl⟩)⟩;have c':(!W9 (.str x) ((pins.map (·.nm)).map V.str))=true:=c;rw [rh,abU hx] at c';cases c'
 ·rintro σ H6 ⟨o2,rfl,rfl⟩
  refine ⟨d,o,kvs,ah,fun o' u' z=>(by have z':H d=some (.fB o' u'):=z;rw [hd] at z';cases z'),?_⟩
  have s2:ao H (upd (upd H1 d (.fB o (.dK kvs))) d (.dK kvs)):=fun b o' e=>by
   by_cases n:b=d
   ·subst n
    rw [hd] at e;rw [ah];exact e
   ·rw [aj n,aj n]
    exact s1 _ _ e
  generalize upd (upd H1 d (.fB o (.dK kvs))) d (.dK kvs)=H2 at s2 ⊢;refine ⟨_,rfl,_,rfl,a,d,pins,bars,kvs,F,rfl,R.same s2,lp,s2 _ _ hd,hP.same s2,fun l' us H3 s3 n3 e3 nm=>?_⟩;exact q l' us H3 (s2.trans s3) (s2.free n3) e3 nm
inductive rJ (K:Frag)(C:abA)(vs:ζ)(H:Hp)(Q:VK)(E_:XK):Prop
|mk (a:abA)(pins:ι)(bars:ς)(b:aK)(_:vs=[.ref a,.str b.one.nm,.str b.other.nm])(_:sW K H C a pins bars)(_:cV pins bars)(_:b.one∈pins)(_:b.other∈pins)(_:b.one.nm≠b.other.nm)(_:∀(l:abA)(us:ζ)(H':Hp),ao H H' ->H l=none->H' l=some (.lst us)->cH K H' us (cj (cJ b) pins)->Q (.ref l) H')
def VQ (k:Key)(v:V):dy [] [(k,v)]=[(k,v)]:=rfl
def VR (v u:V)(h:k≠j):dy [] [(k,v),(j,u)]=[(k,v),(j,u)]:=by
 show putK [(k,v)] j u=_;rw [dE]
 ·rfl
 ·rw [bI h]
  rfl
def aam:av zam zam (ae IY):=sq
def aan (D:Def K mg "bar_row" IY zam)(Q4:ac P w K mg base 36 "arm_between" zam (FN K C))(NJ:ac P w K mg base 2 "pair_row" zaJ (iV K C)):ac P w K mg base 37 "bar_row" zam (rJ K C):=by
 refine D.oo aam fun H hr h=>?_;obtain ⟨a,pins,bars,b,rfl,R,g,m1,m2,ne,q⟩:=h;refine ⟨_,(ag (aC (aL NJ hr (aI (pv 0) (EH (qX (pv 1) (aL Q4 hr (bD (pv 0) (pv 1) (pv 2))) (qX (pv 2) (aL Q4 hr (bD (pv 0) (pv 2) (pv 1))) EG)) rfl rfl (anW _ _) (by decide)))))),_,rfl,fun d nd=>?_⟩;have s1:=aE nd (.dK []);have e1:(upd H d (.dK [])) d=some (.dK []):=ah;generalize upd H d (.dK [])=H1 at s1 e1 ⊢;refine ⟨_,rfl,_,rfl,_,rfl,_,rfl,a,pins,bars,b.one,b.other,rfl,R.same s1,g,m1,m2,fun v1 H2 s2 h2=>?_⟩;refine ⟨_,rfl,_,rfl,_,rfl,_,rfl,a,pins,bars,b.other,b.one,rfl,(R.same s1).same s2,g,m2,m1,fun v2 H3 s3 h3=>?_⟩;have e3:=s3 _ _ (s2 _ _ e1);refine ⟨e3,[(.inr b.one.nm,v1),(.inr b.other.nm,v2)],rfl,(by show 2<=15;decide),?_⟩;rw [VR _ _ (fun z=>ne (aeN z))];have st:aY H3 (upd H3 d (.dK [(.inr b.one.nm,v1),(.inr b.other.nm,v2)])):=.dict e3;have e4:(upd H3 d (.dK [(.inr b.one.nm,v1),(.inr b.other.nm,v2)])) d=some (.dK [(.inr b.one.nm,v1),(.inr b.other.nm,v2)]):=ah
 have s4:ao H (upd H3 d (.dK [(.inr b.one.nm,v1),(.inr b.other.nm,v2)])):=fun c o z=>by
  rw [aj (ak z nd)];exact s3 _ _ (s2 _ _ (s1 _ _ z))
 generalize upd H3 d (.dK [(.inr b.one.nm,v1),(.inr b.other.nm,v2)])=H4 at st e4 s4 ⊢;refine ⟨a,d,pins,bars,_,cJ b,rfl,R.same s4,aay g.lp (by decide),e4,fun x=>?_,fun l us H5 s5 n5 e5 nm=>q l us H5 (s4.trans s5) (s4.free n5) e5 nm⟩;by_cases c1:x=b.one.nm
 ·subst c1
  exact .inr ⟨v1,jt b.one b.other,bX rfl,by unfold cJ;rw [abC rfl],(h2.same s3).aJ st⟩
 ·by_cases c2:x=b.other.nm
  ·subst c2
   exact .inr ⟨v2,jt b.other b.one,by rw [bI (fun z=>c1 (aeN z).symm),bX rfl],by unfold cJ;rw [abB c1,abC rfl],h3.aJ st⟩
  ·exact .inl ⟨by rw [bI (fun z=>c1 (aeN z).symm),bI (fun z=>c2 (aeN z).symm)];rfl,by unfold cJ;rw [abB c1,abB c2]⟩
inductive lC (K:Frag)(C:abA)(vs:ζ)(H:Hp)(Q:VK)(E_:XK):Prop
|mk (a:abA)(pins:ι)(bars:ς)(_:vs=[.ref a])(_:sW K H C a pins bars)(_:cV pins bars)(_:∀(r:abA)(ls:ω)(b6:Η)(H':Hp),ao H H' ->H r=none->ix K H' r ls b6 (gd pins bars)->Q (.ref r) H')
def vV (bars:ς):((bars.map fun b=>(b.nm,b.one.nm,b.other.nm)).map (·.1))=bars.map (·.nm):=by rw [ab_];rfl
def mO (pins:ι)(h:∀p∈pins,p.ws.length<=2):(pins.flatMap fun p=>p.ws).length<=2*pins.length:=by
 induction pins with
 | nil=>simp
 | cons p ps ih=>
  have h1:=h p aa_;have h2:=ih fun q hq=>h q (aax _ hq);rw [aeo,aba,aey];omega
def gf (all pins:ι):(pins.flatMap fun p=>oj all p).length=(pins.flatMap fun p=>p.ws).length:=by
 induction pins with
 | nil=>rfl
 | cons p ps ih=>
  rw [aeo,aeo,aba,aba,ih];unfold oj;rw [ir]
def KC (pins:ι)(bars:ς):(gd pins bars).length=(pins.flatMap fun p=>p.ws).length+bars.length:=by
 unfold gd;rw [aba,gf,ir]
def uT:av ["F","rows","pin","way","bar","two"] ["F"] (ae IZ):=sq
def aao (D:Def K mg "draw_rows" IZ ["F"])(MP:ad P w K mg base 1 C "pins" zai (ja K C))(MW:ad P w K mg base 2 C "ways" zal (rH K C))(MB:ad P w K mg base 1 C "bars" zai (jM K C))(ME:ad P w K mg base 1 C "ends" zaM (rG K C))
  (NJ:ac P w K mg base 2 "pair_row" zaJ (iV K C)) (ag5:ac P w K mg base 37 "bar_row" zam (rJ K C)):ac P w K mg base 38 "draw_rows" ["F"] (lC K C):=by
 refine D.op uT fun f ck A outer s H vs Q E hr h=>?_;obtain ⟨a,pins,bars,rfl,R,g,q⟩:=h
 refine ⟨_,(aa (aG 1 uT.nd (cg jC)) (aa (bq abI rfl (bo (eR (k:=1) (pv 0) hr.mo (pY P w))) (bP 2 uT.nd) (ag (bq abI rfl (bo (eC (k:=2) (pv 0) hr.mo (pY P w) (aX (pv 2)))) (bP 3 uT.nd) (ag (bN (oK ab9 acg ach fe (pv 1) (aX (aL NJ hr (aI (pv 0) (EH (qX (pv 2) (pv 3) EG) rfl rfl (anW _ _) (by decide))))))))))) (aa (bq abI rfl (bo (eR (k:=1) (pv 0) hr.mo (pY P w))) (bP 4 uT.nd) (aa (aG 5 uT.nd (eC (k:=1) (pv 0) hr.mo (pY P w) (aX (pv 4)))) (ag (bN (oK ab9 acg ach fe (pv 1) (aX (aL ag5 hr (bD (pv 0) (aF (pv 5)) (aF (pv 5)))))))))) (ag (aC (pv 1)))))),?_⟩;dsimp only [cxr,jD,Cx.xw,Cx.tu];refine sq3 ?_;intros
 refine ⟨z0L,?_⟩;intro r nr;generalize eX:upd _ r _=H1;have ⟨s1,er⟩:=nw nr eX;have big:(40:Nat)<=abE:=by decide
 have wl:=mO pins g.lw;have gl:=g.lp;have R0:ix K H1 r [] [] []:=⟨⟨er,rfl,fun i l vs e=>by simp at e⟩,⟨rfl,fun i vs qs e=>by simp at e⟩,by simp⟩;have R1:=R.same s1;obtain ⟨dx,pP,pW,pB,kP,kW,kB,F1,W1⟩:=R1.ex;refine ⟨_,rfl,a,C,dx,_,_,_,rfl,F1.obj,rfl,MP,a,dx,pP,pW,pB,_,_,kP,kW,kB,rfl,F1,fun lp H2 s2 BQ xA=>?_⟩;rw [iy] at xA;have tO:=s1.trans s2;have VP:lp≠r:=fun z=>by rw [z,er] at BQ;cases BQ
 refine ⟨lp,rfl,⟨_,aT.of xA⟩,let I:zIv:=fun i σ H'=>Lk fun (o2 o3:Α) (ls:ω) (b6:Η)=>σ=[ap a,ap r,o2,o3,none,none]/\ao H H'/\H' lp=some (.lst ((pins.map (·.nm)).map V.str))/\ix K H' r ls b6 ((pins.take i).flatMap fun p=>oj pins p);bW (K:=K) (a:=lp) (xs:=(pins.map (·.nm)).map V.str) I ⟨none,none,[],[],rfl,tO,xA,R0.same s2⟩ (fun i σ H' _ h=>by
   obtain ⟨_,_,_,_,_,_,h,_⟩:=h
   exact aT.of h) ?_ ?_⟩
 ·rintro i z σ H4 hi ⟨o2,o3,ls,b6,rfl,s4,l4,RR⟩
  rw [aaa,aaa] at hi;obtain ⟨x,hx,rfl⟩:=aaB.mp hi;obtain ⟨p,hp,rfl⟩:=aaB.mp hx;have mp:p∈pins:=aaq hp;have R4:=R.same s4;obtain ⟨dx,pP,pW,pB,kP,kW,kB,F4,W4⟩:=R4.ex;have mpn:p.nm∈(pins.map fun p=>(p.nm,xy p.sp)).map (·.1):=by rw [iy];exact aar.mpr ⟨p,mp,rfl⟩
  refine ⟨_,rfl,a,C,dx,_,_,_,rfl,F4.obj,rfl,MW,_,rfl,a,dx,pP,pW,pB,_,_,kP,kW,kB,_,p.nm,p.ws,rfl,F4,W4,Tv g.np,aar.mpr ⟨p,mp,rfl⟩,mpn,fun m us H5 s5 n5 e5 p5=>?_⟩;have lu:us.length=p.ws.length:=abL p5;have Q6:=s4.trans s5;have mr:m≠r:=fun z=>by rw [z,RR.jx.1] at n5;cases n5
  refine ⟨m,rfl,⟨_,aT.of e5⟩,let I:zIv:=fun j σ H'=>IS fun (o3:Α) (ls:ω) (b6:Η)=>σ=[ap a,ap r,some (.str p.nm),o3,none,none]/\ao H H'/\H' lp=some (.lst ((pins.map (·.nm)).map V.str))/\H' m=some (.lst us)/\ku K H' us p.ws/\ix K H' r ls b6 (((pins.take i).flatMap fun p=>oj pins p)++(p.ws.take j).map fun w=>cj (fM p.nm w) pins);bW (K:=K) (a:=m) (xs:=us) I ⟨o3,ls,b6,rfl,Q6,s5 _ _ l4,e5,p5,by simpa using RR.same s5⟩ (fun j σ H' _ h=>by
    obtain ⟨_,_,_,_,_,_,h,_⟩:=h
    exact aT.of h) ?_ ?_⟩
  ·rintro j u σ H6 hu ⟨o3,ls,b6,rfl,s6,l6,e6,p6,yD⟩
   obtain ⟨w,ew,hw⟩:=aA p6 hu;have jl:=(Wp.mp hu).1;refine ⟨_,rfl,.inl ⟨rfl,_,aT.of yD.jx.1⟩,_,rfl,fun d nd=>?_⟩;have t1:=aE nd (.dK []);have d1:(upd H6 d (.dK [])) d=some (.dK []):=ah;generalize upd H6 d (.dK [])=H7 at t1 d1 ⊢;refine ⟨_,rfl,_,rfl,d1,[(.inr p.nm,u)],rfl,(by show 1<=15;decide),?_⟩;rw [VQ];have st:aY H7 (upd H7 d (.dK [(.inr p.nm,u)])):=.dict d1;have d8:(upd H7 d (.dK [(.inr p.nm,u)])) d=some (.dK [(.inr p.nm,u)]):=ah
   have t8:ao H6 (upd H7 d (.dK [(.inr p.nm,u)])):=fun c o z=>by
    rw [aj (ak z nd)];exact t1 _ _ z
   have hw8:=(hw.same t1).aJ st;generalize upd H7 d (.dK [(.inr p.nm,u)])=H8 at d8 t8 hw8 ⊢;have s8:=s6.trans t8;refine ⟨a,d,pins,bars,_,fM p.nm w,rfl,R.same s8,aay g.lp (by decide),d8,fun x=>?_,fun l mI H9 t9 n9 e9 nm=>?_⟩
   ·by_cases c1:x=p.nm
    ·subst c1
     exact .inr ⟨u,w,bX rfl,by unfold fM;rw [abC rfl],hw8⟩
    ·exact .inl ⟨by rw [bI (fun z=>c1 (aeN z).symm)];rfl,by unfold fM;rw [abB c1]⟩
   have t69:=t8.trans t9;have Xl:=yD.same t69;have lr:l≠r:=fun z=>by rw [z,t8 _ _ yD.jx.1] at n9;cases n9
   have lss:ls.length<=18:=by
    have h1:=yD.jx.2.1;have h2:=yD.num.1;rw [aba,ir,abv,gf] at h2
    have h3:((pins.take i).flatMap fun p=>p.ws).length+p.ws.length<=(pins.flatMap fun p=>p.ws).length:=by
     have e:pins=pins.take i++p::pins.drop (i+1):=by
      have lt:=(Wp.mp hp).1;have e2:=(Wp.mp hp).2;rw [<-e2,ahD,af8]
     have e3:=abR (fun l:List aw=>(l.flatMap fun p=>p.ws).length) e;simp only [ae9,aeo,aba] at e3;omega
    omega
   refine ⟨r,_,_,rfl,rfl,Xl.jx.1,(by rw [ir];omega),?_⟩;have RN:=Xl.push e9 lr nm;have tr:aY H9 (upd H9 r (.lst (ls.map V.ref++[.ref l]))):=.list Xl.jx.1;have kk:∀b o,b≠r->H6 b=some o->(upd H9 r (.lst (ls.map V.ref++[.ref l]))) b=some o:=fun b o n e=>by rw [aj n];exact t69 _ _ e
   refine ⟨_,ls++[l],b6++[mI],rfl,fun b o e=>?_,kk _ _ VP l6,kk _ _ mr e6,(p6.same t69).aJ tr,?_⟩
   ·exact kk _ _ (ak e nr) (s6 _ _ e)
   ·rw [take_snoc ew,abq,<-af_]
    exact RN
  ·rintro σ H6 ⟨o3,ls,b6,rfl,s6,l6,e6,p6,yD⟩
   refine ⟨_,_,ls,b6,rfl,s6,l6,?_⟩;rw [lu,aeA] at yD;rw [take_snoc hp,ae9];simpa [oj] using yD
 ·rintro σ H4 ⟨o2,o3,ls,b6,rfl,s4,l4,RR⟩
  rw [ir,ir,aeA] at RR;have R4:=R.same s4;obtain ⟨dx,pP,pW,pB,kP,kW,kB,F4,W4⟩:=R4.ex;refine ⟨_,rfl,a,C,dx,_,_,_,rfl,F4.obj,rfl,MB,a,dx,pP,pW,pB,_,_,kP,kW,kB,rfl,F4,fun lb H5 s5 nlb VS=>?_⟩;rw [vV] at VS;have bne:lb≠r:=fun z=>by rw [z,RR.jx.1] at nlb;cases nlb
  refine ⟨lb,rfl,⟨_,aT.of VS⟩,let I:zIv:=fun i σ H'=>Lk fun (o4 o5:Α) (ls:ω) (b6:Η)=>σ=[ap a,ap r,o2,o3,o4,o5]/\ao H H'/\H' lb=some (.lst ((bars.map (·.nm)).map V.str))/\ix K H' r ls b6 ((pins.flatMap fun p=>oj pins p)++(bars.take i).map fun b=>cj (cJ b) pins);bW (K:=K) (a:=lb) (xs:=(bars.map (·.nm)).map V.str) I ⟨none,none,ls,b6,rfl,s4.trans s5,VS,by simpa using RR.same s5⟩ (fun i σ H' _ h=>by
    obtain ⟨_,_,_,_,_,_,h,_⟩:=h
    exact aT.of h) ?_ ?_⟩
  ·rintro i z σ H6 hi ⟨o4,o5,ls,b6,rfl,s6,l6,yD⟩
   rw [aaa,aaa] at hi;obtain ⟨x,hx,rfl⟩:=aaB.mp hi;obtain ⟨b,hb,rfl⟩:=aaB.mp hx;have mb:b∈bars:=aaq hb;have il:=(Wp.mp hb).1;have R6:=R.same s6;obtain ⟨dx,pP,pW,pB,kP,kW,kB,F6,W6⟩:=R6.ex;refine ⟨_,rfl,a,C,dx,_,_,_,rfl,F6.obj,rfl,ME,_,rfl,a,dx,pP,pW,pB,_,_,kP,kW,kB,b.nm,b.one.nm,b.other.nm,rfl,F6,Tw g.nb,aar.mpr ⟨b,mb,rfl⟩,fun p rd=>?_⟩;have tp:bQ K H6 p [.str b.one.nm,.str b.other.nm]:=.inl rd;obtain ⟨m1,m2,m3⟩:=g.ends b mb;refine ⟨_,rfl,.inl ⟨rfl,_,aT.of yD.jx.1⟩,_,rfl,_,rfl,p,_,_,_,rfl,rfl,tp,iU,_,rfl,p,_,_,_,rfl,rfl,tp,iu,a,pins,bars,b,rfl,R6,g,m1,m2,m3,fun l mI H9 t9 n9 e9 nm=>?_⟩;have Xl:=yD.same t9;have lr:l≠r:=fun z=>by rw [z,yD.jx.1] at n9;cases n9
   have lss:ls.length<=32:=by
    have h1:=yD.jx.2.1;have h2:=yD.num.1;rw [aba,ir,abv,gf] at h2;have:=g.lb;omega
   refine ⟨r,_,_,rfl,rfl,Xl.jx.1,(by rw [ir];omega),?_⟩;have RN:=Xl.push e9 lr nm;have kk:∀c o,c≠r->H6 c=some o->(upd H9 r (.lst (ls.map V.ref++[.ref l]))) c=some o:=fun c o n e=>by rw [aj n];exact t9 _ _ e
   refine ⟨_,_,ls++[l],b6++[mI],rfl,fun c o e=>kk _ _ (ak e nr) (s6 _ _ e),kk _ _ bne l6,?_⟩;rw [take_snoc hb,abq,<-af_];exact RN
  ·rintro σ H6 ⟨o4,o5,ls,b6,rfl,s6,l6,yD⟩
   rw [ir,ir,aeA] at yD;exact ⟨_,rfl,q r ls b6 H6 s6 nr yD⟩
def NK {i j:Nat}(h:i<=j)(hj:j<=xs.length):iD xs (some (i:Int)) (some (j:Int))=(xs.drop i).take (j-i):=by
 unfold iD;rw [HT.qd,HT.qd,agT hj,agT (show i<=xs.length by omega)]
theorem gK :∀{l:List α} {m:List β} (n:Nat),Paired R l m->Paired R (l.drop n) (m.drop n)
 | _,_,0,h=>h
 | _,_,_+1,.nil=>.nil
 | _,_,n+1,.cons _ t=>gK n t
theorem jc :∀{l:List α} {m:List β} (n:Nat),Paired R l m->Paired R (l.take n) (m.take n)
 | _,_,0,_=>.nil
 | _,_,_+1,.nil=>.nil
 | _,_,n+1,.cons h t=>.cons h (jc n t)
def ba (pins:ι):Nat:=(pins.flatMap fun p=>p.ws).length
def rK (ps:ι)(p:aw):ba (ps++[p])=ba ps+p.ws.length:=by
 unfold ba;rw [ae9,aba];simp
def BR (h:pins[i]?=some p):ba (pins.take i)+p.ws.length<=ba pins:=by
 have e:pins=pins.take i++p::pins.drop (i+1):=by
  have lt:=(Wp.mp h).1;have e2:=(Wp.mp h).2;rw [<-e2,ahD,af8]
 have e3:=abR (fun l:List aw=>(l.flatMap fun p=>p.ws).length) e;simp only [ae9,aeo,aba] at e3;unfold ba;omega
structure PPR (K:Frag)(H H':Hp)(pins:ι)(bars:ς)(dT dU:abA)(kT kU:γ)(T:Β)(U:υ)(L:Str->abA):Prop where
 nT:H dT=none
 nU:H dU=none
 ne:dT≠dU
 hT:H' dT=some (.dK kT)
 hU:H' dU=some (.dK kU)
 vW:kT.map (·.1)=bars.map (fun b=>(aeB b.nm:Key))
 vX:kU.map (·.1)=pins.map (fun p=>(aeB p.nm:Key))
 tT:∀b∈bars,∃v,bJ kT (.inr b.nm)=some v/\cU K H' v (T b.nm)
 tU:∀p∈pins,∃vs,bJ kU (.inr p.nm)=some (.ref (L p.nm))/\H (L p.nm)=none/\H' (L p.nm)=some (.lst vs)/\Paired (cU K H') vs (U p.nm)
 lU:∀p∈pins,(U p.nm).length=p.ws.length
 inj:∀p∈pins,∀q∈pins,L p.nm=L q.nm->p.nm=q.nm
structure PuR (K:Frag)(H H':Hp)(pins:ι)(dU:abA)(kU:γ)(U:υ)(L:Str->abA):Prop where
 nU:H dU=none
 hU:H' dU=some (.dK kU)
 vX:kU.map (·.1)=pins.map (fun p=>(aeB p.nm:Key))
 tU:∀p∈pins,∃vs,bJ kU (.inr p.nm)=some (.ref (L p.nm))/\H (L p.nm)=none/\H' (L p.nm)=some (.lst vs)/\Paired (cU K H') vs (U p.nm)
 lU:∀p∈pins,(U p.nm).length=p.ws.length
 inj:∀p∈pins,∀q∈pins,L p.nm=L q.nm->p.nm=q.nm
inductive VT (K:Frag)(C:abA)(vs:ζ)(H:Hp)(Q:VK)(E_:XK):Prop
|mk (a nl:abA)(pins:ι)(bars:ς)(us:ζ)(rs:Ι)(_:vs=[.ref a,.ref nl])(_:sW K H C a pins bars)(_:cV pins bars)(_:H nl=some (.lst us))(_:Paired (cU K H) us rs)(_:rs.length=ba pins)(_:∀(U:υ)(L:Str->abA)(p dT dU:abA)(kU:γ)(H':Hp),ao H H' ->rs=(pins.flatMap fun p=>U p.nm)->H' p=some (.tup [.ref dT,.ref dU])->PuR K H H' pins dU kU U L->Q (.ref p) H')
def BS {ps:ι}{U W:υ}(h:∀p∈ps,U p.nm=W p.nm):(ps.flatMap fun p=>U p.nm)=ps.flatMap fun p=>W p.nm:=by
 induction ps with
 | nil=>rfl
 | cons p ps ih=>
  rw [aeo,aeo,h p aa_,ih fun q hq=>h q (aax _ hq)]
def rL:av ["F","numbers","pushes","at","pin","behind","pulls"] zax (ae I_):=sq
def aap (D:Def K mg "pulls_and_pushes" I_ zax)(aU:mg "len"=none)(eE:mg "dict"=none)(gC:mg "zip"=none)(MP:ad P w K mg base 1 C "pins" zai (ja K C))(MW:ad P w K mg base 2 C "ways" zal (rH K C))(MB:ad P w K mg base 1 C "bars" zai (jM K C)):
  ac P w K mg base 3 "pulls_and_pushes" zax (VT K C):=by
 refine D.op rL fun f ck A outer s H vs Q E hr h=>?_;obtain ⟨a,nl,pins,bars,us,rs,rfl,R,g,hn,hu,hl,q⟩:=h;have lu:us.length=rs.length:=abL hu;have wl:ba pins<=2*pins.length:=mO pins g.lw;have gl:=g.lp;have gb:=g.lb
 refine ⟨_,(aa (aG 2 rL.nd dc) (aa (aG 3 rL.nd af) (aa (bq abI rfl (bo (eR (k:=1) (pv 0) hr.mo (pY P w))) (bP 4 rL.nd) (aa (aG 5 rL.nd (ay bC (pv 3) (aH aD rfl aU bS (aX (eC (k:=2) (pv 0) hr.mo (pY P w) (aX (pv 4))))))) (aa (cx (bH hr) (pv 2) (pv 4) (cL dY (pv 1) (dw (pv 3)) (dw (pv 5))) rfl) (ag (aG 3 rL.nd (pv 5)))))) (aa (aG 6 rL.nd (M7 rfl rfl eE rfl gC (aI (eR (k:=1) (pv 0) hr.mo (pY P w)) (cL dY (pv 1) (dw (pv 3)) dX)))) (ag (aC (aV (aI (pv 6) (pv 2))))))))),?_⟩;dsimp only [cxr,jD,Cx.xw,Cx.tu];refine sq4 ?_;intros
 intro dU nU;have s1:=aE nU (.dK []);have e1:(upd H dU (.dK [])) dU=some (.dK []):=ah;generalize upd H dU (.dK [])=H1 at s1 e1 ⊢;have R1:=R.same s1;obtain ⟨dx,pP,pW,pB,kP,kW,kB,F1,W1⟩:=R1.ex;refine ⟨_,rfl,a,C,dx,_,_,_,rfl,F1.obj,rfl,MP,a,dx,pP,pW,pB,_,_,kP,kW,kB,rfl,F1,fun lp H2 s2 BQ xA=>?_⟩;rw [iy] at xA;have tO:=s1.trans s2;have VP:lp≠dU:=fun z=>by rw [z,e1] at BQ;cases BQ
 refine ⟨lp,rfl,⟨_,aT.of xA⟩,let I:zIv:=fun i σ H'=>Zf fun (o4 o5:Α) (kU:γ) (U:υ) (L:Str->abA)=>σ=[ap a,ap nl,ap dU,some (.int (ba (pins.take i):Int)),o4,o5,none]/\ao H H'/\H' lp=some (.lst ((pins.map (·.nm)).map V.str))/\H' dU=some (.dK kU)/\kU.map (·.1)=(pins.take i).map (fun p=>(aeB p.nm:Key))/\((pins.take i).flatMap fun p=>U p.nm)=rs.take (ba (pins.take i))/\ (∀p∈pins.take i,∃vs,bJ kU (.inr p.nm)=some (.ref (L p.nm))/\H (L p.nm)=none/\H' (L p.nm)=some (.lst vs)/\Paired (cU K H') vs (U p.nm))/\(∀p∈pins.take i,(U p.nm).length=p.ws.length)/\(∀p∈pins.take i,∀q∈pins.take i,L p.nm=L q.nm->p.nm=q.nm);bW (K:=K) (a:=lp) (xs:=(pins.map (·.nm)).map V.str) I
   ⟨none,none,[],fun _=>[],fun _=>0,rfl,tO,xA,s2 _ _ e1,rfl,rfl,by simp,by simp,by simp⟩ (fun i σ H' _ h=>by
   obtain ⟨_,_,_,_,_,_,_,h,_⟩:=h
   exact aT.of h) ?_ ?_⟩
 ·rintro i z σ H4 hi ⟨o4,o5,kU,U,L,rfl,s4,l4,e4,ks,fl,tU,lU,inj⟩
  rw [aaa,aaa] at hi;obtain ⟨x,hx,rfl⟩:=aaB.mp hi;obtain ⟨p,hp,rfl⟩:=aaB.mp hx;have mp:p∈pins:=aaq hp;have il:i<pins.length:=(Wp.mp hp).1;have R4:=R.same s4;obtain ⟨dx,pP,pW,pB,kP,kW,kB,F4,W4⟩:=R4.ex;have mpn:p.nm∈(pins.map fun p=>(p.nm,xy p.sp)).map (·.1):=by rw [iy];exact aar.mpr ⟨p,mp,rfl⟩
  refine ⟨_,rfl,_,rfl,a,C,dx,_,_,_,rfl,F4.obj,rfl,MW,_,rfl,a,dx,pP,pW,pB,_,_,kP,kW,kB,_,p.nm,p.ws,rfl,F4,W4,Tv g.np,aar.mpr ⟨p,mp,rfl⟩,mpn,fun m vs H5 s5 n5 e5 p5=>?_⟩;have lv:vs.length=p.ws.length:=abL p5;refine ⟨m,_,rfl,.inl (aT.of e5),_,_,rfl,rfl,?_⟩;have tk:=take_snoc hp;have wn:ba (pins.take (i+1))=ba (pins.take i)+p.ws.length:=by rw [tk,rK]
  have wt:=BR hp;have eb:(ba (pins.take i):Int)+((vs.length:Nat):Int)=((ba (pins.take (i+1)):Nat):Int):=by rw [wn,lv];omega
  have VU:=s4.trans s5;have QU:=VU _ _ hn;dsimp only;rw [eb];refine ⟨_,rfl,_,rfl,_,rfl,_,rfl,_,rfl,nl,_,rfl,aT.of QU,?_⟩;rw [NK (by omega) (by omega)];intro m2 n6;generalize eX:upd _ m2 _=H6;have ⟨s6,e6⟩:=nw n6 eX;have e46:=s6 _ _ (s5 _ _ e4)
  have lk:kU.length<=9:=by
   have z:=abR afb ks;rw [ir,ir,abv] at z;omega
  refine ⟨_,rfl,_,rfl,dU,_,rfl,gI.k (k:=.inr p.nm) e46 (aaZ (show kU.length<=1000 by omega) (by decide)),?_⟩
  have fresh:(aeB p.nm:Key)∉kU.map (·.1):=by
   rw [ks];intro z;obtain ⟨b',ff,VA⟩:=aar.mp z;exact g7 (nm:=aw.nm) g.np hp ff (aeN VA)
  have pk:putK kU (.inr p.nm) (.ref m2)=kU++[(.inr p.nm,.ref m2)]:=dE _ (bZ fresh);have t6:aY H6 (upd H6 dU (.dK (putK kU (.inr p.nm) (.ref m2)))):=.dict e46;have FL:=s5.trans s6;have md:m2≠dU:=fun z=>by rw [z,s5 _ _ e4] at n6;cases n6
  have kk:∀b o,b≠dU->H4 b=some o->(upd H6 dU (.dK (putK kU (.inr p.nm) (.ref m2)))) b=some o:=fun b o n e=>by rw [aj n];exact FL _ _ e
  have ne:∀p' ∈pins.take i,p'.nm≠p.nm:=fun p' ia =>g7 (nm:=aw.nm) g.np hp ia
  have vY :∀p' ∈pins.take (i+1),p' ∈pins.take i\/p'=p:=fun p' ia =>by
   rw [tk] at ia
   rcases abj.mp ia with h|h
   ·exact .inl h
   ·exact .inr (abg.mp h)
  have hold:∀p' ∈pins.take i,∃o,H4 (L p'.nm)=some o:=fun p' ia =>by
   obtain ⟨vs,_,_,h,_⟩:=tU p' ia;exact ⟨_,h⟩
  obtain ⟨U',hU1,hU2⟩:∃U':Str->List Rat,U' p.nm=(rs.drop (ba (pins.take i))).take p.ws.length/\∀x,x≠p.nm->U' x=U x:=⟨fun x=>if x=p.nm then (rs.drop (ba (pins.take i))).take p.ws.length else U x,abC rfl,fun x h=>abB h⟩;obtain ⟨L',Vv,Tr⟩:∃L':Str->abA,L' p.nm=m2/\∀x,x≠p.nm->L' x=L x:=⟨fun x=>if x=p.nm then m2 else L x,abC rfl,fun x h=>abB h⟩;refine ⟨_,rfl,_,_,putK kU (.inr p.nm) (.ref m2),U',L',rfl,fun b o e=>?_,kk _ _ VP l4,ah,?_,?_,fun p' ia =>?_,fun p' ia =>?_,fun p' ia q' m6 =>?_⟩
  ·rw [aj (ak e nU)]
   exact FL _ _ (s4 _ _ e)
  ·rw [pk,abq,ks,tk,abq]
   rfl
  ·rw [tk,ae9,rK]
   rw [BS (U:=U') (W:=U) fun p' ia =>hU2 _ (ne p' ia),fl];simp only [aeo,anX,ae_,hU1];rw [List.take_add]
  ·rw [jI]
   rcases vY p' ia with h|h
   ·rw [abB (fun z=>ne p' h (aeN z)),Tr _ (ne p' h),hU2 _ (ne p' h)]
    obtain ⟨iz,h1,h2,h3,h4⟩:=tU p' h;exact ⟨iz,h1,h2,kk _ _ (fun z=>by rw [z,e4] at h3;cases h3) h3,Paired.bV h4 fun _ _ z=>(z.same FL).aJ t6⟩
   ·subst h
    rw [abC rfl,Vv,hU1];refine ⟨_,rfl,(s4.trans s5).free n6,by rw [aj md];exact e6,?_⟩;have a1:=jc (ba (pins.take (i+1))-ba (pins.take i)) (gK (ba (pins.take i)) hu);have a2:ba (pins.take (i+1))-ba (pins.take i)=p'.ws.length:=by omega
    rw [a2] at a1 ⊢;exact Paired.bV a1 fun _ _ z=>((z.same s4).same FL).aJ t6
  ·rcases vY p' ia with h|h
   ·rw [hU2 _ (ne p' h)]
    exact lU p' h
   ·subst h
    rw [hU1,abv,afr];omega
  ·rcases vY p' ia with h|h<;>rcases vY q' m6 with h'|h'
   ·rw [Tr _ (ne p' h),Tr _ (ne q' h')]
    exact inj p' h q' h'
   ·subst h'
    rw [Tr _ (ne p' h),Vv];intro z;obtain ⟨o,ho⟩:=hold p' h;rw [z,s5.free n6] at ho;cases ho
   ·subst h
    rw [Tr _ (ne q' h'),Vv];intro z;obtain ⟨o,ho⟩:=hold q' h';rw [<-z,s5.free n6] at ho;cases ho
   ·intro _
    rw [h,h']
 ·rintro σ H4 ⟨o4,o5,kU,U,L,rfl,s4,l4,e4,ks,fl,tU,lU,inj⟩
  rw [ir,ir,aeA] at ks fl tU lU inj;have R4:=R.same s4;obtain ⟨dx,pP,pW,pB,kP,kW,kB,F4,W4⟩:=R4.ex;refine ⟨_,rfl,a,C,dx,_,_,_,rfl,F4.obj,rfl,MB,a,dx,pP,pW,pB,_,_,kP,kW,kB,rfl,F4,fun lb H5 s5 nlb VS=>?_⟩;rw [vV] at VS;have VU:=s4.trans s5;refine ⟨_,rfl,_,rfl,_,rfl,nl,_,rfl,aT.of (VU _ _ hn),?_⟩;have hw:ba pins<=us.length:=by omega
  rw [ir,ir,aeA,gT hw];intro m2 n6;generalize eX:upd _ m2 _=H6;have ⟨s6,e6⟩:=nw n6 eX
  have eks:(bars.map (·.nm)).map V.str=(bars.map fun b=>(aeB b.nm:Key)).map kV:=by
   rw [ab_,ab_];rfl
  rw [eks] at VS;refine ⟨lb,m2,bars.map fun b=>(aeB b.nm:Key),us.drop (ba pins),rfl,s6 _ _ VS,e6,by rw [ir];omega,fun dT H7 s7 n7 e7=>?_⟩;refine ⟨_,rfl,_,rfl,z2L,?_⟩;intro pt n8;generalize eX:upd _ pt _=H8;have ⟨s8,e8⟩:=nw n8 eX;have s58:=(s5.trans s6).trans (s7.trans s8);have s08:=s4.trans s58;have er:rs=pins.flatMap fun p=>U p.nm:=by rw [fl,aeE (by omega)]
  refine q U L pt dT dU kU H8 s08 er e8 ⟨nU,s58 _ _ e4,ks,fun p hp=>?_,lU,inj⟩;obtain ⟨iz,a1,a2,a3,a4⟩:=tU p hp;exact ⟨iz,a1,a2,s58 _ _ a3,Paired.bV a4 fun _ _ z=>z.same s58⟩
inductive rM (K:Frag)(C:abA)(vs:ζ)(H:Hp)(Q:VK)(E_:XK):Prop
|mk (a nl:abA)(pins:ι)(bars:ς)(us:ζ)(rs:Ι)(_:vs=[.ref a,.ref nl])(_:sW K H C a pins bars)(_:cV pins bars)(_:H nl=some (.lst us))(_:Paired (cU K H) us rs)(_:rs.length=2*pins.length)(_:∀(M:χ)(d:abA)(kM:γ)(H':Hp),ao H H' ->rs=(pins.flatMap fun p=>[(M p.nm).1,(M p.nm).2])->H d=none->H' d=some (.dK kM)->kM.map (·.1)=pins.map (fun p=>(aeB p.nm:Key))->(∀p∈pins,∃t v1 v2,bJ kM (.inr p.nm)=some (.ref t)/\H' t=some (.tup [v1,v2])/\cU K H' v1 (M p.nm).1/\cU K H' v2 (M p.nm).2)->Q (.ref d) H')
def yE {ps:ι}{U W:χ}(h:∀p∈ps,U p.nm=W p.nm):(ps.flatMap fun p=>[(U p.nm).1,(U p.nm).2])=ps.flatMap fun p=>[(W p.nm).1,(W p.nm).2]:=by
 induction ps with
 | nil=>rfl
 | cons p ps ih=>
  rw [aeo,aeo,h p aa_,ih fun q hq=>h q (aax _ hq)]
def FO:av ["F","numbers","motion","at","pin"] zax (ae JA):=sq
def aas (D:Def K mg "motion_from" JA zax)(fu:mg "enumerate"=none)(MP:ad P w K mg base 1 C "pins" zai (ja K C)):
  ac P w K mg base 2 "motion_from" zax (rM K C):=by
 refine D.oo FO fun H hr h=>?_;obtain ⟨a,nl,pins,bars,us,rs,rfl,R,g,hn,hu,hl,q⟩:=h;have lu:us.length=rs.length:=abL hu;have gl:=g.lp
 refine ⟨_,(aa (aG 2 FO.nd dc) (aa (bq abI rfl (EJ rfl fu (aX (eR (k:=1) (pv 0) hr.mo (IT P w)))) (fE rfl (a_ (bP 3 FO.nd) (a_ (bP 4 FO.nd) cX))) (ag (cx (bH hr) (pv 2) (pv 4) (aV (aI (bE aR (pv 1) (ay cu af (pv 3))) (bE aR (pv 1) (ay bC (ay cu af (pv 3)) af)))) rfl))) (ag (aC (pv 2))))),?_⟩;dsimp only [cxr,jD,Cx.xw,Cx.tu];refine sq2 ?_;intros
 intro d nd;have s1:=aE nd (.dK []);have e1:(upd H d (.dK [])) d=some (.dK []):=ah;generalize upd H d (.dK [])=H1 at s1 e1 ⊢;have R1:=R.same s1;obtain ⟨dx,pP,pW,pB,kP,kW,kB,F1,W1⟩:=R1.ex;refine ⟨_,rfl,a,C,dx,_,_,_,rfl,F1.obj,rfl,MP,a,dx,pP,pW,pB,_,_,kP,kW,kB,rfl,F1,fun lp H2 s2 BQ xA=>?_⟩;rw [iy] at xA;have tO:=s1.trans s2;have VP:lp≠d:=fun z=>by rw [z,e1] at BQ;cases BQ
 refine ⟨lp,rfl,⟨_,aT.of xA⟩,let I:zIv:=fun i σ H'=>Lk fun (o3 o4:Α) (kM:γ) (M:χ)=>σ=[ap a,ap nl,ap d,o3,o4]/\ao H H'/\H' lp=some (.lst ((pins.map (·.nm)).map V.str))/\H' d=some (.dK kM)/\kM.map (·.1)=(pins.take i).map (fun p=>(aeB p.nm:Key))/\((pins.take i).flatMap fun p=>[(M p.nm).1,(M p.nm).2])=rs.take (2*i)/\ (∀p∈pins.take i,∃t v1 v2,bJ kM (.inr p.nm)=some (.ref t)/\H' t=some (.tup [v1,v2])/\cU K H' v1 (M p.nm).1/\cU K H' v2 (M p.nm).2);yd (K:=K) (a:=lp) (xs:=(pins.map (·.nm)).map V.str) I
   ⟨none,none,[],fun _=>(0,0),rfl,tO,xA,s2 _ _ e1,rfl,rfl,by simp⟩ (fun i σ H' _ h=>by
   obtain ⟨_,_,_,_,_,_,h,_⟩:=h
   exact aT.of h) ?_ ?_⟩
 ·rintro i z σ H4 p9 hi ⟨o3,o4,kM,M,rfl,s4,l4,e4,ks,fl,tM⟩ n9
  rw [aaa,aaa] at hi;obtain ⟨x,hx,rfl⟩:=aaB.mp hi;obtain ⟨p,hp,rfl⟩:=aaB.mp hx;have il:i<pins.length:=(Wp.mp hp).1;have t9:=aE n9 (.tup [.int (i:Int),.str p.nm]);have e9:(upd H4 p9 (.tup [.int (i:Int),.str p.nm])) p9=some (.tup [.int (i:Int),.str p.nm]):=ah;generalize upd H4 p9 (.tup [.int (i:Int),.str p.nm])=H5 at t9 e9 ⊢;refine ⟨p9,_,rfl,bQ.of e9,rfl,_,_,rfl,_,_,rfl,rfl,?_⟩;have VU:=s4.trans t9;have QU:=VU _ _ hn;have l1:2*i<us.length:=by omega
  have l2:2*i+1<us.length:=by omega
  have c2:qN 2 (i:Int):=⟨by decide+kernel,aay (intBits_le_64 (by omega) (by omega)) (by decide)⟩
  have a1:iZ us (2*(i:Int))=some us[2*i]:=by
   have:=bG (xs:=us) (j:=2*i) (gE l1);rw [show ((2*i:Nat):Int)=2*(i:Int) by omega] at this;exact this
  have a2:iZ us (2*(i:Int)+1)=some us[2*i+1]:=by
   have:=bG (xs:=us) (j:=2*i+1) (gE l2);rw [show ((2*i+1:Nat):Int)=2*(i:Int)+1 by omega] at this;exact this
  refine ⟨_,rfl,_,rfl,_,_,rfl,rfl,c2,nl,_,_,_,rfl,rfl,aT.of QU,a1,_,rfl,_,rfl,_,_,rfl,rfl,c2,_,_,rfl,rfl,nl,_,_,_,rfl,rfl,aT.of QU,a2,z2L,?_⟩;intro t n6;generalize eX:upd _ t _=H6;have ⟨s6,e6⟩:=nw n6 eX;have e46:=s6 _ _ (t9 _ _ e4)
  have lk:kM.length<=9:=by
   have z:=abR afb ks;rw [ir,ir,abv] at z;omega
  refine ⟨_,rfl,_,rfl,d,_,rfl,gI.k (k:=.inr p.nm) e46 (aaZ (show kM.length<=1000 by omega) (by decide)),?_⟩
  have fresh:(aeB p.nm:Key)∉kM.map (·.1):=by
   rw [ks];intro z;obtain ⟨b',ff,VA⟩:=aar.mp z;exact g7 (nm:=aw.nm) g.np hp ff (aeN VA)
  have pk:putK kM (.inr p.nm) (.ref t)=kM++[(.inr p.nm,.ref t)]:=dE _ (bZ fresh);have t6:aY H6 (upd H6 d (.dK (putK kM (.inr p.nm) (.ref t)))):=.dict e46;have FL:=t9.trans s6;have td:t≠d:=fun z=>by rw [z,t9 _ _ e4] at n6;cases n6
  have kk:∀b o,b≠d->H4 b=some o->(upd H6 d (.dK (putK kM (.inr p.nm) (.ref t)))) b=some o:=fun b o n e=>by rw [aj n];exact FL _ _ e
  have ne:∀p' ∈pins.take i,p'.nm≠p.nm:=fun p' ia =>g7 (nm:=aw.nm) g.np hp ia;have tk:=take_snoc hp;obtain ⟨r1,er1,hr1⟩:=aA hu (gE l1);obtain ⟨r2,er2,hr2⟩:=aA hu (gE l2);obtain ⟨M',hM1,hM2⟩:∃M':Str->Rat×Rat,M' p.nm=(r1,r2)/\∀x,x≠p.nm->M' x=M x:=⟨fun x=>if x=p.nm then (r1,r2) else M x,abC rfl,fun x h=>abB h⟩;refine ⟨_,_,putK kM (.inr p.nm) (.ref t),M',rfl,fun b o e=>?_,kk _ _ VP l4,ah,?_,?_,fun p' ia =>?_⟩
  ·rw [aj (ak e nd)]
   exact FL _ _ (s4 _ _ e)
  ·rw [pk,abq,ks,tk,abq]
   rfl
  ·rw [tk,ae9,yE (U:=M') (W:=M) fun p' ia =>hM2 _ (ne p' ia),fl]
   simp only [aeo,anX,ae_,hM1];rw [show 2*(i+1)=2*i+1+1 by omega,aeQ,aeQ,er1,er2];simp
  ·rw [jI]
   rw [tk] at ia
   rcases abj.mp ia with h|h
   ·rw [abB (fun z=>ne p' h (aeN z)),hM2 _ (ne p' h)]
    obtain ⟨t',v1,v2,h1,h2,h3,h4⟩:=tM p' h;exact ⟨t',v1,v2,h1,kk _ _ (fun z=>by rw [z,e4] at h2;cases h2) h2,(h3.same FL).aJ t6,(h4.same FL).aJ t6⟩
   ·rw [abg.mp h,abC rfl,hM1]
    exact ⟨t,_,_,rfl,by rw [aj td];exact e6,((hr1.same VU).same s6).aJ t6,((hr2.same VU).same s6).aJ t6⟩
 ·rintro σ H4 ⟨o3,o4,kM,M,rfl,s4,l4,e4,ks,fl,tM⟩
  rw [ir,ir] at ks fl tM;rw [aeA] at ks fl tM;rw [<-hl,aeA] at fl;exact ⟨_,rfl,q M d kM H4 s4 fl.symm nd e4 ks tM⟩
def dt (a b:Rat×Rat):Rat:=a.1*b.1+a.2*b.2
def sP (as bs:Ι):Rat:=(aeU (·*·) as bs).sum
def eZ (bs:Ι):sP [] bs=0:=by simp [sP]
def bU (a b:Rat)(as bs:Ι):sP (a::as) (b::bs)=a*b+sP as bs:=by simp [sP]
theorem f7:∀{a c:Ι} (b d:Ι),a.length=c.length->sP (a++b) (c++d)=sP a c+sP b d
 | [],[],b,d,_=>by
  rw [ahH,ahH,eZ];grind
 | x::a,y::c,b,d,h=>by
  rw [agg,agg,bU,bU,f7 b d (by simpa using h)];grind
 | [],_::_,_,_,h=>by simp at h
 | _::_,[],_,_,h=>by simp at h
theorem kc:∀(ys cs:ο),ib ys cs=sP (ys.map vl) (cs.map vl)
 | [],_=>by simp [ib,sP]
 | _::_,[]=>by simp [ib,sP]
 | y::ys,c::cs=>by rw [HR,aaw,aaw,bU,kc ys cs]
theorem qu (F:θ)(M:χ):∀pins:List aw,sP ((cj F pins).map vl) (pins.flatMap fun p=>[(M p.nm).1,(M p.nm).2])=(pins.map fun p=>dt (mv F p.nm) (M p.nm)).sum
 | []=>by simp [cj,sP]
 | p::ps=>by
  have ih:=qu F M ps;unfold cj at ih ⊢;rw [aeo,aeo,abq,f7 _ _ (by simp),ih];simp only [aaw,aez,d_,bU,eZ,ad_];unfold dt;grind
def Q7 {pins:ι}(nd:(pins.map (·.nm)).Nodup)(hp:p∈pins){f:Β}(h:∀q∈pins,q.nm≠p.nm->f q.nm=0):(pins.map fun q=>f q.nm).sum=f p.nm:=by
 induction pins with
 | nil=>simp at hp
 | cons q ps ih=>
  rw [aaw,aeC] at nd;rw [aaw,ad_]
  have zero:∀(l:ι),(∀r∈l,f r.nm=0)->(l.map fun q=>f q.nm).sum=0:=fun l hl=>by
   induction l with
   | nil=>simp
   | cons r l ihl=>
    rw [aaw,ad_,hl r aa_,ihl fun s hs=>hl s (aax _ hs)];grind
  by_cases e:q.nm=p.nm
  ·rw [e,zero ps fun r hr=>h r (aax _ hr) fun z=>nd.1 (by rw [e,<-z];exact aar.mpr ⟨r,hr,rfl⟩)]
   grind
  ·rw [h q aa_ e]
   have ia :p∈ps:=by
    rcases aes.mp hp with z|z
    ·exact abM (by rw [z]) e
    ·exact z
   rw [ih nd.2 ia fun r hr=>h r (aax _ hr)];grind
def lE (x:Str)(w:Rat×Rat)(y:Str):mv (fM x w) y=if y=x then w else (0,0):=by
 unfold mv fM;by_cases e:y=x
 ·rw [abC e,abC e]
  rfl
 ·rw [abB e,abB e]
  rfl
def ke (m:Rat×Rat):dt (0,0) m=0:=by
 unfold dt;grind
def vZ {pins:ι}(nd:(pins.map (·.nm)).Nodup)(hp:p∈pins)(w:Rat×Rat)(M:χ):(pins.map fun q=>dt (mv (fM p.nm w) q.nm) (M q.nm)).sum=dt w (M p.nm):=by
 rw [Q7 nd hp (f:=fun x=>dt (mv (fM p.nm w) x) (M x)) fun q _ e=>by rw [lE,abB e];exact ke _];rw [lE,abC rfl]
theorem sum_add (f g:aw->Rat):∀l:List aw,(l.map fun q=>f q+g q).sum=(l.map f).sum+(l.map g).sum
 | []=>by
  simp only [aez,ae3];grind
 | p::l=>by
  rw [aaw,ad_,sum_add f g l,aaw,aaw,ad_,ad_];grind
def cR (M:χ)(b:aK):Rat:=dt (jt b.one b.other) ((M b.other.nm).1-(M b.one.nm).1,(M b.other.nm).2-(M b.one.nm).2)
def VW (b:aK)(h:b.one.nm≠b.other.nm)(x:Str)(m:Rat×Rat):dt (mv (cJ b) x) m=dt (mv (fM b.one.nm (jt b.one b.other)) x) m+dt (mv (fM b.other.nm (jt b.other b.one)) x) m:=by
 rw [lE,lE];unfold mv cJ;by_cases c1:x=b.one.nm
 ·rw [abC c1,abC c1,abB (fun z=>h (c1.symm.trans z)),ke]
  show dt (jt b.one b.other) m=_;grind
 ·rw [abB c1,abB c1,ke]
  by_cases c2:x=b.other.nm
  ·rw [abC c2,abC c2]
   show dt (jt b.other b.one) m=_;grind
  ·rw [abB c2,abB c2,ke]
   show dt (0,0) m=_;rw [ke];grind
def FP {pins:ι}(nd:(pins.map (·.nm)).Nodup)(b:aK)(h1:b.one∈pins)(h2:b.other∈pins)(h:b.one.nm≠b.other.nm)(M:χ):(pins.map fun q=>dt (mv (cJ b) q.nm) (M q.nm)).sum= -(cR M b):=by
 have e:(pins.map fun q=>dt (mv (cJ b) q.nm) (M q.nm))=pins.map fun q=>dt (mv (fM b.one.nm (jt b.one b.other)) q.nm) (M q.nm)+dt (mv (fM b.other.nm (jt b.other b.one)) q.nm) (M q.nm):=abk fun q _=>VW b h _ _;rw [e,sum_add,vZ nd h1,vZ nd h2];unfold cR dt jt;grind
structure BU (pins:ι)(bars:ς)(M:χ):Prop where
 VX:∀p∈pins,∀w∈p.ws,dt w (M p.nm)=0
 bars:∀b∈bars,cR M b=0
noncomputable def iW (pins:ι)(L:θ)(M:χ):Rat:=(pins.map fun p=>dt (mv L p.nm) (M p.nm)).sum
noncomputable def dR (bars:ς)(T:Β)(U:υ)(p:aw)(c:Rat×Rat->Rat):Rat:=sP (U p.nm) (p.ws.map c)+(bars.map fun b=>T b.nm*c (mv (cJ b) p.nm)).sum
def gw (pins:ι)(bars:ς)(T:Β)(U:υ)(L:θ):Prop:=∀p∈pins,dR bars T U p (·.1)+(mv L p.nm).1=0/\dR bars T U p (·.2)+(mv L p.nm).2=0
theorem iA:∀(as:Ι) {α:Type} (l:List α),sP as (l.map fun _=>(0:Rat))=0
 | [],_,_=>eZ _
 | _::_,_,[]=>by simp [sP]
 | a::as,_,x::l=>by
  rw [aaw,bU,iA as l];grind
theorem FQ {U:υ}(c0:c (0,0)=0)(p:aw):∀(ps:ι),(ps.map (·.nm)).Nodup->(∀q∈ps,(U q.nm).length=q.ws.length)->(∀q∈ps,q.nm=p.nm->q=p)->
  sP (ps.flatMap fun q=>U q.nm) (ps.flatMap fun q=>q.ws.map fun w=>c (mv (fM q.nm w) p.nm))=if p.nm∈ps.map (·.nm) then sP (U p.nm) (p.ws.map c) else 0
 | [],_,_,_=>by simp [sP]
 | q::ps,nd,hl,inj=>by
  rw [aaw,aeC] at nd;have ih:=FQ c0 p ps nd.2 (fun r hr=>hl r (aax _ hr)) fun r hr=>inj r (aax _ hr);rw [aeo,aeo,f7 _ _ (by rw [hl q aa_,ir]),ih,aaw];by_cases e:q.nm=p.nm
  ·have eq:q=p:=inj q aa_ e
   subst eq;have ec:(q.ws.map fun w=>c (mv (fM q.nm w) q.nm))=q.ws.map c:=abk fun w _=>by rw [lE,abC rfl]
   rw [abB nd.1,abC aa_,ec];grind
  ·have ec:(q.ws.map fun w=>c (mv (fM q.nm w) p.nm))=q.ws.map fun _=>(0:Rat):=abk fun w _=>by rw [lE,abB (fun z=>e z.symm)];exact c0
   rw [ec,iA];by_cases hm:p.nm∈ps.map (·.nm)
   ·rw [abC hm,abC (aax _ hm)]
    grind
   ·rw [abB hm,abB (fun z=>by
     rcases aes.mp z with z|z
     ·exact e z.symm
     ·exact hm z)]
    grind
theorem BV {α:Type}(f g:α->Rat):∀l:List α,sP (l.map f) (l.map g)=(l.map fun x=>f x*g x).sum
 | []=>by simp [sP]
 | x::l=>by rw [aaw,aaw,bU,BV f g l,aaw,ad_]
def Q8 {pins:ι}{bars:ς}{T:Β}{U:υ}{c:Rat×Rat->Rat}(c0:c (0,0)=0)(nd:(pins.map (·.nm)).Nodup)(hl:∀q∈pins,(U q.nm).length=q.ws.length)(hp:p∈pins)(y:Rat):
  sP ((pins.flatMap fun q=>U q.nm)++bars.map (fun b=>T b.nm)++[y]) (((pins.flatMap fun q=>q.ws.map fun w=>c (mv (fM q.nm w) p.nm))++bars.map fun b=>c (mv (cJ b) p.nm))++[c (mv L p.nm)])=dR bars T U p c+y*c (mv L p.nm):=by
 have l1:(pins.flatMap fun q=>U q.nm).length=(pins.flatMap fun q=>q.ws.map fun w=>c (mv (fM q.nm w) p.nm)).length:=by
  clear hp nd
  induction pins with
  | nil=>rfl
  | cons q ps ih=>rw [aeo,aeo,aba,aba,ih fun r hr=>hl r (aax _ hr),hl q aa_,ir]
 rw [f7 _ _ (by rw [aba,aba,l1,ir,ir]),f7 _ _ l1,FQ c0 p pins nd hl fun q hq e=>Vk (nm:=aw.nm) nd hq hp e,abC (aar.mpr ⟨p,hp,rfl⟩),BV,bU,eZ];unfold dR;grind
theorem v7 (F:θ):∀{pins:ι} {k:Nat} {p:aw},pins[k]?=some p->vl ((cj F pins).getD (2*k) (0,1))=(mv F p.nm).1/\vl ((cj F pins).getD (2*k+1) (0,1))=(mv F p.nm).2
 | q::ps,0,p,h=>by
  cases h;unfold cj;rw [aeo];exact ⟨d_ _,d_ _⟩
 | q::ps,k+1,p,h=>by
  have ih:=v7 F (pins:=ps) (k:=k) (p:=p) (by simpa using h);unfold cj at ih ⊢;rw [aeo];exact ih
def KD (pins:ι)(bars:ς)(L:θ){k:Nat}(h:pins[k]?=some p)(j:Nat)(c:Rat×Rat->Rat)(hj:∀F,vl ((cj F pins).getD j (0,1))=c (mv F p.nm)):
  (cW (gd pins bars++[cj L pins]) j).map vl=((pins.flatMap fun q=>q.ws.map fun w=>c (mv (fM q.nm w) p.nm))++bars.map fun b=>c (mv (cJ b) p.nm))++[c (mv L p.nm)]:=by
 have flat:∀ps:List aw,((ps.flatMap fun q=>oj pins q).map fun qs=>vl (qs.getD j (0,1)))=ps.flatMap fun q=>q.ws.map fun w=>c (mv (fM q.nm w) p.nm):=fun ps=>by
  induction ps with
  | nil=>rfl
  | cons q ps ih=>
   rw [aeo,aeo,abq,ih];congr 1;unfold oj;rw [ab_];exact abk fun w _=>hj _
 unfold cW gd;rw [ab_,abq,abq,aaw,aez];congr 1
 ·congr 1
  ·exact flat pins
  ·rw [ab_]
   exact abk fun b _=>hj _
 ·rw [<-hj]
  rfl
def d6 (h:1<=k):Sz k 0:=by
 have:=nR (i:=0) (k:=k) (by simpa using an_ k) h;simpa using this
structure Zb (n:Nat)(r:Rat):Prop where
 top:(qr r).1.natAbs<=2^n
 bot:(qr r).2.natAbs<=2^n
def Tx (h:Sm T B q):q=qr (vl q):=uL h.pos h.low
def Tz (h:Sz k r)(h2:k<=50):Sm 50 50 (qr r):=
 ⟨cI r,nQ r,ae1 (aep (intBits_le_iff.mp h.top) (aet (by decide) h2)),ae1 (aep (intBits_le_iff.mp h.bot) (aet (by decide) h2))⟩
def FR (h:∀x,Sz 50 (mv F x).1/\Sz 50 (mv F x).2)(pins:ι):∀q∈cj F pins,Sm 50 50 q:=fun q hq=>by
 unfold cj at hq;obtain ⟨p,_,hq⟩:=ae5.mp hq;have z:=h p.nm
 rcases aes.mp hq with e|hq
 ·rw [e]
  exact Tz z.1 (aaA _)
 ·rw [abg.mp hq]
  exact Tz z.2 (aaA _)
def VY {w:Rat×Rat}(h:Sz 50 w.1/\Sz 50 w.2)(y:Str):Sz 50 (mv (fM x w) y).1/\Sz 50 (mv (fM x w) y).2:=by
 rw [lE];by_cases c:y=x
 ·rw [abC c]
  exact h
 ·rw [abB c]
  exact ⟨d6 (by decide),d6 (by decide)⟩
def BW (g:cV pins bars)(hb:b∈bars)(y:Str):Sz 50 (mv (cJ b) y).1/\Sz 50 (mv (cJ b) y).2:=by
 obtain ⟨m1,m2,_⟩:=g.ends b hb;have z1:=g.sz _ m1;have z2:=g.sz _ m2;unfold mv cJ;by_cases c1:y=b.one.nm
 ·rw [abC c1]
  exact ⟨(z2.1.sub z1.1).up (by decide),(z2.2.1.sub z1.2.1).up (by decide)⟩
 ·rw [abB c1]
  by_cases c2:y=b.other.nm
  ·rw [abC c2]
   exact ⟨(z1.1.sub z2.1).up (by decide),(z1.2.1.sub z2.2.1).up (by decide)⟩
  ·rw [abB c2]
   exact ⟨d6 (by decide),d6 (by decide)⟩
def lG (g:cV pins bars):∀qs∈gd pins bars,qs.length=2*pins.length/\∀q∈qs,Sm 50 50 q:=fun qs hq=>by
 unfold gd at hq
 rcases abj.mp hq with h|h
 ·obtain ⟨p,hp,h⟩:=ae5.mp h
  unfold oj at h;obtain ⟨w,hw,rfl⟩:=aar.mp h;have z:=(g.sz p hp).2.2 w hw;exact ⟨cP _ _,FR (VY ⟨z.1.up (by decide),z.2.up (by decide)⟩) pins⟩
 ·obtain ⟨b,hb,rfl⟩:=aar.mp h
  exact ⟨cP _ _,FR (BW g hb) pins⟩
theorem mP :∀{us:ζ} {qs:ο},cH K H us qs->(∀q∈qs,Sm T B q)->Paired (cU K H) us (qs.map vl)
 | [],[],_,_=>.nil
 | u::us,q::qs,h,hs=>by
  refine .cons ?_ (mP ⟨by simpa using h.1,fun i u q e1 e2=>h.2 (i+1) u q (by simpa using e1) (by simpa using e2)⟩ fun r hr=>hs r (aax _ hr));have n:=h.2 0 u q rfl rfl;show jw K H u (qr (vl q));rw [<-Tx (hs q aa_)];exact n
 | [],_::_,h,_=>(nomatch h.1)
 | _::_,[],h,_=>(nomatch h.1)
structure MoR (K:Frag)(H H':Hp)(pins:ι)(d:abA)(kM:γ)(M:χ):Prop where
 nM:H d=none
 hM:H' d=some (.dK kM)
 keys:kM.map (·.1)=pins.map (fun p=>(aeB p.nm:Key))
 tM:∀p∈pins,∃t v1 v2,bJ kM (.inr p.nm)=some (.ref t)/\H' t=some (.tup [v1,v2])/\cU K H' v1 (M p.nm).1/\cU K H' v2 (M p.nm).2
def dO {α:Type}{l:List α}(h:l.Nodup){i j:Nat}{x:α}(hi:l[i]?=some x)(hj:l[j]?=some x):i=j:=by
 obtain ⟨i1,i2⟩:=Wp.mp hi;obtain ⟨j1,j2⟩:=Wp.mp hj;exact (al_ h).mp (i2.trans j2.symm)
theorem oq :∀{us:ζ} {zs:List α},us.length=zs.length->(∀(i:Nat)(u:V),us[i]?=some u->∃z,zs[i]?=some z/\R u z)->Paired R us zs
 | [],[],_,_=>.nil
 | u::us,z::zs,l,h=>by
  obtain ⟨z',e,hz⟩:=h 0 u rfl;cases e;exact .cons hz (oq (by simpa using l) fun i u e=>h (i+1) u (by simpa using e))
theorem rN {α β:Type}(f:α->β->Rat)(bs:List β):∀as:List α,(as.map fun a=>(bs.map fun b=>f a b).sum).sum=(bs.map fun b=>(as.map fun a=>f a b).sum).sum
 | []=>by
  induction bs with
  | nil=>rfl
  | cons b bs ih=>
   rw [aaw,ad_,<-ih];simp only [aez,ae3];grind
 | a::as=>by
  rw [aaw,ad_,rN f bs as];clear rN
  induction bs with
  | nil=>
   simp only [aez,ae3];grind
  | cons b bs ih=>
   simp only [aaw,ad_] at ih ⊢;grind
theorem v9 {α:Type}(t:Rat)(f:α->Rat):∀l:List α,(l.map fun a=>t*f a).sum=t*(l.map f).sum
 | []=>by
  simp only [aez,ae3];grind
 | a::l=>by
  rw [aaw,ad_,aaw,ad_,v9 t f l];grind
theorem sum_neg {α:Type}(f:α->Rat):∀l:List α,(l.map fun a=> -(f a)).sum= -(l.map f).sum
 | []=>by
  simp only [aez,ae3];grind
 | a::l=>by
  rw [aaw,ad_,aaw,ad_,sum_neg f l];grind
theorem TB (m:Rat×Rat):∀(us:Ι)(ws:Θ),sP us (ws.map (·.1))*m.1+sP us (ws.map (·.2))*m.2=sP us (ws.map fun w=>dt w m)
 | [],_=>by
  simp only [eZ];grind
 | _::_,[]=>by
  simp [sP];grind
 | u::us,w::ws=>by
  have ih:=TB m us ws;simp only [aaw,bU];unfold dt at ih ⊢;grind
theorem FT (T:Β)(p:aw)(m:Rat×Rat):∀bars:List aK,(bars.map fun b=>T b.nm*(mv (cJ b) p.nm).1).sum*m.1+(bars.map fun b=>T b.nm*(mv (cJ b) p.nm).2).sum*m.2=(bars.map fun b=>T b.nm*dt (mv (cJ b) p.nm) m).sum
 | []=>by
  simp only [aez,ae3];grind
 | b::bars=>by
  have ih:=FT T p m bars;simp only [aaw,ad_];unfold dt at ih ⊢;grind
def Q9 {ws:Θ}(us:Ι)(h:∀w∈ws,dt w m=0):sP us (ws.map fun w=>dt w m)=0:=by
 have:(ws.map fun w=>dt w m)=ws.map fun _=>(0:Rat):=abk h;rw [this];exact iA us ws
def yF (g:cV pins bars)(h:gw pins bars T U L)(hw:∀p∈pins,∀w∈p.ws,dt w (M p.nm)=0):iW pins L M=(bars.map fun b=>T b.nm*cR M b).sum:=by
 have e1:∀p∈pins,dt (mv L p.nm) (M p.nm)= -((bars.map fun b=>T b.nm*dt (mv (cJ b) p.nm) (M p.nm)).sum):=fun p hp=>by
  obtain ⟨r1,r2⟩:=h p hp;unfold dR at r1 r2;have a:=TB (M p.nm) (U p.nm) p.ws;rw [Q9 _ (hw p hp)] at a;have b:=FT T p (M p.nm) bars;rw [<-b];unfold dt;grind
 unfold iW;rw [abk e1,sum_neg,rN (fun (p:aw) (b:aK)=>T b.nm*dt (mv (cJ b) p.nm) (M p.nm)) bars pins]
 have e2:∀b∈bars,(pins.map fun p=>T b.nm*dt (mv (cJ b) p.nm) (M p.nm)).sum= -(T b.nm*cR M b):=fun b hb=>by
  obtain ⟨m1,m2,m3⟩:=g.ends b hb;rw [v9 (T b.nm) (fun p:aw=>dt (mv (cJ b) p.nm) (M p.nm)) pins,FP g.np b m1 m2 m3];grind
 rw [abk e2,sum_neg];grind
def NL (g:cV pins bars)(h:gw pins bars T U L)(mo:BU pins bars M)(w:iW pins L M=1):False:=by
 have e:=yF g h mo.VX
 have:(bars.map fun b=>T b.nm*cR M b)=bars.map fun b=>0*T b.nm:=abk fun b hb=>by
  rw [mo.bars b hb];grind
 rw [this,v9 0 (fun b:aK=>T b.nm)] at e;grind
inductive v_ (K:Frag)(vs:ζ)(H:Hp)(Q:VK)(E_:XK):Prop
|mk (l:abA)(us:ζ)(rs:Ι)(_:vs=[.ref l])(_:H l=some (.lst us))(_:Paired (cU K H) us rs)(_:us.length<=100)(_:∀(l':abA)(mI :ζ)(H':Hp),ao H H' ->H' l'=some (.lst mI)->Paired (cU K H') mI (rs.map fun r=> -r)->Q (.ref l') H')
def aat:av zaR zaR (ae JB):=sq
def aau (D:Def K mg "signs_turned" JB zaR):ac P w K mg base 1 "signs_turned" zaR (v_ K):=by
 refine D.oo aat fun H hr h=>?_;obtain ⟨l,us,rs,rfl,hl,pp,ln,q⟩:=h;have lu:=abL pp;refine ⟨_,(ag (aC (eV (tn:=["number"]) (fr:=[]) (caps:=[]) (bo (pv 0)) (aV (aI (SY LR (bE (dZ (K:=K) rfl) (pv 0) af)) (bE (dZ (K:=K) rfl) (pv 0) af)))))),_,rfl,l,rfl,⟨_,aT.of hl⟩,fun D1 n1=>?_⟩;refine dG (cap:=[]) (K:=K) (a:=l) (xs:=us) (fun i v H'=>∃r,rs[i]?=some r/\cU K H' v (-r)) n1 (aaZ ln (by decide)) (fun H2 s2=>aT.of (s2 _ _ hl)) (fun i v H6 H7 ys e ks ⟨r,h1,h2⟩=>⟨r,h1,h2.aJ (aY.ks e ks)⟩) ?_ ?_
 ·intro i u H2 R hu s2 k
  obtain ⟨r,er,hr⟩:=aA pp hu;obtain ⟨p,rfl,hq⟩:jw K H2 u (qr r):=hr.same s2;refine ⟨_,rfl,p,_,_,_,rfl,rfl,hq,iU,_,rfl,_,rfl,p,_,_,_,rfl,rfl,hq,iu,z2L,?_⟩;intro p3 n3;generalize eX:upd _ p3 _=H3;have ⟨s3,e3⟩:=nw n3 eX;refine k _ _ s3 ⟨r,er,p3,rfl,?_⟩;rw [BB];exact bQ.of e3
 ·intro ys H2 ly hy s2 hD
  refine q D1 ys H2 s2 hD (oq (by rw [ly,lu,ir]) fun i v e=>?_);obtain ⟨r,er,hr⟩:=hy i v e;exact ⟨-r,by rw [aaa,er];rfl,hr⟩
inductive jO (K:Frag)(C:abA)(vs:ζ)(H:Hp)(Q:VK)(E_:XK):Prop
|mk (a dx pP pW pB d:abA)(ps:Κ)(bs:Δ)(kP kW kB kvs:γ)(_:vs=[.ref a,.ref d])(_:fS K H C a dx pP pW pB ps bs kP kW kB)(_:H d=some (.dK kvs))(_:(∀kv∈kvs,∃x∈bs.map (·.1),kv.1=.inr x))(_:bs.length<=60)(_:∀H',ao H H' ->Q .cT H')
def iJ:av ["F","told","bars","bar"] ["F","told"] (ae d0):=sq
def tQ (D:Def K mg "check_bars" d0 ["F","told"])(MB:ad P w K mg base 1 C "bars" zai (jM K C)):ac P w K mg base 2 "check_bars" ["F","told"] (jO K C):=by
 refine D.oo iJ fun H hr h=>?_;obtain ⟨a,dx,pP,pW,pB,d,ps,bs,kP,kW,kB,kvs,rfl,R,hd,hk,hl,q⟩:=h
 refine ⟨_,(aa (aG 2 iJ.nd (eR (k:=1) (pv 0) hr.mo (IT P w))) (ag (j6 (bq abI rfl (EL (pv 1)) (bP 3 iJ.nd) (ag (bu (qb me (pv 3) (pv 2) rfl) (ag (c6)) aQ)))))),?_⟩
 refine ⟨_,rfl,a,C,dx,_,_,_,rfl,R.obj,rfl,MB,a,dx,pP,pW,pB,ps,bs,kP,kW,kB,rfl,R,fun l H1 s1 nl el=>?_⟩;have NF:=s1 _ _ hd;refine ⟨_,rfl,d,kvs,rfl,NF,fun o=>?_⟩;have k0:bw d H1 (upd H1 d (.fB o (.dK kvs))):=fun b o' n e=>by rw [aj n];exact e
 have ld:l≠d:=fun z=>by rw [z,NF] at el;cases el
 refine let I:zIv:=fun t σ H'=>∃(o2:Α),σ=[ap a,ap d,ap l,o2]/\H'=upd H1 d (.fB o (.dK kvs));yf (d:=d) (o:=o) (kvs:=kvs) I ⟨none,rfl,rfl⟩ (fun t σ H' _ h=>by
   obtain ⟨_,_,rfl⟩:=h
   exact ah) ?_ ?_
 ·rintro t k y σ H6 uS ⟨o2,rfl,rfl⟩
  obtain ⟨x,hx,ex⟩:=hk _ (aaq uS);have zX :k=.inr x:=ex;subst zX;refine ⟨_,rfl,_,rfl,l,_,rfl,.inl (aT.of (by rw [aj ld];exact el)),rfl,uK _,_,rfl,bB (fun c=>?_) (fun _=>⟨_,rfl,rfl⟩)⟩;have c':(!W9 (.str x) ((bs.map (·.1)).map V.str))=true:=c;rw [rh,abU hx] at c';cases c'
 ·rintro σ H6 ⟨o2,rfl,rfl⟩
  refine ⟨d,o,kvs,ah,fun o' u' z=>(by have z':H d=some (.fB o' u'):=z;rw [hd] at z';cases z'),q _ fun b o' e=>?_⟩;by_cases n:b=d
  ·subst n
   rw [hd] at e;rw [ah];exact e
  ·rw [aj n,aj n]
   exact s1 _ _ e
theorem ou :∀{l₁:List α} {l₂:List β} {a:α} {b:β},Paired F l₁ l₂->F a b->Paired F (l₁++[a]) (l₂++[b])
 | _,_,_,_,.nil,h=>.cons h .nil
 | _,_,_,_,.cons h t,h'=>.cons h (ou t h')
def rO (G:Τ)(x:Str):Int×Int:=(G x).getD (1,1)
inductive lH (K:Frag)(C:abA)(vs:ζ)(H:Hp)(Q:VK)(E_:XK):Prop
|mk (a dx pP pW pB d:abA)(ps:Κ)(bs:Δ)(kP kW kB kvs:γ)(G:Τ)(_:vs=[.ref a,.ref d])(_:fS K H C a dx pP pW pB ps bs kP kW kB)(_:H d=some (.dK kvs))(_:BA K H kvs G)(_:(∀kv∈kvs,∃x∈bs.map (·.1),kv.1=.inr x))(_:bs.length<=60)(_:(bs.map (·.1)).Nodup)(_:(∀x,0<(rO G x).1))(_:∀(e:abA)(kA :γ)(H':Hp),ao H H' ->H e=none->H' e=some (.dK kA)->Paired (fun (kv:Key×V) x=>kv.1=.inr x/\jw K H' kv.2 (rO G x)) kA (bs.map (·.1))->Q (.ref e) H')
def gL:av ["F","grips","firm","bar","grip"] zaS (ae fh):=sq
def wc (hO:∀H:Hp,bQ K H aO [.int 1,.int 1])(VZ:mg "ONE"=some (.ref aO))(D:Def K mg "all_grips" fh zaS)(MB:ad P w K mg base 1 C "bars" zai (jM K C))
  (wd:ac P w K mg base 2 "check_bars" ["F","told"] (jO K C)):ac P w K mg base 3 "all_grips" zaS (lH K C):=by
 refine D.oo gL fun H hr h=>?_;obtain ⟨a,dx,pP,pW,pB,d,ps,bs,kP,kW,kB,kvs,G,rfl,R,hd,hG,hk,hl,nd,hp,q⟩:=h
 refine ⟨_,(aa (bN (aL wd hr (aI (pv 0) (pv 1)))) (aa (aG 2 gL.nd dc) (aa (bq abI rfl (bo (eR (k:=1) (pv 0) hr.mo (IT P w))) (bP 3 gL.nd) (aa (aG 4 gL.nd (jJ (bH hr) (pv 1) (pv 3) (fC (v:=.ref aO) rfl VZ rfl) ⟨rfl,rfl,rfl,rfl⟩)) (aa (bu (bx X6 (aF (pv 4)) af) (ag (c6)) aQ) (ag (cx (bH hr) (pv 2) (pv 3) (pv 4) rfl))))) (ag (aC (pv 2)))))),?_⟩
 refine ⟨_,rfl,_,rfl,a,dx,pP,pW,pB,d,ps,bs,kP,kW,kB,kvs,rfl,R,hd,hk,hl,fun H1 s1=>?_⟩;intro e ne;have s2:=aE ne (.dK []);have lW:ao H (upd H1 e (.dK [])):=fun b o z=>s2 _ _ (s1 _ _ z);have R2:=R.same lW;have e2:(upd H1 e (.dK [])) e=some (.dK []):=ah
 have ne':H e=none:=by
  cases z:H e with
  | none=>rfl
  | some o=>rw [s1 _ _ z] at ne;cases ne
 generalize upd H1 e (.dK [])=H2 at lW R2 e2 ⊢;refine ⟨_,rfl,a,C,dx,_,_,_,rfl,R2.obj,rfl,MB,a,dx,pP,pW,pB,ps,bs,kP,kW,kB,rfl,R2,fun l H3 s3 nl el=>?_⟩
 refine ⟨l,rfl,⟨_,aT.of el⟩,let I:zIv:=fun i σ H'=>IS fun (o3 o4:Α) (sY :γ)=>σ=[ap a,ap d,ap e,o3,o4]/\ao H H'/\H' l=some (.lst ((bs.map (·.1)).map V.str))/\H' e=some (.dK sY)/\Paired (fun (kv:Key×V) x=>kv.1=.inr x/\jw K H' kv.2 (rO G x)) sY ((bs.map (·.1)).take i);bW (K:=K) (a:=l) (xs:=(bs.map (·.1)).map V.str) I ⟨none,none,[],rfl,fun b o z=>s3 _ _ (lW _ _ z),el,s3 _ _ e2,.nil⟩ (fun i σ H' _ h=>by
   obtain ⟨_,_,_,_,_,h,_⟩:=h
   exact aT.of h) ?_ ?_⟩
 ·rintro i z σ H4 hi ⟨o3,o4,sY,rfl,s4,l4,e4,Xm⟩
  have aha:=abL Xm;rw [abv,ir] at aha;rw [aaa] at hi;obtain ⟨x,ex,rfl⟩:=aaB.mp hi;have hil:i<(bs.map (·.1)).length:=(Wp.mp ex).1;rw [ir] at hil;have hx:x∈bs.map (·.1):=aaq ex;have d4:=s4 _ _ hd;have G4:=hG.same s4;have O4:jw K H4 (.ref aO) (1,1):=⟨aO,rfl,hO H4⟩;have g4:=G4.IF (x:=x) O4;refine ⟨_,rfl,d,rfl,.inl ⟨_,.inl d4⟩,_,rfl,_,dh.k (k:=.inr x) d4,?_⟩;obtain ⟨p,ep,hp4⟩:=id g4;rw [ep];refine ⟨_,rfl,p,_,_,_,rfl,rfl,hp4,iU,_,_,rfl,rfl,_,rfl,?_⟩;have pos:0<((G x).getD (1,1)).1:=hp x;refine bB (fun c=>abM (abS c) (by omega)) (fun _=>?_);refine ⟨_,rfl,_,rfl,_,rfl,e,_,rfl,gI.k (k:=.inr x) e4 (aaZ (show sY.length<=1000 by omega) (by decide)),?_⟩
  have fresh:(aeB x:Key)∉sY.map (·.1):=fun z=>by
   obtain ⟨kv,MK,uS⟩:=aar.mp z;obtain ⟨j,ej⟩:=abh MK;obtain ⟨y,ey,e1,_⟩:=aA Xm ej;rw [e1] at uS;have ex2:y=x:=aeN uS;rw [ex2] at ey
   have hj:j<i:=by
    have:=(Wp.mp ey).1;rw [abv] at this;omega
   rw [aeM hj] at ey;have:=(ae7 (by have:=(Wp.mp ey).1;exact this) nd).mp (ey.trans ex.symm);omega
  refine ⟨_,_,_,rfl,fun b o z=>?_,?_,ah,?_⟩
  ·rw [aj (ak z ne')]
   exact s4 _ _ z
  ·rw [aj (fun z=>by rw [z,e4] at l4;cases l4)]
   exact l4
  ·rw [dE _ (bZ fresh),aeQ,ex]
   have t4:aY H4 (upd H4 e (.dK (sY ++[(.inr x,.ref p)]))):=.dict e4;refine ou (Paired.bV Xm fun _ _ z=>⟨z.1,z.2.aJ t4⟩) ⟨rfl,?_⟩;exact (show jw K H4 (.ref p) (rO G x) from (by rw [<-ep];exact g4)).aJ t4
 ·rintro σ H4 ⟨o3,o4,sY,rfl,s4,l4,e4,Xm⟩
  rw [aeE (by simp)] at Xm;exact ⟨_,rfl,q e sY H4 s4 ne' e4 Xm⟩
def Q_ (M:θ)(b:aK):Rat:=ZR (jt b.one b.other) ((mv M b.other.nm).1-(mv M b.one.nm).1,(mv M b.other.nm).2-(mv M b.one.nm).2)
inductive NM (K:Frag)(C:abA)(vs:ζ)(H:Hp)(Q:VK)(E_:XK):Prop
|mk (a d:abA)(pins:ι)(bars:ς)(kvs:γ)(M:θ)(_:vs=[.ref a,.ref d])(_:sW K H C a pins bars)(_:cV pins bars)(_:H d=some (.dK kvs))(_:BC K H kvs M)(_:(∀x,Sz 700000 (mv M x).1/\Sz 700000 (mv M x).2))(_:∀(e:abA)(kA :γ)(H':Hp),ao H H' ->H e=none->H' e=some (.dK kA)->kA.map (·.1)=bars.map (fun b=>(aeB b.nm:Key))->(∀b∈bars,∃v,bJ kA (.inr b.nm)=some v/\cU K H' v (Q_ M b))->Q (.ref e) H')
def dF:av ["F","motion","longer","bar","two","apart"] zaQ (ae de):=sq
def pU (hM:∀H:Hp,gc K H (.ref aM) (0,0))(BP:mg "NO_MOVE"=some (.ref aM))(D:Def K mg "lengthenings" de zaQ)(MB:ad P w K mg base 1 C "bars" zai (jM K C))(ME:ad P w K mg base 1 C "ends" zaM (rG K C))
  (Q4:ac P w K mg base 36 "arm_between" zam (FN K C)) (VO:ac P w K mg base 35 "pair_difference" zab (vR K fun a b=>a-b)) (rP:ac P w K mg base 35 "pair_product" zab (Nz K)):
  ac P w K mg base 37 "lengthenings" zaQ (NM K C):=by
 refine D.oo dF fun H hr h=>?_;obtain ⟨a,d,pins,bars,kvs,M,rfl,R,g,hd,hP,zM,q⟩:=h
 refine ⟨_,(aa (aG 2 dF.nd dc) (aa (bq abI rfl (bo (eR (k:=1) (pv 0) hr.mo (IT P w))) (bP 3 dF.nd) (aa (aG 4 dF.nd (eC (k:=1) (pv 0) hr.mo (IT P w) (aX (pv 3)))) (aa (aG 5 dF.nd (aL VO hr (aI (jJ (bH hr) (pv 1) (aF (pv 4)) (fC (v:=.ref aM) rfl BP rfl) ⟨rfl,rfl,rfl,rfl⟩) (jJ (bH hr) (pv 1) (aF (pv 4)) (fC (v:=.ref aM) rfl BP rfl) ⟨rfl,rfl,rfl,rfl⟩)))) (ag (cx (bH hr) (pv 2) (pv 3) (aL rP hr (aI (aL Q4 hr (bD (pv 0) (aF (pv 4)) (aF (pv 4)))) (pv 5))) rfl))))) (ag (aC (pv 2))))),?_⟩;dsimp only [cxr,jD,Cx.xw,Cx.tu];refine sq2 ?_;intros
 intro e ne;have s1:=aE ne (.dK []);have e1:(upd H e (.dK [])) e=some (.dK []):=ah;generalize upd H e (.dK [])=H1 at s1 e1 ⊢;have R1:=R.same s1;obtain ⟨dx,pP,pW,pB,kP,kW,kB,F1,W1⟩:=R1.ex;refine ⟨_,rfl,a,C,dx,_,_,_,rfl,F1.obj,rfl,MB,a,dx,pP,pW,pB,_,_,kP,kW,kB,rfl,F1,fun l H2 s2 nl el=>?_⟩;have TC:((bars.map fun b=>(b.nm,b.one.nm,b.other.nm)).map (·.1))=bars.map (·.nm):=by rw [ab_];rfl
 rw [TC] at el
 refine ⟨l,rfl,⟨_,aT.of el⟩,let I:zIv:=fun i σ H'=>Lk fun (o3 o4 o5:Α) (sY :γ)=>σ=[ap a,ap d,ap e,o3,o4,o5]/\ao H H'/\H' l=some (.lst ((bars.map (·.nm)).map V.str))/\H' e=some (.dK sY)/\sY.map (·.1)=(bars.take i).map (fun b=>(aeB b.nm:Key))/\ ∀b∈bars.take i,∃v,bJ sY (.inr b.nm)=some v/\cU K H' v (Q_ M b);bW (K:=K) (a:=l) (xs:=(bars.map (·.nm)).map V.str) I ⟨none,none,none,[],rfl,fun b o z=>s2 _ _ (s1 _ _ z),el,s2 _ _ e1,rfl,fun b hb=>by simp at hb⟩ (fun i σ H' _ h=>by
   obtain ⟨_,_,_,_,_,_,h,_⟩:=h
   exact aT.of h) ?_ ?_⟩
 ·rintro i z σ H4 hi ⟨o3,o4,o5,sY,rfl,s4,l4,e4,ks,tl⟩
  rw [aaa,aaa] at hi;obtain ⟨x,hx,rfl⟩:=aaB.mp hi;obtain ⟨b,hb,rfl⟩:=aaB.mp hx;have il:i<bars.length:=(Wp.mp hb).1;have mb:b∈bars:=aaq hb;obtain ⟨m1,m2,m3⟩:=g.ends b mb;have R4:=R.same s4;obtain ⟨dx,pP,pW,pB,kP,kW,kB,F4,W4⟩:=R4.ex;refine ⟨_,rfl,a,C,dx,_,_,_,rfl,F4.obj,rfl,ME,_,rfl,a,dx,pP,pW,pB,_,_,kP,kW,kB,b.nm,b.one.nm,b.other.nm,rfl,F4,Tw g.nb,aar.mpr ⟨b,mb,rfl⟩,fun p rd=>?_⟩;have tp:bQ K H4 p [.str b.one.nm,.str b.other.nm]:=.inl rd;have d4:=s4 _ _ hd;have P4:=hP.same s4;refine ⟨_,rfl,d,rfl,.inl ⟨_,.inl d4⟩,_,rfl,p,_,_,_,rfl,rfl,tp,iu,_,dh.k (k:=.inr b.other.nm) d4,_,rfl,d,rfl,.inl ⟨_,.inl d4⟩,_,rfl,p,_,_,_,rfl,rfl,tp,iU,_,dh.k (k:=.inr b.one.nm) d4,?_⟩;have g1:gc K H4 ((bJ kvs (.inr b.other.nm)).getD (.ref aM)) (mv M b.other.nm):=P4.IF (hM H4);have g2:gc K H4 ((bJ kvs (.inr b.one.nm)).getD (.ref aM)) (mv M b.one.nm):=P4.IF (hM H4);generalize (bJ kvs (.inr b.other.nm)).getD (.ref aM)=v1 at g1 ⊢;generalize (bJ kvs (.inr b.one.nm)).getD (.ref aM)=v2 at g2 ⊢;have z1:=zM b.other.nm;have z2:=zM b.one.nm;refine ⟨v1,v2,_,_,rfl,g1,g2,z1.1.up (by decide),z1.2.up (by decide),z2.1.up (by decide),z2.2.up (by decide),fun v3 H5 s5 h5=>?_⟩;have R5:=R4.same s5;have tp5:=Ty.ao.cQ s5 tp;refine ⟨_,rfl,_,rfl,p,_,_,_,rfl,rfl,tp5,iU,_,rfl,p,_,_,_,rfl,rfl,tp5,iu,a,pins,bars,b.one,b.other,rfl,R5,g,m1,m2,fun v6 H6 s6 h6=>?_⟩;have y1:=g.sz _ m1;have y2:=g.sz _ m2;refine ⟨_,rfl,v6,v3,_,_,rfl,h6,h5.same s6,(y2.1.sub y1.1).up (by decide),(y2.2.1.sub y1.2.1).up (by decide),(z1.1.sub z2.1).up (by decide),(z1.2.sub z2.2).up (by decide),fun c7 H7 s7 h7=>?_⟩;have e7:=s7 _ _ (s6 _ _ (s5 _ _ e4))
  have lk:sY.length<=14:=by
   have z:=abR afb ks;rw [ir,ir,abv] at z;have:=g.lb;omega
  refine ⟨_,rfl,_,rfl,e,_,rfl,gI.k (k:=.inr b.nm) e7 (aaZ (show sY.length<=1000 by omega) (by decide)),?_⟩
  have fresh:(aeB b.nm:Key)∉sY.map (·.1):=by
   rw [ks];intro z;obtain ⟨b',ff,VA⟩:=aar.mp z;have en:b'.nm=b.nm:=aeN VA;obtain ⟨j,hj,ej⟩:=aeR.mp ff;rw [agz] at ej;rw [abv] at hj;have q1:(bars.map (·.nm))[j]?=some b.nm:=by rw [aaa,gE (by omega),ej];show some b'.nm=_;rw [en]
   have q2:(bars.map (·.nm))[i]?=some b.nm:=by rw [aaa,hb];rfl
   have:=(ae7 (by rw [ir];omega) g.nb).mp (q1.trans q2.symm);omega
  have pk:putK sY (.inr b.nm) (.ref c7)=sY ++[(.inr b.nm,.ref c7)]:=dE _ (bZ fresh);have t7:aY H7 (upd H7 e (.dK (putK sY (.inr b.nm) (.ref c7)))):=.dict e7;have V0:ao H4 H7:=fun b o z=>s7 _ _ (s6 _ _ (s5 _ _ z));have tk:bars.take (i+1)=bars.take i++[b]:=by rw [aeQ,hb];rfl
  refine ⟨_,_,_,_,rfl,fun c o z=>?_,?_,ah,?_,fun b' ff =>?_⟩
  ·rw [aj (ak z ne)]
   exact V0 _ _ (s4 _ _ z)
  ·rw [aj (fun z=>by rw [z,e4] at l4;cases l4)]
   exact V0 _ _ l4
  ·rw [pk,abq,ks,tk,abq]
   rfl
  ·rw [jI]
   by_cases c:b'.nm=b.nm
   ·rw [abC (by rw [c])]
    refine ⟨.ref c7,rfl,?_⟩
    have eb:b'=b:=by
     obtain ⟨j,hj,ej⟩:=aeR.mp ff;rw [agz] at ej;rw [abv] at hj;have q1:(bars.map (·.nm))[j]?=some b.nm:=by rw [aaa,gE (by omega),ej];show some b'.nm=_;rw [c]
     have q2:(bars.map (·.nm))[i]?=some b.nm:=by rw [aaa,hb];rfl
     have ji:=(ae7 (by rw [ir];omega) g.nb).mp (q1.trans q2.symm);subst ji;rw [gE il] at hb;rw [<-ej];exact aen hb
    rw [eb];exact cU.aJ ⟨c7,rfl,bQ.of h7⟩ t7
   ·rw [abB (fun z=>c (aeN z))]
    rw [tk,abj] at ff
    rcases ff with ff|ff
    ·obtain ⟨v,h1,h2⟩:=tl b' ff
     exact ⟨v,h1,(h2.same V0).aJ t7⟩
    ·rw [abg] at ff
     exact abM (by rw [ff]) c
 ·rintro σ H4 ⟨o3,o4,o5,sY,rfl,s4,l4,e4,ks,tl⟩
  rw [ir,ir,aeA] at ks tl;exact ⟨_,rfl,q e sY H4 s4 ne e4 ks tl⟩
def gx (pins:ι)(b:aK)(i:Nat):Rat:=vl ((cj (cJ b) pins).getD i (0,1))
def xB (pins:ι)(gbs:List (Rat×aK))(i j:Nat):Rat:=(gbs.map fun x=>x.1*gx pins x.2 i*gx pins x.2 j).sum
def NO (pins:ι)(l:List (Rat×aK))(x:Rat×aK)(i j:Nat):xB pins (l++[x]) i j=xB pins l i j+x.1*gx pins x.2 i*gx pins x.2 j:=by
 unfold xB;rw [abq,ago,aaw,aez,ad_,ae3,aix]
def yG (h:∀x,Sz k (mv F x).1/\Sz k (mv F x).2)(pins:ι):∀q∈cj F pins,∃r,q=qr r/\Sz k r:=fun q hq=>by
 unfold cj at hq;obtain ⟨p,_,hq⟩:=ae5.mp hq
 rcases aes.mp hq with e|hq
 ·exact ⟨_,e,(h p.nm).1⟩
 ·exact ⟨_,abg.mp hq,(h p.nm).2⟩
def BX (g:cV pins bars)(hb:b∈bars)(hi:i<2*pins.length):(cj (cJ b) pins)[i]?=some (qr (gx pins b i))/\Sz 50 (gx pins b i):=by
 have hl:i<(cj (cJ b) pins).length:=by rw [cP];exact hi
 have e:=gE hl;obtain ⟨r,er,z⟩:=yG (BW g hb) pins _ (aeT hl)
 have:gx pins b i=r:=by
  unfold gx;rw [abi,e,Option.getD_some,er,d_]
 rw [this,e,er];exact ⟨rfl,z⟩
theorem BY (hi:i<N)(hj:j<N):∀{l:List (Rat×aK)},(∀x∈l,Sz 46 x.1/\∀i,i<N->Sz 50 (gx pins x.2 i))->Sz (147*l.length+1) (xB pins l i j)
 | [],_=>d6 (by decide)
 | x::l,h=>by
  have z:=h x aa_;have ih:=BY hi hj (l:=l) fun y hy=>h y (aax _ hy);have:=((z.1.mul (z.2 i hi)).mul (z.2 j hj)).add ih;show Sz _ (((x::l).map fun x=>x.1*gx pins x.2 i*gx pins x.2 j).sum);rw [aaw,ad_];exact this.up (by rw [aey];omega)
structure Mx (K:Frag)(H:Hp)(r:abA)(ls:ω)(N:Nat)(f:Nat->Nat->Rat):Prop where
 hr:H r=some (.lst (ls.map V.ref))
 ln:ls.length=N
 nd:ls.Nodup
 row:∀i l,ls[i]?=some l->∃vs,H l=some (.lst vs)/\vs.length=N/\∀j v,vs[j]?=some v->cU K H v (f i j)
 nr:r∉ls
section
variable {H H':Hp}{r:abA}{ls:ω}{N:Nat}{f:Nat->Nat->Rat}
def Mx.same (h:Mx K H r ls N f)(s:ao H H'):Mx K H' r ls N f:=⟨s _ _ h.hr,h.ln,h.nd,fun i l e=>by
 obtain ⟨vs,h1,h2,h3⟩:=h.row i l e
 exact ⟨vs,s _ _ h1,h2,fun j v ev=>(h3 j v ev).same s⟩,h.nr⟩
def Mx.put (h:Mx K H r ls N f)(ei:ls[i]?=some l)(el:H l=some (.lst vs))(hv:cU K H v x):Mx K (upd H l (.lst (vs.set j v))) r ls N (fun a b=>if a=i/\b=j then x else f a b):=by
 have t:aY H (upd H l (.lst (vs.set j v))):=aY.ks el bw.upd;refine ⟨?_,h.ln,h.nd,fun a l' e=>?_,h.nr⟩
 ·rw [aj (fun z:r=l=>h.nr (by rw [z];exact aaq ei))]
  exact h.hr
 ·obtain ⟨ws,h1,h2,h3⟩:=h.row a l' e
  by_cases c:l'=l
  ·subst c
   rw [el] at h1;cases h1;have ea:a=i:=dO h.nd e ei;subst ea;refine ⟨_,ah,by rw [an5];exact h2,fun b u eu=>?_⟩;rw [aeX] at eu;by_cases cb:j=b
   ·rw [abC cb] at eu
    rw [abC ⟨rfl,cb.symm⟩];split at eu
    ·cases eu
     exact hv.aJ t
    ·cases eu
   ·rw [abB cb] at eu
    rw [abB (fun z=>cb z.2.symm)];exact (h3 b u eu).aJ t
  ·refine ⟨ws,by rw [aj c];exact h1,h2,fun b u eu=>?_⟩
   rw [abB (fun z=>c ?_)]
   ·exact (h3 b u eu).aJ t
   ·rw [z.1,ei] at e
    exact (aen e).symm
end
def BZ :i∈(aev N).filter p ↔ i<N/\p i=true:=by rw [agQ,aeZ]
def jP {α:Type}{A:List α}{x i:α}(e:A[c]?=some x):i∈A.take (c+1) ↔ i∈A.take c\/i=x:=by
 rw [aeQ,e,abj];show _\/i∈[x] ↔ _;rw [abg]
def FU {α:Type}{A:List α}(nd:A.Nodup){x:α}(e:A[c]?=some x):x∉A.take c:=fun z=>by
 obtain ⟨j,ej⟩:=abh z
 have hj:j<c:=by
  have:=(Wp.mp ej).1;rw [abv] at this;omega
 rw [aeM hj] at ej;have:=dO nd ej e;omega
def aav (h:j<n):Lc n (j:Int)=some j:=by
 unfold Lc;rw [abC (by omega),abC (by omega)];simp
def Ra (r:Rat):(!cN [.v (.int (qr r).1),.v (.int (qr r).2)] [.v (.int 0),.v (.int 1)])=decide (r≠0):=by
 by_cases c:r=0
 ·rw [c,dI]
  simp [cN,gY,m7]
 ·have:(qr r).1≠0:=fun z=>c (mL z)
  simp [cN,gY,m7,c,this]
inductive we (K:Frag)(C:abA)(vs:ζ)(H:Hp)(Q:VK)(E_:XK):Prop
|mk (a d bR:abA)(pins:ι)(bars:ς)(kvs:γ)(gs:Ι)(lsB:ω)(_:vs=[.ref a,.ref d,.ref bR])(_:sW K H C a pins bars)(_:cV pins bars)(_:bars.length<=9)(_:H d=some (.dK kvs))(_:Paired (fun (kv:Key×V) r=>cU K H kv.2 r) kvs gs)(_:gs.length=bars.length)(_:(∀r∈gs,Sz 46 r))(_:H bR=some (.lst (lsB.map V.ref)))(_:lsB.length=bars.length)(_:(∀(i:Nat)(l:abA)(b:aK),lsB[i]?=some l->bars[i]?=some b->∃us,H l=some (.lst us)/\cH K H us (cj (cJ b) pins)))(_:∀(r:abA)(ls:ω)(f:Nat->Nat->Rat)(H':Hp),ao H H' ->H r=none->(∀l∈ls,H l=none)->Mx K H' r ls (2*pins.length) f->(∀i j,i<2*pins.length->j<2*pins.length->f i j=xB pins (gs.zip bars) i j)->Q (.ref r) H')
def b9:av ["F","firm","bar_rows","many","rows","grip","row","acts","column","drawn","place"] zaD (ae d3):=sq
def tR (hN:∀H:Hp,bQ K H aN [.int 0,.int 1])(og:mg "NOUGHT"=some (.ref aN))(D:Def K mg "stiff_rows" d3 zaD)(aU:mg "len"=none)(bf:mg "range"=none)(gC:mg "zip"=none)(MP:ad P w K mg base 1 C "pins" zai (ja K C))(rF:ac P w K mg base 34 "sum_of" zab (iI K fun a b=>a+b))(dB:ac P w K mg base 34 "product_of" zab (iI K fun a b=>a*b)):
  ac P w K mg base 35 "stiff_rows" zaD (we K C):=by
 refine D.op b9 fun f ck A outer s H vs Q E hr h=>?_;obtain ⟨a,d,bR,pins,bars,kvs,gs,lsB,rfl,R,g,lb9,hd,pg,lg,zg,hB,lB,rB,q⟩:=h;have gl:=g.lp;have lk:kvs.length=gs.length:=abL pg;obtain ⟨dx,pP,pW,pB,kP,kW,kB,F1,W1⟩:=R.ex;have c2:qN 2 ((pins.length:Nat):Int):=⟨by decide+kernel,aay (intBits_le_64 (by omega) (by omega)) (by decide)⟩
 refine ⟨_,(aa (aG 3 b9.nd (ay cu af (aH aD rfl aU bS (aX (eR (k:=1) (pv 0) hr.mo (pY P w)))))) (aa (rn (i:=4) (tn:=["column"]) (fr:=["many"]) (caps:=[3]) b9.nd (bY rfl bf (aX (pv 3))) (ay vk (cg (aX (fC (v:=.ref aN) rfl og rfl))) (pv 1))) (aa (j6 (bq abI rfl (QN rfl gC (pv 1) (aX (pv 2))) (fE rfl (a_ (bP 5 b9.nd) (a_ (bP 6 b9.nd) cX))) (aa (Ni (i:=7) (tn:=["column"]) (fr:=["row"]) (caps:=[6]) b9.nd (bY rfl bf (aX (pv 3))) (fun _ _ _ _=>(gG (i:=0) (show (["column","row"]:List Str).Nodup from by decide+kernel) rfl (ahh rfl))) (fun _ _ _ _=>(UU (bx (Nd (K:=K) rfl hr.units) (bE (qS (K:=K) rfl) (pv 1) (pv 0)) (fC (v:=.ref aN) rfl og rfl)))) (pv 0)) (ag (bq abI rfl (bo (pv 7)) (bP 8 b9.nd) (aa (aG 9 b9.nd (aL dB hr (aI (pv 5) (bE aR (pv 6) (pv 8))))) (ag (bq abI rfl (bo (pv 7)) (bP 10 b9.nd) (ag (vc (aL rF hr (aI (bE aR (bE aR (pv 4) (pv 8)) (pv 10)) (aL dB hr (aI (pv 9) (bE aR (pv 6) (pv 10)))))) (AG (bE aR (pv 4) (pv 8)) (pv 10) set_list))))))))))) (ag (aC (pv 4)))))),?_⟩;dsimp only [cxr,jD,Cx.xw,Cx.tu];refine sq3 ?_;intros
 refine ⟨_,rfl,a,C,dx,_,_,_,rfl,F1.obj,rfl,MP,a,dx,pP,pW,pB,_,_,kP,kW,kB,rfl,F1,fun lp H1 s1 BQ xA=>?_⟩;rw [iy] at xA;refine ⟨lp,_,rfl,.inl (aT.of xA),_,_,rfl,rfl,(by rw [ir,ir];exact c2),?_⟩;have em:(2:Int)*((((pins.map (·.nm)).map V.str).length:Nat):Int)=((2*pins.length:Nat):Int):=by rw [ir,ir];omega
 rw [em];obtain ⟨N,eN⟩:∃N,N=2*pins.length:=⟨_,rfl⟩;rw [<-eN] at q ⊢;have aAg:N<=18:=by omega
 have big:(1000:Nat)<=abE:=by decide
 refine ⟨_,rfl,(N:Int),rfl,by omega,by omega,fun r nr=>?_⟩;refine yu (n:=N) (cap:=[some (.int (N:Int))]) (fun ys H'=>∃ls:List abA,ys=ls.map V.ref/\ls.Nodup/\r∉ls/\∀l∈ls,H l=none/\H' l=some (.lst (ac_ N (.ref aN)))) nr (by omega) ⟨[],rfl,ahW,by simp,fun l h=>by cases h⟩ ?_ ?_
 ·intro i ys H2 RR hi ly hJ s2 hD k
  obtain ⟨ls,rfl,nd,nf,hl⟩:=hJ;refine ⟨z1L,?_⟩;intro l5 n5;generalize eX:upd _ l5 _=H5;have ⟨s5,e5⟩:=nw n5 eX;refine ⟨_,rfl,l5,_,_,rfl,rfl,e5,by omega,by omega,(by simp;omega),?_⟩;intro l6 n6;generalize eX:upd _ l6 _=H6;have ⟨s6,e6⟩:=nw n6 eX;have NP:(ac_ ((N:Nat):Int).toNat [V.ref aN]).flatten=ac_ N (V.ref aN):=by simp
  rw [NP] at e6;have s26:=s5.trans s6;have D5:=s5 _ _ hD;refine k _ _ s26 ⟨ls++[l6],by simp,?_,?_,fun l hm=>?_⟩
  ·rw [afo]
   refine ⟨nd,by simp,fun a ha b hb z=>?_⟩;have h1:=(hl a ha).2;rw [z,abg.mp hb] at h1;rw [s5 _ _ h1] at n6;cases n6
  ·intro z
   rcases abj.mp z with z|z
   ·exact nf z
   ·rw [<-abg.mp z,D5] at n6
    cases n6
  ·rcases abj.mp hm with z|z
   ·refine ⟨(hl l z).1,?_⟩
    rw [aj (fun e:l=r=>nf (by rw [<-e];exact z))];exact s26 _ _ (hl l z).2
   ·have z:=abg.mp z
    subst z;refine ⟨(s1.trans (s2.trans s5)).free n6,?_⟩;rw [aj (fun e=>by rw [e,D5] at n6;cases n6)];exact e6
 intro ys H3 ly hJ s3 hD;obtain ⟨ls,rfl,nd,nr',hl⟩:=hJ;have yH:=s1.trans s3;have nr0:=s1.free nr
 have mx0:Mx K H3 r ls N (fun _ _=>0):=by
  refine ⟨hD,by rw [<-ly,ir],nd,fun i l e=>⟨_,(hl l (aaq e)).2,by rw [aeG],fun j v ev=>?_⟩,nr'⟩;rw [aeI] at ev;split at ev
  ·cases ev
   exact ⟨aN,rfl,by rw [dI];exact hN _⟩
  ·cases ev
 have Ts:=yH _ _ hd;have hB3:=yH _ _ hB;refine ⟨_,rfl,d,rfl,⟨_,Ts⟩,_,rfl,bR,kvs,rfl,⟨_,aT.of hB3⟩,Ts,fun o=>?_⟩;have ot:∀b o',b≠d->H3 b=some o' ->(upd H3 d (.fB o (.dK kvs))) b=some o':=fun b o' n e=>by rw [aj n];exact e
 have z_:(upd H3 d (.fB o (.dK kvs))) d=some (.fB o (.dK kvs)):=ah;generalize upd H3 d (.fB o (.dK kvs))=H4 at ot z_ ⊢;have kO:∀b o',b≠d->H b=some o' ->H4 b=some o':=fun b o' n e=>ot b o' n (yH _ _ e);have nl0:∀l∈ls,H l=none:=fun l hm=>(hl l hm).1;have dl:∀l∈ls,d≠l:=fun l hm z=>by rw [z,nl0 l hm] at hd;cases hd
 have rd:r≠d:=fun z=>by rw [z,hd] at nr0;cases nr0
 have mx4:Mx K H4 r ls N (fun _ _=>0):=by
  have t:aY H3 H4:=fun b xs e=>by
   rcases e with e|⟨o',e⟩
   ·exact .inl (ot _ _ (fun z=>by rw [z,Ts] at e;cases e) e)
   ·exact .inr ⟨o',ot _ _ (fun z=>by rw [z,Ts] at e;cases e) e⟩
  refine ⟨ot _ _ rd mx0.hr,mx0.ln,mx0.nd,fun i l e=>?_,mx0.nr⟩;obtain ⟨vs,h1,h2,h3⟩:=mx0.row i l e;exact ⟨vs,ot _ _ (aeD (dl l (aaq e))) h1,h2,fun j v ev=>(h3 j v ev).aJ t⟩
 have tH:∀{H':Hp},(∀b o',b≠d->H b=some o' ->H' b=some o')->aY H H':=fun {H'} k b xs e=>by
  rcases e with e|⟨o',e⟩
  ·exact .inl (k _ _ (fun z=>by rw [z,hd] at e;cases e) e)
  ·exact .inr ⟨o',k _ _ (fun z=>by rw [z,hd] at e;cases e) e⟩
 refine let I:zIv:=fun t σ H'=>Ex7 fun (o5 o6 o7 o8 o9 AB:Α) (f:Nat->Nat->Rat)=>σ=[ap a,ap d,ap bR,some (.int (N:Int)),ap r,o5,o6,o7,o8,o9,AB]/\(∀b o',b≠d->H b=some o' ->H' b=some o')/\H' d=some (.fB o (.dK kvs))/\Mx K H' r ls N f/\∀i j,i<N->j<N->f i j=xB pins ((gs.zip bars).take t) i j;Nc (K:=K) (d:=d) (b:=bR) (o:=o) (kvs:=kvs) (ys:=lsB.map V.ref) I (by rw [ir];omega) ⟨none,none,none,none,none,none,fun _ _=>0,rfl,kO,z_,mx4,fun i j _ _=>rfl⟩ (fun i σ H' _ h=>by
   obtain ⟨_,_,_,_,_,_,_,_,k',d',_⟩:=h
   exact ⟨d',aT.of (k' _ _ (fun z=>by rw [z,hd] at hB;cases hB) hB)⟩) ?_ ?_
 ·rintro t k x y σ H5 p5 ek ey ⟨o5,o6,o7,o8,o9,AB,f,rfl,kh,kd,mx,hf⟩ np
  have s5:=aE np (.tup [x,y]);have e5:(upd H5 p5 (.tup [x,y])) p5=some (.tup [x,y]):=ah;generalize upd H5 p5 (.tup [x,y])=H6 at s5 e5 ⊢
  have ht:t<bars.length:=by
   have:=(Wp.mp ek).1;omega
  obtain ⟨b,eb⟩:∃b,bars[t]?=some b:=⟨_,gE ht⟩;have mb:=aaq eb;obtain ⟨g0,eg,ng⟩:=aA pg ek;rw [aaa] at ey;obtain ⟨l0,el0,rfl⟩:=aaB.mp ey;obtain ⟨us,hl0,nus⟩:=rB t l0 b el0 eb;have ln0:us.length=N:=by rw [nus.1,cP,eN]
  have V1:l0≠d:=fun z=>by rw [z,hd] at hl0;cases hl0
  have kh6:∀b o',b≠d->H b=some o' ->H6 b=some o':=fun b o' n e=>s5 _ _ (kh b o' n e);have rat:∀i,i<N->(cj (cJ b) pins)[i]?=some (qr (gx pins b i))/\Sz 50 (gx pins b i):=fun i hi=>BX g mb (by omega)
  have num:∀{H':Hp},(∀b o',b≠d->H b=some o' ->H' b=some o')->∀i,i<N->∃u,us[i]?=some u/\cU K H' u (gx pins b i):=fun {H'} kk i hi=>by
   have e:=gE (show i<us.length by omega);exact ⟨_,e,(nus.2 i _ _ e (rat i hi).1).aJ (tH kk)⟩
  have ngg:∀{H':Hp},(∀b o',b≠d->H b=some o' ->H' b=some o')->cU K H' x g0:=fun {H'} kk=>ng.aJ (tH kk);have zg0:=zg g0 (aaq eg);have gbt:(gs.zip bars)[t]?=some (g0,b):=by rw [agl];exact ⟨eg,eb⟩
  have zS:∀i j,i<N->j<N->Sz 8000000 (xB pins ((gs.zip bars).take t) i j):=fun i j hi hj=>(BY hi hj fun z hz=>by
   obtain ⟨n,en⟩:=abh (agf hz);rw [agl] at en
   exact ⟨zg _ (aaq en.1),fun i hi=>(BX g (aaq en.2) (by omega)).2⟩).up (by rw [abv];omega)
  refine ⟨p5,_,rfl,bQ.of e5,rfl,_,_,rfl,_,_,rfl,rfl,_,rfl,(N:Int),rfl,by omega,by omega,fun lF nF=>?_⟩;refine yt (n:=N) (cap:=[some (.ref l0)]) (fun i=>decide (gx pins b i≠0)) nF (by omega) (fun i H7 RR hi s7 kk=>?_) (fun i H7 RR rr=>⟨_,rfl,rr⟩) fun H7 s7 eF=>?_
  ·have k7:∀b o',b≠d->H b=some o' ->H7 b=some o':=fun b o' n e=>s7 _ _ (kh6 b o' n e)
   obtain ⟨u,eu,nu⟩:=num k7 i hi;refine ⟨_,rfl,_,rfl,l0,us,(i:Int),u,rfl,rfl,aT.of (k7 _ _ V1 hl0),bG eu,_,_,.inl ⟨j8 (q:=qr (gx pins b i)) nu,j8 (q:=(0,1)) ⟨aN,rfl,hN _⟩⟩,rfl,EC,_,rfl,?_⟩;rw [Ra];exact kk _ (ao.refl _)
  have k7:∀b o',b≠d->H b=some o' ->H7 b=some o':=fun b o' n e=>s7 _ _ (kh6 b o' n e);have mx7:=mx.same (s5.trans s7);have d7:=s7 _ _ (s5 _ _ kd);obtain ⟨A,eA⟩:∃A,A=(aev N).filter fun i=>decide (gx pins b i≠0):=⟨_,rfl⟩;rw [<-eA] at eF;have hA:∀i,i∈A ↔ i<N/\gx pins b i≠0:=fun i=>by rw [eA,BZ,decide_eq_true_iff]
  have ndA:A.Nodup:=by rw [eA];exact anU.filter _
  have nFl:lF∉ls:=fun z=>by
   obtain ⟨n,en⟩:=abh z;obtain ⟨vs,h1,_⟩:=mx.row n lF en;rw [s5 _ _ h1] at nF;cases nF
  obtain ⟨X,eX'⟩:∃X:Nat->Nat->Rat,∀i j,X i j=g0*gx pins b i*gx pins b j:=⟨_,fun _ _=>rfl⟩;obtain ⟨S,eS⟩:∃S:Nat->Nat->Rat,∀i j,S i j=xB pins ((gs.zip bars).take t) i j:=⟨_,fun _ _=>rfl⟩
  have upk:∀{H':Hp} {l:abA} {ob:HO},l∈ls->(∀b o',b≠d->H b=some o' ->H' b=some o')->∀b o',b≠d->H b=some o' ->(upd H' l ob) b=some o':=fun {H' l ob} hm kk b o' n e=>by
   rw [aj (fun z=>by rw [z,nl0 l hm] at e;cases e)];exact kk b o' n e
  refine ⟨_,rfl,lF,rfl,⟨_,aT.of eF⟩,let I:zIv:=fun c σ H'=>Lk fun (o8 o9 AB:Α) (f:Nat->Nat->Rat)=>σ=[ap a,ap d,ap bR,some (.int (N:Int)),ap r,some x,ap l0,ap lF,o8,o9,AB]/\(∀b o',b≠d->H b=some o' ->H' b=some o')/\H' d=some (.fB o (.dK kvs))/\H' lF=some (.lst (A.map fun i:Nat=>V.int (i:Int)))/\Mx K H' r ls N f/\∀i j,i<N->j<N->f i j=S i j+if i∈A.take c then X i j else 0;bW (K:=K) (a:=lF) (xs:=A.map fun i:Nat=>V.int (i:Int)) I ⟨_,_,_,f,rfl,k7,d7,eF,mx7,fun i j hi hj=>by rw [hf i j hi hj,eS,abB (by simp),aix]⟩ (fun c σ H' _ h=>by
    obtain ⟨_,_,_,_,_,_,_,h,_⟩:=h
    exact aT.of h) ?_ ?_⟩
  ·rintro c z σ H8 hz ⟨o8,o9,AB,f1,rfl,k8,d8,eF8,mx8,hf8⟩
   rw [aaa] at hz;obtain ⟨col,ec,rfl⟩:=aaB.mp hz;have NQ:=(hA col).mp (aaq ec);obtain ⟨u,eu,nu⟩:=num k8 col NQ.1;have zc:=(rat col NQ.1).2;refine ⟨_,rfl,_,rfl,_,rfl,l0,us,(col:Int),u,rfl,rfl,aT.of (k8 _ _ V1 hl0),bG eu,x,u,g0,gx pins b col,rfl,ngg k8,nu,zg0.up (by decide),zc.up (by decide),fun c9 H9 s9 e9=>?_⟩;have k9:∀b o',b≠d->H b=some o' ->H9 b=some o':=fun b o' n e=>s9 _ _ (k8 b o' n e);obtain ⟨lc,elc⟩:∃l,ls[col]?=some l:=⟨_,gE (by rw [mx.ln];exact NQ.1)⟩;have mlc:=aaq elc
   refine ⟨_,rfl,lF,rfl,⟨_,aT.of (s9 _ _ eF8)⟩,let I:zIv:=fun e σ H'=>EZ fun (AB:Α) (f:Nat->Nat->Rat)=>σ=[ap a,ap d,ap bR,some (.int (N:Int)),ap r,some x,ap l0,ap lF,some (.int (col:Int)),ap c9,AB]/\(∀b o',b≠d->H b=some o' ->H' b=some o')/\H' d=some (.fB o (.dK kvs))/\H' lF=some (.lst (A.map fun i:Nat=>V.int (i:Int)))/\cU K H' (.ref c9) (g0*gx pins b col)/\Mx K H' r ls N f/\∀i j,i<N->j<N->f i j=S i j+if i∈A.take c\/(i=col/\j∈A.take e) then X i j else 0;bW (K:=K) (a:=lF) (xs:=A.map fun i:Nat=>V.int (i:Int)) I ⟨_,f1,rfl,k9,s9 _ _ d8,s9 _ _ eF8,⟨c9,rfl,bQ.of e9⟩,mx8.same s9,fun i j hi hj=>by rw [hf8 i j hi hj];simp⟩ (fun e σ H' _ h=>by
     obtain ⟨_,_,_,_,_,h,_⟩:=h
     exact aT.of h) ?_ ?_⟩
   ·rintro e z σ OU hz ⟨AB,f2,rfl,k10,d10,V3,Rb,NR,NS⟩
    rw [aaa] at hz;obtain ⟨pl,ep,rfl⟩:=aaB.mp hz;have pJ:=(hA pl).mp (aaq ep);obtain ⟨u2,eu2,nu2⟩:=num k10 pl pJ.1;have zp:=(rat pl pJ.1).2;obtain ⟨vs,hv,lv,nv⟩:=NR.row col lc elc;have ev:=gE (show pl<vs.length by rw [lv];exact pJ.1);have nvp:=nv pl _ ev
    have fv:f2 col pl=S col pl:=by
     rw [NS col pl NQ.1 pJ.1,abB (fun z=>?_),aix]
     rcases z with z|z
     ·exact FU ndA ec z
     ·exact FU ndA ep z.2
    have er:iZ (ls.map V.ref) (col:Int)=some (.ref lc):=bG (by rw [aaa,elc];rfl);refine ⟨_,rfl,_,rfl,r,_,_,_,rfl,rfl,aT.of NR.hr,er,_,rfl,lc,vs,(pl:Int),_,rfl,rfl,aT.of hv,bG ev,_,rfl,_,rfl,_,rfl,l0,us,(pl:Int),u2,rfl,rfl,aT.of (k10 _ _ V1 hl0),bG eu2,.ref c9,u2,_,gx pins b pl,rfl,Rb,nu2,(zg0.mul zc).up (by decide),zp.up (by decide),fun c11 Mi z9 e11=>?_⟩;refine ⟨vs[pl],.ref c11,f2 col pl,_,rfl,nvp.same z9,⟨c11,rfl,bQ.of e11⟩,by rw [fv,eS];exact zS col pl NQ.1 pJ.1,((zg0.mul zc).mul zp).up (by decide),fun c12 H12 lW e12=>?_⟩;have oU:=z9.trans lW;have aaC:=NR.same oU;refine ⟨_,rfl,_,rfl,r,_,_,_,rfl,rfl,aT.of aaC.hr,er,_,rfl,lc,vs,_,pl,rfl,rfl,oU _ _ hv,by rw [lv];exact aav pJ.1,?_⟩;have k12:∀b o',b≠d->H b=some o' ->H12 b=some o':=fun b o' n e=>oU _ _ (k10 b o' n e);have mxp:=aaC.put (j:=pl) elc (oU _ _ hv) ⟨c12,rfl,bQ.of e12⟩;refine ⟨_,_,rfl,upk mlc k12,?_,?_,?_,mxp,fun i j hi hj=>?_⟩
    ·rw [aj (dl lc mlc)]
     exact oU _ _ d10
    ·rw [aj (fun z=>nFl (by rw [z];exact mlc))]
     exact oU _ _ V3
    ·exact (Rb.same oU).aJ (aY.ks (oU _ _ hv) bw.upd)
    ·by_cases cc:i=col/\j=pl
     ·rw [abC cc,fv,cc.1,cc.2,abC (.inr ⟨rfl,(jP ep).mpr (.inr rfl)⟩),eX']
     ·rw [abB cc,NS i j hi hj]
      have eqv:(i∈A.take c\/(i=col/\j∈A.take (e+1))) ↔ (i∈A.take c\/(i=col/\j∈A.take e)):=by
       rw [jP ep];constructor
       ·rintro (h|⟨h1,h|h⟩)
        ·exact .inl h
        ·exact .inr ⟨h1,h⟩
        ·exact abM ⟨h1,h⟩ cc
       ·rintro (h|⟨h1,h⟩)
        ·exact .inl h
        ·exact .inr ⟨h1,.inl h⟩
      simp only [eqv]
   ·rintro σ OU ⟨AB,f2,rfl,k10,d10,V3,Rb,NR,NS⟩
    rw [ir,aeA] at NS;refine ⟨_,_,_,f2,rfl,k10,d10,V3,NR,fun i j hi hj=>?_⟩;rw [NS i j hi hj];by_cases c1:i∈A.take c
    ·rw [abC (.inl c1),abC ((jP ec).mpr (.inl c1))]
    ·by_cases c2:i=col
     ·rw [abC ((jP ec).mpr (.inr c2))]
      by_cases c3:j∈A
      ·rw [abC (.inr ⟨c2,c3⟩)]
      ·rw [abB (fun z=>z.elim c1 fun z=>c3 z.2)]
       have:gx pins b j=0:=aeV fun z=>c3 ((hA j).mpr ⟨hj,z⟩);rw [eX',this,Rat.mul_zero]
     ·rw [abB (fun z=>z.elim c1 fun z=>c2 z.1),abB (fun z=>((jP ec).mp z).elim c1 c2)]
  ·rintro σ H8 ⟨o8,o9,AB,f1,rfl,k8,d8,eF8,mx8,hf8⟩
   rw [ir,aeA] at hf8;refine ⟨_,_,_,_,_,_,f1,rfl,k8,d8,mx8,fun i j hi hj=>?_⟩;rw [hf8 i j hi hj,aeQ,gbt];show _=xB pins (((gs.zip bars).take t)++[(g0,b)]) i j;rw [NO,<-eS];show _=_+g0*gx pins b i*gx pins b j;rw [<-eX'];by_cases c1:i∈A
   ·rw [abC c1]
   ·rw [abB c1]
    have:gx pins b i=0:=aeV fun z=>c1 ((hA i).mpr ⟨hi,z⟩);rw [eX',this,Rat.mul_zero,Rat.zero_mul]
 ·rintro σ H5 ⟨o5,o6,o7,o8,o9,AB,f,rfl,kh,kd,mx,hf⟩
  refine ⟨d,o,kvs,kd,fun o' u' z=>(by have z':H d=some (.fB o' u'):=z;rw [hd] at z';cases z'),?_⟩;have ln5:(gs.zip bars).take kvs.length=gs.zip bars:=aeE (by rw [an8];omega);rw [ln5] at hf;refine ⟨_,rfl,q r ls f _ (fun b o' e=>?_) nr0 nl0 ?_ hf⟩
  ·by_cases n:b=d
   ·subst n
    rw [hd] at e;rw [ah];exact e
   ·rw [aj n]
    exact kh b o' n e
  ·have t:aY H5 (upd H5 d (.dK kvs)):=fun b xs e=>by
    rcases e with e|⟨o',e⟩
    ·exact .inl (by rw [aj (fun z=>by rw [z,kd] at e;cases e)];exact e)
    ·exact .inr ⟨o',by rw [aj (fun z=>by rw [z,kd] at e;cases e)];exact e⟩
   refine ⟨by rw [aj rd];exact mx.hr,mx.ln,mx.nd,fun i l e=>?_,mx.nr⟩;obtain ⟨vs,h1,h2,h3⟩:=mx.row i l e;exact ⟨vs,by rw [aj (aeD (dl l (aaq e)))];exact h1,h2,fun j v ev=>(h3 j v ev).aJ t⟩
def kC (pins:ι):List (List (Int×Int)):=pins.flatMap fun p=>oj pins p
def dm (pins:ι):List (List (Int×Int)):=(kC pins).map fun qs=>qs++ac_ (ba pins) (0,1)
noncomputable def fw (pins:ι)(gbs:List (Rat×aK)):List (List (Int×Int)):=(aev (2*pins.length)).map fun i=>((aev (2*pins.length)).map fun j=>qr (xB pins gbs i j))++((cW (kC pins) i).map vl).map fun r=>qr (-r)
def fH (pins:ι):(kC pins).length=ba pins:=gf pins pins
def wg (h:cH K H us qs)(h':cH K H vs rs):cH K H (us++vs) (qs++rs):=by
 have l:=h.1;refine ⟨by rw [aba,aba,l,h'.1],fun i u q e1 e2=>?_⟩;by_cases c:i<us.length
 ·rw [aby c] at e1
  rw [aby (by omega)] at e2;exact h.2 i u q e1 e2
 ·rw [abx (by omega)] at e1 e2
  rw [l] at e1;exact h'.2 _ u q e1 e2
def V4 {us:ζ}{rs:Ι}(h:Paired (cU K H) us rs):cH K H us (rs.map qr):=⟨by rw [ir];exact abL h,fun i u q e1 e2=>by
 obtain ⟨r,er,hr⟩:=aA h e1;rw [aaa,er] at e2;cases e2
 exact hr⟩
def KG (h:hW K H b6 fX)(sh:Shape T B m fX)(hj:j<m):cH K H (oh b6 j) (cW fX j):=by
 refine ⟨by simp [oh,cW,h.1],fun i u q e1 e2=>?_⟩;unfold oh at e1;unfold cW at e2;rw [aaa] at e1 e2;obtain ⟨vs,ev,rfl⟩:=aaB.mp e1;obtain ⟨qs,eq,rfl⟩:=aaB.mp e2;have N:=h.2 i vs qs ev eq;have hl:=(sh qs (aaq eq)).1;have lN:=N.1;refine N.2 j _ _ ?_ ?_
 ·rw [abi,gE (by omega)];rfl
 ·rw [abi,gE (by omega)];rfl
def B_ (n:Nat)(h:hW K H b6 fX):hW K H (b6.take n) (fX.take n):=⟨by rw [abv,abv,h.1],fun i vs qs e1 e2=>by
 have hi:i<n:=by
  have:=(Wp.mp e1).1;rw [abv] at this;omega
 rw [aeM hi] at e1 e2
 exact h.2 i vs qs e1 e2⟩
def uU (pins:ι)(bars:ς):(gd pins bars).take (ba pins)=kC pins:=by
 unfold gd;rw [List.take_append_of_le_length (by rw [gf];exact aaA _),aeE (by rw [gf];exact aaA _)];rfl
inductive lI (K:Frag)(C:abA)(vs:ζ)(H:Hp)(Q:VK)(E_:XK):Prop
|mk (a d:abA)(pins:ι)(bars:ς)(kvs:γ)(gs:Ι)(_:vs=[.ref a,.ref d])(_:sW K H C a pins bars)(_:cV pins bars)(_:bars.length<=9)(_:H d=some (.dK kvs))(_:Paired (fun (kv:Key×V) r=>cU K H kv.2 r) kvs gs)(_:gs.length=bars.length)(_:(∀r∈gs,Sz 46 r))(_:∀(r:abA)(ls:ω)(b6:Η)(H':Hp),ao H H' ->ix K H' r ls b6 (dm pins++fw pins (gs.zip bars))->Q (.ref r) H')
def dC:av ["F","firm","drawn","ways","rows","stiff","row","column"] ["F","firm"] (ae fj):=sq
def wj (hN:∀H:Hp,bQ K H aN [.int 0,.int 1])(og:mg "NOUGHT"=some (.ref aN))(D:Def K mg "bend_rows" fj ["F","firm"])(aU:mg "len"=none)(gC:mg "zip"=none)(ahk:ac P w K mg base 38 "draw_rows" ["F"] (lC K C))(wm:ac P w K mg base 35 "stiff_rows" zaD (we K C))(VD:ac P w K mg base 1 "turned" zaK mK)(ahl:ac P w K mg base 1 "signs_turned" zaR (v_ K)):
  ac P w K mg base 39 "bend_rows" ["F","firm"] (lI K C):=by
 refine D.op dC fun f ck A outer s H vs Q E hr h=>?_;obtain ⟨a,d,pins,bars,kvs,gs,rfl,R,g,lb9,hd,pg,lg,zg,q⟩:=h;have gl:=g.lp;have lk:kvs.length=gs.length:=abL pg;have wl:ba pins<=2*pins.length:=mO pins g.lw;have ql:(gd pins bars).length=ba pins+bars.length:=KC pins bars;have big:(1000:Nat)<=abE:=by decide
 refine ⟨_,(aa (aG 2 dC.nd (aL ahk hr (aX (pv 0)))) (aa (aG 3 dC.nd (ay cG (aH aD rfl aU bS (aX (pv 2))) (aH nO rfl aU bS (aX (pv 1))))) (aa (rn (i:=4) (tn:=["row"]) (fr:=["ways"]) (caps:=[3]) dC.nd (bo (cL dY (pv 2) dX (dw (pv 3)))) (ay jF (pv 0) (ay vk (cg (aX (fC (v:=.ref aN) rfl og rfl))) (pv 1)))) (aa (aG 5 dC.nd (aL wm hr (bD (pv 0) (pv 1) (cL dY (pv 2) (dw (pv 3)) dX)))) (aa (bq abI rfl (vy rfl gC (aI (pv 5) (aL VD hr (aI (cL dY (pv 2) dX (dw (pv 3))) (aH aD rfl aU bS (aX (pv 5))))))) (fE rfl (a_ (bP 6 dC.nd) (a_ (bP 7 dC.nd) cX))) (ag (bN (oK ab9 acg ach fe (pv 4) (aX (ay jF (pv 6) (aL ahl hr (aX (pv 7))))))))) (ag (aC (pv 4)))))))),?_⟩;dsimp only [cxr,jD,Cx.xw,Cx.tu];refine sq4 ?_;intros
 refine ⟨_,rfl,a,pins,bars,rfl,R,g,fun r0 Lm tS H1 s1 nr0 RR=>?_⟩;have ll0:Lm.length=ba pins+bars.length:=by rw [RR.jx.2.1,RR.num.1,ql]
 have lv0:tS.length=ba pins+bars.length:=by rw [RR.num.1,ql]
 refine ⟨_,rfl,r0,_,rfl,.inl (aT.of RR.jx.1),_,rfl,d,kvs,rfl,.inl (s1 _ _ hd),_,_,rfl,rfl,?_⟩;have em:(((Lm.map V.ref).length:Nat):Int)-((kvs.length:Nat):Int)=((ba pins:Nat):Int):=by rw [ir];omega
 rw [em];obtain ⟨W,eW⟩:∃W,W=ba pins:=⟨_,rfl⟩;rw [<-eW];have aaD:iD (Lm.map V.ref) none (some (W:Int))=(Lm.take W).map V.ref:=by rw [mH (by rw [ir];omega),List.map_take]
 have ahm:iD (Lm.map V.ref) (some (W:Int)) none=(Lm.drop W).map V.ref:=by rw [gT (by rw [ir];omega),List.map_drop]
 have rowAt:∀i l,Lm[i]?=some l->∃us qs,(gd pins bars)[i]?=some qs/\tS[i]?=some us/\H1 l=some (.lst us)/\cH K H1 us qs:=fun i l e=>by
  have hi:=(Wp.mp e).1;have e1:=gE (show i<tS.length by omega);have e2:=gE (show i<(gd pins bars).length by omega);exact ⟨_,_,e2,e1,RR.jx.2.2 i l _ e e1,RR.num.2 i _ _ e1 e2⟩
 refine ⟨_,rfl,_,rfl,_,rfl,r0,_,rfl,aT.of RR.jx.1,?_⟩;rw [aaD];intro lS nS;generalize eX:upd _ lS _=HS;have ⟨sS,eS⟩:=nw nS eX;refine ⟨lS,rfl,⟨_,aT.of eS⟩,fun rD nD=>?_⟩;refine rl (cap:=[some (.int (W:Int))]) (K:=K) (a:=lS) (xs:=(Lm.take W).map V.ref) (fun ys H'=>∃(ls:ω)(b6:Η),ys=ls.map V.ref/\ix K H' rD ls b6 ((dm pins).take ys.length)) nD (by rw [ir,abv];omega) (fun H2 s2=>aT.of (s2 _ _ eS)) ⟨[],[],rfl,⟨ah,rfl,fun i l vs e=>by simp at e⟩,⟨rfl,fun i vs qs e=>by simp at e⟩,by simp⟩ ?_ ?_
 ·intro i x ys H2 RQ hx ly hJ s2 hD k
  obtain ⟨ls,b6,rfl,RJ⟩:=hJ;rw [aaa] at hx;obtain ⟨l,el,rfl⟩:=aaB.mp hx
  have hi:i<W:=by
   have:=(Wp.mp el).1;rw [abv] at this;omega
  rw [aeM hi] at el;obtain ⟨us,qs,eq,_,hl,nu⟩:=rowAt i l el;have lW:=sS.trans s2
  have lus:us.length<=20:=by
   have:=(lG g qs (aaq eq)).1;rw [nu.1,this];omega
  refine ⟨_,rfl,z1L,?_⟩;intro l5 n5;generalize eX:upd _ l5 _=H5;have ⟨s5,e5⟩:=nw n5 eX;refine ⟨_,rfl,l5,_,_,rfl,rfl,e5,by omega,by omega,(by simp;omega),?_⟩;intro l6 n6;generalize eX:upd _ l6 _=H6;have ⟨s6,e6⟩:=nw n6 eX;have NP:(ac_ ((W:Nat):Int).toNat [V.ref aN]).flatten=ac_ W (V.ref aN):=by simp
  rw [NP] at e6;have FK:=lW.trans (s5.trans s6);refine ⟨l,l6,_,_,rfl,rfl,FK _ _ hl,e6,(by rw [aeG];omega),?_⟩;intro l7 n7;generalize eX:upd _ l7 _=H7;have ⟨s7,e7⟩:=nw n7 eX;have s17:=FK.trans s7;have V5:=s5.trans (s6.trans s7)
  have n0:cH K H7 (ac_ W (V.ref aN)) (ac_ W (0,1)):=⟨by simp,fun i u q e1 e2=>by
   rw [aeI] at e1 e2;split at e1
   ·rename_i c
    rw [abC c] at e2;cases e1;cases e2;exact ⟨aN,rfl,hN _⟩
   ·cases e1⟩
  have eA:(dm pins)[i]?=some (qs++ac_ W (0,1)):=by
   have:(kC pins)[i]?=some qs:=by rw [<-uU pins bars,aeM (by omega)];exact eq
   unfold dm;rw [aaa,this,eW];rfl
  have hl7:l7≠rD:=fun z=>by rw [z,(s5.trans s6) _ _ hD] at n7;cases n7
  refine k _ _ V5 ⟨ls++[l7],b6++[us++ac_ W (V.ref aN)],by simp,?_⟩;have ln:ls.length=i:=by rw [ir] at ly;exact ly
  have:=(RJ.same V5).push e7 hl7 (wg (nu.same s17) n0);rw [aba,ir,af1,ln,aeQ,eA];rw [ir,ln] at this;exact this
 intro ys H2 ly hJ s2 hD;obtain ⟨ls2,ahn,rfl,RJ⟩:=hJ;have lA:(dm pins).length=W:=by unfold dm;rw [ir,fH,eW]
 rw [ly,ir,abv,aeE (by omega)] at RJ;have lW:=sS.trans s2;have tO:=s1.trans lW;refine ⟨_,rfl,_,rfl,_,rfl,_,rfl,_,rfl,r0,_,rfl,aT.of (lW _ _ RR.jx.1),?_⟩;rw [ahm];intro lT nT;generalize eX:upd _ lT _=HT;have ⟨sT,eT⟩:=nw nT eX;have s0T:=tO.trans sT;have s1T:=lW.trans sT;try dsimp only [gj];refine ⟨a,d,lT,pins,bars,kvs,gs,Lm.drop W,rfl,R.same s0T,g,lb9,s0T _ _ hd,Paired.bV pg fun _ _ z=>z.same s0T,lg,zg,eT,by rw [afr];omega,fun i l b el eb=>?_,fun r1 ls1 f H4 s4 n4 nl4 mx hf=>?_⟩
 ·rw [aio] at el
  obtain ⟨us,qs,eq,_,hl,nu⟩:=rowAt (W+i) l el
  have:(gd pins bars)[W+i]?=some (cj (cJ b) pins):=by
   unfold gd;rw [abx (by rw [gf,eW];exact Nat.le_add_right _ _),aaa,gf,show W+i-(pins.flatMap fun p=>p.ws).length=i by rw [eW];unfold ba;omega,eb];rfl
  rw [this] at eq;cases eq;exact ⟨us,s1T _ _ hl,nu.same s1T⟩
 obtain ⟨N,eN⟩:∃N,N=2*pins.length:=⟨_,rfl⟩;rw [<-eN] at mx hf;have O1:=s1T.trans s4;have Xn:=sT.trans s4;have MT:js H4 r0 Lm tS:=RR.jx.same O1;refine ⟨_,rfl,_,rfl,_,rfl,_,rfl,r0,_,rfl,aT.of MT.1,?_⟩;rw [aaD];intro lU nU;generalize eX:upd _ lU _=H5;have ⟨sU,eU⟩:=nw nU eX;refine ⟨_,rfl,r1,_,rfl,.inl (aT.of (sU _ _ mx.hr)),?_⟩;show mK [_,_] _ _ E0;have lm:(((ls1.map V.ref).length:Nat):Int)=((N:Nat):Int):=by rw [ir,mx.ln]
 have s15:=O1.trans sU
 have M5:js H5 lU (Lm.take W) (tS.take W):=⟨eU,by rw [abv,abv,ll0,lv0],fun i l vs e1 e2=>by
  have hi:i<W:=by
   have:=(Wp.mp e1).1;rw [abv] at this;omega
  rw [aeM hi] at e1 e2
  exact s15 _ _ (RR.jx.2.2 i l vs e1 e2)⟩
 have N1:hW K H1 (tS.take W) (kC pins):=by
  have:=B_ W RR.num;rw [eW,uU] at this;rw [eW];exact this
 have shW:Shape 50 50 N (kC pins):=fun qs hq=>by
  rw [eN];exact lG g qs (by unfold gd;exact aex _ hq)
 refine ⟨lU,Lm.take W,tS.take W,((N:Nat):Int),abR (fun i:Int=>[V.ref lU,V.int i]) lm,M5,by omega,by omega,by rw [abv];omega,fun vs hv=>?_,fun c cs H6 s6 nc6 ahs M6=>?_⟩
 ·obtain ⟨i,ei⟩:=abh hv
  have hi:=(Wp.mp ei).1;have e2:=gE (show i<(kC pins).length by rw [<-N1.1];exact hi);have h1:=(N1.2 i vs _ ei e2).1;rw [h1,(shW _ (aaq e2)).1];exact ah0 _
 rw [agr] at M6;have lcs:cs.length=N:=by rw [M6.2.1];unfold jo;rw [ir,aeJ]
 have FK:=s15.trans s6;have FL:=sU.trans s6;have s26:=Xn.trans FL;have mx6:=mx.same FL;have R6:=RJ.same s26;have rD4:=Xn _ _ RJ.jx.1;have r1D:r1≠rD:=fun z=>by rw [z,sT _ _ RJ.jx.1] at n4;cases n4
 have l1D:∀l∈ls1,l≠rD:=fun l hm z=>by
  have:=nl4 l hm;rw [z,sT _ _ RJ.jx.1] at this;cases this
 have lB:(fw pins (gs.zip bars)).length=N:=by unfold fw;rw [ir,aeJ,eN]
 have rD5:=sU _ _ rD4
 have cD:∀i l,cs[i]?=some l->H6 l=some (.lst (oh (tS.take W) i)):=fun i l e=>by
  have hi:=(Wp.mp e).1;refine M6.2.2 i l _ e ?_;unfold jo;rw [aaa,aeW (by omega)];rfl
 have P2:∀i l,cs[i]?=some l->l≠rD:=fun i l e z=>by
  have:=ahs l (aaq e);rw [z,rD5] at this;cases this
 have cnD:c≠rD:=fun z=>by rw [z,rD5] at nc6;cases nc6
 refine ⟨r1,c,rfl,⟨_,aT.of mx6.hr⟩,⟨_,aT.of M6.1⟩,?_⟩
 refine let I:zIv:=fun t σ H'=>Lk fun (o6 o7:Α) (ls:ω) (b6:Η)=>σ=[ap a,ap d,ap r0,some (.int (W:Int)),ap rD,ap r1,o6,o7]/\(∀b o,b≠rD->H6 b=some o->H' b=some o)/\ix K H' rD ls b6 (dm pins++(fw pins (gs.zip bars)).take t)/\ls.length<=W+t;QF (K:=K) (a:=r1) (b:=c) (xs:=ls1.map V.ref) (ys:=cs.map V.ref) I ⟨none,none,ls2,ahn,rfl,fun _ _ _ e=>e,by rw [aoh,ae_];exact R6,by rw [RJ.jx.2.1,RJ.num.1,lA];exact aaA _⟩ (fun i σ H' h=>by
   obtain ⟨_,_,_,_,_,k',_⟩:=h
   exact ⟨aT.of (k' _ _ r1D mx6.hr),aT.of (k' _ _ cnD M6.1)⟩) ?_ ?_
 ·rintro t x y σ H7 p7 ex ey ⟨o6,o7,ls,b6,rfl,k7,R7,ll⟩ np
  have s7:=aE np (.tup [x,y]);have e7:(upd H7 p7 (.tup [x,y])) p7=some (.tup [x,y]):=ah;generalize upd H7 p7 (.tup [x,y])=H8 at s7 e7 ⊢;rw [aaa] at ex ey;obtain ⟨l1,el1,rfl⟩:=aaB.mp ex;obtain ⟨c1,ec1,rfl⟩:=aaB.mp ey
  have ht:t<N:=by
   have:=(Wp.mp ec1).1;omega
  obtain ⟨vs1,hv1,lv1,nv1⟩:=mx6.row t l1 el1
  have tt:aY H6 H7:=fun b xs e=>by
   rcases e with e|⟨o',e⟩
   ·exact .inl (k7 _ _ (fun z=>by rw [z,R6.jx.1] at e;cases e) e)
   ·exact .inr ⟨o',k7 _ _ (fun z=>by rw [z,R6.jx.1] at e;cases e) e⟩
  have hv8:=s7 _ _ (k7 _ _ (l1D l1 (aaq el1)) hv1);have c1D:c1≠rD:=P2 t c1 ec1;have hc8:=s7 _ _ (k7 _ _ c1D (cD t c1 ec1));have R8:=R7.same s7;have cn:cH K H1 (oh (tS.take W) t) (cW (kC pins) t):=KG N1 shW ht;have cp:Paired (cU K H8) (oh (tS.take W) t) ((cW (kC pins) t).map vl):=Paired.bV (mP (cn.same FK) (VB shW ht)) fun _ _ z=>(z.aJ tt).same s7;refine ⟨p7,_,rfl,bQ.of e7,rfl,_,_,rfl,_,_,rfl,rfl,_,rfl,.inl ⟨rfl,_,aT.of R8.jx.1⟩,_,rfl,_,rfl,c1,_,_,rfl,hc8,cp,(by unfold oh;rw [ir,abv];omega),fun l9 us9 H9 s9 e9 p9=>?_⟩;refine ⟨l1,l9,_,_,rfl,rfl,s9 _ _ hv8,e9,(by have:=abL p9;rw [ir,ir] at this;unfold cW at this;rw [ir,fH] at this;omega),?_⟩;intro ZG Rb;generalize eX:upd _ ZG _=OU;have ⟨uB,Xi⟩:=nw Rb eX;have R10:=R8.same (s9.trans uB);refine ⟨rD,_,_,rfl,rfl,R10.jx.1,(by rw [ir];omega),?_⟩;have ahv:ZG≠rD:=fun z=>by rw [z,(R8.same s9).jx.1] at Rb;cases Rb
  have nv8:cH K OU vs1 ((aev N).map fun j=>qr (xB pins (gs.zip bars) t j)):=⟨by rw [ir,aeJ];exact lv1,fun j u qq e1 e2=>by
   rw [aaa] at e2;obtain ⟨j',ej,rfl⟩:=aaB.mp e2
   have hj:j<N:=by
    have:=(Wp.mp e1).1;omega
   rw [aeW hj] at ej;cases ej;have:=nv1 j u e1;rw [hf t j ht hj] at this
   exact ((this.aJ tt).same s7).same (s9.trans uB)⟩
  have ns9:cH K OU us9 (((cW (kC pins) t).map vl).map fun r=>qr (-r)):=by
   have:=(V4 p9).same uB;rw [ab_] at this;exact this
  have eB:(fw pins (gs.zip bars))[t]?=some (((aev N).map fun j=>qr (xB pins (gs.zip bars) t j))++((cW (kC pins) t).map vl).map fun r=>qr (-r)):=by
   unfold fw;rw [aaa,<-eN,aeW ht];rfl
  refine ⟨_,_,ls++[ZG],b6++[vs1++us9],rfl,fun b o n e=>?_,?_,by rw [aba,af1];omega⟩
  ·rw [aj n]
   exact uB _ _ (s9 _ _ (s7 _ _ (k7 _ _ n e)))
  ·rw [aeQ,eB,<-af_]
   exact R10.push Xi ahv (wg nv8 ns9)
 ·rintro σ H7 ⟨o6,o7,ls,b6,rfl,k7,R7,ll⟩
  rw [ir,ir,mx.ln,lcs,ahx,aeE (by omega)] at R7;refine ⟨_,rfl,q rD ls b6 H7 (fun b o e=>?_) R7⟩;have Xo:=s1.trans FK;exact k7 _ _ (fun z=>by rw [z,(s1.trans sS).free nD] at e;cases e) (Xo _ _ e)
inductive kg (K:Frag)(vs:ζ)(H:Hp)(Q:VK)(E_:XK):Prop
|mk (d e:abA)(kvs kL:γ)(xs:List (Str×Rat))(Ln:Β)(_:vs=[.ref d,.ref e])(_:H d=some (.dK kvs))(_:Paired (fun (kv:Key×V)(x:Str×Rat)=>kv.1=.inr x.1/\cU K H kv.2 x.2) kvs xs)(_:(xs.map (·.1)).Nodup)(_:H e=some (.dK kL))(_:d≠e)(_:xs.length<=14)(_:(∀x∈xs,Sz 46 x.2/\Sz 4000000 (Ln x.1)/\∃v,bJ kL (.inr x.1)=some v/\cU K H v (Ln x.1)))(_:∀(p:abA)(kT:γ)(H':Hp),ao H H' ->H p=none->H' p=some (.dK kT)->Paired (fun (kv:Key×V)(x:Str×Rat)=>kv.1=.inr x.1/\cU K H' kv.2 (x.2*Ln x.1)) kT xs->Q (.ref p) H')
def jd:av ["firm","longer","pulls","bar","grip"] zaN (ae gS):=sq
def CA (D:Def K mg "gripped" gS zaN)(dB:ac P w K mg base 34 "product_of" zab (iI K fun a b=>a*b)):
  ac P w K mg base 35 "gripped" zaN (kg K):=by
 refine D.oo jd fun H hr h=>?_;obtain ⟨d,e,kvs,kL,xs,Ln,rfl,hd,pk,nd,he,ne,lx,hx,q⟩:=h;have lk:kvs.length=xs.length:=abL pk
 refine ⟨_,(aa (aG 2 jd.nd dc) (aa (j6 (bq abI rfl (mz (pv 0)) (fE rfl (a_ (bP 3 jd.nd) (a_ (bP 4 jd.nd) cX))) (ag (cx (bH hr) (pv 2) (pv 3) (aL dB hr (aI (pv 4) (cY (bH hr) (pv 1) (pv 3) (fun _ _=>rfl)))) rfl)))) (ag (aC (pv 2))))),?_⟩;dsimp only [cxr,jD,Cx.xw,Cx.tu];refine sq2 ?_;intros
 intro p np;have s1:=aE np (.dK []);have e1:(upd H p (.dK [])) p=some (.dK []):=ah;generalize upd H p (.dK [])=H1 at s1 e1 ⊢;have NF:=s1 _ _ hd;have pd:p≠d:=fun z=>by rw [z,hd] at np;cases np
 refine ⟨_,rfl,d,kvs,rfl,NF,fun o=>?_⟩;have k0:∀b o',b≠d->b≠p->H b=some o' ->(upd H1 d (.fB o (.dK kvs))) b=some o':=fun b o' n _ z=>by rw [aj n];exact s1 _ _ z
 have tH:∀{H':Hp},(∀b o',b≠d->b≠p->H b=some o' ->H' b=some o')->aY H H':=fun {H'} k b xs r=>by
  rcases r with r|⟨o',r⟩
  ·exact .inl (k _ _ (fun z=>by rw [z,hd] at r;cases r) (fun z=>by rw [z,np] at r;cases r) r)
  ·exact .inr ⟨o',k _ _ (fun z=>by rw [z,hd] at r;cases r) (fun z=>by rw [z,np] at r;cases r) r⟩
 refine let I:zIv:=fun t σ H'=>IS fun (o3 o4:Α) (kT:γ)=>σ=[ap d,ap e,ap p,o3,o4]/\(∀b o',b≠d->b≠p->H b=some o' ->H' b=some o')/\H' d=some (.fB o (.dK kvs))/\H' p=some (.dK kT)/\Paired (fun (kv:Key×V) (x:Str×Rat)=>kv.1=.inr x.1/\cU K H' kv.2 (x.2*Ln x.1)) kT (xs.take t);j0 (d:=d) (o:=o) (kvs:=kvs) I ⟨none,none,[],rfl,k0,ah,by rw [aj pd];exact e1,.nil⟩ (fun t σ H' _ h=>by
   obtain ⟨_,_,_,_,_,h,_⟩:=h
   exact h) ?_ ?_
 ·rintro t k y σ H6 p7 uS ⟨o3,o4,kT,rfl,k6,Kz,hp6,pT⟩ n7
  obtain ⟨x,ex,rfl,ny⟩:∃x,xs[t]?=some x/\k=.inr x.1/\cU K H y x.2:=by
   obtain ⟨x,ex,h1,h2⟩:=aA pk uS;exact ⟨x,ex,h1,h2⟩
  have s7:=aE n7 (.tup [kV (.inr x.1),y]);have e7:(upd H6 p7 (.tup [kV (.inr x.1),y])) p7=some (.tup [kV (.inr x.1),y]):=ah;generalize upd H6 p7 (.tup [kV (.inr x.1),y])=H7 at s7 e7 ⊢;have k7:∀b o',b≠d->b≠p->H b=some o' ->H7 b=some o':=fun b o' n m z=>s7 _ _ (k6 b o' n m z);obtain ⟨z1,z2,v,ev,nv⟩:=hx x (aaq ex);have pe:e≠p:=fun z=>by rw [<-z,he] at np;cases np
  have dg:dh H7 e (.str x.1) (some v):=by
   have:=dh.k (k:=.inr x.1) (k7 _ _ (aeD ne) pe he);rw [ev] at this;exact this
  refine ⟨p7,_,rfl,bQ.of e7,rfl,_,_,rfl,_,_,rfl,rfl,_,rfl,_,rfl,_,rfl,e,v,rfl,dg,y,v,x.2,Ln x.1,rfl,ny.aJ (tH k7),nv.aJ (tH k7),z1.up (by decide),z2.up (by decide),fun c8 H8 s8 e8=>?_⟩;have hp8:=s8 _ _ (s7 _ _ hp6);have lT:=abL pT;rw [abv] at lT;refine ⟨_,rfl,_,rfl,p,_,rfl,gI.k (k:=.inr x.1) hp8 (aaZ (show kT.length<=1000 by omega) (by decide)),?_⟩
  have fresh:(aeB x.1:Key)∉kT.map (·.1):=fun z=>by
   obtain ⟨kv,MK,ek⟩:=aar.mp z;obtain ⟨j,ej⟩:=abh MK;obtain ⟨x',zX,h1,_⟩:=aA pT ej;rw [h1] at ek
   have hj:j<t:=by
    have:=(Wp.mp zX).1;rw [abv] at this;omega
   rw [aeM hj] at zX;have g1:(xs.map (·.1))[j]?=some x.1:=by rw [aaa,zX,<-aeN ek];rfl
   have g2:(xs.map (·.1))[t]?=some x.1:=by rw [aaa,ex];rfl
   have:=dO nd g1 g2;omega
  rw [dE _ (bZ fresh)];have t8:aY H8 (upd H8 p (.dK (kT++[(.inr x.1,.ref c8)]))):=.dict hp8;refine ⟨_,_,_,rfl,fun b o' n m z=>?_,?_,ah,?_⟩
  ·rw [aj m]
   exact s8 _ _ (k7 b o' n m z)
  ·rw [aj (aeD pd)]
   exact s8 _ _ (s7 _ _ Kz)
  ·rw [aeQ,ex]
   refine ou (Paired.bV pT fun _ _ z=>⟨z.1,(z.2.same (s7.trans s8)).aJ t8⟩) ⟨rfl,?_⟩;exact cU.aJ ⟨c8,rfl,bQ.of e8⟩ t8
 ·rintro σ H6 ⟨o3,o4,kT,rfl,k6,Kz,hp6,pT⟩
  refine ⟨d,o,kvs,Kz,fun o' u' z=>(by have z':H d=some (.fB o' u'):=z;rw [hd] at z';cases z'),?_⟩;rw [aeE (by omega)] at pT
  have t2:aY H6 (upd H6 d (.dK kvs)):=fun b xs r=>by
   rcases r with r|⟨o',r⟩
   ·exact .inl (by rw [aj (fun z=>by rw [z,Kz] at r;cases r)];exact r)
   ·exact .inr ⟨o',by rw [aj (fun z=>by rw [z,Kz] at r;cases r)];exact r⟩
  refine ⟨_,rfl,q p kT _ (fun b o' z=>?_) np (by rw [aj pd];exact hp6) (Paired.bV pT fun _ _ z=>⟨z.1,z.2.aJ t2⟩)⟩;by_cases n:b=d
  ·subst n
   rw [hd] at z;rw [ah];exact z
  ·rw [aj n]
   exact k6 b o' n (fun m=>by rw [m,np] at z;cases z) z
theorem qv {α:Type}(f g:α->Rat):∀(l:List α)(u:Ι),sP (l.map fun j=>f j+g j) u=sP (l.map f) u+sP (l.map g) u
 | [],u=>by rw [aez,aez,aez,eZ];grind
 | a::l,[]=>by simp [sP];grind
 | a::l,x::u=>by
  rw [aaw,aaw,aaw,bU,bU,bU,qv f g l u];grind
theorem je {α:Type}(c:Rat)(f:α->Rat):∀(l:List α)(u:Ι),sP (l.map fun j=>c*f j) u=c*sP (l.map f) u
 | [],u=>by rw [aez,aez,eZ];grind
 | a::l,[]=>by simp [sP]
 | a::l,x::u=>by
  rw [aaw,aaw,bU,bU,je c f l u];grind
theorem jf:∀(a b:Ι),sP a b=sP b a
 | [],b=>by cases b<;>simp [sP]
 | x::a,[]=>by simp [sP]
 | x::a,y::b=>by
  rw [bU,bU,jf a b];grind
def FV (l u:Ι):sP (l.map fun r=> -r) u= -(sP l u):=by
 have:=je (-1) (fun r:Rat=>r) l u;rw [List.map_id'] at this;have e:(l.map fun r=> -r)=l.map fun r=> -1*r:=abk fun r _=>by grind
 rw [e,this];grind
theorem qw {α:Type}(c:α->Rat)(r:α->Nat->Rat)(l:List Nat)(u:Ι):∀bars:List α,sP (l.map fun j=>(bars.map fun b=>c b*r b j).sum) u=(bars.map fun b=>c b*sP (l.map (r b)) u).sum
 | []=>by
  have e:(l.map fun j=>(([]:List α).map fun b=>c b*r b j).sum)=l.map fun j=>0*(0:Rat):=abk fun j _=>by simp
  rw [e,je,aez,ae3];grind
 | b::bs=>by
  have e:(l.map fun j=>((b::bs).map fun b=>c b*r b j).sum)=l.map fun j=>c b*r b j+(bs.map fun b=>c b*r b j).sum:=abk fun j _=>by rw [aaw,ad_]
  rw [e,qv,je,qw c r l u bs,aaw,ad_]
theorem FW {α:Type}(r:α->Nat->Rat)(l:List Nat)(u:Ι):∀(y:Ι)(qs:List α),sP (l.map fun j=>sP y (qs.map fun q=>r q j)) u=sP y (qs.map fun q=>sP (l.map (r q)) u)
 | [],qs=>by
  have e:(l.map fun j=>sP [] (qs.map fun q=>r q j))=l.map fun j=>0*(0:Rat):=abk fun j _=>by rw [eZ];grind
  rw [e,je,eZ];grind
 | a::y,[]=>by
  have e:(l.map fun j=>sP (a::y) (([]:List α).map fun q=>r q j))=l.map fun j=>0*(0:Rat):=abk fun j _=>by simp [sP]
  rw [e,je];simp [sP]
 | a::y,q::qs=>by
  have e:(l.map fun j=>sP (a::y) ((q::qs).map fun q=>r q j))=l.map fun j=>a*r q j+sP y (qs.map fun q=>r q j):=abk fun j _=>by rw [aaw,bU]
  rw [e,qv,je,FW r l u y qs,aaw,bU]
def sq_pos (x:Rat):0<=x*x:=by
 rcases Rat.le_total (a:=0) (b:=x) with h|h
 ·exact ae8 h h
 ·have h':0<= -x:=by grind
  have:=ae8 h' h';grind
theorem wo (G s:aK->Rat):∀bars:List aK,(∀b∈bars,0<G b)->(bars.map fun b=>G b*(s b*s b)).sum<=0->∀b∈bars,s b=0
 | [],_,_,b,hb=>by cases hb
 | c::bs,h,z,b,hb=>by
  rw [aaw,ad_] at z;have g0:=h c aa_
  have nn:∀l:List aK,(∀b∈l,0<G b)->0<=(l.map fun b=>G b*(s b*s b)).sum:=fun l=>by
   induction l with
   | nil=>intro _;rw [aez,ae3];exact ahd
   | cons a l ih=>
    intro hl;rw [aaw,ad_];have h1:=ih fun b hb=>hl b (aax _ hb);have h2:0<=s a*s a:=sq_pos (s a);have h3:=ae8 (agE (hl a aa_)) h2;grind
  have n1:=nn bs fun b hb=>h b (aax _ hb);have h2:0<=s c*s c:=sq_pos (s c);have h3:=ae8 (agE g0) h2;have z1:G c*(s c*s c)=0:=by grind
  have zc:s c=0:=by
   rcases agX.mp z1 with e|e
   ·grind
   ·rcases agX.mp e with e|e<;>exact e
  rcases aes.mp hb with e|hb
  ·rw [e];exact zc
  ·exact wo G s bs (fun b hb=>h b (aax _ hb)) (by grind) b hb
def wu (F:θ)(pins:ι):((aev (2*pins.length)).map fun j=>vl ((cj F pins).getD j (0,1)))=(cj F pins).map vl:=by
 refine aeK fun j=>?_;rw [aaa,aaa];by_cases c:j<2*pins.length
 ·rw [aeW c,gE (by rw [cP];exact c)]
  show some (vl ((cj F pins).getD j (0,1)))=some _;rw [abi,gE (by rw [cP];exact c)];rfl
 ·rw [aaz (by rw [aeJ];omega),aaz (by rw [cP];omega)]
  rfl
def uV (M:χ)(pins:ι):List Rat:=pins.flatMap fun p=>[(M p.nm).1,(M p.nm).2]
theorem wz (M:χ):∀pins:List aw,(uV M pins).length=2*pins.length
 | []=>rfl
 | p::ps=>by
  have:=wz M ps;unfold uV at this ⊢;rw [aeo,aba,this];show 2+2*ps.length=2*(ps.length+1);omega
def CB (g:cV pins bars)(hb:b∈bars)(M:χ):sP ((aev (2*pins.length)).map (gx pins b)) (uV M pins)= -(cR M b):=by
 obtain ⟨m1,m2,m3⟩:=g.ends b hb;rw [show (aev (2*pins.length)).map (gx pins b)=(cj (cJ b) pins).map vl from wu (cJ b) pins];unfold uV;rw [qu,FP g.np b m1 m2 m3]
def NT (np:(pins.map (·.nm)).Nodup)(hp:p∈pins)(w:Rat×Rat)(M:χ):sP ((cj (fM p.nm w) pins).map vl) (uV M pins)=dt w (M p.nm):=by
 unfold uV;rw [qu,vZ np hp]
def NU (hp:p∈pins){w:Rat×Rat}(hw:w∈p.ws):cj (fM p.nm w) pins∈kC pins:=by
 unfold kC oj;exact ae5.mpr ⟨p,hp,aar.mpr ⟨w,hw,rfl⟩⟩
def CC {qs:ο}(h:qs∈kC pins):∃p∈pins,∃w∈p.ws,qs=cj (fM p.nm w) pins:=by
 unfold kC oj at h;obtain ⟨p,hp,h⟩:=ae5.mp h;obtain ⟨w,hw,e⟩:=aar.mp h;exact ⟨p,hp,w,hw,e.symm⟩
def oy {qs:ο}(h:qs∈kC pins):qs.length=2*pins.length:=by
 obtain ⟨p,_,w,_,rfl⟩:=CC h;exact cP _ _
def wA (pins:ι)(L:θ):List (Int×Int):=ac_ (ba pins) (0,1)++cj L pins
def v01:vl ((0,1):Int×Int)=0:=by decide+kernel
def NV (n:Nat):(ac_ n ((0,1):Int×Int)).map vl=(ac_ n ()).map fun _=>(0:Rat):=by rw [List.map_replicate,v01];simp
def mQ (A B:Ε)(j:Nat):cW (A++B) j=cW A j++cW B j:=by unfold cW;rw [abq]
def iX (A:Ε)(j:Nat):(cW A j).length=A.length:=by unfold cW;rw [ir]
section
variable {pins:ι}{bars:ς}{G:aK->Rat}{L:θ}
def yI (i j:Nat):xB pins (bars.map fun b=>(G b,b)) i j=(bars.map fun b=>G b*gx pins b i*gx pins b j).sum:=by
 unfold xB;rw [ab_];rfl
def yJ (g:cV pins bars)(hx:∀(i:Nat)(qs:ο)(d:Int×Int),(dm pins++fw pins (bars.map fun b=>(G b,b)))[i]?=some qs->(wA pins L)[i]?=some d->ib qs xs=vl d)
    (ex:xs.map vl=uV M pins++pins.flatMap fun p=>U p.nm) (lU:∀p∈pins,(U p.nm).length=p.ws.length)  (hT:∀b∈bars,T b.nm=G b*cR M b):(∀p∈pins,∀w∈p.ws,dt w (M p.nm)=0)/\gw pins bars T U L:=by
 have lA:(dm pins).length=ba pins:=by unfold dm;rw [ir,fH]
 have lfU:(pins.flatMap fun p=>U p.nm).length=ba pins:=by
  unfold ba;clear ex hx hT g
  induction pins with
  | nil=>rfl
  | cons q ps ih=>rw [aeo,aeo,aba,aba,ih (fun r hr=>lU r (aax _ hr)) (by unfold dm;rw [ir,fH]),lU q aa_]
 refine ⟨fun p hp w hw=>?_,fun p hp=>?_⟩
 ·obtain ⟨i,ei⟩:=abh (NU hp hw)
  have hi:i<ba pins:=by rw [<-fH];exact (Wp.mp ei).1
  have eA:(dm pins)[i]?=some (cj (fM p.nm w) pins++ac_ (ba pins) (0,1)):=by unfold dm;rw [aaa,ei];rfl
  have:=hx i _ (0,1) (by rw [aby (by omega)];exact eA) (by unfold wA;rw [aby (by rw [aeG];exact hi),aeI,abC hi]);rw [kc,ex,abq,f7 _ _ (by rw [ir,cP,wz]),NT g.np hp,NV,jf ((ac_ (ba pins) ()).map _),iA,v01] at this;grind
 ·obtain ⟨k,ek⟩:=abh hp
  have hk:=(Wp.mp ek).1
  have one:∀(j:Nat)(c:Rat×Rat->Rat),j<2*pins.length->c (0,0)=0->(∀F,vl ((cj F pins).getD j (0,1))=c (mv F p.nm))->dR bars T U p c+c (mv L p.nm)=0:=fun j c hj c0 hc=>by
   have cs:=Q8 (bars:=bars) (T:=T) (L:=L) c0 g.np lU hp 1;rw [<-KD pins bars L ek j c hc,show gd pins bars++[cj L pins]=kC pins++(bars.map fun b=>cj (cJ b) pins)++[cj L pins] from rfl,mQ,mQ,abq,abq,f7 _ _ (by rw [aba,aba,ir,ir,ir,iX,iX,lfU,fH,ir]),f7 _ _ (by rw [ir,iX,lfU,fH])] at cs
   have e2:sP (bars.map fun b=>T b.nm) ((cW (bars.map fun b=>cj (cJ b) pins) j).map vl)=(bars.map fun b=>T b.nm*gx pins b j).sum:=by
    unfold cW;rw [ab_,ab_,BV];rfl
   have e3:sP [(1:Rat)] ((cW [cj L pins] j).map vl)=c (mv L p.nm):=by
    show sP [(1:Rat)] [vl ((cj L pins).getD j (0,1))]=_;rw [bU,eZ,hc];grind
   rw [e2,e3] at cs
   have eB:(fw pins (bars.map fun b=>(G b,b)))[j]?=some (((aev (2*pins.length)).map fun j'=>qr (xB pins (bars.map fun b=>(G b,b)) j j'))++((cW (kC pins) j).map vl).map fun r=>qr (-r)):=by
    unfold fw;rw [aaa,aeW hj];rfl
   obtain ⟨dj,lr⟩:∃d,(cj L pins)[j]?=some d:=⟨_,gE (show j<(cj L pins).length by rw [cP];exact hj)⟩;have:=hx (ba pins+j) _ _ (by rw [abx (by omega),lA,afy];exact eB) (by unfold wA;rw [abx (by rw [aeG];omega),aeG,afy];exact lr)
   have hL:vl dj=c (mv L p.nm):=by
    rw [<-hc L,abi,lr];rfl
   rw [kc,ex,abq,f7 _ _ (by rw [ir,ir,aeJ,wz]),ab_,ab_,hL] at this
   have f1:(aev (2*pins.length)).map (vl ∘ fun j'=>qr (xB pins (bars.map fun b=>(G b,b)) j j'))=(aev (2*pins.length)).map fun j'=>(bars.map fun b=>(G b*gx pins b j)*gx pins b j').sum:=abk fun j' _=>by
    show vl (qr _)=_;rw [d_,yI]
   have f2:((cW (kC pins) j).map vl).map (vl ∘ fun r=>qr (-r))=((cW (kC pins) j).map vl).map fun r=> -r:=abk fun r _=>d_ _;rw [f1,f2,qw (fun b=>G b*gx pins b j) (gx pins),FV,jf ((cW (kC pins) j).map vl)] at this
   have f3:(bars.map fun b=>(G b*gx pins b j)*sP ((aev (2*pins.length)).map (gx pins b)) (uV M pins)).sum= -(bars.map fun b=>T b.nm*gx pins b j).sum:=by
    rw [<-sum_neg];refine abR ah6 (abk fun b hb=>?_);rw [CB g hb,hT b hb];grind
   rw [f3] at this;grind
  exact ⟨one (2*k) (·.1) (by omega) rfl fun F=>(v7 F ek).1,one (2*k+1) (·.2) (by omega) rfl fun F=>(v7 F ek).2⟩
def CD (g:cV pins bars)(hG:∀b∈bars,0<G b)(h0:∀j,j<2*pins.length+ba pins->ib ys (cW (dm pins++fw pins (bars.map fun b=>(G b,b))) j)=0)(h1:ib ys (wA pins L)=1)
   {yw:Ι} (ey:ys.map vl=yw++uV M pins) (lw:yw.length=ba pins):BU pins bars M/\iW pins L M=1:=by
 have lA:(dm pins).length=ba pins:=by unfold dm;rw [ir,fH]
 have way:∀qs∈kC pins,sP (qs.map vl) (uV M pins)=0:=fun qs hq=>by
  obtain ⟨k,ek⟩:=abh hq;have hk:k<ba pins:=by rw [<-fH];exact (Wp.mp ek).1
  have:=h0 (2*pins.length+k) (by omega)
  have eA:(cW (dm pins) (2*pins.length+k)).map vl=(kC pins).map fun _=>(0:Rat):=by
   unfold cW dm;rw [ab_,ab_];refine abk fun qs hq=>?_;show vl ((qs++ac_ (ba pins) (0,1)).getD (2*pins.length+k) (0,1))=0;rw [abi,abx (by rw [oy hq];omega),oy hq,afy,aeI,abC hk];exact v01
  have eB:(cW (fw pins (bars.map fun b=>(G b,b))) (2*pins.length+k)).map vl=(qs.map vl).map fun r=> -r:=by
   have lq:=oy hq;obtain ⟨p,_,w,_,rfl⟩:=CC hq;rw [<-wu (fM p.nm w) pins,ab_];unfold cW fw;rw [ab_,ab_];refine abk fun i hi=>?_;show vl ((((aev (2*pins.length)).map fun j=>qr (xB pins (bars.map fun b=>(G b,b)) i j))++((cW (kC pins) i).map vl).map fun r=>qr (-r)).getD (2*pins.length+k) (0,1))= -(vl ((cj (fM p.nm w) pins).getD i (0,1)));rw [abi,abx (by rw [ir,aeJ];omega),ir,aeJ,afy,aaa,aaa];unfold cW;rw [aaa,ek];exact d_ _
  rw [kc,ey,mQ,abq,f7 _ _ (by rw [ir,iX,lA,lw]),eA,eB,iA,jf,FV] at this;grind
 have VX:∀p∈pins,∀w∈p.ws,dt w (M p.nm)=0:=fun p hp w hw=>by rw [<-NT g.np hp];exact way _ (NU hp hw)
 have col:∀j,j<2*pins.length->sP yw ((kC pins).map fun qs=>vl (qs.getD j (0,1)))+(bars.map fun b=>(G b* -(cR M b))*gx pins b j).sum=0:=fun j hj=>by
  have:=h0 j (by omega)
  have eA:(cW (dm pins) j).map vl=(kC pins).map fun qs=>vl (qs.getD j (0,1)):=by
   unfold cW dm;rw [ab_,ab_];refine abk fun qs hq=>?_;show vl ((qs++ac_ (ba pins) (0,1)).getD j (0,1))=_;rw [abi,aby (by rw [oy hq];exact hj),<-abi]
  have eB:(cW (fw pins (bars.map fun b=>(G b,b))) j).map vl=(aev (2*pins.length)).map fun i=>(bars.map fun b=>(G b*gx pins b j)*gx pins b i).sum:=by
   unfold cW fw;rw [ab_,ab_];refine abk fun i hi=>?_;show vl ((((aev (2*pins.length)).map fun j=>qr (xB pins (bars.map fun b=>(G b,b)) i j))++((cW (kC pins) i).map vl).map fun r=>qr (-r)).getD j (0,1))=_;rw [abi,aby (by rw [ir,aeJ];exact hj),aaa,aeW hj];show vl (qr _)=_;rw [d_,yI];refine abR ah6 (abk fun b _=>?_);grind
  rw [kc,ey,mQ,abq,f7 _ _ (by rw [ir,iX,lA,lw]),eA,eB,jf (uV M pins),qw (fun b=>G b*gx pins b j) (gx pins)] at this
  have f:(bars.map fun b=>(G b*gx pins b j)*sP ((aev (2*pins.length)).map (gx pins b)) (uV M pins)).sum=(bars.map fun b=>(G b* -(cR M b))*gx pins b j).sum:=by
   refine abR ah6 (abk fun b hb=>?_);rw [CB g hb];grind
  rw [f] at this;exact this
 have all:sP ((aev (2*pins.length)).map fun j=>sP yw ((kC pins).map fun qs=>vl (qs.getD j (0,1)))+(bars.map fun b=>(G b* -(cR M b))*gx pins b j).sum) (uV M pins)=0:=by
  have e:((aev (2*pins.length)).map fun j=>sP yw ((kC pins).map fun qs=>vl (qs.getD j (0,1)))+(bars.map fun b=>(G b* -(cR M b))*gx pins b j).sum)=(aev (2*pins.length)).map fun _=>(0:Rat):=abk fun j hj=>col j (aeZ.mp hj);rw [e,jf,iA]
 rw [qv,FW (fun (qs:ο) (j:Nat)=>vl (qs.getD j (0,1))),qw (fun b=>G b* -(cR M b)) (gx pins)] at all
 have e1:((kC pins).map fun q=>sP ((aev (2*pins.length)).map fun j=>vl (q.getD j (0,1))) (uV M pins))=(kC pins).map fun _=>(0:Rat):=abk fun q hq=>by
  obtain ⟨p,hp,w,hw,rfl⟩:=CC hq;rw [wu];exact way _ hq
 have e2:(bars.map fun b=>(G b* -(cR M b))*sP ((aev (2*pins.length)).map (gx pins b)) (uV M pins)).sum=(bars.map fun b=>G b*(cR M b*cR M b)).sum:=abR ah6 (abk fun b hb=>by rw [CB g hb];grind);rw [e1,iA,e2] at all;refine ⟨⟨VX,wo G (cR M) bars hG (by grind)⟩,?_⟩;rw [kc,ey] at h1;unfold wA at h1;rw [abq,f7 _ _ (by rw [ir,aeG,lw]),NV,iA,jf] at h1;unfold uV at h1;rw [qu] at h1;unfold iW;grind
end
def Rc (h:Sm T B q)(h1:T<=T')(h2:B<=B'):Sm T' B' q:=⟨h.pos,h.low,aay h.top (aet (by decide) h1),aay h.bot (aet (by decide) h2)⟩
def mvL (M:θ):Prop:=∀x,Sz 1000 (mv M x).1/\Sz 1000 (mv M x).2
def gR (Go:τ)(x:Str):Rat:=(Go x).getD 1
def qz (Go:τ)(x:Str):rO (fun y=>(Go y).map qr) x=qr (gR Go x):=by
 show ((Go x).map qr).getD (1,1)=qr ((Go x).getD 1);cases Go x with
 | none=>
  show (1,1)=qr 1;decide+kernel
 | some r=>rfl
def V6 (h:0<r):0<(qr r).1:=by
 have p:=cI r;have v:=d_ r
 rcases agu (qr r).1 0 with z|z|z
 ·exfalso
  have:vl (qr r)<=0:=by
   unfold vl
   have h1:((qr r).1:Rat)<=0:=by
    have:=afg.mpr (Int.le_of_lt z);exact this
   have h2:(0:Rat)<((qr r).2:Rat):=by
    have:=aeL.mpr p;exact this
   rw [ahe];have h3:(0:Rat)<=((qr r).2:Rat)⁻¹:=agE (ahf.mpr h2);have:=ae8 (show (0:Rat)<= -((qr r).1:Rat) by grind) h3;grind
  rw [v] at this;grind
 ·exfalso
  have:=mL z;rw [this] at h;exact abM h aid
 ·exact z
theorem CG :∀{bars:ς},(bars.map nm).Nodup->∀f:aK->Rat,∃T:Str->Rat,∀b∈bars,T (nm b)=f b
 | [],_,_=>⟨fun _=>0,fun b hb=>by cases hb⟩
 | c::bs,nd,f=>by
  rw [aaw,aeC] at nd;obtain ⟨T,hT⟩:=CG nd.2 f;refine ⟨fun x=>if x=nm c then f c else T x,fun b hb=>?_⟩
  rcases aes.mp hb with e|hb
  ·rw [e]
   show (if nm c=nm c then _ else _)=_;rw [abC rfl]
  ·show (if nm b=nm c then _ else _)=_
   rw [abB (fun z:nm b=nm c=>nd.1 (by rw [<-z];exact aar.mpr ⟨b,hb,rfl⟩))];exact hT b hb
def TF (h:Sm T B q)(h1:T<k)(h2:B<k):Sz k (vl q):=by
 have e:=Tx h;have p1:q.1.natAbs<2^k:=aaZ h.top (agO (by decide) h1);have p2:q.2.natAbs<2^k:=aaZ h.bot (agO (by decide) h2);rw [e] at p1 p2;exact ⟨intBits_le_iff.mpr p1,intBits_le_iff.mpr p2⟩
def NW (h:Sz k r):Sm k k (qr r):=⟨cI r,nQ r,ae1 (intBits_le_iff.mp h.top),ae1 (intBits_le_iff.mp h.bot)⟩
def CH (g:cV pins bars)(lb:bars.length<=9){G:aK->Rat}(zG:∀b∈bars,Sz 46 (G b)):Shape 1400 1400 (2*pins.length+ba pins) (dm pins++fw pins (bars.map fun b=>(G b,b))):=fun qs hq=>by
 have s0:Sm 1400 1400 ((0,1):Int×Int):=⟨by decide,by decide,by decide+kernel,by decide+kernel⟩;have wsm:∀qs∈kC pins,∀q∈qs,Sm 50 50 q:=fun qs hq=>(lG g qs (by unfold gd;exact aex _ hq)).2
 rcases abj.mp hq with h|h
 ·unfold dm at h
  obtain ⟨Na,h',rfl⟩:=aar.mp h;refine ⟨by rw [aba,oy h',aeG],fun q hq=>?_⟩
  rcases abj.mp hq with h|h
  ·exact Rc (wsm Na h' q h) (by decide) (by decide)
  ·rw [(aip.mp h).2]
   exact s0
 ·unfold fw at h
  obtain ⟨i,hi,rfl⟩:=aar.mp h;have hi:=aeZ.mp hi;refine ⟨by rw [aba,ir,ir,ir,iX,fH,aeJ],fun q hq=>?_⟩
  rcases abj.mp hq with h|h
  ·obtain ⟨j,hj,rfl⟩:=aar.mp h
   have hj:=aeZ.mp hj;refine Rc (NW (BY hi hj fun x hx=>?_)) (by rw [ir];omega) (by rw [ir];omega);obtain ⟨b,hb,rfl⟩:=aar.mp hx;exact ⟨zG b hb,fun i hi=>(BX g hb hi).2⟩
  ·obtain ⟨r,hr,rfl⟩:=aar.mp h
   obtain ⟨q',m6,rfl⟩:=aar.mp hr;unfold cW at m6;obtain ⟨Na,h',rfl⟩:=aar.mp m6;have hl:=oy h'
   have e:Na.getD i (0,1)=Na[i]'(by omega):=by
    rw [abi,gE (by omega)];rfl
   have:=TF (k:=60) (wsm Na h' _ (aeT (show i<Na.length by omega))) (by decide) (by decide);rw [e];exact Rc (NW this.neg) (by decide) (by decide)
theorem FX {α β:Type}(G:α->β):∀l:List α,(l.map G).zip l=l.map fun b=>(G b,b)
 | []=>rfl
 | b::bs=>by rw [aaw,List.zip_cons_cons,FX G bs,aaw]
inductive lJ (K:Frag)(C:abA)(vs:ζ)(H:Hp)(Q:VK)(E_:XK):Prop
|mk (a d e:abA)(pins:ι)(bars:ς)(kG kL:γ)(Go:τ)(L:θ)(_:vs=[.ref a,.ref d,.ref e])(_:sW K H C a pins bars)(_:cV pins bars)(_:pins.length<=3)(_:bars.length<=9)(_:H d=some (.dK kG))(_:BA K H kG (fun x=>(Go x).map qr))(_:(∀kv∈kG,∃x∈bars.map (·.nm),kv.1=.inr x))(_:(∀x,0<gR Go x/\Sz 46 (gR Go x)))(_:H e=some (.dK kL))(_:BC K H kL L)(_:mvL L)(_:(∀kv∈kL,∃x∈pins.map (·.nm),kv.1=.inr x))(_:(∀(M:χ)(p dM:abA)(kM:γ)(H':Hp),ao H H' ->H' p=some (.tup [.str "moves",.ref dM])->MoR K H H' pins dM kM M->BU pins bars M->iW pins L M=1->Q (.ref p) H'))(_:(∀(T:Β)(U:υ)(Lx:Str->abA)(M:χ)(p dT dU dM:abA)(kT kU kM:γ)(H':Hp),ao H H' ->H' p=some (.tup [.str "bent",.ref dT,.ref dU,.ref dM])->PPR K H H' pins bars dT dU kT kU T U Lx->MoR K H H' pins dM kM M->(∀p∈pins,∀w∈p.ws,dt w (M p.nm)=0)->(∀b∈bars,T b.nm=gR Go b.nm*cR M b)->gw pins bars T U L->(∀b∈bars,Sz 1600000 (T b.nm))->(∀p∈pins,∀u∈U p.nm,Sz 400000 u)->(∀p∈pins,Sz 400000 (M p.nm).1/\Sz 400000 (M p.nm).2)->Q (.ref p) H'))
def cS:av ["F","grips","load","loaded","firm","many","rows","ways","told","moves","pulls","pushes"] zaI (ae gQ):=sq
def CI (hN:∀H:Hp,bQ K H aN [.int 0,.int 1])(og:mg "NOUGHT"=some (.ref aN))(D:Def K mg "bend_of" gQ zaI)(aU:mg "len"=none)
  (ahz:ac P w K mg base 3 "load_row" ["F","load"] (om K C)) (yK:ac P w K mg base 3 "all_grips" zaS (lH K C)) (yL:ac P w K mg base 39 "bend_rows" ["F","firm"] (lI K C)) (ahA:ac P w K mg base 37 "solve_rows" zaF (qp K)) (aaE:ac P w K mg base 2 "motion_from" zax (rM K C)) (rQ:ac P w K mg base 37 "lengthenings" zaQ (NM K C)) (KH:ac P w K mg base 35 "gripped" zaN (kg K)) (ahB:ac P w K mg base 3 "pulls_and_pushes" zax (VT K C)):
  ac P w K mg base 40 "bend_of" zaI (lJ K C):=by
 refine D.oo cS fun H hr h=>?_;obtain ⟨a,d,e,pins,bars,kG,kL,Go,L,rfl,R,g,lp4,lb9,hd,hG,hk,hg,he,hP,zl,hkL,q1,q2⟩:=h;have wl:ba pins<=2*pins.length:=mO pins g.lw;have big:(1000:Nat)<=abE:=by decide
 refine ⟨_,(aa (aG 3 cS.nd (aL ahz hr (aI (pv 0) (pv 2)))) (aa (aG 4 cS.nd (aL yK hr (aI (pv 0) (pv 1)))) (aa (aG 5 cS.nd (aH aD rfl aU bS (aX (pv 3)))) (aa (aG 6 cS.nd (aL yL hr (aI (pv 0) (pv 4)))) (aa (aG 7 cS.nd (ay cG (aH aD rfl aU bS (aX (pv 6))) (pv 5))) (aa (aG 8 cS.nd (aL ahA hr (bD (pv 6) (ay jF (ay vk (cg (aX (fC (v:=.ref aN) rfl og rfl))) (pv 7)) (pv 3)) (aH aD rfl aU bS (aX (pv 6)))))) (aa (bu (bx e_ (aF (pv 8)) eY) (ag (aC (aV (aI eY (aL aaE hr (aI (pv 0) (cL dY (aF (pv 8)) (dw (pv 7)) dX))))))) aQ) (aa (aG 9 cS.nd (aL aaE hr (aI (pv 0) (cL dY (aF (pv 8)) dX (dw (pv 5)))))) (aa (aG 10 cS.nd (aL KH hr (aI (pv 4) (aL rQ hr (aI (pv 0) (pv 9)))))) (aa (aG 11 cS.nd (aF (aL ahB hr (aI (pv 0) (cL dY (aF (pv 8)) (dw (pv 5)) dX))))) (ag (aC (aV (pM eY (bD (pv 10) (pv 11) (pv 9)))))))))))))))),?_⟩;dsimp only [cxr,jD,Cx.xw,Cx.tu];refine sq10 ?_;intros
 refine ⟨_,rfl,_,rfl,a,e,pins,bars,kL,L,rfl,R,by omega,he,hP,hkL,fun l us H1 s1 nl el nm=>?_⟩;have R1:=R.same s1;obtain ⟨dx,pP,pW,pB,kP,kW,kB,F1,W1⟩:=R1.ex;have TC:=vV bars;refine ⟨_,rfl,_,rfl,a,dx,pP,pW,pB,d,_,_,kP,kW,kB,kG,_,rfl,F1,s1 _ _ hd,hG.same s1,(by rw [TC];exact hk),(by rw [ir];omega),(by rw [TC];exact g.nb),(fun x=>by rw [qz];exact V6 (hg x).1),fun fm kf H2 s2 nf ef pf=>?_⟩;rw [TC] at pf;have tO:=s1.trans s2;have lus:us.length=2*pins.length:=by rw [nm.1,cP]
 refine ⟨_,rfl,l,_,rfl,.inl (aT.of (s2 _ _ el)),?_⟩;rw [lus];obtain ⟨G,eG⟩:∃G:aK->Rat,∀b,G b=gR Go b.nm:=⟨_,fun _=>rfl⟩
 have pgs:Paired (fun (kv:Key×V) r=>cU K H2 kv.2 r) kf (bars.map G):=gP (by rw [abL pf,ir,ir]) fun i kv r e1 e2=>by
  obtain ⟨x,ex,_,h2⟩:=aA pf e1;rw [aaa] at e2 ex;obtain ⟨b,eb,rfl⟩:=aaB.mp e2;rw [eb] at ex;have zX :b.nm=x:=aen ex;rw [qz,<-zX,<-eG] at h2;exact h2
 have zG:∀b∈bars,Sz 46 (G b):=fun b _=>by rw [eG];exact (hg b.nm).2
 refine ⟨_,rfl,_,rfl,a,fm,pins,bars,kf,bars.map G,rfl,R.same tO,g,lb9,ef,pgs,by rw [ir],(fun r hr=>by obtain ⟨b,hb,rfl⟩:=aar.mp hr;exact zG b hb),fun r ls b6 H3 s3 RR=>?_⟩;rw [FX] at RR;have yH:=tO.trans s3;have lA:(dm pins).length=ba pins:=by unfold dm;rw [ir,fH]
 have lB:(fw pins (bars.map fun b=>(G b,b))).length=2*pins.length:=by unfold fw;rw [ir,aeJ]
 have lq:(dm pins++fw pins (bars.map fun b=>(G b,b))).length=ba pins+2*pins.length:=by rw [aba,lA,lB]
 have lls:ls.length=ba pins+2*pins.length:=by rw [RR.jx.2.1,RR.num.1,lq]
 refine ⟨_,rfl,r,_,rfl,.inl (aT.of RR.jx.1),_,rfl,_,_,rfl,rfl,?_⟩;have em:(((ls.map V.ref).length:Nat):Int)-((2*pins.length:Nat):Int)=((ba pins:Nat):Int):=by rw [ir];omega
 rw [em];refine ⟨_,rfl,z1L,?_⟩;intro l5 n5;generalize eX:upd _ l5 _=H5;have ⟨s5,e5⟩:=nw n5 eX;refine ⟨_,rfl,l5,_,_,rfl,rfl,e5,by omega,by omega,(by simp;omega),?_⟩;intro l6 n6;generalize eX:upd _ l6 _=H6;have ⟨s6,e6⟩:=nw n6 eX;have NP:(ac_ ((ba pins:Nat):Int).toNat [V.ref aN]).flatten=ac_ (ba pins) (V.ref aN):=by simp
 rw [NP] at e6;have NX:=s5.trans s6;have FK:=s2.trans (s3.trans NX);refine ⟨_,rfl,l6,l,_,_,rfl,rfl,e6,FK _ _ el,(by rw [aeG];omega),?_⟩;intro l7 n7;generalize eX:upd _ l7 _=H7;have ⟨s7,e7⟩:=nw n7 eX;have V7:=NX.trans s7;have s17:=FK.trans s7;have s07:=s1.trans s17;have RR7:=RR.same V7;refine ⟨_,rfl,r,_,rfl,.inl (aT.of RR7.jx.1),?_⟩;show qp K [_,_,_] _ _ E0;have lm:(((ls.map V.ref).length:Nat):Int)=((2*pins.length+ba pins:Nat):Int):=by rw [ir,lls];omega
 have s0:Sm 1400 1400 ((0,1):Int×Int):=⟨by decide,by decide,by decide+kernel,by decide+kernel⟩
 have n0:cH K H7 (ac_ (ba pins) (V.ref aN)) (ac_ (ba pins) (0,1)):=⟨by simp,fun i u q e1 e2=>by
  rw [aeI] at e1 e2;split at e1
  ·rename_i c
   rw [abC c] at e2;cases e1;cases e2;exact ⟨aN,rfl,hN _⟩
  ·cases e1⟩
 have nd:cH K H7 (ac_ (ba pins) (V.ref aN)++us) (wA pins L):=wg n0 (nm.same s17);have aAP:2*pins.length+ba pins<=16:=by omega
 have zz:bb (1400+1400*(2*pins.length+ba pins+1)) (min (2*pins.length+ba pins+1) (dm pins++fw pins (bars.map fun b=>(G b,b))).length)<=390000:=by
  refine aay (vN _ (Nat.min_le_left _ _)) ?_;unfold bb;exact aay (ae6 (show 2*pins.length+ba pins+1+1<=14 by omega) (show 1400+1400*(2*pins.length+ba pins+1)+11<=19611 by omega)) (by decide)
 refine ⟨r,l7,2*pins.length+ba pins,ls,b6,_,_,wA pins L,1400,1400,390000,abR (fun i:Int=>[V.ref r,V.ref l7,V.int i]) lm,RR7.jx,RR7.num,e7,nd,(by rw [lq];unfold wA;rw [aba,aeG,cP]),CH g lb9 zG,fun q hq=>?_,by omega,by omega,by decide,by omega,by decide,zz,by decide,?_,?_⟩
 ·unfold wA at hq
  rcases abj.mp hq with h|h
  ·rw [(aip.mp h).2]
   exact s0
  ·obtain ⟨r,rfl,z⟩:=yG zl pins q h
   exact Rc (NW z) (by decide) (by decide)
 ·intro p x mI xs HA sA ep ex nx lx zx hx
  refine ⟨_,rfl,p,_,_,_,rfl,rfl,bQ.of ep,rfl,rfl,_,rfl,bB (fun c=>abM c (by simp [m7];decide+kernel)) (fun _=>?_)⟩;have s0A:=s07.trans sA;have pxs:=mP nx zx;have lxs:mI.length=2*pins.length+ba pins:=by rw [nx.1,lx]
  have lxm:(xs.map vl).length=2*pins.length+ba pins:=by rw [ir,lx]
  have szx:∀r∈xs.map vl,Sz 390001 r:=fun r hr=>by
   obtain ⟨q,hq,rfl⟩:=aar.mp hr;exact TF (zx q hq) (by decide) (by decide)
  refine ⟨_,rfl,_,rfl,p,_,_,_,rfl,rfl,bQ.of ep,rfl,_,rfl,_,rfl,x,_,rfl,aT.of ex,?_⟩;rw [mH (by omega)];intro l8 n8;generalize eX:upd _ l8 _=H8;have ⟨s8,e8⟩:=nw n8 eX;have p8:Paired (cU K H8) (mI.take (2*pins.length)) ((xs.map vl).take (2*pins.length)):=Paired.bV (jc (2*pins.length) pxs) fun _ _ z=>z.same s8;have s08:=s0A.trans s8;refine ⟨a,l8,pins,bars,_,_,rfl,R.same s08,g,e8,p8,by rw [abv];omega,fun M dM kM H9 s9 eM nM hM ks tM=>?_⟩;have s09:=s08.trans s9;have s29:=s3.trans (V7.trans (sA.trans (s8.trans s9)));obtain ⟨Mo,aaF,aaG⟩:∃Mo:Str->Option (Rat×Rat),(∀x∈pins.map (·.nm),Mo x=some (M x))/\∀x,x∉pins.map (·.nm)->Mo x=none:=⟨fun x=>if x∈pins.map (·.nm) then some (M x) else none,fun x h=>abC h,fun x h=>abB h⟩
  have mvM:∀p∈pins,mv Mo p.nm=M p.nm:=fun p hp=>by
   unfold mv;rw [aaF _ (aar.mpr ⟨p,hp,rfl⟩)];rfl
  have Xp:∀p∈pins,Sz 390001 (M p.nm).1/\Sz 390001 (M p.nm).2:=fun p hp=>by
   have mem:∀r∈(xs.map vl).take (2*pins.length),Sz 390001 r:=fun r hr=>szx r (agf hr);rw [eM] at mem;exact ⟨mem _ (ae5.mpr ⟨p,hp,aa_⟩),mem _ (ae5.mpr ⟨p,hp,aax _ aa_⟩)⟩
  have ptd:BC K H9 kM Mo:=fun x=>by
   by_cases c:x∈pins.map (·.nm)
   ·obtain ⟨p',ia,rfl⟩:=aar.mp c
    obtain ⟨t,v1,v2,h1,h2,h3,h4⟩:=tM p' ia;exact .inr ⟨_,_,h1,aaF _ c,⟨t,v1,v2,rfl,bQ.of h2,h3,h4⟩⟩
   ·refine .inl ⟨bZ fun z=>?_,aaG _ c⟩
    rw [ks] at z;obtain ⟨p',ia,e'⟩:=aar.mp z;exact c (by rw [<-aeN e'];exact aar.mpr ⟨p',ia,rfl⟩)
  have szo:∀x,Sz 700000 (mv Mo x).1/\Sz 700000 (mv Mo x).2:=fun x=>by
   by_cases c:x∈pins.map (·.nm)
   ·obtain ⟨p',ia,rfl⟩:=aar.mp c
    rw [mvM p' ia];exact ⟨(Xp p' ia).1.up (by decide),(Xp p' ia).2.up (by decide)⟩
   ·unfold mv
    rw [aaG _ c];exact ⟨d6 (by decide),d6 (by decide)⟩
  have Vy:∀b∈bars,Q_ Mo b=cR M b:=fun b hb=>by
   obtain ⟨m1,m2,_⟩:=g.ends b hb;unfold Q_;rw [mvM _ m1,mvM _ m2];rfl
  have lenZ:∀b∈bars,Sz 1560105 (cR M b):=fun b hb=>by
   obtain ⟨m1,m2,_⟩:=g.ends b hb;have z1:=Xp _ m1;have z2:=Xp _ m2;have y1:=g.sz _ m1;have y2:=g.sz _ m2;exact (((y2.1.sub y1.1).mul (z2.1.sub z1.1)).add ((y2.2.1.sub y1.2.1).mul (z2.2.sub z1.2))).up (by decide)
  refine ⟨_,rfl,_,rfl,_,rfl,a,dM,pins,bars,kM,Mo,rfl,R.same s09,g,hM,ptd,szo,fun lg kLn OU uB aaH ahE apt tL=>?_⟩;show kg K [_,_] _ _ E0;obtain ⟨Ln,Zu⟩:=CG (nm:=aK.nm) g.nb (cR M);have s0X:=s09.trans uB;have s2X:=s29.trans uB;have fmX:=s2X _ _ ef
  have pfx:Paired (fun (kv:Key×V) (x:Str×Rat)=>kv.1=.inr x.1/\cU K OU kv.2 x.2) kf (bars.map fun b=>(b.nm,G b)):=gP (by rw [abL pf,ir,ir]) fun i kv z e1 e2=>by
   obtain ⟨x,ex,h1,h2⟩:=aA pf e1;rw [aaa] at e2 ex;obtain ⟨b,eb,rfl⟩:=aaB.mp e2;rw [eb] at ex;have zX :b.nm=x:=aen ex;rw [qz,<-zX,<-eG] at h2;exact ⟨by rw [h1,<-zX],cU.same h2 s2X⟩
  have nmx:(bars.map fun b=>(b.nm,G b)).map (·.1)=bars.map (·.nm):=by rw [ab_];rfl
  refine ⟨fm,lg,kf,kLn,bars.map fun b=>(b.nm,G b),Ln,rfl,fmX,pfx,by rw [nmx];exact g.nb,ahE,(fun z=>by rw [<-z,s29 _ _ ef] at aaH;cases aaH),(by rw [ir];omega),fun z hz=>?_,fun dT kT Mi z9 nT eT pT=>?_⟩
  ·obtain ⟨b,hb,rfl⟩:=aar.mp hz
   obtain ⟨v,h1,h2⟩:=tL b hb;refine ⟨zG b hb,by rw [Zu b hb];exact (lenZ b hb).up (by decide),v,h1,?_⟩;rw [Vy b hb,<-Zu b hb] at h2;exact h2
  have Rf:=s8.trans (s9.trans (uB.trans z9));refine ⟨_,rfl,_,rfl,p,_,_,_,rfl,rfl,bQ.of (Rf _ _ ep),rfl,_,rfl,_,rfl,x,_,rfl,aT.of (Rf _ _ ex),?_⟩;rw [gT (by omega)];intro l12 ZL;generalize eX:upd _ l12 _=H12;have ⟨lW,e12⟩:=nw ZL eX;have Rg:=s0A.trans (Rf.trans lW);have p12:Paired (cU K H12) (mI.drop (2*pins.length)) ((xs.map vl).drop (2*pins.length)):=Paired.bV (gK (2*pins.length) pxs) fun _ _ z=>z.same (Rf.trans lW);refine ⟨a,l12,pins,bars,_,_,rfl,R.same Rg,g,e12,p12,by rw [afr];omega,fun U Lx pp dT' dU kU H13 OY eU epp PU=>?_⟩;refine ⟨pp,_,_,_,rfl,rfl,bQ.of epp,rfl,_,rfl,_,rfl,_,rfl,z4L,?_⟩;intro pt n14;generalize eX:upd _ pt _=H14;have ⟨O1,e14⟩:=nw n14 eX;obtain ⟨T,hT⟩:=CG (nm:=aK.nm) g.nb fun b=>G b*cR M b
  have exM:xs.map vl=uV M pins++pins.flatMap fun p=>U p.nm:=by
   unfold uV;rw [<-eM,<-eU,af8]
  obtain ⟨wk,ar⟩:=yJ (L:=L) g hx exM PU.lU hT;have FY:=lW.trans (OY.trans O1);have aaI:=OY.trans O1;have ahF:=Rg.trans aaI
  have vW:kT.map (·.1)=bars.map fun b=>(aeB b.nm:Key):=by
   refine aeK fun i=>?_;rw [aaa,aaa];have lk:=abL pT;rw [ir] at lk;by_cases c:i<kT.length
   ·have e1:=gE c
    obtain ⟨z,ez,h1,_⟩:=aA pT e1;rw [aaa] at ez;obtain ⟨b,eb,rfl⟩:=aaB.mp ez;rw [e1,eb];exact abR some h1
   ·rw [aaz (by omega),aaz (by omega)]
    rfl
  refine q2 T U Lx M pt dT dU dM kT kU kM H14 ahF e14 ⟨s0X.free nT,Rg.free PU.nU,fun z=>?_,FY _ _ eT,O1 _ _ PU.hU,vW,PU.vX,fun b hb=>?_,fun p' ia =>?_,PU.lU,PU.inj⟩ ⟨s08.free nM,(uB.trans (z9.trans FY)) _ _ hM,ks,fun p' ia =>?_⟩ wk (fun b hb=>by rw [hT b hb,eG]) ar (fun b hb=>?_) (fun p' ia u hu=>?_) fun p' ia =>⟨(Xp p' ia).1.up (by decide),(Xp p' ia).2.up (by decide)⟩
  ·have:=PU.nU
   rw [<-z,lW _ _ eT] at this;cases this
  ·obtain ⟨i,ei⟩:=abh hb
   have pT2:Paired (fun (x:Str×Rat) (kv:Key×V)=>kv.1=.inr x.1/\cU K Mi kv.2 (x.2*Ln x.1)) (bars.map fun b=>(b.nm,G b)) kT:=cO pT;obtain ⟨v,h1,h2⟩:=i_ (R:=fun (x:Str×Rat) (kv:Key×V)=>cU K Mi kv.2 (x.2*Ln x.1)) pT2 (by rw [nmx];exact g.nb) (aar.mpr ⟨b,hb,rfl⟩);refine ⟨v,h1,?_⟩;have h3:cU K Mi v (G b*Ln b.nm):=h2;rw [Zu b hb,<-hT b hb] at h3;exact h3.same FY
  ·obtain ⟨iz,a1,a2,a3,a4⟩:=PU.tU p' ia
   exact ⟨iz,a1,Rg.free a2,O1 _ _ a3,Paired.bV a4 fun _ _ z=>z.same O1⟩
  ·obtain ⟨t,v1,v2,h1,h2,h3,h4⟩:=tM p' ia
   have sx:=uB.trans (z9.trans FY);exact ⟨t,v1,v2,h1,sx _ _ h2,h3.same sx,h4.same sx⟩
  ·rw [hT b hb]
   exact ((zG b hb).mul (lenZ b hb)).up (by decide)
  ·have mem:∀r∈(xs.map vl).drop (2*pins.length),Sz 390001 r:=fun r hr=>szx r (List.mem_of_mem_drop hr)
   rw [eU] at mem;exact (mem u (ae5.mpr ⟨p',ia,hu⟩)).up (by decide)
 ·intro p y mI ys HA sA ep ey ny ly zy Ku hy1
  refine ⟨_,rfl,p,_,_,_,rfl,rfl,bQ.of ep,rfl,rfl,_,rfl,bB (fun _=>?_) (fun c=>abM (by simp [m7]) c)⟩;have s0A:=s07.trans sA;have py:=mP ny zy;have lys:ys.length=ba pins+2*pins.length:=by rw [ly,lq]
  have aA4 :mI.length=ba pins+2*pins.length:=by rw [ny.1,lys]
  refine ⟨_,rfl,_,rfl,p,_,_,_,rfl,rfl,bQ.of ep,rfl,_,rfl,_,rfl,y,_,rfl,aT.of ey,?_⟩;rw [gT (by omega)];intro l9 nB;generalize eX:upd _ l9 _=HB;have ⟨sB,eB⟩:=nw nB eX;have pyB:Paired (cU K HB) (mI.drop (ba pins)) ((ys.map vl).drop (ba pins)):=Paired.bV (gK (ba pins) py) fun _ _ z=>z.same sB;have s0B:=s0A.trans sB;refine ⟨a,l9,pins,bars,_,_,rfl,R.same s0B,g,eB,pyB,by rw [afr,ir];omega,fun M dM kM HC sC eM nM hM ks tM=>⟨z2L,?_⟩⟩;intro pt nD;generalize eX:upd _ pt _=HD;have ⟨sD,eD⟩:=nw nD eX
  have eyM:ys.map vl=(ys.map vl).take (ba pins)++uV M pins:=by
   unfold uV;rw [<-eM,af8]
  obtain ⟨mo,wk⟩:=CD (L:=L) g (fun b _=>by rw [eG];exact (hg b.nm).1) Ku hy1 eyM (by rw [abv,ir];omega);refine q1 M pt dM kM HD (s0B.trans (sC.trans sD)) eD ⟨s0B.free nM,sD _ _ hM,ks,fun p hp=>?_⟩ mo wk;obtain ⟨t,v1,v2,h1,h2,h3,h4⟩:=tM p hp;exact ⟨t,v1,v2,h1,sD _ _ h2,h3.same sD,h4.same sD⟩
def cell (ns:ξ)(k:Int):Int:=if k<(ns.length:Int) then (ns[k.toNat]?).getD 0 else ((((k+5)*(k+5)*48271).fmod 2147483647)*(((k+5)*(k+5)*48271).fmod 2147483647)).fmod 2147483629
def ki {x m:Int}(h:0<m):0<=x.fmod m/\x.fmod m<m:=⟨afI x h,ag2 x h⟩
inductive jQ (K:Frag)(vs:ζ)(H:Hp)(Q:VK)(E_:XK):Prop
|mk (a:abA)(ns:ξ)(k:Int)(_:vs=[.ref a,.int k])(_:aT K H a (ns.map V.int))(_:0<=k)(_:k<=1000)(_:Q (.int (cell ns k)) H)
def cell_in {ns:ξ}(h0:0<=k)(h:k<(ns.length:Int)):iZ (ns.map V.int) k=some (.int (cell ns k)):=by
 have hk:k.toNat<ns.length:=by omega
 have ek:k=((k.toNat:Nat):Int):=by omega
 have q:iZ (ns.map V.int) ((k.toNat:Nat):Int)=some (.int (cell ns k)):=bG (by
  unfold cell;rw [abC h,aaa,gE hk]
  rfl)
 rw [<-ek] at q;exact q
def lK (h:i.natAbs<2^k):intBits i<=k:=intBits_le_iff.mpr h
def TH:av ["_law_script","_law_k","_law_part"] zak (ae JK):=sq
def aaJ (D:Def K mg "_law_cell_at" JK zak)(aU:mg "len"=none):Fn P w K mg base CX 1 "_law_cell_at" zak (jQ K):=by
 refine D.oo TH fun H hr h=>?_;obtain ⟨a,ns,k,rfl,hS,h0,h1,q⟩:=h
 refine ⟨_,(aa (bu (bx oG (pv 1) (aH aD rfl aU bS (aX (pv 0)))) (ag (aC (bE aR (pv 0) (pv 1)))) aQ) (aa (aG 2 TH.nd (ay eQ (ay cu (ay cu (ay bC (pv 1) af) (ay bC (pv 1) af)) af) af)) (ag (aC (ay eQ (ay cu (pv 2) (pv 2)) af))))),?_⟩
 have hl:(ns.map V.int).length=ns.length:=ir _;refine ⟨_,rfl,_,rfl,a,_,rfl,.inl hS,_,_,rfl,rfl,_,rfl,?_⟩;refine bB (fun c=>?_) (fun c=>?_)
 ·have c':k<(((ns.map V.int).length:Nat):Int):=abS c
  rw [hl] at c';exact ⟨_,rfl,_,rfl,a,_,k,_,rfl,rfl,hS,cell_in h0 c',q⟩
 ·have c':¬ k<(((ns.map V.int).length:Nat):Int):=of_decide_eq_false (agA.mpr c)
  rw [hl] at c';have b5:intBits (k+5)<=11:=lK (by show _<2048;omega);have e1:=ki (x:=(k+5)*(k+5)*48271) (m:=2147483647) (by decide);have bp:intBits (((k+5)*(k+5)*48271).fmod 2147483647)<=31:=lK (by show _<2147483648;omega);refine ⟨_,rfl,_,_,rfl,rfl,_,rfl,_,_,rfl,rfl,_,_,rfl,rfl,⟨aay b5 (by decide),aay b5 (by decide)⟩,_,_,rfl,rfl,⟨aay (acr b5 b5) (by decide),by decide+kernel⟩,_,_,rfl,rfl,nz (by decide),_,rfl,_,rfl,_,_,rfl,rfl,⟨aay bp (by decide),aay bp (by decide)⟩,_,_,rfl,rfl,nz (by decide),?_⟩
  have e:cell ns k=((((k+5)*(k+5)*48271).fmod 2147483647)*(((k+5)*(k+5)*48271).fmod 2147483647)).fmod 2147483629:=by
   unfold cell;rw [abB c']
  rw [e] at q;exact q
def field (c p m:Int):Int:=(((c.fmod p+11)*48271).fmod p).fmod m
def aS (h:0<m):0<=field c p m/\field c p m<m:=ki h
inductive fJ (vs:ζ)(H:Hp)(Q:VK)(E_:XK):Prop
|mk (c p m:Int)(_:vs=[.int c,.int p,.int m])(_:0<p)(_:p<=2000000)(_:0<m)(_:Q (.int (field c p m)) H)
def aaK:av zad zad (ae JL):=sq
def aaL (D:Def K mg "_law_field" JL zad):Fn P w K mg base CX 1 "_law_field" zad fJ:=by
 refine D.oo aaK fun H hr h=>?_;obtain ⟨c,p,m,rfl,hp,YA,hm,q⟩:=h;refine ⟨_,(ag (aC (ay eQ (ay eQ (ay cu (ay bC (ay eQ (pv 0) (pv 1)) af) af) (pv 1)) (pv 2)))),?_⟩;have e1:=ki (x:=c) hp;exact ⟨_,rfl,_,rfl,_,_,rfl,rfl,nz (by omega),_,_,rfl,rfl,_,_,rfl,rfl,⟨aay (lK (k:=22) (by show _<4194304;omega)) (by decide),by decide+kernel⟩,_,rfl,_,_,rfl,rfl,nz (by omega),_,rfl,_,_,rfl,rfl,nz (by omega),q⟩
inductive b_ (vs:ζ)(H:Hp)(Q:VK)(E_:XK):Prop
|mk (t b:Int)(_:vs=[.int t,.int b])(_:0<b)(_:gives H Q (low t b))
def FZ:av ["_law_top","_law_bottom","_law_one","_law_other"] zag (ae JM):=sq
def aaM (ht:P.given.tree=none)(D:Def K mg "_law_lowest" JM zag)(uQ:mg "abs"=none):ac P w K mg base 33 "_law_lowest" zag b_:=by
 refine D.oo FZ fun H hr h=>?_;obtain ⟨t,b,rfl,hb,q⟩:=h
 refine ⟨_,(aa (aG 2 FZ.nd (aH xI rfl uQ S_ (aX (pv 0)))) (aa (aG 3 FZ.nd (pv 1)) (aa (qF abI (bx lZ (pv 3) af) (ag (UE (i:=2) (j:=3) rfl FZ.nd rfl rfl (by decide) rfl rfl (aI (pv 3) (ay eQ (pv 2) (pv 3))) rfl))) (ag (aC (aV (aI (ay (g6 ht (Ty.cB.py hr (by decide)) rfl rfl rfl rfl rfl) (pv 0) (pv 2)) (ay (g6 ht (Ty.cB.py hr (by decide)) rfl rfl rfl rfl rfl) (pv 1) (pv 2))))))))),?_⟩
 refine ⟨_,rfl,t,rfl,_,rfl,?_⟩;refine xH (fun σ H'=>∃x y:Int,σ=[some (.int t),some (.int b),some (.int x),some (.int y)]/\H'=H/\0<=x/\0<=y/\aeS x y=aeS t b) (fun σ _=>match σ with|[_,_,_,some (.int y)]=>y.natAbs|_=>0) ⟨_,b,rfl,rfl,?_,by omega,?_⟩ ?_ ?_
 ·split<;>omega
 ·split
  ·exact Int.neg_gcd
  ·rfl
 ·rintro σ H' ⟨x,y,rfl,rfl,hx,hy,g⟩
  refine ⟨_,rfl,rfl,_,rfl,?_⟩;refine bB (fun c=>?_) (fun c=>?_)
  ·have Ku:y≠0:=by
    intro z;subst z;simp at c
   exact ⟨_,rfl,_,rfl,_,rfl,_,_,rfl,rfl,Ku,_,_,rfl,⟨_,_,rfl,rfl,hy,afI _ (by omega),by rw [xU];exact g⟩,uv Ku⟩
  ·have Ku:y=0:=by
    have:=agA.mpr c;simp at this;exact this
   subst Ku
   have e:x=sg t b:=by
    rw [aik] at g;unfold sg;rw [abB (by omega)];unfold gz;rw [<-g];omega
   subst e;have hbn:b≠0:=by omega
   have c:=qK (t:=t) hbn;refine ⟨_,rfl,_,rfl,_,_,rfl,rfl,c,_,rfl,_,rfl,_,_,rfl,rfl,c,z2L,fun p hp=>?_⟩;exact q p _ (aE hp _) ah
 ·rintro σ H' Q1 Q2 h ⟨v,e1,e2,k,ek,z⟩
  exact ⟨v,e1,e2,k,ek,h _ _ z⟩
structure Ns (n:Nat)(q:Int×Int):Prop where
 top:q.1.natAbs<=2^n
 bot:q.2.natAbs<=2^n
def Ns.up (h:Ns m q)(l:m<=n):Ns n q:=⟨aay h.top (aet (by decide) l),aay h.bot (aet (by decide) l)⟩
def ju (K:Frag)(H:Hp)(v:V)(n:Nat)(r:Rat):Prop:=∃q:Int×Int,jw K H v q/\0<q.2/\vl q=r/\Ns n q
def ju.same (h:ju K H v n r)(s:ao H H'):ju K H' v n r:=by
 obtain ⟨q,h1,h2⟩:=h;exact ⟨q,h1.same s,h2⟩
def ju.aJ (h:ju K H v n r)(s:aY H H'):ju K H' v n r:=by
 obtain ⟨q,h1,h2⟩:=h;exact ⟨q,h1.aJ s,h2⟩
def ju.up (h:ju K H v m r)(l:m<=n):ju K H v n r:=by
 obtain ⟨q,h1,h2,h3,h4⟩:=h;exact ⟨q,h1,h2,h3,h4.up l⟩
def iK (h:cU K H v r)(z:Zb n r):ju K H v n r:=⟨qr r,h,cI r,d_ r,⟨z.top,z.bot⟩⟩
def jq (h:Sz k r)(l:k<=n):Zb n r:=⟨ae1 (aep (intBits_le_iff.mp h.top) (aet (by decide) l)),ae1 (aep (intBits_le_iff.mp h.bot) (aet (by decide) l))⟩
def iL (x y:Int×Int):Int×Int:=(x.1*y.2+y.1*x.2,x.2*y.2)
def oz (x y:Int×Int):Int×Int:=(x.1*y.1,x.2*y.2)
def gh {a b:Int}(h1:a.natAbs<=2^m)(h2:b.natAbs<=2^n):(a*b).natAbs<=2^(m+n):=by
 rw [afc,agN];exact ae6 h1 h2
def Rh (hx:0<x.2)(hy:0<y.2)(zx:Ns m x)(zy:Ns n y):0<(iL x y).2/\vl (iL x y)=vl x+vl y/\Ns (m+n+1) (iL x y):=by
 refine ⟨afm hx hy,?_,?_,?_⟩
 ·unfold vl iL
  have z1:((x.2:Int):Rat)≠0:=dD (aeH hx);have z2:((y.2:Int):Rat)≠0:=dD (aeH hy);push_cast;grind
 ·have h1:=gh zx.top zy.bot
  have h2:=gh zy.top zx.bot;rw [ahu n m] at h2;have h3:=agd (x.1*y.2) (y.1*x.2);show (x.1*y.2+y.1*x.2).natAbs<=2^(m+n+1);rw [agw];omega
 ·exact aay (gh zx.bot zy.bot) (aet (by decide) (by omega))
def Ri (hx:0<x.2)(hy:0<y.2)(zx:Ns m x)(zy:Ns n y):0<(oz x y).2/\vl (oz x y)=vl x*vl y/\Ns (m+n) (oz x y):=by
 refine ⟨afm hx hy,?_,gh zx.top zy.top,gh zx.bot zy.bot⟩;unfold vl oz;have z1:((x.2:Int):Rat)≠0:=dD (aeH hx);have z2:((y.2:Int):Rat)≠0:=dD (aeH hy);push_cast;grind
inductive cK (K:Frag)(f:Int×Int->Int×Int->Int×Int)(vs:ζ)(H:Hp)(Q:VK)(E_:XK):Prop
|mk (u v:V)(x y:Int×Int)(m n:Nat)(_:vs=[u,v])(_:jw K H u x)(_:jw K H v y)(_:Ns m x)(_:Ns n y)(_:m+n<=130000000)(_:gives H Q (f x y))
def mR (h1:ju K H u m x)(h2:ju K H v n y)(l:m+n<=130000000)(k:∀(p:abA)(H':Hp),ao H H' ->ju K H' (.ref p) (m+n+1) (x+y)->Q (.ref p) H'):cK K iL [u,v] H Q E:=by
 obtain ⟨q1,a1,a2,a3,a4⟩:=h1;obtain ⟨q2,b1,b2,b3,b4⟩:=h2;obtain ⟨c1,c2,c3⟩:=Rh a2 b2 a4 b4;exact ⟨u,v,q1,q2,m,n,rfl,a1,b1,a4,b4,l,fun p H' s e=>k p H' s ⟨iL q1 q2,⟨p,rfl,bQ.of e⟩,c1,by rw [c2,a3,b3],c3⟩⟩
def qA (h1:ju K H u m x)(h2:ju K H v n y)(l:m+n<=130000000)(k:∀(p:abA)(H':Hp),ao H H' ->ju K H' (.ref p) (m+n) (x*y)->Q (.ref p) H'):cK K oz [u,v] H Q E:=by
 obtain ⟨q1,a1,a2,a3,a4⟩:=h1;obtain ⟨q2,b1,b2,b3,b4⟩:=h2;obtain ⟨c1,c2,c3⟩:=Ri a2 b2 a4 b4;exact ⟨u,v,q1,q2,m,n,rfl,a1,b1,a4,b4,l,fun p H' s e=>k p H' s ⟨oz q1 q2,⟨p,rfl,bQ.of e⟩,c1,by rw [c2,a3,b3],c3⟩⟩
inductive jg (K:Frag)(vs:ζ)(H:Hp)(Q:VK)(E_:XK):Prop
|mk (u:V)(x:Int×Int)(_:vs=[u])(_:jw K H u x)(_:gives H Q (0-x.1,x.2))
def yM (h1:ju K H u m x)(k:∀(p:abA)(H':Hp),ao H H' ->ju K H' (.ref p) m (-x)->Q (.ref p) H'):jg K [u] H Q E:=by
 obtain ⟨q1,a1,a2,a3,a4⟩:=h1;refine ⟨u,q1,rfl,a1,fun p H' s e=>k p H' s ⟨(0-q1.1,q1.2),⟨p,rfl,bQ.of e⟩,a2,?_,?_,a4.bot⟩⟩
 ·rw [<-a3]
  unfold vl;push_cast;grind
 ·have:=a4.top
  show (0-q1.1).natAbs<=2^m;omega
def aaN:av zac zac (ae JN):=sq
def aaO (D:Def K mg "_law_sum" JN zac):ac P w K mg base 1 "_law_sum" zac (cK K iL):=by
 refine D.oo aaN fun H hr h=>?_;obtain ⟨u,v,x,y,m,n,rfl,⟨p1,rfl,h1⟩,⟨p2,rfl,h2⟩,zx,zy,l,q⟩:=h;refine ⟨_,(ag (aC (aV (aI (ay bC (ay ig (aF (pv 0)) (aF (pv 1))) (ay ig (aF (pv 1)) (aF (pv 0)))) (ay ig (aF (pv 0)) (aF (pv 1))))))),_,rfl,p1,_,_,_,rfl,rfl,h1,iU,_,rfl,p2,_,_,_,rfl,rfl,h2,iu,_,_,rfl,rfl,f' zx.top zy.bot (by omega),_,rfl,p2,_,_,_,rfl,rfl,h2,iU,_,rfl,p1,_,_,_,rfl,rfl,h1,iu,_,_,rfl,rfl,f' zy.top zx.bot (by omega),_,_,rfl,rfl,_,rfl,p1,_,_,_,rfl,rfl,h1,iu,_,rfl,p2,_,_,_,rfl,rfl,h2,iu,_,_,rfl,rfl,f' zx.bot zy.bot (by omega),z2L,?_⟩;intro p3 n3;generalize eX:upd _ p3 _=H3;have ⟨s3,e3⟩:=nw n3 eX;exact q p3 H3 s3 e3
def aaP:av zac zac (ae JO):=sq
def aaQ (D:Def K mg "_law_times" JO zac):ac P w K mg base 1 "_law_times" zac (cK K oz):=by
 refine D.oo aaP fun H hr h=>?_;obtain ⟨u,v,x,y,m,n,rfl,⟨p1,rfl,h1⟩,⟨p2,rfl,h2⟩,zx,zy,l,q⟩:=h;refine ⟨_,(ag (aC (aV (aI (ay ig (aF (pv 0)) (aF (pv 1))) (ay ig (aF (pv 0)) (aF (pv 1))))))),_,rfl,p1,_,_,_,rfl,rfl,h1,iU,_,rfl,p2,_,_,_,rfl,rfl,h2,iU,_,_,rfl,rfl,f' zx.top zy.top (by omega),_,rfl,p1,_,_,_,rfl,rfl,h1,iu,_,rfl,p2,_,_,_,rfl,rfl,h2,iu,_,_,rfl,rfl,f' zx.bot zy.bot (by omega),z2L,?_⟩;intro p3 n3;generalize eX:upd _ p3 _=H3;have ⟨s3,e3⟩:=nw n3 eX;exact q p3 H3 s3 e3
def aaR:av zaG zaG (ae JP):=sq
def aaS (D:Def K mg "_law_turned" JP zaG):ac P w K mg base 1 "_law_turned" zaG (jg K):=by
 refine D.oo aaR fun H hr h=>?_;obtain ⟨u,x,rfl,⟨p1,rfl,h1⟩,q⟩:=h;refine ⟨_,(ag (aC (aV (aI (ay cG af (aF (pv 0))) (aF (pv 0)))))),_,rfl,p1,_,_,_,rfl,rfl,h1,iU,_,_,rfl,rfl,_,rfl,p1,_,_,_,rfl,rfl,h1,iu,z2L,?_⟩;intro p3 n3;generalize eX:upd _ p3 _=H3;have ⟨s3,e3⟩:=nw n3 eX;exact q p3 H3 s3 e3
noncomputable def nameOf (st a k:Int):Str:=if st=0 then Txt.mul "p" (k+1) else if st=3 then Txt.mul "p" (14-k) else if st=1 then Txt.mul "p" a++⟨#[(iZ (ab2 "bcdefghijklm").cps.toList k).getD 0]⟩++Txt.mul "p" (5-a) else Txt.slice "12345" none (some a)++(toString k:String)
def yN:∀st:Fin 4,∀a:Fin 6,∀k:Fin 12,∀j:Fin 12,k≠j->nameOf (st.val:Int) (a.val:Int) (k.val:Int)≠nameOf (st.val:Int) (a.val:Int) (j.val:Int):=by decide+kernel
def V8:∀n:Fin 20,MulOk "p" (n.val:Int):=by
 intro n;unfold MulOk
 revert n
 decide+kernel
def V9:∀k:Fin 12,iZ (ab2 "bcdefghijklm").cps.toList (k.val:Int)=some ((iZ (ab2 "bcdefghijklm").cps.toList (k.val:Int)).getD 0):=by decide+kernel
def NY:∀a:Fin 6,∀k:Fin 12,(Txt.mul "p" (a.val:Int)).length+(⟨#[(iZ (ab2 "bcdefghijklm").cps.toList (k.val:Int)).getD 0]⟩:Str).length<=1000/\
  (Txt.mul "p" (a.val:Int)++(⟨#[(iZ (ab2 "bcdefghijklm").cps.toList (k.val:Int)).getD 0]⟩:Str)).length+(Txt.mul "p" (5-(a.val:Int))).length<=1000/\(Txt.slice "12345" none (some (a.val:Int))).length+(ab2 (toString (k.val:Int))).length<=1000:=by decide+kernel
inductive wB (vs:ζ)(H:Hp)(Q:VK)(E_:XK):Prop
|mk (c k:Int)(_:vs=[.int c,.int k])(_:0<=k)(_:k<12)(_:Q (.str (nameOf (field c 3001 4) (field c 4001 6) k)) H)
def NZ:av zaE zay (ae BK):=sq
def aaT (hM:qP CX)(D:Def K mg "_law_name" BK zay)(oV:mg "str"=none)(cE:Fn P w K mg base CX 1 "_law_field" zad fJ):Fn P w K mg base CX 2 "_law_name" zay wB:=by
 refine D.op NZ fun f ck A outer s H vs Q E hr h=>?_;obtain ⟨c,k,rfl,h0,h12,q⟩:=h;have px:=kI (X:=jD CX P w K mg base zaE "_law_name" (ae BK) f ck A outer s H E) hM
 refine ⟨_,(aa (aG 2 NZ.nd (jm cE hr.mo px (bD (pv 0) af af))) (aa (aG 3 NZ.nd (jm cE hr.mo px (bD (pv 0) af af))) (aa (bu (bx e_ (pv 2) af) (ag (aC (ay qj eY (ay bC (pv 1) af)))) aQ) (aa (bu (bx e_ (pv 2) af) (ag (aC (ay qj eY (ay cG af (pv 1))))) aQ) (aa (bu (bx e_ (pv 2) af) (ag (aC (ay fP (ay fP (ay qj eY (pv 3)) (bE UK eY (pv 1))) (ay qj eY (ay cG af (pv 3)))))) aQ) (ag (aC (ay fP (cL U4 eY dX (dw (pv 3))) (bO gH rfl oV EB (aX (pv 1))))))))))),?_⟩
 have i1:=aS (c:=c) (p:=3001) (m:=4) (by decide);have i2:=aS (c:=c) (p:=4001) (m:=6) (by decide);refine ⟨_,rfl,_,_,_,rfl,by decide,by decide,by decide,_,rfl,_,_,_,rfl,by decide,by decide,by decide,?_⟩;generalize field c 3001 4=st at i1 q ⊢;generalize field c 4001 6=a at i2 q ⊢;obtain ⟨kn,rfl⟩:∃n:Nat,k=(n:Int):=⟨k.toNat,by omega⟩;obtain ⟨an,rfl⟩:∃n:Nat,a=(n:Int):=⟨a.toNat,by omega⟩
 have mk:∀i:Int,0<=i->i<20->MulOk "p" i:=fun i a b=>by
  have:=V8 ⟨i.toNat,by omega⟩
  rwa [show ((⟨i.toNat,by omega⟩:Fin 20).val:Int)=i by show ((i.toNat:Nat):Int)=i;omega] at this
 refine ⟨_,rfl,rfl,_,rfl,?_⟩;refine bB (fun z=>?_) (fun z=>?_)
 ·have z':st=0:=by simpa [m7] using z
  subst z';exact ⟨_,rfl,_,_,rfl,rfl,_,_,rfl,rfl,mk _ (by omega) (by omega),q⟩
 have z':¬ st=0:=by simpa [m7] using z
 refine ⟨_,rfl,rfl,_,rfl,?_⟩;refine bB (fun z2=>?_) (fun z2=>?_)
 ·have z2':st=3:=by simpa [m7] using z2
  subst z2';exact ⟨_,rfl,_,_,rfl,rfl,_,_,rfl,rfl,mk _ (by omega) (by omega),q⟩
 have z2':¬ st=3:=by simpa [m7] using z2
 have nl:=NY ⟨an,by omega⟩ ⟨kn,by omega⟩;refine ⟨_,rfl,rfl,_,rfl,?_⟩;refine bB (fun z3=>?_) (fun z3=>?_)
 ·have z3':st=1:=by simpa [m7] using z3
  subst z3';exact ⟨_,rfl,_,_,rfl,rfl,mk _ (by omega) (by omega),_,rfl,_,_,_,rfl,rfl,(by decide+kernel),V9 ⟨kn,by omega⟩,_,_,rfl,rfl,aay nl.1 (by decide),_,rfl,_,_,rfl,rfl,_,_,rfl,rfl,mk _ (by omega) (by omega),_,_,rfl,rfl,aay nl.2.1 (by decide),q⟩
 ·have z3':¬ st=1:=by simpa [m7] using z3
  refine ⟨_,rfl,_,rfl,_,rfl,(by decide+kernel),?_⟩;have lg:(kn:Int).natAbs.log2<1920:=aaZ (anY _) (by show kn<1920;omega);refine ⟨_,rfl,_,rfl,lg,_,_,rfl,rfl,aay nl.2.2 (by decide),?_⟩
  have e:nameOf st (an:Int) (kn:Int)=Txt.slice "12345" none (some (an:Int))++ab2 (toString (kn:Int)):=by
   unfold nameOf;rw [abB z',abB z2',abB z3']
  rw [e] at q;exact q
def jh (ws:Θ):Prop:=ws=[]\/(∃x y:Rat,ws=[(x,y)]/\¬ (x=0/\y=0)/\Sz 22 x/\Sz 22 y)\/ws=[(1,0),(0,1)]
def rR (i:Int)(h:H p=some (.tup [.int i,.int 1])):cU K H (.ref p) (i:Rat):=⟨p,rfl,by rw [kZ];exact bQ.of h⟩
def iY (h:H p=some (.tup [.int (qr r).1,.int (qr r).2])):cU K H (.ref p) r:=⟨p,rfl,bQ.of h⟩
def uW (h:H p=some (.tup [u,v]))(h1:cU K H u r)(h2:cU K H v s):gc K H (.ref p) (r,s):=⟨p,u,v,rfl,bQ.of h,h1,h2⟩
def jR {i:Int}(h:i.natAbs<1048576)(hk:20<=k):Sz k (i:Rat):=nR (aep h (show 2^20<=2^k from aet (by decide) hk)) (by omega)
def mS {t b:Int}(h:0<b)(h1:t.natAbs<1048576)(h2:b<1048576):Sz 20 ((t:Rat) / (b:Rat)):=rj (aeH h) (intBits_le_iff.mpr (by show _<1048576;omega)) (intBits_le_iff.mpr (by show _<1048576;omega))
def N0 {i:Int}(h:i<=500002):(i:Rat)<=500002:=by
 have:=afg.mpr h;simpa using this
def F_ {t b:Int}(hb:0<b)(h:t<=500002):(t:Rat) / (b:Rat)<=500002:=by
 have ff :(0:Rat)<(b:Rat):=by
  have:=aeL.mpr hb;simpa using this
 have h1:t<=500002*b:=by
  have:(500002:Int)*1<=500002*b:=Int.mul_le_mul_of_nonneg_left (by omega) (by decide);omega
 have h2:(t:Rat)<=500002*(b:Rat):=by
  have:=afg.mpr h1;simpa using this
 have e:(t:Rat) / (b:Rat)*(b:Rat)=(t:Rat):=by
  have Le:(b:Rat)≠0:=by grind
  grind
 generalize (t:Rat) / (b:Rat)=z at e;by_cases c:z<=500002
 ·exact c
 ·have c':500002<z:=by grind
  have:=Rat.mul_lt_mul_of_pos_right c' ff;grind
inductive wC (K:Frag)(vs:ζ)(H:Hp)(Q:VK)(E_:XK):Prop
|mk (c k:Int)(_:vs=[.int c,.int k])(_:0<=k)(_:k<6)(_:∀(p:abA)(x y:Rat)(H':Hp),ao H H' ->Sz 20 x->Sz 20 y->x<=500002->gc K H' (.ref p) (x,y)->Q (.ref p) H')
def F':av ["_law_cell","_law_kind","_law_x","_law_bottoms"] zaB (ae JR):=sq
def aaU (D:Def K mg "_law_spot" JR zaB)(cE:ac P w K mg base 1 "_law_field" zad fJ)(jS:ac P w K mg base 33 "_law_lowest" zag b_):ac P w K mg base 34 "_law_spot" zaB (wC K):=by
 refine D.oo F' fun H hr h=>?_;obtain ⟨c,k,rfl,k0,k6,q⟩:=h;have L2:2<=abE:=by decide
 refine ⟨_,(aa (bu (bx oG (pv 1) af) (ag (aC (aV (aI (aV (aI (aL cE hr (bD (pv 0) af af)) af)) (aV (aI (aL cE hr (bD (pv 0) af af)) af)))))) aQ) (aa (bu (bx oG (pv 1) af) (aa (aG 2 F'.nd (aL jS hr (aI (ay cG (aL cE hr (bD (pv 0) af af)) af) (ay bC af (aL cE hr (bD (pv 0) af af)))))) (ag (aC (aV (aI (pv 2) (aL jS hr (aI (ay cG (aL cE hr (bD (pv 0) af af)) af) (ay bC af (aL cE hr (bD (pv 0) af af)))))))))) aQ) (aa (aG 3 F'.nd (bE aR (cg (aI (aV (aI af af)) (aV (aI (ay bC af (aL cE hr (bD (pv 0) af af))) (ay bC af (aL cE hr (bD (pv 0) af af))))))) (ay cG (pv 1) af))) (aa (aG 2 F'.nd (aL jS hr (aI (ay cG (aL cE hr (bD (pv 0) af af)) af) (aF (pv 3))))) (ag (aC (aV (aI (pv 2) (aL jS hr (aI (ay cG (aL cE hr (bD (pv 0) af af)) af) (aF (pv 3)))))))))))),?_⟩;dsimp only [cxr,jD,Cx.xw,Cx.tu];refine sq4 ?_;intros
 refine ⟨_,rfl,_,_,rfl,rfl,_,rfl,?_⟩;refine bB (fun _=>?_) (fun _=>?_)
 ·have i1:=aS (c:=c) (p:=1009) (m:=4) (by decide)
  have i2:=aS (c:=c) (p:=2003) (m:=4) (by decide);refine ⟨_,rfl,_,_,_,rfl,by decide,by decide,by decide,L2,?_⟩;intro p1 n1;generalize eX:upd _ p1 _=H1;have ⟨s1,e1⟩:=nw n1 eX;refine ⟨_,rfl,_,_,_,rfl,by decide,by decide,by decide,L2,?_⟩;intro p2 n2;generalize eX:upd _ p2 _=H2;have ⟨s2,e2⟩:=nw n2 eX;refine ⟨L2,?_⟩;intro p3 n3;generalize eX:upd _ p3 _=H3;have ⟨s3,e3⟩:=nw n3 eX;exact q p3 _ _ H3 ((s1.trans s2).trans s3) (jR (by omega) (by decide)) (jR (by omega) (by decide)) (N0 (by omega)) (uW e3 (((rR _ e1).same s2).same s3) ((rR _ e2).same s3))
 refine ⟨_,rfl,_,_,rfl,rfl,_,rfl,?_⟩;refine bB (fun _=>?_) (fun c4=>?_)
 ·have i1:=aS (c:=c) (p:=1009) (m:=13) (by decide)
  have i2:=aS (c:=c) (p:=3001) (m:=3) (by decide);have i3:=aS (c:=c) (p:=2003) (m:=13) (by decide);have i4:=aS (c:=c) (p:=4001) (m:=2) (by decide);refine ⟨_,rfl,_,_,_,rfl,by decide,by decide,by decide,_,_,rfl,rfl,_,rfl,_,_,_,rfl,by decide,by decide,by decide,_,_,rfl,rfl,_,_,rfl,by omega,fun p1 H1 s1 e1=>?_⟩;rw [fT (by omega)] at e1;refine ⟨_,rfl,_,rfl,_,_,_,rfl,by decide,by decide,by decide,_,_,rfl,rfl,_,rfl,_,_,_,rfl,by decide,by decide,by decide,_,_,rfl,rfl,_,_,rfl,by omega,fun p2 H2 s2 e2=>⟨L2,?_⟩⟩;rw [fT (by omega)] at e2;intro p3 n3;generalize eX:upd _ p3 _=H3;have ⟨s3,e3⟩:=nw n3 eX;exact q p3 _ _ H3 ((s1.trans s2).trans s3) (mS (by omega) (by omega) (by omega)) (mS (by omega) (by omega) (by omega)) (F_ (by omega) (by omega)) (uW e3 (((iY e1).same s2).same s3) ((iY e2).same s3))
 ·have c4':¬ k<4:=fun z=>c4 (abU z)
  have i1:=aS (c:=c) (p:=1000003) (m:=1000003) (by decide);have i2:=aS (c:=c) (p:=3001) (m:=997) (by decide);have i3:=aS (c:=c) (p:=1000033) (m:=1000003) (by decide);have i4:=aS (c:=c) (p:=4001) (m:=997) (by decide);refine ⟨L2,?_⟩;intro q1 m1;generalize eX:upd _ q1 _=J1;have ⟨t1,f1⟩:=nw m1 eX;refine ⟨_,rfl,_,_,_,rfl,by decide,by decide,by decide,_,_,rfl,rfl,_,rfl,_,_,_,rfl,by decide,by decide,by decide,_,_,rfl,rfl,L2,?_⟩;intro q2 m2;generalize eX:upd _ q2 _=J2;have ⟨t2,f2⟩:=nw m2 eX;refine ⟨L2,?_⟩;intro q3 m3;generalize eX:upd _ q3 _=J3;have ⟨t3,f3⟩:=nw m3 eX
  obtain ⟨pb,b1,b2,eb,fb,h1,h2,h3,h4⟩:∃(pb:abA)(b1 b2:Int),iZ [V.ref q1,V.ref q2] (k-4)=some (.ref pb)/\J3 pb=some (.tup [.int b1,.int b2])/\0<b1/\b1<=997/\0<b2/\b2<=997:=by
   rcases (show k=4\/k=5 by omega) with e|e
   ·exact ⟨q1,1,1,by rw [e];rfl,t3 _ _ (t2 _ _ f1),by decide,by decide,by decide,by decide⟩
   ·exact ⟨q2,_,_,by rw [e];rfl,t3 _ _ f2,by omega,by omega,by omega,by omega⟩
  refine ⟨_,rfl,_,_,rfl,rfl,q3,_,_,_,rfl,rfl,aT.of f3,eb,_,rfl,_,_,_,rfl,by decide,by decide,by decide,_,_,rfl,rfl,_,rfl,pb,_,_,_,rfl,rfl,bQ.of fb,iU,_,_,rfl,by omega,fun p1 H1 s1 e1=>?_⟩;rw [fT (by omega)] at e1;refine ⟨_,rfl,_,rfl,_,_,_,rfl,by decide,by decide,by decide,_,_,rfl,rfl,_,rfl,pb,_,_,_,rfl,rfl,bQ.of (s1 _ _ fb),iu,_,_,rfl,by omega,fun p2 H2 s2 e2=>⟨L2,?_⟩⟩;rw [fT (by omega)] at e2;intro p3 n3;generalize eX:upd _ p3 _=H3;have ⟨s3,e3⟩:=nw n3 eX;exact q p3 _ _ H3 ((t1.trans (t2.trans t3)).trans ((s1.trans s2).trans s3)) (mS (by omega) (by omega) (by omega)) (mS (by omega) (by omega) (by omega)) (F_ (by omega) (by omega)) (uW e3 (((iY e1).same s2).same s3) ((iY e2).same s3))
inductive wD (K:Frag)(vs:ζ)(H:Hp)(Q:VK)(E_:XK):Prop
|mk (c:Int)(_:vs=[.int c])(_:∀(l:abA)(us:ζ)(ws:Θ)(H':Hp),jh ws->ao H H' ->H l=none->H' l=some (.lst us)->ku K H' us ws->Q (.ref l) H')
def Rj :(qr r).1=0 ↔ r=0:=⟨mL,fun e=>by rw [e,dI]⟩
def yO:av ["_law_cell","_law_kind","_law_x","_law_y"] zaT (ae JS):=sq
def aaV (D:Def K mg "_law_ways" JS zaT)(cE:ac P w K mg base 1 "_law_field" zad fJ)(jS:ac P w K mg base 33 "_law_lowest" zag b_):ac P w K mg base 34 "_law_ways" zaT (wD K):=by
 refine D.op yO fun f ck A outer s H vs Q E hr h=>?_;obtain ⟨c,rfl,q⟩:=h;have L0:0<=abE:=by decide
 have L1:1<=abE:=by decide
 have L2:2<=abE:=by decide
 refine ⟨_,(aa (aG 1 yO.nd (aL cE hr (bD (pv 0) af af))) (aa (bu (bx oG (pv 1) af) (ag (aC (cg jC))) aQ) (aa (bu (bx oG (pv 1) af) (ag (aC (cg (aI (aV (aI (aV (aI af af)) (aV (aI af af)))) (aV (aI (aV (aI af af)) (aV (aI af af)))))))) aQ) (aa (aG 2 yO.nd (aL jS hr (aI (ay cG (aL cE hr (bD (pv 0) af af)) af) (ay bC af (aL cE hr (bD (pv 0) af af)))))) (aa (aG 3 yO.nd (aV (aI (ay cG (aL cE hr (bD (pv 0) af af)) af) af))) (aa (bu (PW.pt (va (bx e_ (aF (pv 2)) af) (qa (bx e_ (aF (pv 3)) af)))) (ag (aG 3 yO.nd (aV (aI af af)))) aQ) (ag (aC (cg (aX (aV (aI (pv 2) (pv 3))))))))))))),?_⟩;dsimp only [cxr,jD,Cx.xw,Cx.tu];refine sq6 ?_;intros
 refine ⟨_,rfl,_,_,_,rfl,by decide,by decide,by decide,_,rfl,_,_,rfl,rfl,_,rfl,?_⟩;refine bB (fun _=>?_) (fun _=>?_)
 ·refine ⟨L0,?_⟩
  intro l nl;generalize eX:upd _ l _=H1;have ⟨s1,e1⟩:=nw nl eX;exact q l [] [] H1 (.inl rfl) s1 nl e1 .nil
 refine ⟨_,rfl,_,_,rfl,rfl,_,rfl,?_⟩;refine bB (fun _=>?_) (fun _=>?_)
 ·refine ⟨L2,?_⟩
  intro p1 n1;generalize eX:upd _ p1 _=H1;have ⟨s1,e1⟩:=nw n1 eX;refine ⟨L2,?_⟩;intro p2 n2;generalize eX:upd _ p2 _=H2;have ⟨s2,e2⟩:=nw n2 eX;refine ⟨L2,?_⟩;intro p3 n3;generalize eX:upd _ p3 _=H3;have ⟨s3,e3⟩:=nw n3 eX;refine ⟨L2,?_⟩;intro p4 n4;generalize eX:upd _ p4 _=H4;have ⟨s4,e4⟩:=nw n4 eX;refine ⟨L2,?_⟩;intro p5 n5;generalize eX:upd _ p5 _=H5;have ⟨s5,e5⟩:=nw n5 eX;refine ⟨L2,?_⟩;intro p6 n6;generalize eX:upd _ p6 _=H6;have ⟨s6,e6⟩:=nw n6 eX;refine ⟨L2,?_⟩;intro p7 n7;generalize eX:upd _ p7 _=H7;have ⟨s7,e7⟩:=nw n7 eX;have sh:=s1.trans (s2.trans (s3.trans (s4.trans (s5.trans s6))));have w1:gc K H7 (.ref p3) (1,0):=FJ vU dI (s7 _ _ (s6 _ _ (s5 _ _ (s4 _ _ e3)))) (s7 _ _ (s6 _ _ (s5 _ _ (s4 _ _ (s3 _ _ (s2 _ _ e1)))))) (s7 _ _ (s6 _ _ (s5 _ _ (s4 _ _ (s3 _ _ e2)))));have w2:gc K H7 (.ref p6) (0,1):=FJ dI vU (s7 _ _ e6) (s7 _ _ (s6 _ _ (s5 _ _ e4))) (s7 _ _ (s6 _ _ e5));exact q p7 _ [(1,0),(0,1)] _ (.inr (.inr rfl)) (sh.trans s7) (sh.free n7) e7 (.cons w1 (.cons w2 .nil))
 have i1:=aS (c:=c) (p:=6007) (m:=7) (by decide);have i2:=aS (c:=c) (p:=7001) (m:=3) (by decide);have i3:=aS (c:=c) (p:=8009) (m:=7) (by decide);refine ⟨_,rfl,_,_,_,rfl,by decide,by decide,by decide,_,_,rfl,rfl,_,rfl,_,_,_,rfl,by decide,by decide,by decide,_,_,rfl,rfl,_,_,rfl,by omega,fun p1 H1 s1 e1=>?_⟩;rw [fT (by omega)] at e1;refine ⟨_,rfl,_,_,_,rfl,by decide,by decide,by decide,_,_,rfl,rfl,L2,?_⟩;intro p2 n2;generalize eX:upd _ p2 _=H2;have ⟨s2,f2⟩:=nw n2 eX;have e2:H2 p2=some (.tup [.int (qr ((field c 8009 7-3:Int):Rat)).1,.int (qr ((field c 8009 7-3:Int):Rat)).2]):=by rw [kZ];exact f2
 have z1:=mS (t:=field c 6007 7-3) (b:=1+field c 7001 3) (by omega) (by omega) (by omega);have z2:Sz 20 ((field c 8009 7-3:Int):Rat):=jR (by omega) (by decide);generalize ((field c 6007 7-3:Int):Rat) / ((1+field c 7001 3:Int):Rat)=x at e1 z1 ⊢;clear f2;generalize ((field c 8009 7-3:Int):Rat)=y at e2 z2;have HN :=s2 _ _ e1;have lW:=s1.trans s2
 have fin:∀(v:V)(y':Rat)(H3:Hp),ao H2 H3->cU K H3 v y' ->Sz 22 y' ->¬ (x=0/\y'=0)->∀(p:abA)(l:abA)(H5:Hp),ao H3 H5->H3 l=none->H5 p=some (.tup [.ref p1,v])->H5 l=some (.lst [.ref p])->Q (.ref l) H5:=fun v y' H3 s3 hv zy hn p l H5 s5 nl ep el=>
  q l [.ref p] [(x,y')] H5 (.inr (.inl ⟨x,y',rfl,hn,z1.up (by decide),zy⟩)) (lW.trans (s3.trans s5)) ((lW.trans s3).free nl) el (.cons (uW ep (((iY HN).same s3).same s5) (hv.same s5)) .nil)
 refine ⟨_,rfl,p1,_,_,_,rfl,rfl,bQ.of HN,iU,rfl,_,rfl,?_⟩;refine bB (fun c1=>?_) (fun c1=>?_)
 ·have c1':x=0:=Rj.mp (by simpa using abS c1)
  refine ⟨_,rfl,p2,_,_,_,rfl,rfl,bQ.of e2,iU,rfl,_,rfl,?_⟩;refine bB (fun c2=>?_) (fun c2=>?_)
  ·refine ⟨L2,?_⟩
   intro p3 n3;generalize eX:upd _ p3 _=H3;have ⟨s3,e3⟩:=nw n3 eX;refine ⟨_,rfl,_,rfl,L2,?_⟩;intro p4 n4;generalize eX:upd _ p4 _=H4;have ⟨s4,e4⟩:=nw n4 eX;refine ⟨L1,?_⟩;intro l5 n5;generalize eX:upd _ l5 _=H5;have ⟨s5,e5⟩:=nw n5 eX;exact fin (.ref p3) 1 H3 s3 (rR 1 e3) (jR (i:=1) (by decide) (by decide)) (fun z=>abM z.2 (by decide)) p4 l5 H5 (s4.trans s5) (s4.free n5) (s5 _ _ e4) e5
  ·have c2':¬ y=0:=fun z=>c2 (by rw [z,dI];decide)
   refine ⟨_,rfl,_,rfl,L2,?_⟩;intro p4 n4;generalize eX:upd _ p4 _=H4;have ⟨s4,e4⟩:=nw n4 eX;refine ⟨L1,?_⟩;intro l5 n5;generalize eX:upd _ l5 _=H5;have ⟨s5,e5⟩:=nw n5 eX;exact fin (.ref p2) y H2 (ao.refl _) (iY e2) (z2.up (by decide)) (fun z=>c2' z.2) p4 l5 H5 (s4.trans s5) (s4.free n5) (s5 _ _ e4) e5
 ·have c1':¬ x=0:=fun z=>c1 (by rw [z,dI];decide)
  refine Qp ?_;refine ⟨_,rfl,_,rfl,L2,?_⟩;intro p4 n4;generalize eX:upd _ p4 _=H4;have ⟨s4,e4⟩:=nw n4 eX;refine ⟨L1,?_⟩;intro l5 n5;generalize eX:upd _ l5 _=H5;have ⟨s5,e5⟩:=nw n5 eX;exact fin (.ref p2) y H2 (ao.refl _) (iY e2) (z2.up (by decide)) (fun z=>c1' z.1) p4 l5 H5 (s4.trans s5) (s4.free n5) (s5 _ _ e4) e5
inductive mT (K:Frag)(H:Hp)(d:abA)(v:V)(p:aw):Prop
|mk (a l:abA)(s:V)(us:ζ)(_:v=.ref a)(_:bQ K H a [.str p.nm,s,.ref l])(_:gc K H s p.sp)(_:H l=some (.lst us))(_:ku K H us p.ws)(_:l≠d)
inductive h_ (K:Frag)(H:Hp)(v:V)(p:aw):Prop
|mk (a l:abA)(s:V)(us:ζ)(_:v=.ref a)(_:bQ K H a [.str p.nm,s,.ref l])(_:gc K H s p.sp)(_:H l=some (.lst us))(_:ku K H us p.ws)
inductive jk (K:Frag)(H:Hp)(pins:ι)(v:V)(b:aK):Prop
|mk (a:abA)(i j:Nat)(_:v=.ref a)(_:bQ K H a [.str b.nm,.int (i:Int),.int (j:Int)])(_:pins[i]?=some b.one)(_:pins[j]?=some b.other)
section
variable {K:Frag}{H H':Hp}{v:V}{p:aw}{d:abA}
def mT.same (h:mT K H d v p)(s:ao H H'):mT K H' d v p:=by
 obtain ⟨a,l,sv,us,e,h1,h2,h3,h4,h5⟩:=h;exact ⟨a,l,sv,us,e,Ty.ao.cQ s h1,h2.same s,s _ _ h3,h4.same s,h5⟩
def mT.upd (h:mT K H d v p)(e:H d=some (.lst xs)):mT K (L2.upd H d o) d v p:=by
 obtain ⟨a,l,sv,us,ev,h1,h2,h3,h4,h5⟩:=h;have t:aY H (L2.upd H d o):=.list e;exact ⟨a,l,sv,us,ev,t.cQ h1,h2.aJ t,by rw [aj h5];exact h3,h4.aJ t,h5⟩
def mT.r (h:mT K H d v p):h_ K H v p:=by
 obtain ⟨a,l,sv,us,e,h1,h2,h3,h4,_⟩:=h;exact ⟨a,l,sv,us,e,h1,h2,h3,h4⟩
def h_.same (h:h_ K H v p)(s:ao H H'):h_ K H' v p:=by
 obtain ⟨a,l,sv,us,e,h1,h2,h3,h4⟩:=h;exact ⟨a,l,sv,us,e,Ty.ao.cQ s h1,h2.same s,s _ _ h3,h4.same s⟩
def jk.same (h:jk K H pins v b)(s:ao H H'):jk K H' pins v b:=by
 obtain ⟨a,i,j,e,h1,h2,h3⟩:=h;exact ⟨a,i,j,e,Ty.ao.cQ s h1,h2,h3⟩
end
structure jT (pins:ι):Prop where
 np:(pins.map (·.nm)).Nodup
 ns:(pins.map (·.sp)).Nodup
 sz:∀p∈pins,Sz 24 p.sp.1/\Sz 24 p.sp.2
 ws:∀p∈pins,jh p.ws
def jh.sz (h:jh ws):∀w∈ws,Sz 22 w.1/\Sz 22 w.2:=fun w hw=>by
 rcases h with rfl|⟨x,y,rfl,_,h1,h2⟩|rfl
 ·cases hw
 ·have:w=(x,y):=by simpa using hw
  rw [this];exact ⟨h1,h2⟩
 ·have e1:Sz 22 (1:Rat):=jR (k:=22) (i:=1) (by decide) (by decide)
  have e0:Sz 22 (0:Rat):=d6 (by decide);have:w=(1,0)\/w=(0,1):=by simpa using hw
  rcases this with rfl|rfl
  ·exact ⟨e1,e0⟩
  ·exact ⟨e0,e1⟩
def jh.len (h:jh ws):ws.length<=2:=by
 rcases h with rfl|⟨x,y,rfl,_⟩|rfl<;>simp
def jT.snoc (g:jT pins)(h1:p.nm∉pins.map (·.nm))(h2:p.sp∉pins.map (·.sp))(h3:Sz 24 p.sp.1/\Sz 24 p.sp.2)(h4:jh p.ws):jT (pins++[p]):=by
 refine ⟨?_,?_,fun q hq=>?_,fun q hq=>?_⟩
 ·rw [abq,afo]
  refine ⟨g.np,by simp,fun a ha b hb e=>h1 ?_⟩;have:b=p.nm:=by simpa using hb
  rw [<-this,<-e];exact ha
 ·rw [abq,afo]
  refine ⟨g.ns,by simp,fun a ha b hb e=>h2 ?_⟩;have:b=p.sp:=by simpa using hb
  rw [<-this,<-e];exact ha
 ·rcases abj.mp hq with z|z
  ·exact g.sz q z
  ·rw [abg.mp z]
   exact h3
 ·rcases abj.mp hq with z|z
  ·exact g.ws q z
  ·rw [abg.mp z]
   exact h4
structure oW (pins:ι)(bars:ς):Prop where
 nb:(bars.map (·.nm)).Nodup
 ends:∀b∈bars,b.one∈pins/\b.other∈pins/\b.one.nm≠b.other.nm
theorem iB :∀{l₁:List α} {l₂:List β} {a:α} {b:β},Paired F l₁ l₂->F a b->Paired F (l₁++[a]) (l₂++[b])
 | _,_,_,_,.nil,h=>.cons h .nil
 | _,_,_,_,.cons h t,h'=>.cons h (iB t h')
def jU (inv:L2.St->Hp->Prop)(h1:∀N:L2.St->Hp->Prop,(∀σ' H',inv σ' H' ->N σ' H')->t {D with nx:=N} σ H)(h2:∀σ' H',inv σ' H' ->u D σ' H'):XT t u D σ H:=h1 _ h2
def TJ (g:jT pins)(b:oW pins bars)(lp:pins.length<=9)(lb:bars.length<=14):cV pins bars:=
 ⟨g.np,b.nb,b.ends,fun p hp=>⟨(g.sz p hp).1,(g.sz p hp).2,(g.ws p hp).sz⟩,lp,lb,fun p hp=>(g.ws p hp).len⟩
def aaW:abZ "min"=some (.builtin "min"):=by decide+kernel
def cnt (pins:ι)(x:Rat):Nat:=(pins.filter fun p=>decide (x<=p.sp.1)).length
theorem N3 (x:Rat):∀pins:List aw,cnt pins (x+1)<=cnt pins x
 | []=>aaA _
 | p::ps=>by
  have ih:=N3 x ps;unfold cnt at ih ⊢;rw [afa,afa];by_cases c:x+1<=p.sp.1
  ·have c2:x<=p.sp.1:=by grind
   rw [abC (abU c),abC (abU c2)];simpa using ih
  ·rw [abB (by simpa using c)]
   split
   ·rw [aey]
    omega
   ·exact ih
theorem N4 :∀{pins:ι},(∃p∈pins,p.sp.1=x)->cnt pins (x+1)<cnt pins x
 | [],⟨p,h,_⟩=>by simp at h
 | p::ps,⟨q,hq,e⟩=>by
  unfold cnt;rw [afa,afa];by_cases c0:p.sp.1=x
  ·have c:¬ x+1<=p.sp.1:=by grind
   have c2:x<=p.sp.1:=by grind
   rw [abB (by simpa using c),abC (abU c2),aey];have:=N3 x ps;unfold cnt at this;omega
  ·have m6 :q∈ps:=by
    rcases aes.mp hq with z|z
    ·exact abM (by rw [<-z];exact e) c0
    ·exact z
   have ih:=N4 (pins:=ps) ⟨q,m6,e⟩;unfold cnt at ih;by_cases c:x+1<=p.sp.1
   ·have c2:x<=p.sp.1:=by grind
    rw [abC (abU c),abC (abU c2)];simpa using ih
   ·rw [abB (by simpa using c)]
    split
    ·rw [aey]
     omega
    ·exact ih
def Rk (pins:ι)(x:Rat):cnt pins x<=pins.length:=af5 _ _
def Rn (r:Rat):iL (qr r) (1,1)=qr (r+1):=by
 have e:iL (qr r) (1,1)=((qr r).1+(qr r).2,(qr r).2):=by
  unfold iL;simp
 have g:aeS ((qr r).1+(qr r).2) (qr r).2=1:=by
  have:=nQ r;rw [<-this];simp
 rw [e,uL (q:=((qr r).1+(qr r).2,(qr r).2)) (cI r) g];congr 1;have z:=yk (r:=r);have v:=d_ r;unfold vl at v ⊢;push_cast;grind
def aaX (h:Sz k r):Ns k (qr r):=⟨ae1 (intBits_le_iff.mp h.top),ae1 (intBits_le_iff.mp h.bot)⟩
def Ro:∀i:Fin 10,∃N:Fin 5,iZ [V.int 0,.int 1,.int 2,.int 2,.int 3,.int 3,.int 3,.int 3,.int 4,.int 4] (i.val:Int)=some (.int (N.val:Int)):=by decide+kernel
def Rp:∀i:Fin 6,∃N:Fin 5,iZ [V.int 4,.int 4,.int 4,.int 4,.int 3,.int 2] (i.val:Int)=some (.int (N.val:Int)):=by decide+kernel
inductive wG (K:Frag)(vs:ζ)(H:Hp)(Q:VK)(E_:XK):Prop
|mk (sA:abA)(ns:ξ)(mo:Nat)(_:vs=[.ref sA,.int (mo:Int)])(_:aT K H sA (ns.map V.int))(_:∀(l:abA)(us:ζ)(pins:ι)(H':Hp),ao H H' ->H l=none->H' l=some (.lst us)->Paired (h_ K H') us pins->jT pins->pins.length<=4/\pins.length<=mo->Q (.ref l) H')
def mU:av ["_law_script","_law_most","_law_cell","_law_kind","_law_many","_law_pins_here","_law_k","_law_spot_here"] zaz (ae JT):=sq
def aaY (D:Def K mg "_law_pins" JT zaz)(bf:mg "range"=none)(N5:mg "min"=none)(lM:ac P w K mg base 1 "_law_cell_at" zak (jQ K))(cE:ac P w K mg base 1 "_law_field" zad fJ)
  (ahJ:ac P w K mg base 34 "_law_spot" zaB (wC K)) (ahK:ac P w K mg base 34 "_law_ways" zaT (wD K)) (V_:ac P w K mg base 2 "_law_name" zay wB) (rS:ac P w K mg base 1 "_law_sum" zac (cK K iL)):
  ac P w K mg base 35 "_law_pins" zaz (wG K):=by
 refine D.oo mU fun H hr h=>?_;obtain ⟨sA,ns,mo,rfl,hS,q⟩:=h;have L2:2<=abE:=by decide
 have L3:3<=abE:=by decide
 refine ⟨_,(aa (aG 2 mU.nd (aL lM hr (aI (pv 0) af))) (aa (aG 3 mU.nd (aL cE hr (bD (pv 2) af af))) (aa (aG 4 mU.nd (bE aR (cg (pM af (pM af (pM af (pM af (pM af (pM af (pM af (bD af af af))))))))) (aL cE hr (bD (pv 2) af af)))) (aa (aG 4 mU.nd (aH (IQ rfl) rfl N5 aaW (bD (pv 4) (bE aR (cg (pM af (pM af (pM af (bD af af af))))) (pv 3)) (pv 1)))) (aa (aG 5 mU.nd (cg jC)) (aa (bq abI rfl (bY rfl bf (aX (pv 4))) (bP 6 mU.nd) (aa (aG 7 mU.nd (aL ahJ hr (aI (aL lM hr (aI (pv 0) (ay bC af (pv 6)))) (pv 3)))) (aa (qF abI (qb (QE hr.units) (pv 7) (eV (tn:=["_law_pin"]) (fr:=[]) (caps:=[]) (bo (pv 5)) (bE (dZ (K:=K) rfl) (pv 0) af)) rfl) (ag (aG 7 mU.nd (aV (aI (aL rS hr (aI (aF (pv 7)) (aV (aI af af)))) (aF (pv 7))))))) (ag (bN (oK ab9 acg ach fe (pv 5) (aX (aV (bD (aL V_ hr (aI (pv 2) (pv 6))) (pv 7) (aL ahK hr (aX (aL lM hr (aI (pv 0) (ay bC af (pv 6))))))))))))))) (ag (aC (pv 5))))))))),?_⟩;dsimp only [cxr,jD,Cx.xw,Cx.tu];refine sq6 ?_;intros
 refine ⟨_,rfl,sA,ns,0,rfl,hS,by decide,by decide,?_⟩;generalize cell ns 0=c0;have ik:=aS (c:=c0) (p:=2003) (m:=6) (by decide);refine ⟨_,rfl,_,_,_,rfl,by decide,by decide,by decide,?_⟩;generalize field c0 2003 6=kind at ik ⊢;obtain ⟨kn,rfl⟩:∃n:Nat,kind=(n:Int):=⟨kind.toNat,by omega⟩;refine ⟨z10L,?_⟩;intro t0 nt0;generalize eX:upd _ t0 _=H0;have ⟨st0,et0⟩:=nw nt0 eX;have i1:=aS (c:=c0) (p:=1009) (m:=10) (by decide);refine ⟨_,rfl,_,_,_,rfl,by decide,by decide,by decide,?_⟩;generalize field c0 1009 10=fi at i1 ⊢;obtain ⟨fn,rfl⟩:∃n:Nat,fi=(n:Int):=⟨fi.toNat,by omega⟩;obtain ⟨N1,eN1⟩:=Ro ⟨fn,by omega⟩;refine ⟨t0,_,_,_,rfl,rfl,aT.of et0,eN1,_,rfl,z6L,?_⟩;intro t1 nt1;generalize eX:upd _ t1 _=Hm;have ⟨sZ,et1⟩:=nw nt1 eX;obtain ⟨N2,eN2⟩:=Rp ⟨kn,by omega⟩;refine ⟨_,rfl,t1,_,_,_,rfl,rfl,aT.of et1,eN2,_,rfl,_,_,_,rfl,fun m hm m1 m2 m3=>?_⟩;obtain ⟨N,rfl⟩:∃n:Nat,m=(n:Int):=⟨m.toNat,by omega⟩;have hN:N<=4:=by have:=N1.isLt;omega
 have aa0:=st0.trans sZ;refine ⟨z0L,?_⟩;intro lp np;generalize eX:upd _ lp _=H1;have ⟨sp,ep⟩:=nw np eX;have s01:=aa0.trans sp;have BQ:H lp=none:=aa0.free np;refine ⟨_,rfl,(N:Int),rfl,by omega,by omega,let I:zIv:=fun i σ H'=>Lk fun (o5 o6:Α) (us:ζ) (pins:ι)=>σ=[ap sA,some (.int (mo:Int)),some (.int c0),some (.int (kn:Int)),some (.int (N:Int)),ap lp,o5,o6]/\ao H H'/\H' lp=some (.lst us)/\Paired (mT K H' lp) us pins/\jT pins/\pins.length=i/\∀p∈pins,∃j,j<i/\p.nm=nameOf (field c0 3001 4) (field c0 4001 6) (j:Int)/\p.sp.1<=500010;cA (lo:=0) (n:=N) I ⟨none,none,[],[],rfl,s01,ep,.nil,⟨by simp,by simp,by simp,by simp⟩,rfl,by simp⟩ ?_ ?_⟩
 ·rintro i σ H2 hi ⟨o5,o6,us,pins,rfl,s2,e2,pp,gp,lpi,nm⟩
  have ei:(0:Int)+(i:Int)=(i:Int):=aeO _;rw [ei];have lu:us.length=pins.length:=abL pp;refine ⟨_,rfl,_,rfl,_,_,rfl,rfl,sA,ns,_,rfl,s2.seq hS,by omega,by omega,_,rfl,_,_,rfl,by omega,by omega,fun p3 x0 y0 H3 s3 zx zy xb h3=>?_⟩;have s23:=s2.trans s3
  have h30:gc K H3 (.ref p3) (x0+((0:Nat):Rat),y0):=by
   have e:x0+((0:Nat):Rat)=x0:=by
    have:((0:Nat):Rat)=0:=by rfl
    rw [this];grind
   rw [e];exact h3
  dsimp only;refine jU (fun σ' H'=>EZ fun (sv:V) (x:Rat)=>σ' =[some (.ref sA),some (.int (mo:Int)),some (.int c0),some (.int (kn:Int)),some (.int (N:Int)),some (.ref lp),some (.int (i:Int)),some sv]/\ao H3 H'/\gc K H' sv (x,y0)/\(Sz 24 x/\x<=500010)/\(x,y0)∉pins.map (·.sp)) (fun Nx KI=>?_) ?_
  ·refine ⟨fun m σ H'=>EZ fun (sv:V) (j:Nat)=>σ=[ap sA,some (.int (mo:Int)),some (.int c0),some (.int (kn:Int)),some (.int (N:Int)),ap lp,some (.int (i:Int)),some sv]/\ao H3 H'/\gc K H' sv (x0+(j:Rat),y0)/\m=cnt pins (x0+(j:Rat))/\j+cnt pins (x0+(j:Rat))<=pins.length,⟨_,_,0,rfl,ao.refl _,h30,rfl,by have:=Rk pins (x0+((0:Nat):Rat));omega⟩,?_⟩
   rintro m σ H4 ⟨sv,j,rfl,s4,h4,rfl,hj⟩;have e4:=(s3.trans s4) _ _ e2;have pp4:Paired (mT K H4 lp) us pins:=Paired.bV pp fun _ _ z=>z.same (s3.trans s4);have zj:Sz 24 (x0+(j:Rat)):=(zx.add (nR (i:=(j:Int)) (k:=3) (show _<8 by omega) (by decide))).up (by decide);refine ⟨_,rfl,_,rfl,lp,rfl,⟨_,aT.of e4⟩,fun D1 n1=>?_⟩
   refine dG (cap:=[]) (K:=K) (a:=lp) (xs:=us) (fun i v H=>∃p,pins[i]?=some p/\gc K H v p.sp) n1 (by rw [lu];exact aaZ (show pins.length<=1000 by omega) (by decide)) (fun H2 s2=>aT.of (s2 _ _ e4)) (fun _ _ _ _ _ h0 ks h=>by
     obtain ⟨p,h1,h2⟩:=h;refine ⟨p,h1,h2.aJ fun b xs r=>?_⟩
     rcases r with r|⟨o',r⟩
     ·exact .inl (ks _ _ (fun e=>by rw [e,h0] at r;cases r) r)
     ·exact .inr ⟨o',ks _ _ (fun e=>by rw [e,h0] at r;cases r) r⟩) ?_ ?_
   ·intro jj u H6 R hu s6 k
    obtain ⟨p,DL,hp⟩:=aA pp4 hu;obtain ⟨a,l,sv,mI,rfl,h1,h2,_⟩:=hp;exact ⟨_,rfl,a,_,_,_,rfl,rfl,Ty.ao.cQ s6 h1,rfl,k _ _ (ao.refl _) ⟨p,DL,h2.same s6⟩⟩
   intro ys H6 hy iH s6 hD
   have pq:ku K H6 ys (pins.map (·.sp)):=gP (by rw [ir,hy,lu]) fun j u q' HN Xq =>by
    obtain ⟨p,h1,h2⟩:=iH j u HN;rw [aaa,h1] at Xq;cases Xq;exact h2
   have h6:=h4.same s6;refine ⟨(x0+(j:Rat),y0),D1,ys,_,rfl,aT.of hD,h6,pq,_,rfl,?_⟩;refine bB (fun cc=>?_) (fun cc=>?_)
   ·have mem:(x0+(j:Rat),y0)∈pins.map (·.sp):=by simpa using cc
    obtain ⟨p,hp,DL⟩:=aar.mp mem;have lt:=N4 (x:=x0+(j:Rat)) ⟨p,hp,by rw [DL]⟩
    have ej:x0+(j:Rat)+1=x0+((j+1:Nat):Rat):=by
     push_cast;grind
    rw [ej] at lt;refine ⟨fun σ' H'=>∃(sv:V),σ' =[some (.ref sA),some (.int (mo:Int)),some (.int c0),some (.int (kn:Int)),some (.int (N:Int)),some (.ref lp),some (.int (i:Int)),some sv]/\ao H3 H'/\gc K H' sv (x0+((j+1:Nat):Rat),y0),fun σ' H' ⟨sv',h1,h2,h3⟩=>⟨_,lt,sv',j+1,h1,h2,h3,rfl,by omega⟩,?_⟩;obtain ⟨sa,u1,u2,rfl,Rq,hn1,W8⟩:=h6;refine ⟨_,rfl,sa,_,_,_,rfl,rfl,Rq,iU,L2,?_⟩;intro p7 n7;generalize eX:upd _ p7 _=H7;have ⟨s7,e7⟩:=nw n7 eX;refine ⟨u1,.ref p7,qr (x0+(j:Rat)),(1,1),24,1,rfl,hn1.same s7,⟨p7,rfl,bQ.of e7⟩,aaX zj,⟨by decide,by decide⟩,by decide,fun p8 H8 s8 e8=>?_⟩;rw [Rn,ej] at e8;refine ⟨_,rfl,sa,_,_,_,rfl,rfl,Ty.ao.cQ (s7.trans s8) Rq,iu,L2,?_⟩;intro p9 n9;generalize eX:upd _ p9 _=H9;have ⟨s9,e9⟩:=nw n9 eX;have s69:=(s7.trans s8).trans s9;exact ⟨.ref p9,rfl,(s4.trans s6).trans s69,uW e9 ((iY e8).same s9) (W8.same s69)⟩
   ·have fresh:(x0+(j:Rat),y0)∉pins.map (·.sp):=by simpa using cc
    exact KI _ _ ⟨sv,x0+(j:Rat),rfl,s4.trans s6,h6,⟨zj,(by have Y3 :((j:Int):Rat)<=((5:Int):Rat):=afg.mpr (by omega);have e1:((j:Int):Rat)=(j:Rat):=rfl;have e2:((5:Int):Rat)=5:=rfl;rw [e1,e2] at Y3;grind)⟩,fresh⟩
  rintro σ' H4 ⟨sv,x,rfl,s4,h4,⟨zx',xb'⟩,fresh⟩;have Xn:=s3.trans s4;have O5:=s2.trans Xn;have e4:=Xn _ _ e2;have pp4:Paired (mT K H4 lp) us pins:=Paired.bV pp fun _ _ z=>z.same Xn;refine ⟨_,rfl,.inl ⟨rfl,_,aT.of e4⟩,_,rfl,_,rfl,_,_,rfl,by omega,by omega,_,rfl,_,rfl,_,rfl,_,_,rfl,rfl,sA,ns,_,rfl,O5.seq hS,by omega,by omega,_,rfl,fun l8 us8 ws H8 wk s8 n8 e8 p8=>⟨L3,?_⟩⟩;intro p9 n9;generalize eX:upd _ p9 _=H9;have ⟨s9,e9⟩:=nw n9 eX;have s49:=s8.trans s9;have e49:=s49 _ _ e4;have pp9:Paired (mT K H9 lp) us pins:=Paired.bV pp4 fun _ _ z=>z.same s49;refine ⟨lp,_,_,rfl,rfl,e49,(by rw [lu];exact aaZ (show pins.length<=1000 by omega) (by decide)),?_⟩;have zZ:mT K H9 lp (.ref p9) ⟨nameOf (field c0 3001 4) (field c0 4001 6) (i:Int),(x,y0),ws⟩:=⟨p9,l8,sv,us8,rfl,bQ.of e9,h4.same s49,s9 _ _ e8,p8.same s9,fun z=>by rw [z,e4] at n8;cases n8⟩;refine ⟨_,_,_,pins++[⟨nameOf (field c0 3001 4) (field c0 4001 6) (i:Int),(x,y0),ws⟩],rfl,fun b o z=>?_,ah,iB (Paired.bV pp9 fun _ _ z=>z.upd e49) (zZ.upd e49),gp.snoc (fun z=>?_) fresh ⟨zx',zy.up (by decide)⟩ wk,by simp [lpi],fun p hp=>?_⟩
  ·rw [aj (ak z BQ)]
   exact s49 _ _ (O5 _ _ z)
  ·obtain ⟨p,hp,DL⟩:=aar.mp z
   obtain ⟨j,hj,ej,_⟩:=nm p hp;have i3:=aS (c:=c0) (p:=3001) (m:=4) (by decide);have i4:=aS (c:=c0) (p:=4001) (m:=6) (by decide)
   have:=yN ⟨(field c0 3001 4).toNat,by omega⟩ ⟨(field c0 4001 6).toNat,by omega⟩ ⟨j,by omega⟩ ⟨i,by omega⟩ (fun z=>by
    have:=abR Fin.val z;simp at this
    omega)
   refine this ?_;show nameOf (((field c0 3001 4).toNat:Nat):Int) (((field c0 4001 6).toNat:Nat):Int) (j:Int)=nameOf (((field c0 3001 4).toNat:Nat):Int) (((field c0 4001 6).toNat:Nat):Int) (i:Int);rw [show (((field c0 3001 4).toNat:Nat):Int)=field c0 3001 4 by omega,show (((field c0 4001 6).toNat:Nat):Int)=field c0 4001 6 by omega,<-ej];exact DL
  ·rcases abj.mp hp with z|z
   ·obtain ⟨j,hj,ej,eb⟩:=nm p z
    exact ⟨j,by omega,ej,eb⟩
   ·rw [abg.mp z]
    exact ⟨i,by omega,rfl,xb'⟩
 ·rintro σ H2 ⟨o5,o6,us,pins,rfl,s2,e2,pp,gp,lpi,nm⟩
  refine ⟨_,rfl,q lp us pins H2 s2 BQ e2 (Paired.bV pp fun _ _ z=>z.r) gp (by omega)⟩
inductive wH (K:Frag)(vs:ζ)(H:Hp)(Q:VK)(E_:XK):Prop
|mk (sA pA:abA)(ns:ξ)(us:ζ)(pins:ι)(_:vs=[.ref sA,.ref pA])(_:aT K H sA (ns.map V.int))(_:H pA=some (.lst us))(_:us.length=pins.length)(_:(pins.map (·.nm)).Nodup)(_:pins.length<=6)(_:∀(l:abA)(iz :ζ)(bars:ς)(H':Hp),ao H H' ->H l=none->H' l=some (.lst iz)->Paired (jk K H' pins) iz bars->oW pins bars->bars.length<=7->(∀b∈bars,b.nm≠ "more0"/\b.nm≠ "more1")->Q (.ref l) H')
def oW.snoc (g:oW pins bars)(h1:b.nm∉bars.map (·.nm))(h2:b.one∈pins/\b.other∈pins/\b.one.nm≠b.other.nm):oW pins (bars++[b]):=by
 refine ⟨?_,fun q hq=>?_⟩
 ·rw [abq,afo]
  refine ⟨g.nb,by simp,fun a ha c hc e=>h1 ?_⟩;have:c=b.nm:=by simpa using hc
  rw [<-this,<-e];exact ha
 ·rcases abj.mp hq with z|z
  ·exact g.ends q z
  ·rw [abg.mp z]
   exact h2
def Rr:∀st:Fin 4,∀a:Fin 6,∀k:Fin 8,nameOf (st.val:Int) (a.val:Int) (k.val:Int)≠ "more0"/\nameOf (st.val:Int) (a.val:Int) (k.val:Int)≠ "more1":=by decide+kernel
def oX:av ["_law_script","_law_pins_here","_law_cell","_law_many","_law_bars_here","_law_k","_law_one","_law_step"] zat (ae JU):=sq
def aa1 (D:Def K mg "_law_bars" JU zat)(bf:mg "range"=none)(aU:mg "len"=none)(lM:ac P w K mg base 1 "_law_cell_at" zak (jQ K))(cE:ac P w K mg base 1 "_law_field" zad fJ)(V_:ac P w K mg base 2 "_law_name" zay wB):
  ac P w K mg base 3 "_law_bars" zat (wH K):=by
 refine D.oo oX fun H hr h=>?_;obtain ⟨sA,pA,ns,us,pins,rfl,hS,hp,lu,np,lp,q⟩:=h;have L3:3<=abE:=by decide
 refine ⟨_,(aa (aG 2 oX.nd (aL lM hr (aI (pv 0) af))) (aa (aG 3 oX.nd (aL cE hr (bD (pv 2) af af))) (aa (bu (bx oG (aH aD rfl aU bS (aX (pv 1))) af) (ag (aG 3 oX.nd af)) aQ) (aa (aG 4 oX.nd (cg jC)) (aa (bq abI rfl (bY rfl bf (aX (pv 3))) (bP 5 oX.nd) (aa (aG 6 oX.nd (aL cE hr (bD (aL lM hr (aI (pv 0) (ay bC af (pv 5)))) af (aH aD rfl aU bS (aX (pv 1)))))) (aa (aG 7 oX.nd (ay bC af (aL cE hr (bD (aL lM hr (aI (pv 0) (ay bC af (pv 5)))) af (ay cG (aH aD rfl aU bS (aX (pv 1))) af))))) (ag (bN (oK ab9 acg ach fe (pv 4) (aX (aV (bD (aL V_ hr (aI (pv 2) (pv 5))) (pv 6) (ay eQ (ay bC (pv 6) (pv 7)) (aH aD rfl aU bS (aX (pv 1))))))))))))) (ag (aC (pv 4)))))))),?_⟩;dsimp only [cxr,jD,Cx.xw,Cx.tu]
 refine ⟨_,rfl,sA,ns,1,rfl,hS,by decide,by decide,?_⟩;generalize cell ns 1=c0;have i1:=aS (c:=c0) (p:=1009) (m:=8) (by decide);refine ⟨_,rfl,_,_,_,rfl,by decide,by decide,by decide,?_⟩;generalize field c0 1009 8=fi at i1 ⊢;obtain ⟨fn,rfl⟩:∃n:Nat,fi=(n:Int):=⟨fi.toNat,by omega⟩;dsimp only;refine jU (fun σ' H'=>∃N:Nat,N<=7/\(0<N->2<=pins.length)/\σ' =[some (.ref sA),some (.ref pA),some (.int c0),some (.int (N:Int)),none,none,none,none]/\H'=H) (fun Nx KI=>?_) ?_
 ·refine ⟨_,rfl,pA,_,rfl,.inl (aT.of hp),_,_,rfl,rfl,_,rfl,?_⟩
  refine bB (fun _=>?_) (fun c=>?_)
  ·exact KI _ _ ⟨0,by omega,by omega,rfl,rfl⟩
  ·have c':¬ (us.length:Int)<2:=fun z=>c (abU z)
   exact KI _ _ ⟨fn,by omega,fun _=>by omega,rfl,rfl⟩
 rintro σ' Hy ⟨N,hN,Zi,rfl,rfl⟩;refine ⟨z0L,?_⟩;intro lb nb;generalize eX:upd _ lb _=H1;have ⟨sb,eb⟩:=nw nb eX;refine ⟨_,rfl,(N:Int),rfl,by omega,by omega,let I:zIv:=fun i σ H'=>Zf fun (o5 o6 o7:Α) (iz :ζ) (bars:ς)=>σ=[ap sA,ap pA,some (.int c0),some (.int (N:Int)),ap lb,o5,o6,o7]/\ao Hy H'/\H' lb=some (.lst iz)/\Paired (jk K H' pins) iz bars/\oW pins bars/\bars.length=i/\∀b∈bars,∃j,j<i/\b.nm=nameOf (field c0 3001 4) (field c0 4001 6) (j:Int);cA (lo:=0) (n:=N) I ⟨none,none,none,[],[],rfl,sb,eb,.nil,⟨by simp,by simp⟩,rfl,by simp⟩ ?_ ?_⟩
 ·rintro i σ H2 hi ⟨o5,o6,o7,iz,bars,rfl,s2,e2,pb,gb,lbi,nm⟩
  have ei:(0:Int)+(i:Int)=(i:Int):=aeO _;rw [ei];have n2:2<=pins.length:=Zi (by omega);have lv:iz.length=bars.length:=abL pb;have sp:=aT.of (K:=K) (s2 _ _ hp);refine ⟨_,rfl,_,rfl,_,_,rfl,rfl,sA,ns,_,rfl,s2.seq hS,by omega,by omega,_,rfl,pA,_,rfl,.inl sp,_,_,_,rfl,by decide,by decide,by omega,?_⟩;have j1:=aS (c:=cell ns (7+(i:Int))) (p:=1009) (m:=(us.length:Int)) (by omega);have j2:=aS (c:=cell ns (7+(i:Int))) (p:=2003) (m:=(us.length:Int)-1) (by omega);refine ⟨_,rfl,_,rfl,_,_,rfl,rfl,sA,ns,_,rfl,s2.seq hS,by omega,by omega,_,rfl,pA,_,rfl,.inl sp,_,_,rfl,rfl,_,_,_,rfl,by decide,by decide,by omega,_,_,rfl,rfl,?_⟩;generalize field (cell ns (7+(i:Int))) 1009 (us.length:Int)=one at j1 ⊢;generalize field (cell ns (7+(i:Int))) 2003 ((us.length:Int)-1)=step at j2 ⊢;obtain ⟨on,rfl⟩:∃n:Nat,one=(n:Int):=⟨one.toNat,by omega⟩
  have oo:∃m:Nat,((on:Int)+(1+step)).fmod (us.length:Int)=(m:Int)/\m<us.length/\m≠on:=by
   have f:=ki (x:=(on:Int)+(1+step)) (m:=(us.length:Int)) (by omega);refine ⟨(((on:Int)+(1+step)).fmod (us.length:Int)).toNat,by omega,by omega,fun z=>?_⟩;have e:((on:Int)+(1+step)).fmod (us.length:Int)=(on:Int):=by omega
   rw [ag8 _ (by omega)] at e;by_cases c:(on:Int)+(1+step)<(us.length:Int)
   ·rw [agF (by omega) c] at e
    omega
   ·rw [<-aiq,agF (by omega) (by omega)] at e
    omega
  obtain ⟨TK,Xq,l2',ne2⟩:=oo;refine ⟨_,rfl,.inl ⟨rfl,_,aT.of e2⟩,_,rfl,_,rfl,_,_,rfl,by omega,by omega,_,rfl,_,rfl,_,rfl,_,_,rfl,rfl,_,rfl,pA,_,rfl,.inl sp,_,_,rfl,rfl,nz (by omega),L3,?_⟩;intro p9 n9;generalize eX:upd _ p9 _=H9;have ⟨s9,e9⟩:=nw n9 eX;have e9:H9 p9=some (.tup [.str (nameOf (field c0 3001 4) (field c0 4001 6) (i:Int)),.int (on:Int),.int (((on:Int)+(1+step)).fmod (us.length:Int))]):=e9;rw [Xq] at e9;have e29:=s9 _ _ e2;refine ⟨lb,_,_,rfl,rfl,e29,(by rw [lv];exact aaZ (show bars.length<=1000 by omega) (by decide)),?_⟩;have l1:on<pins.length:=by omega
  have l2:TK<pins.length:=by omega
  have st:aY H9 (upd H9 lb (.lst (iz ++[.ref p9]))):=.list e29
  have ns9:∀(v:V)(b:aK),jk K H2 pins v b->jk K (upd H9 lb (.lst (iz ++[.ref p9]))) pins v b:=fun v b h=>by
   obtain ⟨a,i',j',e,h1,h2,h3⟩:=h.same s9;exact ⟨a,i',j',e,st.cQ h1,h2,h3⟩
  refine ⟨_,_,_,iz ++[.ref p9],bars++[⟨nameOf (field c0 3001 4) (field c0 4001 6) (i:Int),pins[on],pins[TK]⟩],rfl,fun b o z=>?_,ah,iB (Paired.bV pb fun _ _ z=>ns9 _ _ z) ?_,gb.snoc (fun z=>?_) ⟨aeT l1,aeT l2,fun z=>?_⟩,by simp [lbi],fun b hb=>?_⟩
  ·rw [aj (ak z nb)]
   exact s9 _ _ (s2 _ _ z)
  ·exact ⟨p9,on,TK,rfl,st.cQ (bQ.of e9),gE l1,gE l2⟩
  ·obtain ⟨b,hb,DL⟩:=aar.mp z
   obtain ⟨j,hj,ej⟩:=nm b hb;have i3:=aS (c:=c0) (p:=3001) (m:=4) (by decide);have i4:=aS (c:=c0) (p:=4001) (m:=6) (by decide)
   have:=yN ⟨(field c0 3001 4).toNat,by omega⟩ ⟨(field c0 4001 6).toNat,by omega⟩ ⟨j,by omega⟩ ⟨i,by omega⟩ (fun z=>by
    have:=abR Fin.val z;simp at this
    omega)
   refine this ?_;show nameOf (((field c0 3001 4).toNat:Nat):Int) (((field c0 4001 6).toNat:Nat):Int) (j:Int)=nameOf (((field c0 3001 4).toNat:Nat):Int) (((field c0 4001 6).toNat:Nat):Int) (i:Int);rw [show (((field c0 3001 4).toNat:Nat):Int)=field c0 3001 4 by omega,show (((field c0 4001 6).toNat:Nat):Int)=field c0 4001 6 by omega,<-ej];exact DL
  ·have q1:(pins.map (·.nm))[on]?=some pins[on].nm:=by rw [aaa,gE l1];rfl
   have q2:(pins.map (·.nm))[TK]?=some pins[on].nm:=by rw [aaa,gE l2];exact abR some z.symm
   exact ne2 ((ae7 (by rw [ir];omega) np).mp (q1.trans q2.symm)).symm
  ·rcases abj.mp hb with z|z
   ·obtain ⟨j,hj,ej⟩:=nm b z
    exact ⟨j,by omega,ej⟩
   ·rw [abg.mp z]
    exact ⟨i,by omega,rfl⟩
 ·rintro σ H2 ⟨o5,o6,o7,iz,bars,rfl,s2,e2,pb,gb,lbi,nm⟩
  exact ⟨_,rfl,q lb iz bars H2 s2 nb e2 pb gb (by omega) fun b hb=>by
   obtain ⟨j,hj,ej⟩:=nm b hb;have i3:=aS (c:=c0) (p:=3001) (m:=4) (by decide);have i4:=aS (c:=c0) (p:=4001) (m:=6) (by decide);have:=Rr ⟨(field c0 3001 4).toNat,by omega⟩ ⟨(field c0 4001 6).toNat,by omega⟩ ⟨j,by omega⟩;rw [show ((⟨(field c0 3001 4).toNat,by omega⟩:Fin 4).val:Int)=field c0 3001 4 by show (((field c0 3001 4).toNat:Nat):Int)=_;omega,show ((⟨(field c0 4001 6).toNat,by omega⟩:Fin 6).val:Int)=field c0 4001 6 by show (((field c0 4001 6).toNat:Nat):Int)=_;omega] at this;rw [ej]
   exact this⟩
def Rt (v:V):afh ("ways":Str) [(("way":Str),v)]=none:=by
 have h:(("ways":Str)=="way")=false:=by decide+kernel
 simp [afh,h]
inductive rT (K:Frag)(C:abA)(vs:ζ)(H:Hp)(Q:VK)(E_:XK):Prop
|mk (pA bA:abA)(us iz :ζ)(pins:ι)(bars:ς)(_:vs=[.ref pA,.ref bA])(_:H pA=some (.lst us))(_:Paired (h_ K H) us pins)(_:H bA=some (.lst iz))(_:Paired (jk K H pins) iz bars)(_:jT pins)(_:oW pins bars)(_:pins.length<=9)(_:bars.length<=14)(_:∀(a:abA)(H':Hp),ao H H' ->sW K H' C a pins bars->Q (.ref a) H')
def oY:av ["_law_pins_here","_law_bars_here","_law_frame_here","_law_name_here","_law_spot_here","_law_ways_here","_law_one","_law_other"] zaq (ae JV):=sq
def aa2 {C CR CF fI fR:abA}(D:Def K mg "_law_frame" JV zaq)(aU:mg "len"=none)(V':Mk K C fI)(Wa:mg "Frame"=some (.ref C))(ahO:am P w K mg base 1 fI fdI zai (vS K C))(Wb:Binds K fdI zai [])
  (Wc:mg "Roller"=some (.ref CR)) (Wd:mg "Fixed"=some (.ref CF)) (We:Yr K CF) (Wf:Mk K CR fR) (ahP:am P w K mg base 1 fR fdR zaH (vT K CR)) (Wg:Binds K fdR zaH [])
  (wR:ad P w K mg base 2 CR "ways" zai (mM K CR)) (wF:ad P w K mg base 2 CF "ways" zai (mN K))
  (Xr:ad P w K mg base 3 C "put_bar" zaf (jN K C)) (MPp:ad P w K mg base 3 C "put_pin" zaw (fZ P w K mg base C)) (MPd:A_ P w K mg base (aZ P w) 3 C "put_pin" zaw [.none] (fZ P w K mg base C)):
  ac P w K mg base 4 "_law_frame" zaq (rT K C):=by
 refine D.op oY fun f ck A outer s H vs Q E hr h=>?_;obtain ⟨pA,bA,us,iz,pins,bars,rfl,hp,pp,hb,pb,gp,gb,lp6,lb8,q⟩:=h;have lu:us.length=pins.length:=abL pp
 refine ⟨_,(aa (aG 2 oY.nd (LY V' ahO hr.mo rfl Wa Wb .nil (pY P w))) (aa (bq abI rfl (bo (pv 0)) (fE rfl (a_ (bP 3 oY.nd) (a_ (bP 4 oY.nd) (a_ (bP 5 oY.nd) cX)))) (aa (bu (bx e_ (aH aD rfl aU bS (aX (pv 5))) af) (ag (bN (QC (k:=3) (pv 2) hr.mo (pY P w) (bD (pv 3) (aF (pv 4)) (aF (pv 4)))))) aQ) (aa (bu (bx e_ (aH aD rfl aU bS (aX (pv 5))) af) (ag (bN (eC (k:=3) (pv 2) hr.mo (pY P w) (pM (pv 3) (bD (aF (pv 4)) (aF (pv 4)) (Qj Wf ahP hr.mo rfl Wc Wg .nil (pY P w) (aI (aF (uO (pv 5))) (aF (uO (pv 5)))))))))) aQ) (ag (bu (bx e_ (aH aD rfl aU bS (aX (pv 5))) af) (ag (bN (eC (k:=3) (pv 2) hr.mo (pY P w) (pM (pv 3) (bD (aF (pv 4)) (aF (pv 4)) (UZ We rfl Wd)))))) aQ))))) (aa (bq abI rfl (bo (pv 1)) (fE rfl (a_ (bP 3 oY.nd) (a_ (bP 6 oY.nd) (a_ (bP 7 oY.nd) cX)))) (ag (bN (eC (k:=3) (pv 2) hr.mo (pY P w) (bD (pv 3) (aF (bE aR (pv 0) (pv 6))) (aF (bE aR (pv 0) (pv 7)))))))) (ag (aC (pv 2)))))),?_⟩;dsimp only [cxr,jD,Cx.xw,Cx.tu];refine sq3 ?_;intros
 intro a dx na ndx nad;have sF:ao H (upd (upd H dx (.own a)) a (.ins C dx [])):=fun b o e=>by rw [aj (ak e na),aj (ak e ndx)];exact e
 refine ⟨a,dx,rfl,ah,fun pP pW pB H1 k1 nP nW nB R1=>⟨rfl,?_⟩⟩;have s1:ao H H1:=fun b o e=>k1 b o (ak e na) (sF _ _ e);have nP:=nV sF nP;have nW:=nV sF nW;have nB:=nV sF nB
 refine ⟨_,rfl,pA,rfl,⟨_,aT.of (s1 _ _ hp)⟩,let I:zIv:=fun i σ H'=>Zf fun (o4 o5 o6:Α) (kP kW:γ)=>σ=[ap pA,ap bA,ap a,o4,o5,o6,none,none]/\ao H H'/\fS K H' C a dx pP pW pB ((pins.take i).map fun p=>(p.nm,xy p.sp)) [] kP kW []/\vG K H' ((pins.take i).map fun p=>(p.nm,p.ws)) kW;bW (K:=K) (a:=pA) (xs:=us) I ⟨none,none,none,[],[],rfl,s1,R1,.nil⟩ (fun i σ H' _ h=>by
   obtain ⟨_,_,_,_,_,_,s,_⟩:=h
   exact aT.of (s _ _ hp)) ?_ ?_⟩
 ·rintro i u σ H2 hu ⟨o4,o5,o6,kP,kW,rfl,s2,R2,W2⟩
  obtain ⟨p,ep,N6⟩:=aA pp hu;have mp:p∈pins:=aaq ep;obtain ⟨ta,l,sv,ws,rfl,h1,h2,h3,h4⟩:=N6.same s2;obtain ⟨sa,x1,y1,rfl,Rq,hn1,W8⟩:=h2;refine ⟨ta,_,rfl,h1,rfl,_,_,rfl,_,_,rfl,_,_,rfl,rfl,?_⟩;have tk:=take_snoc ep;have il:i<pins.length:=(Wp.mp ep).1;have nlP:l≠pP:=fun z=>by rw [z,R2.pl] at h3;cases h3
  have nlW:l≠pW:=fun z=>by rw [z,R2.wy] at h3;cases h3
  have fin:∀(hv:V)(H5:Hp)(Q5:VK)(E5:XK),ao H2 H5->Tt P w K mg base H5 hv p.ws->
    (∀H' NA yj,ao H H' ->H' l=some (.lst ws)->fS K H' C a dx pP pW pB ((pins.take (i+1)).map fun p=>(p.nm,xy p.sp)) [] NA yj []->vG K H' ((pins.take (i+1)).map fun p=>(p.nm,p.ws)) yj ->Q5 .cT H')->fZ P w K mg base C [.ref a,.str p.nm,x1,y1,hv] H5 Q5 E5:=fun hv H5 Q5 E5 s5 hY fin=>by
   refine ⟨a,dx,pP,pW,pB,_,_,kP,kW,_,_,p.nm,x1,y1,hv,xy p.sp,p.ws,rfl,R2.same s5,W2.same s5,by rw [ab_,ab_];rfl,hn1.same s5,W8.same s5,fun z=>?_,fun z hz e=>?_,?_,hY,fun H' NA yj k' R' W'=>?_⟩
   ·rw [ab_] at z
    obtain ⟨p',ia,e'⟩:=aar.mp z;exact g7 (nm:=aw.nm) gp.np ep ia e'
   ·obtain ⟨p',ia,e'⟩:=aar.mp hz
    rw [<-e'] at e;have e1:=abR aoJ e;have e2:=abR aoK e;have e3:p'.sp=p.sp:=ahU (kY e1) (kY e2);obtain ⟨j,hj,ej⟩:=aeR.mp ia;rw [agz] at ej;rw [abv] at hj;have q1:(pins.map (·.sp))[j]?=some p.sp:=by rw [aaa,gE (by omega),ej,<-e3];rfl
    have q2:(pins.map (·.sp))[i]?=some p.sp:=by rw [aaa,ep];rfl
    have:=(ae7 (by rw [ir];omega) gp.ns).mp (q1.trans q2.symm);omega
   ·rw [ir,abv]
    omega
   ·refine fin H' NA yj (fun b o z=>k' b o (ak z nP) (ak z nW) (s5 _ _ (s2 _ _ z))) (k' _ _ nlP nlW (s5 _ _ h3)) ?_ ?_
    ·rw [tk,abq]
     exact R'
    ·rw [tk,abq]
     exact W'
  have l2:=aT.of (K:=K) h3;have lw:ws.length=p.ws.length:=abL h4;refine ⟨_,rfl,l,_,rfl,.inl l2,rfl,_,rfl,?_⟩
  rcases gp.ws p mp with hw|⟨wx,wy,hw,wn,_,_⟩|hw
  ·rw [hw] at lw
   refine bB (fun _=>?_) (fun c=>by rw [lw] at c;simp at c);refine ⟨_,rfl,a,C,dx,_,_,_,rfl,R2.obj,rfl,MPd,_,rfl,_,rfl,sa,_,_,_,rfl,rfl,Rq,iU,_,rfl,sa,_,_,_,rfl,rfl,Rq,iu,?_⟩;dsimp only [gj];refine fin .cT H2 _ _ (ao.refl _) (.inl ⟨rfl,hw⟩) fun H' NA yj s' l' R' W'=>?_;have l':=aT.of (K:=K) l';refine ⟨_,rfl,l,_,rfl,.inl l',rfl,_,rfl,bB (fun c=>by rw [lw] at c;simp at c) (fun _=>?_)⟩;refine ⟨_,rfl,l,_,rfl,.inl l',rfl,_,rfl,bB (fun c=>by rw [lw] at c;simp at c) (fun _=>?_)⟩;exact ⟨_,_,_,NA,yj,rfl,s',R',W'⟩
  ·rw [hw] at lw h4
   obtain ⟨w0,rfl⟩:=agG.mp lw
   have hw0:gc K H2 w0 (wx,wy):=by
    cases h4 with
    | cons h _=>exact h
   obtain ⟨wa,y2,y3,rfl,Ld,Xb,hm2⟩:=hw0;refine bB (fun c=>by simp at c) (fun _=>?_);refine ⟨_,rfl,l,_,rfl,.inl l2,rfl,_,rfl,bB (fun _=>?_) (fun c=>abM rfl c)⟩;refine ⟨_,rfl,a,C,dx,_,_,_,rfl,R2.obj,rfl,MPp,_,rfl,_,rfl,sa,_,_,_,rfl,rfl,Rq,iU,_,rfl,sa,_,_,_,rfl,rfl,Rq,iu,_,rfl,l,_,_,_,rfl,rfl,l2,rfl,wa,_,_,_,rfl,rfl,Ld,iU,_,rfl,l,_,_,_,rfl,rfl,l2,rfl,wa,_,_,_,rfl,rfl,Ld,iu,?_⟩;intro kq d1 nh1 nd1 ne1;have s4:ao H2 (upd (upd H2 d1 (.own kq)) kq (.ins CR d1 [])):=fun b o e=>by rw [aj (ak e nh1),aj (ak e nd1)];exact e
   have e4:(upd (upd H2 d1 (.own kq)) kq (.ins CR d1 [])) kq =some (.ins CR d1 []):=ah;generalize upd (upd H2 d1 (.own kq)) kq (.ins CR d1 [])=H4 at s4 e4 ⊢;refine ⟨kq,d1,y2,y3,wx,wy,rfl,e4,Xb.same s4,hm2.same s4,wn,fun p5 n5=>⟨rfl,?_⟩⟩;have Le:p5≠kq :=fun z=>by rw [z,e4] at n5;cases n5
   have s5:ao H2 (upd (upd H4 p5 (.tup [y2,y3])) kq (.ins CR d1 [("way",.ref p5)])):=fun b o e=>by
    have z:b≠kq :=fun z=>by rw [z,nh1] at e;cases e
    rw [aj z];exact aE n5 _ _ _ (s4 _ _ e)
   have e5:(upd (upd H4 p5 (.tup [y2,y3])) kq (.ins CR d1 [("way",.ref p5)])) kq =some (.ins CR d1 [("way",.ref p5)]):=ah;have t5:(upd (upd H4 p5 (.tup [y2,y3])) kq (.ins CR d1 [("way",.ref p5)])) p5=some (.tup [y2,y3]):=by rw [aj Le,ah]
   generalize upd (upd H4 p5 (.tup [y2,y3])) kq (.ins CR d1 [("way",.ref p5)])=H5 at s5 e5 t5 ⊢;have ahS:gc K H5 (.ref p5) (wx,wy):=uW t5 (Xb.same s5) (hm2.same s5);dsimp only [gj];refine fin (.ref kq) H5 _ _ s5 (.inr ⟨kq,CR,d1,_,zai,mM K CR,rfl,e5,Rt _,wR,fun H6 e6 t6 Q' an=>⟨kq,d1,p5,(wx,wy),rfl,e6,ahS.aJ t6,by rw [hw] at an;exact an⟩⟩) fun H' NA yj s' l' R' W'=>?_;refine ⟨_,rfl,l,_,rfl,.inl (aT.of (K:=K) l'),rfl,_,rfl,bB (fun c=>by simp at c) (fun _=>?_)⟩;exact ⟨_,_,_,NA,yj,rfl,s',R',W'⟩
  ·rw [hw] at lw
   refine bB (fun c=>by rw [lw] at c;simp at c) (fun _=>?_);refine ⟨_,rfl,l,_,rfl,.inl l2,rfl,_,rfl,bB (fun c=>by rw [lw] at c;simp at c) (fun _=>?_)⟩;refine ⟨_,rfl,l,_,rfl,.inl l2,rfl,_,rfl,bB (fun _=>?_) (fun c=>by rw [lw] at c;simp at c)⟩;refine ⟨_,rfl,a,C,dx,_,_,_,rfl,R2.obj,rfl,MPp,_,rfl,_,rfl,sa,_,_,_,rfl,rfl,Rq,iU,_,rfl,sa,_,_,_,rfl,rfl,Rq,iu,?_⟩;intro kq d1 nh1 nd1 ne1;have s4:ao H2 (upd (upd H2 d1 (.own kq)) kq (.ins CF d1 [])):=fun b o e=>by rw [aj (ak e nh1),aj (ak e nd1)];exact e
   have e4:(upd (upd H2 d1 (.own kq)) kq (.ins CF d1 [])) kq =some (.ins CF d1 []):=ah;generalize upd (upd H2 d1 (.own kq)) kq (.ins CF d1 [])=H4 at s4 e4 ⊢;dsimp only [gj];refine fin (.ref kq) H4 _ _ s4 (.inr ⟨kq,CF,d1,_,zai,mN K,rfl,e4,rfl,wF,fun H6 _ _ Q' an=>⟨kq,rfl,by rw [hw] at an;exact an⟩⟩) fun H' NA yj s' l' R' W'=>?_;exact ⟨_,_,_,NA,yj,rfl,s',R',W'⟩
 ·rintro σ H2 ⟨o4,o5,o6,kP,kW,rfl,s2,R2,W2⟩
  rw [lu,aeA] at R2 W2;have lv:iz.length=bars.length:=abL pb
  refine ⟨_,rfl,bA,rfl,⟨_,aT.of (s2 _ _ hb)⟩,let I:zIv:=fun i σ H'=>Lk fun (o3 o7 o8:Α) (kB:γ)=>σ=[ap pA,ap bA,ap a,o3,o5,o6,o7,o8]/\ao H H'/\fS K H' C a dx pP pW pB (pins.map fun p=>(p.nm,xy p.sp)) ((bars.take i).map fun b=>(b.nm,b.one.nm,b.other.nm)) kP kW kB/\vG K H' (pins.map fun p=>(p.nm,p.ws)) kW;bW (K:=K) (a:=bA) (xs:=iz) I ⟨_,none,none,[],rfl,s2,R2,W2⟩ (fun i σ H' _ h=>by
    obtain ⟨_,_,_,_,_,s,_⟩:=h
    exact aT.of (s _ _ hb)) ?_ ?_⟩
  ·rintro i u σ H3 hu ⟨o3,o7,o8,kB,rfl,s3,R3,W3⟩
   obtain ⟨b,ebr,O6⟩:=aA pb hu;have mb:b∈bars:=aaq ebr;obtain ⟨ta,i1,j1,rfl,h1,g1,g2⟩:=O6.same s3;obtain ⟨m1,m2,m3⟩:=gb.ends b mb;have tk:=take_snoc ebr;have il:i<bars.length:=(Wp.mp ebr).1
   have aa3 :∀(k:Nat)(p:aw),pins[k]?=some p->∃(c la:abA)(sv:V),iZ us (k:Int)=some (.ref c)/\bQ K H3 c [.str p.nm,sv,.ref la]:=fun k p ek=>by
    obtain ⟨u',eu',hu'⟩:=aA (cO pp) ek;obtain ⟨c,la,sv,ws,rfl,q1,_⟩:=h_.same hu' s3;exact ⟨c,la,sv,bG eu',q1⟩
   obtain ⟨c1,la1,sv1,ea1,q1⟩:=aa3 _ _ g1;obtain ⟨c2,la2,sv2,ea2,q2⟩:=aa3 _ _ g2;refine ⟨ta,_,rfl,h1,rfl,_,_,rfl,_,_,rfl,_,_,rfl,rfl,?_⟩;have lp3:=aT.of (K:=K) (s3 _ _ hp);refine ⟨_,rfl,a,C,dx,_,_,_,rfl,R3.obj,rfl,Xr,_,rfl,_,rfl,_,rfl,pA,_,_,_,rfl,rfl,lp3,ea1,c1,_,_,_,rfl,rfl,q1,rfl,_,rfl,_,rfl,pA,_,_,_,rfl,rfl,lp3,ea2,c2,_,_,_,rfl,rfl,q2,rfl,?_⟩;refine ⟨a,dx,pP,pW,pB,_,_,kP,kW,kB,b.nm,b.one.nm,b.other.nm,rfl,R3,fun z=>?_,?_,?_,m3,?_,fun H' NG k' R'=>?_⟩
   ·rw [ab_] at z
    obtain ⟨b',ff,e'⟩:=aar.mp z;exact g7 (nm:=aK.nm) gb.nb ebr ff e'
   ·rw [ab_]
    exact aar.mpr ⟨_,m1,rfl⟩
   ·rw [ab_]
    exact aar.mpr ⟨_,m2,rfl⟩
   ·rw [ir,abv]
    omega
   ·refine ⟨_,_,_,NG,rfl,fun c o z=>k' c o (ak z nB) (s3 _ _ z),?_,?_⟩
    ·rw [tk,abq]
     exact R'
    ·refine Paired.bV W3 fun p' kv z=>⟨z.1,?_⟩
     obtain ⟨l',mI,z1,z2,z3⟩:=z.2;refine ⟨l',mI,z1,k' _ _ (fun z=>by rw [z,R3.br] at z2;cases z2) z2,z3.aJ fun c xs r=>?_⟩
     rcases r with r|⟨o',r⟩
     ·exact .inl (k' _ _ (fun e=>by rw [e,R3.br] at r;cases r) r)
     ·exact .inr ⟨o',k' _ _ (fun e=>by rw [e,R3.br] at r;cases r) r⟩
  ·rintro σ H3 ⟨o3,o7,o8,kB,rfl,s3,R3,W3⟩
   rw [lv,aeA] at R3;exact ⟨_,rfl,q a H3 s3 ⟨dx,pP,pW,pB,kP,kW,kB,R3,W3⟩⟩
def ax (k:Int)(p:Rat×Rat):Rat:=if k=0 then p.1 else p.2
def N7 (hk:k=0\/k=1)(h:gc K H v p):∃(a:abA)(xs:ζ)(u:V),v=.ref a/\bQ K H a xs/\iZ xs k=some u/\cU K H u (ax k p):=by
 obtain ⟨a,u1,u2,rfl,hq,h1,h2⟩:=h
 rcases hk with rfl|rfl
 ·exact ⟨a,_,u1,rfl,hq,rfl,h1⟩
 ·exact ⟨a,_,u2,rfl,hq,rfl,h2⟩
def N8 (h:Sz n p.1/\Sz n p.2):Sz n (ax k p):=by
 unfold ax;split
 ·exact h.1
 ·exact h.2
def N9 {us:ζ}{pins:ι}{k:Nat}(pp:Paired (h_ K H) us pins)(e:pins[k]?=some p):∃(c la:abA)(sv:V),iZ us (k:Int)=some (.ref c)/\bQ K H c [.str p.nm,sv,.ref la]/\gc K H sv p.sp:=by
 obtain ⟨u',eu',hu'⟩:=aA (cO pp) e;obtain ⟨c,la,sv,ws,rfl,q1,q2,_⟩:h_ K H u' p:=hu';exact ⟨c,la,sv,bG eu',q1,q2⟩
inductive CJ (K:Frag)(vs:ζ)(H:Hp)(Q:VK)(E_:XK):Prop
|mk (pA:abA)(us:ζ)(pins:ι)(u:V)(b:aK)(k:Int)(_:vs=[.ref pA,u,.int k])(_:H pA=some (.lst us))(_:Paired (h_ K H) us pins)(_:jT pins)(_:jk K H pins u b)(_:(k=0\/k=1))(_:∀(v:V)(H':Hp),ao H H' ->ju K H' v 49 (ax k b.other.sp-ax k b.one.sp)->Q v H')
def aa4:av zan zan (ae JW):=sq
def aa5 (D:Def K mg "_law_arm" JW zan)(rS:ac P w K mg base 1 "_law_sum" zac (cK K iL))(Wh:ac P w K mg base 1 "_law_turned" zaG (jg K)):
  ac P w K mg base 2 "_law_arm" zan (CJ K):=by
 refine D.oo aa4 fun H hr h=>?_;obtain ⟨pA,us,pins,u,b,k,rfl,hp,pp,gp,⟨ta,i,j,rfl,hb,e1,e2⟩,hk,q⟩:=h;refine ⟨_,(ag (aC (aL rS hr (aI (bE nq (aF (bE aR (pv 0) (aF (pv 1)))) (pv 2)) (aL Wh hr (aX (bE nq (aF (bE aR (pv 0) (aF (pv 1)))) (pv 2)))))))),?_⟩;obtain ⟨c1,l1,sv1,ea1,q1,r1⟩:=N9 pp e1;obtain ⟨c2,l2,sv2,ea2,q2,r2⟩:=N9 pp e2;obtain ⟨a1,xs1,u1,rfl,t1,v1,n1⟩:=N7 hk r1;obtain ⟨a2,xs2,u2,rfl,t2,v2,n2⟩:=N7 hk r2;have z1:=N8 (k:=k) (gp.sz _ (aaq e1));have z2:=N8 (k:=k) (gp.sz _ (aaq e2));have lp:=aT.of (K:=K) hp;refine ⟨_,rfl,_,rfl,ta,_,_,_,rfl,rfl,hb,rfl,pA,_,_,_,rfl,rfl,lp,ea2,c2,_,_,_,rfl,rfl,q2,rfl,_,rfl,a2,_,_,_,rfl,rfl,t2,v2,_,rfl,_,rfl,ta,_,_,_,rfl,rfl,hb,rfl,pA,_,_,_,rfl,rfl,lp,ea1,c1,_,_,_,rfl,rfl,q1,rfl,_,rfl,a1,_,_,_,rfl,rfl,t1,v1,?_⟩;dsimp only [gj];show jg K [_] _ _ E0;refine yM (iK n1 (jq z1 (aaA _))) fun p3 H3 s3 n3=>?_;show cK K iL [_,_] _ _ E0;refine mR ((iK n2 (jq z2 (aaA _))).same s3) n3 (by decide) fun p4 H4 s4 n4=>?_;refine q (.ref p4) H4 (s3.trans s4) ?_;rw [Rat.sub_eq_add_neg];exact n4
inductive CK (K:Frag)(vs:ζ)(H:Hp)(Q:VK)(E_:XK):Prop
|mk (l1 l2:abA)(u1 u2 v1 v2:V)(x1 x2 y1 y2:Rat)(m n:Nat)(_:vs=[.ref l1,.ref l2])(_:(aT K H l1 [u1,u2]\/bQ K H l1 [u1,u2]))(_:(aT K H l2 [v1,v2]\/bQ K H l2 [v1,v2]))(_:ju K H u1 m x1)(_:ju K H u2 m x2)(_:ju K H v1 n y1)(_:ju K H v2 n y2)(_:m+n<=30000000)(_:∀(v:V)(H':Hp),ao H H' ->ju K H' v (m+n+(m+n)+1) (x1*y1+x2*y2)->Q v H')
def aa6:av zac zac (ae J'):=sq
def aa7 (D:Def K mg "_law_dot" J' zac)(rS:ac P w K mg base 1 "_law_sum" zac (cK K iL))(N_:ac P w K mg base 1 "_law_times" zac (cK K oz)):
  ac P w K mg base 2 "_law_dot" zac (CK K):=by
 refine D.oo aa6 fun H hr h=>?_;obtain ⟨l1,l2,u1,u2,v1,v2,x1,x2,y1,y2,m,n,rfl,h1,h2,a1,a2,b1,b2,le,q⟩:=h;refine ⟨_,(ag (aC (aL rS hr (aI (aL N_ hr (aI (bE ET (pv 0) af) (bE ET (pv 1) af))) (aL N_ hr (aI (bE ET (pv 0) af) (bE ET (pv 1) af))))))),_,rfl,l1,_,_,_,rfl,rfl,h1,rfl,_,rfl,l2,_,_,_,rfl,rfl,h2,rfl,?_⟩;dsimp only [gj];show cK K oz [_,_] _ _ E0;refine qA a1 b1 (by omega) fun p3 H3 s3 n3=>?_;refine ⟨_,rfl,l1,_,_,_,rfl,rfl,(h1.imp s3.seq (Ty.ao.cQ s3)),rfl,_,rfl,l2,_,_,_,rfl,rfl,(h2.imp s3.seq (Ty.ao.cQ s3)),rfl,?_⟩;dsimp only [gj];show cK K oz [_,_] _ _ E0;refine qA (a2.same s3) (b2.same s3) (by omega) fun p4 H4 s4 n4=>?_;show cK K iL [_,_] _ _ E0;refine mR (n3.same s4) n4 (by omega) fun p5 H5 s5 n5=>?_;exact q (.ref p5) H5 (s3.trans (s4.trans s5)) n5
structure Found (K:Frag)(H:Hp)(fA:abA)(ls:ω)(F:Nat->Rat×Rat)(B:Nat):Prop where
 hf:H fA=some (.lst (ls.map V.ref))
 nd:ls.Nodup
 nf:fA∉ls
 row:∀(i:Nat)(l:abA),ls[i]?=some l->∃v1 v2,H l=some (.lst [v1,v2])/\ju K H v1 B (F i).1/\ju K H v2 B (F i).2
def KL (ls:ω)(H H':Hp):Prop:=∀b o,b∉ls->H b=some o->H' b=some o
def Found.same (h:Found K H fA ls F B)(s:ao H H'):Found K H' fA ls F B:=⟨s _ _ h.hf,h.nd,h.nf,fun i l e=>by
 obtain ⟨v1,v2,a,b,c⟩:=h.row i l e
 exact ⟨v1,v2,s _ _ a,b.same s,c.same s⟩⟩
def Found.up (h:Found K H fA ls F B)(l:B<=B'):Found K H fA ls F B':=⟨h.hf,h.nd,h.nf,fun i x e=>by
 obtain ⟨v1,v2,a,b,c⟩:=h.row i x e
 exact ⟨v1,v2,a,b.up l,c.up l⟩⟩
def Found.aJ (h:Found K H fA ls F B)(k:KL ls H H'):aY H H':=fun b xs r=>by
 have key:∀o,H b=some o->(∀ys,o≠.lst ys)->H' b=some o:=fun o e n=>k b o (fun m=>by
  obtain ⟨i,ei⟩:=abh m;obtain ⟨v1,v2,a,_⟩:=h.row i b ei;rw [a] at e
  exact n _ (aen e).symm) e
 rcases r with r|⟨o',r⟩
 ·exact .inl (key _ r fun ys z=>nomatch z)
 ·exact .inr ⟨o',key _ r fun ys z=>nomatch z⟩
noncomputable def fF (F:Nat->Rat×Rat)(k:Nat)(a:Int)(d:Rat):Nat->Rat×Rat:=fun i=>if i=k then (if a=0 then ((F i).1+d,(F i).2) else ((F i).1,(F i).2+d)) else F i
def wI (ha:a=0\/a=1)(hc:c=0\/c=1)(i:Nat):ax c (fF F k a d i)=ax c (F i)+if i=k/\c=a then d else 0:=by
 unfold fF ax;by_cases hi:i=k
 ·subst hi
  rcases ha with rfl|rfl<;>rcases hc with rfl|rfl<;>simp<;>grind
 ·simp [hi]
  grind
inductive CL (K:Frag)(vs:ζ)(H:Hp)(Q:VK)(E_:XK):Prop
|mk (fA:abA)(ls:ω)(F:Nat->Rat×Rat)(B:Nat)(k:Nat)(a:Int)(v:V)(m:Nat)(d:Rat)(_:vs=[.ref fA,.int (k:Int),.int a,v])(_:Found K H fA ls F B)(_:k<ls.length)(_:(a=0\/a=1))(_:ju K H v m d)(_:B+m<=130000000)(_:∀(H':Hp),KL ls H H' ->Found K H' fA ls (fF F k a d) (B+m+1)->Q .cT H')
def aa8:av zaj zaj (ae JX):=sq
def aa9 (D:Def K mg "_law_add" JX zaj)(rS:ac P w K mg base 1 "_law_sum" zac (cK K iL)):
  ac P w K mg base 2 "_law_add" zaj (CL K):=by
 refine D.oo aa8 fun H hr h=>?_;obtain ⟨fA,ls,F,B,k,a,v,m,d,rfl,hF,hk,ha,nv,le,q⟩:=h;refine ⟨_,(ag (vc (aL rS hr (aI (bE aR (bE aR (pv 0) (pv 1)) (pv 2)) (pv 3))) (AG (bE aR (pv 0) (pv 1)) (pv 2) set_list))),?_⟩;obtain ⟨l,el⟩:∃l,ls[k]?=some l:=⟨_,gE hk⟩;obtain ⟨v1,v2,hl,n1,n2⟩:=hF.row k l el;have ek:iZ (ls.map V.ref) (k:Int)=some (.ref l):=bG (by rw [aaa,el];rfl);have lm:l∈ls:=aaq el;have lf:l≠fA:=fun z=>hF.nf (z▸lm)
 obtain ⟨u,ea,nu⟩:∃u,iZ [v1,v2] a=some u/\ju K H u B (ax a (F k)):=by
  rcases ha with rfl|rfl
  ·exact ⟨v1,rfl,n1⟩
  ·exact ⟨v2,rfl,n2⟩
 refine ⟨_,rfl,_,rfl,fA,_,_,_,rfl,rfl,aT.of hF.hf,ek,_,rfl,l,_,_,_,rfl,rfl,aT.of hl,ea,_,rfl,?_⟩;dsimp only [gj];show cK K iL [_,_] _ _ E0;refine mR nu nv le fun p3 H3 s3 n3=>?_
 obtain ⟨j,ej,hj⟩:∃j,Lc [v1,v2].length a=some j/\((a=0/\j=0)\/(a=1/\j=1)):=by
  rcases ha with rfl|rfl
  ·exact ⟨0,rfl,.inl ⟨rfl,rfl⟩⟩
  ·exact ⟨1,rfl,.inr ⟨rfl,rfl⟩⟩
 refine ⟨_,rfl,_,rfl,fA,_,_,_,rfl,rfl,aT.of (s3 _ _ hF.hf),ek,_,rfl,l,_,_,j,rfl,rfl,s3 _ _ hl,ej,?_⟩;have F3:=hF.same s3
 have kl:KL ls H (upd H3 l (.lst ([v1,v2].set j (.ref p3)))):=fun b o nb e=>by
  rw [aj (fun z=>nb (by rw [z];exact lm))];exact s3 _ _ e
 have k3:KL ls H3 (upd H3 l (.lst ([v1,v2].set j (.ref p3)))):=fun b o nb e=>by
  rw [aj (fun z=>nb (by rw [z];exact lm))];exact e
 have st:=F3.aJ k3;refine q _ kl ⟨?_,hF.nd,hF.nf,fun i l' e=>?_⟩
 ·rw [aj (aeD lf)]
  exact F3.hf
 ·by_cases c:i=k
  ·subst c
   rw [el] at e;cases e;refine ⟨([v1,v2].set j (.ref p3))[0]?.getD .cT,([v1,v2].set j (.ref p3))[1]?.getD .cT,?_,?_,?_⟩
   ·rw [ah]
    rcases hj with ⟨_,rfl⟩|⟨_,rfl⟩<;>rfl
   ·unfold fF
    rw [abC rfl]
    rcases hj with ⟨rfl,rfl⟩|⟨rfl,rfl⟩
    ·exact n3.aJ st
    ·exact ((n1.same s3).aJ st).up (by omega)
   ·unfold fF
    rw [abC rfl]
    rcases hj with ⟨rfl,rfl⟩|⟨rfl,rfl⟩
    ·exact ((n2.same s3).aJ st).up (by omega)
    ·exact n3.aJ st
  ·obtain ⟨w1,w2,g1,g2,g3⟩:=F3.row i l' e
   have nl:l'≠l:=fun z=>c (dO hF.nd e (z▸el));refine ⟨w1,w2,?_,?_,?_⟩
   ·rw [aj nl]
    exact g1
   ·unfold fF
    rw [abB c];exact (g2.aJ st).up (by omega)
   ·unfold fF
    rw [abB c];exact (g3.aJ st).up (by omega)
def df {ys:ζ}:iZ (x::ys) 0=some x:=bG (xs:=x::ys) (j:=0) rfl
structure Lo (K:Frag)(H:Hp)(pA bA:abA)(us vs:ζ)(pins:ι)(bars:ς):Prop where
 hp:H pA=some (.lst us)
 pp:Paired (h_ K H) us pins
 gp:jT pins
 hb:H bA=some (.lst vs)
 pb:Paired (jk K H pins) vs bars
 en:∀b∈bars,b.one.nm≠b.other.nm
 lp:pins.length<=9
 lb:bars.length<=14
def Lo.same (h:Lo K H pA bA us vs pins bars)(s:ao H H'):Lo K H' pA bA us vs pins bars:=⟨s _ _ h.hp,Paired.bV h.pp fun _ _ z=>z.same s,h.gp,s _ _ h.hb,Paired.bV h.pb fun _ _ z=>z.same s,h.en,h.lp,h.lb⟩
structure LFo (K:Frag)(H:Hp)(tA uA:abA)(kT kU:γ)(pins:ι)(bars:ς)(T:Β)(U:υ)(N:Nat):Prop where
 ht:H tA=some (.dK kT)
 pt:∀b∈bars,∃v,bJ kT (.inr b.nm)=some v/\ju K H v N (T b.nm)
 hu:H uA=some (.dK kU)
 pu:∀p∈pins,∃la ys,bJ kU (.inr p.nm)=some (.ref la)/\H la=some (.lst ys)/\Paired (fun v r=>ju K H v N r) ys (U p.nm)
 lU:∀p∈pins,(U p.nm).length=p.ws.length
 hN:N<=1000000
def KL.same (hn:∀l∈ls,H l=none)(s:ao H H6)(k:KL ls H6 H7):ao H H7:=fun b o e=>k b o (fun m=>by rw [hn b m] at e;cases e) (s b o e)
def mV (T:Β)(bs:ς)(a:Int)(p:aw):Rat:=(bs.map fun b=>T b.nm*ax a (mv (cJ b) p.nm)).sum
def CM :mV T (bs++[b]) a p=mV T bs a p+T b.nm*ax a (mv (cJ b) p.nm):=by
 unfold mV;rw [abq,ago,aaw,aez,ad_,ae3];grind
def N' {pins:ι}(nd:(pins.map (·.nm)).Nodup){i j:Nat}(hi:pins[i]?=some p)(hj:pins[j]?=some q)(e:p.nm=q.nm):i=j:=dO nd (x:=q.nm) (by rw [aaa,hi,<-e];rfl) (by rw [aaa,hj];rfl)
def Oa {pins:ι}(nd:(pins.map (·.nm)).Nodup)(hb:b.one.nm≠b.other.nm){i i1 i2:Nat}(hi:pins[i]?=some p)(h1:pins[i1]?=some b.one)(h2:pins[i2]?=some b.other)(t:Rat)(k:Int):
  (if i=i1 then t*(ax k b.other.sp-ax k b.one.sp) else 0)+(if i=i2 then -(t*(ax k b.other.sp-ax k b.one.sp)) else 0)=t*ax k (mv (cJ b) p.nm):=by
 have ZL:i1≠i2:=fun z=>by rw [z,h2] at h1;exact hb (by rw [aen h1])
 unfold mv cJ;by_cases c1:i=i1
 ·subst c1
  rw [h1] at hi;cases hi;rw [abC rfl,abB ZL,abC rfl];show _=t*ax k (jt b.one b.other);unfold ax jt;split<;>grind
 ·rw [abB c1,abB (fun z=>c1 (N' nd hi h1 z))]
  by_cases c2:i=i2
  ·subst c2
   rw [h2] at hi;cases hi;rw [abC rfl,abC rfl];show _=t*ax k (jt b.other b.one);unfold ax jt;split<;>grind
  ·rw [abB c2,abB (fun z=>c2 (N' nd hi h2 z))]
   show (0:Rat)+0=t*ax k (0,0);unfold ax;split<;>grind
inductive rV (K:Frag)(vs:ζ)(H:Hp)(Q:VK)(E_:XK):Prop
|mk (pA bA tA uA:abA)(us ws:ζ)(kT kU:γ)(pins:ι)(bars:ς)(T:Β)(U:υ)(N:Nat)(_:vs=[.ref pA,.ref bA,.ref tA,.ref uA])(_:Lo K H pA bA us ws pins bars)(_:LFo K H tA uA kT kU pins bars T U N)(_:∀(fA:abA)(ls:ω)(F:Nat->Rat×Rat)(H':Hp),ao H H' ->ls.length=pins.length->Found K H' fA ls F (1+92*(N+51))->(∀(i:Nat)(p:aw),pins[i]?=some p->(F i).1=dR bars T U p (·.1)/\(F i).2=dR bars T U p (·.2))->Q (.ref fA) H')
def oZ:av ["_law_pins_here","_law_bars_here","_law_pulls_here","_law_pushes_here","_law_found","_law_bar","_law_axis","_law_draw","_law_k","_law_j"] zaa (ae JY):=sq
def aa' (D:Def K mg "_law_forces" JY zaa)(aU:mg "len"=none)(bf:mg "range"=none)(N_:ac P w K mg base 1 "_law_times" zac (cK K oz))(Wh:ac P w K mg base 1 "_law_turned" zaG (jg K))(ahY:ac P w K mg base 2 "_law_arm" zan (CJ K))(Wi:ac P w K mg base 2 "_law_add" zaj (CL K)):
  ac P w K mg base 3 "_law_forces" zaa (rV K):=by
 refine D.oo oZ fun H hr h=>?_;obtain ⟨pA,bA,tA,uA,us,ws,kT,kU,pins,bars,T,U,N,rfl,fr,fo,q⟩:=h;have L2:2<=abE:=by decide
 have hN:=fo.hN;have lp:=fr.lp;have lb:=fr.lb;have lu:us.length=pins.length:=abL fr.pp;have lw:ws.length=bars.length:=abL fr.pb
 refine ⟨_,(aa (rn (i:=4) (tn:=["_law_pin"]) (fr:=[]) (caps:=[]) oZ.nd (bo (pv 0)) (cg (aI (aV (aI af af)) (aV (aI af af))))) (aa (bq abI rfl (bo (pv 1)) (bP 5 oZ.nd) (ag (bq abI rfl (bY rfl bf (aX af)) (bP 6 oZ.nd) (aa (aG 7 oZ.nd (aL N_ hr (aI (cY (bH hr) (pv 2) (aF (pv 5)) (fun _ _=>rfl)) (aL ahY hr (bD (pv 0) (pv 5) (pv 6)))))) (aa (bN (aL Wi hr (pM (pv 4) (bD (aF (pv 5)) (pv 6) (pv 7))))) (ag (bN (aL Wi hr (pM (pv 4) (bD (aF (pv 5)) (pv 6) (aL Wh hr (aX (pv 7))))))))))))) (aa (bq abI rfl (bY rfl bf (aX (aH aD rfl aU bS (aX (pv 0))))) (bP 8 oZ.nd) (ag (bq abI rfl (bY rfl bf (aX (aH aD rfl aU bS (aX (aF (bE aR (pv 0) (pv 8))))))) (bP 9 oZ.nd) (ag (bq abI rfl (bY rfl bf (aX af)) (bP 6 oZ.nd) (ag (bN (aL Wi hr (pM (pv 4) (bD (pv 8) (pv 6) (aL N_ hr (aI (bE aR (cY (bH hr) (pv 3) (aF (bE aR (pv 0) (pv 8))) (fun _ _=>rfl)) (pv 9)) (bE nq (bE aR (aF (bE aR (pv 0) (pv 8))) (pv 9)) (pv 6)))))))))))))) (ag (aC (pv 4)))))),?_⟩;dsimp only [cxr,jD,Cx.xw,Cx.tu];refine sq3 ?_;intros
 refine ⟨_,rfl,pA,rfl,⟨_,aT.of fr.hp⟩,fun fA n1=>?_⟩;refine rl (cap:=[]) (K:=K) (a:=pA) (xs:=us) (fun ys H'=>∃ls:List abA,ys=ls.map V.ref/\ls.Nodup/\fA∉ls/\∀l∈ls,H l=none/\∃p q:abA,H' l=some (.lst [.ref p,.ref q])/\H' p=some (.tup [.int 0,.int 1])/\H' q=some (.tup [.int 0,.int 1])) n1 (by rw [lu];exact aaZ (show pins.length<=100 by omega) (by decide)) (fun H2 s2=>aT.of (s2 _ _ fr.hp)) ⟨[],rfl,ahW,by simp,fun l h=>by cases h⟩ ?_ ?_
 ·intro i x ys H2 R hx ly hJ s2 hD k
  obtain ⟨ls,rfl,nd,nf,hl⟩:=hJ;refine ⟨L2,?_⟩;intro p3 n3;generalize eX:upd _ p3 _=H3;have ⟨s3,e3⟩:=nw n3 eX;refine ⟨L2,?_⟩;intro p4 n4;generalize eX:upd _ p4 _=H4;have ⟨s4,e4⟩:=nw n4 eX;refine ⟨L2,?_⟩;intro l5 n5;generalize eX:upd _ l5 _=H5;have ⟨s5,e5⟩:=nw n5 eX;have s25:=s3.trans (s4.trans s5);have D5:=s25 _ _ hD;have D4:=s4 _ _ (s3 _ _ hD);refine k _ _ s25 ⟨ls++[l5],by simp,?_,?_,fun l hm=>?_⟩
  ·rw [afo]
   refine ⟨nd,by simp,fun a ha b hb z=>?_⟩;have ff :b=l5:=by simpa using hb
   obtain ⟨_,p,q,h1,_⟩:=hl a ha;rw [z,ff] at h1;rw [s4 _ _ (s3 _ _ h1)] at n5;cases n5
  ·intro z
   rcases abj.mp z with z|z
   ·exact nf z
   ·rw [<-abg.mp z,D4] at n5
    cases n5
  ·rcases abj.mp hm with z|z
   ·obtain ⟨h0,p,q,h1,h2,h3⟩:=hl l z
    refine ⟨h0,p,q,?_,?_,?_⟩
    ·rw [aj (fun e:l=fA=>nf (by rw [<-e];exact z))]
     exact s25 _ _ h1
    ·rw [aj (fun e=>by rw [e,hD] at h2;cases h2)]
     exact s25 _ _ h2
    ·rw [aj (fun e=>by rw [e,hD] at h3;cases h3)]
     exact s25 _ _ h3
   ·have z:=abg.mp z
    subst z;refine ⟨(s2.trans (s3.trans s4)).free n5,p3,p4,?_,?_,?_⟩
    ·rw [aj (fun e=>by rw [e,D4] at n5;cases n5)]
     exact e5
    ·rw [aj (fun e=>by rw [e,hD] at n3;cases n3)]
     exact s5 _ _ (s4 _ _ e3)
    ·rw [aj (fun e=>by rw [e,s3 _ _ hD] at n4;cases n4)]
     exact s5 _ _ e4
 intro ys H2 ly hJ s2 hD;obtain ⟨ls,rfl,nd,nf,hl⟩:=hJ;have hn:∀l∈ls,H l=none:=fun l m=>(hl l m).1;have ll:ls.length=pins.length:=by rw [<-lu,<-ly,ir]
 have z0:∀(p:abA)(H':Hp),H' p=some (.tup [.int 0,.int 1])->ju K H' (.ref p) 1 0:=fun p H' e=>⟨(0,1),⟨p,rfl,bQ.of e⟩,by decide,by decide+kernel,by decide,by decide⟩
 have F0:Found K H2 fA ls (fun _=>(0,0)) (1+0*(4*(N+51))):=⟨hD,nd,nf,fun i l e=>by
  obtain ⟨_,p,q,h1,h2,h3⟩:=hl l (aaq e);rw [agK]
  exact ⟨_,_,h1,z0 p _ h2,z0 q _ h3⟩⟩
 refine ⟨_,rfl,bA,rfl,⟨_,aT.of (s2 _ _ fr.hb)⟩,let I:zIv:=fun t σ H'=>Lk fun (F:Nat->Rat×Rat) (o5 o6 o7:Α)=>σ=[ap pA,ap bA,ap tA,ap uA,ap fA,o5,o6,o7,none,none]/\ao H H'/\Found K H' fA ls F (1+t*(4*(N+51)))/\∀(i:Nat)(p:aw),pins[i]?=some p->∀a:Int,(a=0\/a=1)->ax a (F i)=mV T (bars.take t) a p;bW (K:=K) (a:=bA) (xs:=ws) I ⟨_,none,none,none,rfl,s2,F0,fun i p _ a _=>?_⟩ (fun t σ H' _ h=>by
   obtain ⟨_,_,_,_,_,s',_⟩:=h
   exact aT.of (s' _ _ fr.hb)) ?_ ?_⟩
 ·show ax a (0,0)=0
  unfold ax;split<;>rfl
 ·rintro t bv σ H3 hbv ⟨F,o5,o6,o7,rfl,s3,F3,hF⟩
  have htw:t<ws.length:=(Wp.mp hbv).1;obtain ⟨b,eb,O6⟩:=aA fr.pb hbv;have mb:b∈bars:=aaq eb;obtain ⟨tv,etv,htv⟩:=fo.pt b mb;have bt:t*(4*(N+51))<=13*(4*(N+51)):=aer _ (by omega);generalize hB:1+t*(4*(N+51))=B at F3;refine ⟨(2:Int),rfl,by decide,by decide,let I:zIv:=fun k σ H'=>IS fun (F:Nat->Rat×Rat) (o6 o7:Α)=>σ=[ap pA,ap bA,ap tA,ap uA,ap fA,some bv,o6,o7,none,none]/\ao H H'/\Found K H' fA ls F (B+k*(2*(N+51)))/\∀(i:Nat)(p:aw),pins[i]?=some p->∀a:Int,(a=0\/a=1)->ax a (F i)=mV T (bars.take t) a p+if a<(k:Int) then T b.nm*ax a (mv (cJ b) p.nm) else 0;cA (lo:=0) (n:=2) I ⟨F,o6,o7,rfl,s3,by rw [agK];exact F3,fun i p e a ha=>?_⟩ ?_ ?_⟩
  ·rw [hF i p e a ha,abB (by rcases ha with rfl|rfl<;>decide)]
   grind
  ·rintro k σ H4 hk ⟨F,o6,o7,rfl,s4,F4,hF⟩
   have ek:(0:Int)+(k:Int)=(k:Int):=aeO _;rw [ek];have Xf:(k:Int)=0\/(k:Int)=1:=by omega
   have Wj:=fr.same s4;have bk:k*(2*(N+51))<=1*(2*(N+51)):=aer _ (by omega);obtain ⟨ta,i1,i2,eta,hbt,e1,e2⟩:=O6.same s4;have xY:i1<ls.length:=by rw [ll];exact (Wp.mp e1).1
   have U8:i2<ls.length:=by rw [ll];exact (Wp.mp e2).1
   have dgt:dh H4 tA (.str b.nm) (some tv):=by
    have:=dh.k (k:=.inr b.nm) (s4 _ _ fo.ht);rw [etv] at this;exact this
   subst eta;refine ⟨_,rfl,_,rfl,ta,_,_,_,rfl,rfl,hbt,df,tA,tv,rfl,dgt,_,rfl,_,rfl,_,rfl,pA,us,pins,_,b,(k:Int),rfl,Wj.hp,Wj.pp,fr.gp,O6.same s4,Xf,fun v5 H5 s5 n5=>?_⟩;dsimp only [gj];show cK K oz [_,_] _ _ E0;refine qA ((htv.same s4).same s5) n5 (by omega) fun p6 H6 s6 n6=>?_;have Xo:=s4.trans (s5.trans s6);have F6:=F4.same (s5.trans s6);refine ⟨_,rfl,_,rfl,ta,_,_,_,rfl,rfl,Ty.ao.cQ (s5.trans s6) hbt,rfl,_,rfl,_,rfl,fA,ls,F,_,i1,(k:Int),_,_,_,rfl,F6,xY,Xf,n6,by omega,fun H7 k7 F7=>?_⟩;have s07:=KL.same hn Xo k7;have n7:=n6.aJ (F6.aJ k7);refine ⟨_,rfl,_,rfl,ta,_,_,_,rfl,rfl,(F6.aJ k7).cQ (Ty.ao.cQ (s5.trans s6) hbt),rfl,_,rfl,_,rfl,?_⟩;dsimp only [gj];show jg K [_] _ _ E0;refine yM n7 fun p8 H8 s8 n8=>?_;have F8:=F7.same s8;refine ⟨fA,ls,_,_,i2,(k:Int),_,_,_,rfl,F8,U8,Xf,n8,by omega,fun H9 k9 F9=>?_⟩;have s09:=KL.same hn (s07.trans s8) k9;refine ⟨_,_,_,rfl,s09,F9.up (by rw [ae'];omega),fun i p e a ha=>?_⟩;rw [wI Xf ha,wI Xf ha,hF i p e a ha];have bp:=Oa fr.gp.np (fr.en b mb) e e1 e2 (T b.nm) (k:Int);by_cases ca:a=(k:Int)
   ·subst ca
    rw [abB (c:=(k:Int)<(k:Int)) (by omega),abC (c:=(k:Int)<((k+1:Nat):Int)) (by omega),<-bp];simp only [and_true];grind
   ·have c1:¬ (i=i1/\a=(k:Int)):=fun z=>ca z.2
    have c2:¬ (i=i2/\a=(k:Int)):=fun z=>ca z.2;rw [abB c1,abB c2];by_cases cl:a<(k:Int)
    ·rw [abC cl,abC (c:=a<((k+1:Nat):Int)) (by omega)]
     grind
    ·rw [abB cl,abB (c:=a<((k+1:Nat):Int)) (by omega)]
     grind
  ·rintro σ H4 ⟨F,o6,o7,rfl,s4,F4,hF⟩
   refine ⟨F,_,_,_,rfl,s4,F4.up (by rw [ae',<-hB];omega),fun i p e a ha=>?_⟩;rw [take_snoc eb,CM,hF i p e a ha,abC (by rcases ha with rfl|rfl<;>decide)]
 ·rintro σ H3 ⟨F,o5,o6,o7,rfl,s3,F3,hF⟩
  rw [lw] at F3;rw [lw,aeA] at hF;have bl:bars.length*(4*(N+51))<=14*(4*(N+51)):=aer _ (by omega);generalize hB:1+bars.length*(4*(N+51))=B at F3;have en2:((us.length:Nat):Int).toNat=us.length:=by omega
  refine ⟨_,rfl,pA,_,rfl,.inl (aT.of (s3 _ _ fr.hp)),((us.length:Nat):Int),rfl,by omega,by omega,let I:zIv:=fun k σ H'=>Ex6 fun (F:Nat->Rat×Rat) (o5 o6 o7 o8 o9:Α)=>σ=[ap pA,ap bA,ap tA,ap uA,ap fA,o5,o6,o7,o8,o9]/\ao H H'/\Found K H' fA ls F (B+k*(4*(N+51)))/\∀(i:Nat)(p:aw),pins[i]?=some p->∀a:Int,(a=0\/a=1)->ax a (F i)=mV T bars a p+if i<k then sP (U p.nm) (p.ws.map (ax a)) else 0;cA (lo:=0) (n:=((us.length:Nat):Int).toNat) I ⟨F,o5,o6,o7,none,none,rfl,s3,by rw [agK];exact F3,fun i p e a ha=>?_⟩ ?_ ?_⟩
  ·rw [hF i p e a ha,abB (by omega)]
   grind
  ·rintro k σ H4 hk ⟨F,o5,o6,o7,o8,o9,rfl,s4,F4,hF⟩
   have ek:(0:Int)+(k:Int)=(k:Int):=aeO _;rw [ek];have hku:k<us.length:=by omega
   obtain ⟨p,ep,N6⟩:=aA fr.pp (gE hku);have mp:p∈pins:=aaq ep;obtain ⟨la,ys,exv,hla,py⟩:=fo.pu p mp;have lup:=fo.lU p mp;have lwp:=(fr.gp.ws p mp).len;have ly:ys.length=(U p.nm).length:=abL py;have aku:iZ us (k:Int)=some us[k]:=bG (gE hku);obtain ⟨pa,l,sv,iz,epa,h1,h2,h3,h4⟩:=N6;rw [epa] at aku;have lv:iz.length=p.ws.length:=abL h4;have kp:k<pins.length:=by omega
   have bk:k*(4*(N+51))<=8*(4*(N+51)):=aer _ (by omega);generalize hB2:B+k*(4*(N+51))=B2 at F4;have en3:((iz.length:Nat):Int).toNat=iz.length:=by omega
   refine ⟨_,rfl,_,rfl,pA,_,_,_,rfl,rfl,aT.of (s4 _ _ fr.hp),aku,pa,_,_,_,rfl,rfl,Ty.ao.cQ s4 h1,rfl,l,_,rfl,.inl (aT.of (s4 _ _ h3)),((iz.length:Nat):Int),rfl,by omega,by omega,let I:zIv:=fun j σ H'=>IS fun (F:Nat->Rat×Rat) (o6 o9:Α)=>σ=[ap pA,ap bA,ap tA,ap uA,ap fA,o5,o6,o7,some (.int (k:Int)),o9]/\ao H H'/\Found K H' fA ls F (B2+j*(2*(N+51)))/\∀(i:Nat)(p:aw),pins[i]?=some p->∀a:Int,(a=0\/a=1)->ax a (F i)=mV T bars a p+if i<k then sP (U p.nm) (p.ws.map (ax a)) else if i=k then sP ((U p.nm).take j) ((p.ws.take j).map (ax a)) else 0;cA (lo:=0) (n:=((iz.length:Nat):Int).toNat) I ⟨F,o6,o9,rfl,s4,by rw [agK];exact F4,fun i p e a ha=>?_⟩ ?_ ?_⟩
   ·rw [hF i p e a ha,aoh,eZ]
    split<;>simp
   ·rintro j σ H5 hj ⟨F,o6,o9,rfl,s5,F5,hF⟩
    have ek:(0:Int)+(j:Int)=(j:Int):=aeO _;rw [ek];have hj1:j<iz.length:=by omega
    have hj2:j<ys.length:=by omega
    obtain ⟨x,ex,hx⟩:=aA py (gE hj2);obtain ⟨wq,ewq,hwq⟩:=aA h4 (gE hj1);have zw:=(fr.gp.ws p mp).sz wq (aaq ewq);have axj:iZ ys (j:Int)=some ys[j]:=bG (gE hj2);have awj:iZ iz (j:Int)=some iz[j]:=bG (gE hj1);have bj:j*(2*(N+51))<=1*(2*(N+51)):=aer _ (by omega);generalize hB3:B2+j*(2*(N+51))=B3 at F5;refine ⟨(2:Int),rfl,by decide,by decide,let I:zIv:=fun c σ H'=>EZ fun (F:Nat->Rat×Rat) (o6:Α)=>σ=[ap pA,ap bA,ap tA,ap uA,ap fA,o5,o6,o7,some (.int (k:Int)),some (.int (j:Int))]/\ao H H'/\Found K H' fA ls F (B3+c*(N+51))/\∀(i:Nat)(p:aw),pins[i]?=some p->∀a:Int,(a=0\/a=1)->ax a (F i)=(mV T bars a p+if i<k then sP (U p.nm) (p.ws.map (ax a)) else if i=k then sP ((U p.nm).take j) ((p.ws.take j).map (ax a)) else 0)+if i=k/\a<(c:Int) then x*ax a wq else 0;cA (lo:=0) (n:=2) I ⟨F,o6,rfl,s5,by rw [agK];exact F5,fun i p e a ha=>?_⟩ ?_ ?_⟩
    ·rw [hF i p e a ha,abB (c:=i=k/\a<((0:Nat):Int)) (fun z=>by rcases ha with rfl|rfl<;>exact abM z.2 (by decide))]
     grind
    ·rintro c σ H6 hc ⟨F,o6,rfl,s6,F6,hF⟩
     have ek:(0:Int)+(c:Int)=(c:Int):=aeO _;rw [ek];have hc2:(c:Int)=0\/(c:Int)=1:=by omega
     have bc:c*(N+51)<=1*(N+51):=aer _ (by omega);obtain ⟨wa,zs,u,ewa,Ld,awc,nwc⟩:=N7 hc2 (hwq.same s6);rw [ewa] at awj
     have dgu:dh H6 uA (.str p.nm) (some (.ref la)):=by
      have:=dh.k (k:=.inr p.nm) (s6 _ _ fo.hu);rw [exv] at this;exact this
     refine ⟨_,rfl,_,rfl,_,rfl,_,rfl,_,rfl,_,rfl,pA,_,_,_,rfl,rfl,aT.of (s6 _ _ fr.hp),aku,pa,_,_,_,rfl,rfl,Ty.ao.cQ s6 h1,df,uA,_,rfl,dgu,_,rfl,la,_,_,_,rfl,rfl,aT.of (s6 _ _ hla),axj,_,rfl,_,rfl,pA,_,_,_,rfl,rfl,aT.of (s6 _ _ fr.hp),aku,pa,_,_,_,rfl,rfl,Ty.ao.cQ s6 h1,rfl,_,rfl,l,_,_,_,rfl,rfl,aT.of (s6 _ _ h3),awj,_,rfl,wa,_,_,_,rfl,rfl,Ld,awc,?_⟩;dsimp only [gj];show cK K oz [_,_] _ _ E0;refine qA (hx.same s6) (iK nwc (jq (N8 zw) (aaA _))) (by omega) fun p7 H7 s7 n7=>?_;refine ⟨fA,ls,F,_,k,(c:Int),_,_,_,rfl,F6.same s7,by omega,hc2,n7,by omega,fun H8 k8 F8=>?_⟩;refine ⟨_,_,rfl,KL.same hn (s6.trans s7) k8,F8.up (by rw [ae'];omega),fun i p' e a ha=>?_⟩;rw [wI hc2 ha,hF i p' e a ha];by_cases ci:i=k
     ·by_cases ca:a=(c:Int)
      ·subst ca
       rw [abB (c:=i=k/\(c:Int)<(c:Int)) (fun z=>by omega),abC (c:=i=k/\(c:Int)=(c:Int)) ⟨ci,rfl⟩,abC (c:=i=k/\(c:Int)<((c+1:Nat):Int)) ⟨ci,by omega⟩];grind
      ·rw [abB (c:=i=k/\a=(c:Int)) (fun z=>ca z.2)]
       by_cases cl:a<(c:Int)
       ·rw [abC (c:=i=k/\a<(c:Int)) ⟨ci,cl⟩,abC (c:=i=k/\a<((c+1:Nat):Int)) ⟨ci,by omega⟩]
        grind
       ·rw [abB (c:=i=k/\a<(c:Int)) (fun z=>cl z.2),abB (c:=i=k/\a<((c+1:Nat):Int)) (fun z=>by have:=z.2;omega)]
        grind
     ·rw [abB (c:=i=k/\a<(c:Int)) (fun z=>ci z.1),abB (c:=i=k/\a=(c:Int)) (fun z=>ci z.1),abB (c:=i=k/\a<((c+1:Nat):Int)) (fun z=>ci z.1)]
      grind
    ·rintro σ H6 ⟨F,o6,rfl,s6,F6,hF⟩
     refine ⟨F,_,_,rfl,s6,F6.up (by rw [ae',<-hB3];omega),fun i p' e a ha=>?_⟩;rw [hF i p' e a ha];by_cases ci:i=k
     ·subst ci
      rw [ep] at e;cases e;rw [abB (aeY _),abC rfl,abB (aeY _),abC rfl,abC (c:=i=i/\a<((2:Nat):Int)) ⟨rfl,by rcases ha with rfl|rfl<;>decide⟩];rw [take_snoc ex,take_snoc ewq,abq,f7 _ _ (by rw [ir,abv,abv];omega),aaw,aez,bU,eZ];grind
     ·rw [abB (c:=i=k/\a<((2:Nat):Int)) (fun z=>ci z.1),abB ci,abB ci]
      grind
   ·rintro σ H5 ⟨F,o6,o9,rfl,s5,F5,hF⟩
    rw [en3] at F5 hF
    refine ⟨F,_,_,_,_,_,rfl,s5,F5.up (by
     have:iz.length*(2*(N+51))<=2*(2*(N+51)):=aer _ (by omega);rw [ae',<-hB2]
     omega),fun i p' e a ha=>?_⟩
    rw [hF i p' e a ha];by_cases ci:i=k
    ·subst ci
     rw [ep] at e;cases e;rw [abB (aeY _),abC rfl,abC (aeP _),aeE (by omega),aeE (by omega)]
    ·rw [abB ci]
     by_cases cl:i<k
     ·rw [abC cl,abC (by omega)]
     ·rw [abB cl,abB (by omega)]
  ·rintro σ H4 ⟨F,o5,o6,o7,o8,o9,rfl,s4,F4,hF⟩
   rw [en2,lu] at F4 hF;have bp:pins.length*(4*(N+51))<=9*(4*(N+51)):=aer _ (by omega);refine ⟨_,rfl,q fA ls F H4 s4 ll (F4.up (by omega)) fun i p e=>?_⟩;have hi:=(Wp.mp e).1;have a0:=hF i p e 0 (.inl rfl);have a1:=hF i p e 1 (.inr rfl);rw [abC hi] at a0 a1;unfold dR;unfold mV at a0 a1;have e0:ax 0=fun p:Rat×Rat=>p.1:=rfl;have e1:ax 1=fun p:Rat×Rat=>p.2:=rfl;rw [e0] at a0;rw [e1] at a1;exact ⟨a0.trans (Rat.add_comm _ _),a1.trans (Rat.add_comm _ _)⟩
structure TL (K:Frag)(H:Hp)(pins:ι)(d:abA)(kM:γ)(M:χ)(N:Nat):Prop where
 hM:H d=some (.dK kM)
 keys:kM.map (·.1)=pins.map (fun p=>(aeB p.nm:Key))
 tM:∀p∈pins,∃t v1 v2,bJ kM (.inr p.nm)=some (.ref t)/\H t=some (.tup [v1,v2])/\cU K H v1 (M p.nm).1/\cU K H v2 (M p.nm).2
 zb:∀p∈pins,Zb N (M p.nm).1/\Zb N (M p.nm).2
 hN:N<=6000000
def TL.same (h:TL K H pins d kM M N)(s:ao H H'):TL K H' pins d kM M N:=⟨s _ _ h.hM,h.keys,fun p hp=>by
 obtain ⟨t,v1,v2,a,b,c,d⟩:=h.tM p hp
 exact ⟨t,v1,v2,a,s _ _ b,c.same s,d.same s⟩,h.zb,h.hN⟩
def TL.get (h:TL K H pins d kM M N)(hp:p∈pins):∃t v1 v2,dh H d (.str p.nm) (some (.ref t))/\H t=some (.tup [v1,v2])/\cU K H v1 (M p.nm).1/\cU K H v2 (M p.nm).2:=by
 obtain ⟨t,v1,v2,a,b,c,d⟩:=h.tM p hp;refine ⟨t,v1,v2,?_,b,c,d⟩;have:=dh.k (k:=.inr p.nm) h.hM;rw [a] at this;exact this
def ah1:ab5 K (.type "int") (.type "int")=some true:=by unfold ab5;rw [abC (by decide)]
def ah2:ab5 K (.type "int") (.type "bool")=some false:=Mf ⟨by decide,fun _=>⟨by decide+kernel,by decide+kernel⟩⟩
def Ru (x:Int×Int):cN [.v (.int x.1),.v (.int x.2)] [.v (.int x.1),.v (.int x.2)]=true:=by
 simp [cN,gY,m7]
inductive mW (K:Frag)(vs:ζ)(H:Hp)(Q:VK)(E_:XK):Prop
|mk (u:V)(r:Rat)(_:vs=[u])(_:cU K H u r)(_:∀H',ao H H' ->Q (.bl true) H')
def TM:av ["_law_x","_law_part"] zaV (ae JQ):=sq
def abb (D:Def K mg "_law_number" JQ zaV)(aU:mg "len"=none)(bh:mg "isinstance"=none)(Ob:mg "int"=none)(CN:mg "bool"=none)(gM:mg "tuple"=none)
  (jS:ac P w K mg base 33 "_law_lowest" zag b_):ac P w K mg base 34 "_law_number" zaV (mW K):=by
 refine D.oo TM fun H hr h=>?_;obtain ⟨_,r,rfl,⟨p1,rfl,h1⟩,q⟩:=h;have hp:=cI r;have hg:=nQ r;generalize qr r=x at h1 hp hg
 refine ⟨_,(aa (bu (PW.pt (jy (fD (eh (aH IC rfl bh cv (aI (pv 0) (mj rfl gM vt))))) (iC (bx lZ (aH aD rfl aU bS (aX (pv 0))) af)))) (ag (aC gB)) aQ) (aa (bq abI rfl (UG (pv 0)) (bP 1 TM.nd) (ag (bu (PW.pt (jy (fD (eh (aH f_ rfl bh cv (aI (pv 1) (mj rfl Ob Yl))))) (iC (eh (aH f_ rfl bh cv (aI (pv 1) (mj rfl CN UR))))))) (ag (aC gB)) aQ))) (ag (aC (vb (l_ uk (aF (pv 0)) af (nh _)) (AF (l_ (D' hr.units) (aL jS hr (aI (aF (pv 0)) (aF (pv 0)))) (pv 0) (nh _)))))))),?_⟩
 refine ⟨_,rfl,p1,_,rfl,h1,_,rfl,bB (fun c=>nomatch c) (fun _=>?_)⟩;refine ⟨_,rfl,p1,_,rfl,.inr h1,rfl,_,rfl,DZ rfl ?_⟩;refine ⟨_,rfl,p1,rfl,⟨_,h1⟩,let I:zIv:=fun i σ H'=>∃o,σ=[ap p1,o]/\H'=H;P_ (K:=K) (a:=p1) (xs:=[.int x.1,.int x.2]) I ⟨none,rfl,rfl⟩ (fun i σ H' _ ⟨o,_,e⟩=>by rw [e];exact h1) ?_ ?_⟩
 ·rintro i z σ H' hi ⟨o,rfl,rfl⟩
  obtain ⟨n,rfl⟩:∃n,z=V.int n:=by
   match i,hi with
   | 0,hi=>exact ⟨_,(aen hi).symm⟩
   | 1,hi=>exact ⟨_,(aen hi).symm⟩
  refine ⟨_,rfl,_,_,_,true,rfl,rfl,.int n,ah1,_,rfl,bB (fun c=>nomatch c) (fun _=>?_)⟩;refine ⟨_,rfl,_,_,_,false,rfl,rfl,.int n,ah2,_,rfl,bB (fun c=>nomatch c) (fun _=>?_)⟩;exact ⟨_,rfl,rfl⟩
 ·rintro σ H' ⟨o,rfl,rfl⟩
  refine ⟨_,rfl,p1,_,_,_,rfl,rfl,h1,iu,_,_,rfl,rfl,_,rfl,bB (fun _=>?_) (fun c=>abM (abU hp) c)⟩;refine ⟨_,rfl,p1,_,_,_,rfl,rfl,h1,iU,_,rfl,p1,_,_,_,rfl,rfl,h1,iu,_,_,rfl,hp,fun p2 H2 s2 e2=>?_⟩;rw [mi hp hg] at e2;refine ⟨_,rfl,_,_,.inl ⟨j8 (q:=x) ⟨p2,rfl,bQ.of e2⟩,j8 (q:=x) ⟨p1,rfl,Ty.ao.cQ s2 h1⟩⟩,rfl,EC,?_⟩;rw [Ru x];exact q _ s2
def abc:ab5 K (.type "tuple") (.type "tuple")=some true:=by unfold ab5;rw [abC (by decide)]
def Wk:ab5 K (.type "dict") (.type "dict")=some true:=by unfold ab5;rw [abC (by decide)]
def ah3:ab5 K (.type "list") (.type "list")=some true:=by unfold ab5;rw [abC (by decide)]
theorem rW :∀ws:List Str,i0 K H (ws.map fun w=>Da.v (.str w)) (ws.map V.str)
 | []=>by unfold i0;trivial
 | w::ws=>by
  rw [aaw,aaw];unfold i0;refine ⟨?_,rW ws⟩;unfold Is;exact ⟨rfl,rfl⟩
theorem GB:∀ws:List Str,cN (ws.map fun w=>Da.v (.str w)) (ws.map fun w=>Da.v (.str w))=true
 | []=>by simp [cN]
 | w::ws=>by
  rw [aaw];unfold cN;rw [GB ws];simp [gY,m7]
theorem GG:∀ws:List Str,dN (ws.map fun w=>Da.v (.str w)) (ws.map fun w=>Da.v (.str w))=true
 | []=>by simp [dN]
 | w::ws=>by
  rw [aaw];unfold dN;rw [GG ws];simp [alike]
theorem yP:∀ws:List Str,jr (ws.map fun w=>Da.v (.str w))<=60
 | []=>by simp [jr]
 | w::ws=>by
  rw [aaw];unfold jr;have:=yP ws;simp only [dep];omega
def wJ {ws:ψ}(e1:H p=some (.lst (ws.map V.str)))(e2:H p2=some (.lst (ws.map V.str)))(q:Q (.bl false) H):D_ K (.ref p) (.ref p2) H Q:=by
 refine ⟨ws.map fun w=>Da.v (.str w),ws.map fun w=>Da.v (.str w),.inr ⟨?_,?_⟩,GG ws,yP ws,by rw [GB];exact q⟩
 ·unfold Is
  exact ⟨p,_,rfl,aT.of e1,rW ws⟩
 ·unfold Is
  exact ⟨p2,_,rfl,aT.of e2,rW ws⟩
def rX {us:ζ}{nm:α->Str}{cap:L2.St}(n1:H D1=none)(ha:H a=some (.lst us))(pr:Paired (fun u z=>∃c ys,u=.ref c/\bQ K H c (.str (nm z)::ys)) us zs)(l:zs.length<=1000)(k:∀H',ao H H' ->H' D1=some (.lst ((zs.map nm).map V.str))->R (.ref D1) H'):
  nC D1 (c_ 0) kr (Qa (L7 K) (P5 0) (tC (V.int 0))) (P8 K a) (none::cap) H R:=by
 have lu:us.length=zs.length:=abL pr;refine dG (K:=K) (a:=a) (xs:=us) (fun i v _=>∃z,zs[i]?=some z/\v=.str (nm z)) n1 (by rw [lu];exact aaZ l (by decide)) (fun H2 s2=>aT.of (s2 _ _ ha)) (fun _ _ _ _ _ _ _ h=>h) ?_ ?_
 ·intro i u H2 R hu s2 k
  obtain ⟨z,ez,c,ys,rfl,h1⟩:=aA pr hu;exact ⟨_,rfl,c,_,_,_,rfl,rfl,Ty.ao.cQ s2 h1,df,k _ _ (ao.refl _) ⟨z,ez,rfl⟩⟩
 ·intro ys H2 hy iH s2 hD
  refine k H2 s2 ?_;rw [hD];congr 2;refine aeK fun i=>?_;rw [ab_,aaa];by_cases c:i<ys.length
  ·obtain ⟨p,e1,e2⟩:=iH i ys[i] (gE c)
   rw [gE c,e1,e2];rfl
  ·rw [aaz (by omega),aaz (by omega)]
   rfl
def mB {α:Type}{nm:α->Str}{kM:γ}{zs:List α}(h:kM.map (·.1)=zs.map (fun p=>(aeB (nm p):Key))):(kM.map fun kv=>kV kv.1)=(zs.map nm).map V.str:=by
 have:(kM.map fun kv=>kV kv.1)=(kM.map (·.1)).map kV:=by rw [ab_];rfl
 rw [this,h,ab_,ab_];rfl
def rY {us:ζ}{pins:ι}(h:Paired (h_ K H) us pins):Paired (fun u (z:aw)=>∃c ys,u=.ref c/\bQ K H c (.str z.nm::ys)) us pins:=Paired.bV h fun _ _ ⟨a,l,s,us,e,h1,_,_,_⟩=>⟨a,_,e,h1⟩
def CO {us:ζ}{bars:ς}(h:Paired (jk K H pins) us bars):Paired (fun u (z:aK)=>∃c ys,u=.ref c/\bQ K H c (.str z.nm::ys)) us bars:=Paired.bV h fun _ _ ⟨a,i,j,e,h1,_,_⟩=>⟨a,_,e,h1⟩
def yQ {ys:ζ}(h:∀(i:Nat)(v:V),ys[i]?=some v->v=.bl true):∃bs:List Bool,ys=bs.map V.bl/\bs.all id=true:=by
 induction ys with
 | nil=>exact ⟨[],rfl,rfl⟩
 | cons y ys ih=>
  obtain ⟨bs,e,h2⟩:=ih fun i v e=>h (i+1) v (by simpa using e);exact ⟨true::bs,by rw [h 0 y rfl,e];rfl,by simp [h2]⟩
structure Rv (K:Frag)(H:Hp)(pins:ι)(bars:ς)(dT dU:abA)(kT kU:γ)(T:Β)(U:υ)(N:Nat):Prop where
 hT:H dT=some (.dK kT)
 hU:H dU=some (.dK kU)
 vW:kT.map (·.1)=bars.map (fun b=>(aeB b.nm:Key))
 vX:kU.map (·.1)=pins.map (fun p=>(aeB p.nm:Key))
 tT:∀b∈bars,∃v,bJ kT (.inr b.nm)=some v/\cU K H v (T b.nm)
 tU:∀p∈pins,∃la vs,bJ kU (.inr p.nm)=some (.ref la)/\H la=some (.lst vs)/\Paired (cU K H) vs (U p.nm)
 lU:∀p∈pins,(U p.nm).length=p.ws.length
 zT:∀b∈bars,Zb N (T b.nm)
 zU:∀p∈pins,∀u∈U p.nm,Zb N u
def Rv.same (h:Rv K H pins bars dT dU kT kU T U N)(s:ao H H'):Rv K H' pins bars dT dU kT kU T U N:=⟨s _ _ h.hT,s _ _ h.hU,h.vW,h.vX,fun b hb=>by
 obtain ⟨v,a,b⟩:=h.tT b hb;exact ⟨v,a,b.same s⟩,fun p hp=>by
 obtain ⟨la,vs,a,b,c⟩:=h.tU p hp
 exact ⟨la,vs,a,s _ _ b,Paired.bV c fun _ _ z=>z.same s⟩,h.lU,h.zT,h.zU⟩
def Rv.ah4 (h:Rv K H pins bars dT dU kT kU T U N)(hb:b∈bars):∃v,dh H dT (.str b.nm) (some v)/\cU K H v (T b.nm):=by
 obtain ⟨v,a,c⟩:=h.tT b hb;refine ⟨v,?_,c⟩;have:=dh.k (k:=.inr b.nm) h.hT;rw [a] at this;exact this
def Rv.ah5 (h:Rv K H pins bars dT dU kT kU T U N)(hp:p∈pins):∃la vs,dh H dU (.str p.nm) (some (.ref la))/\H la=some (.lst vs)/\Paired (cU K H) vs (U p.nm):=by
 obtain ⟨la,vs,a,b,c⟩:=h.tU p hp;refine ⟨la,vs,?_,b,c⟩;have:=dh.k (k:=.inr p.nm) h.hU;rw [a] at this;exact this
inductive CP (K:Frag)(vs:ζ)(H:Hp)(Q:VK)(E_:XK):Prop
|mk (pA bA dT dU:abA)(us ws:ζ)(pins:ι)(bars:ς)(kT kU:γ)(T:Β)(U:υ)(N:Nat)(_:vs=[.ref pA,.ref bA,.ref dT,.ref dU])(_:Lo K H pA bA us ws pins bars)(_:Rv K H pins bars dT dU kT kU T U N)(_:∀H',ao H H' ->Q (.bl true) H')
def GH:av ["_law_pins_here","_law_bars_here","_law_pulls_here","_law_pushes_here","_law_name_here","_law_spot_here","_law_ways_here"] zaa (ae JZ):=sq
def abd (D:Def K mg "_law_are_forces" JZ zaa)(bh:mg "isinstance"=none)(eE:mg "dict"=none)(cf:mg "list"=none)(aU:mg "len"=none)(GJ:mg "all"=none)(Oc:ac P w K mg base 34 "_law_number" zaV (mW K)):
  ac P w K mg base 35 "_law_are_forces" zaa (CP K):=by
 refine D.op GH fun f ck A outer s H vs Q E hr h=>?_;obtain ⟨pA,bA,dT,dU,us,ws,pins,bars,kT,kU,T,U,N,rfl,fr,pl,q⟩:=h;have lp:=fr.lp;have lb:=fr.lb;have lw:ws.length=bars.length:=abL fr.pb
 refine ⟨_,(aa (bu (PW.pt (jy (fD (eh (aH f_ rfl bh cv (aI (pv 2) (mj rfl eE kR))))) (iC (bx (qh hr.units) (bO (fQ rfl) rfl cf iE (aX (pv 2))) (eV (tn:=["_law_bar"]) (fr:=[]) (caps:=[]) (bo (pv 1)) (bE (dZ (K:=K) rfl) (pv 0) af)))))) (ag (aC gB)) aQ) (aa (bu (PW.pt (jy (fD (eh (aH f_ rfl bh cv (aI (pv 3) (mj rfl eE kR))))) (iC (bx (qh hr.units) (bO (fQ rfl) rfl cf iE (aX (pv 3))) (eV (tn:=["_law_pin"]) (fr:=[]) (caps:=[]) (bo (pv 0)) (bE (dZ (K:=K) rfl) (pv 0) af)))))) (ag (aC gB)) aQ) (aa (bu (fD (eh (aH (uC rfl) rfl GJ S' (aX (eV (tn:=["_law_bar"]) (fr:=["_law_pulls_here"]) (caps:=[2]) (bo (pv 1)) (yx Oc hr (aX (cY (bH hr) (pv 1) (bE (dZ (K:=K) rfl) (pv 0) af) (fun _ _=>rfl))))))))) (ag (aC gB)) aQ) (aa (bq abI rfl (bo (pv 0)) (fE rfl (a_ (bP 4 GH.nd) (a_ (bP 5 GH.nd) (a_ (bP 6 GH.nd) cX)))) (aa (bu (PW.pt (jy (fD (eh (aH f_ rfl bh cv (aI (cY (bH hr) (pv 3) (pv 4) (fun _ _=>rfl)) (mj rfl cf iE))))) (iC (bx lZ (aH aD rfl aU bS (aX (cY (bH hr) (pv 3) (pv 4) (fun _ _=>rfl)))) (aH aD rfl aU bS (aX (pv 6))))))) (ag (aC gB)) aQ) (ag (bu (fD (eh (aH (uC rfl) rfl GJ S' (aX (eV (tn:=zaG) (fr:=[]) (caps:=[]) (bo (cY (bH hr) (pv 3) (pv 4) (fun _ _=>rfl))) (yx Oc hr (aX (pv 0)))))))) (ag (aC gB)) aQ)))) (ag (aC gB)))))),?_⟩;dsimp only [cxr,jD,Cx.xw,Cx.tu];refine sq4 ?_;intros
 refine ⟨_,rfl,_,_,_,true,rfl,rfl,.dK pl.hT,Wk,_,rfl,bB (fun c=>nomatch c) (fun _=>?_)⟩;refine ⟨_,rfl,dT,_,rfl,.inl pl.hT,?_⟩;intro l1 n1;generalize eX:upd _ l1 _=H1;have ⟨s1,e1⟩:=nw n1 eX;rw [mB (nm:=aK.nm) pl.vW] at e1;have fr1:=fr.same s1;refine ⟨_,rfl,bA,rfl,⟨_,aT.of fr1.hb⟩,fun D2 n2=>?_⟩;refine rX (nm:=aK.nm) n2 fr1.hb (CO fr1.pb) (by omega) fun H2 s2 e2=>?_;refine wJ (s2 _ _ e1) e2 ?_;refine ⟨_,rfl,bB (fun c=>nomatch c) (fun _=>?_)⟩;have tO:=s1.trans s2;refine ⟨_,rfl,_,_,_,true,rfl,rfl,.dK (tO _ _ pl.hU),Wk,_,rfl,bB (fun c=>nomatch c) (fun _=>?_)⟩;refine ⟨_,rfl,dU,_,rfl,.inl (tO _ _ pl.hU),?_⟩;intro l3 n3;generalize eX:upd _ l3 _=H3;have ⟨s3,e3⟩:=nw n3 eX;rw [mB (nm:=aw.nm) pl.vX] at e3;have yH:=tO.trans s3;have LP:=fr.same yH;refine ⟨_,rfl,pA,rfl,⟨_,aT.of LP.hp⟩,fun D4 n4=>?_⟩;refine rX (nm:=aw.nm) n4 LP.hp (rY LP.pp) (by omega) fun H4 s4 e4=>?_;refine wJ (s4 _ _ e3) e4 ?_;refine ⟨_,rfl,bB (fun c=>nomatch c) (fun _=>?_)⟩;have O5:=yH.trans s4;refine ⟨_,rfl,bA,rfl,⟨_,aT.of (O5 _ _ fr.hb)⟩,fun D5 n5=>?_⟩;refine dG (cap:=[some (.ref dT)]) (K:=K) (a:=bA) (xs:=ws) (fun _ v _=>v=.bl true) n5 (by rw [lw];exact aaZ (show bars.length<=100 by omega) (by decide)) (fun H5 s5=>aT.of (s5 _ _ (O5 _ _ fr.hb))) (fun _ _ _ _ _ _ _ h=>h) ?_ ?_
 ·intro i u H5 R hu s5 k
  obtain ⟨b,eb,c,i1,i2,rfl,h1,_⟩:=aA fr.pb hu;have Q6:=O5.trans s5;obtain ⟨v,dg,nv⟩:=(pl.same Q6).ah4 (aaq eb);exact ⟨_,rfl,_,rfl,c,_,_,_,rfl,rfl,Ty.ao.cQ Q6 h1,rfl,dT,_,rfl,dg,v,_,rfl,nv,fun H6 s6=>k _ _ s6 rfl⟩
 intro ys H5 hy iH s5 hD;obtain ⟨bs,eb,ea⟩:=yQ iH;refine ⟨D5,bs,rfl,by rw [<-eb];exact aT.of hD,?_⟩;rw [ea];refine ⟨_,rfl,bB (fun c=>nomatch c) (fun _=>?_)⟩;have Q6:=O5.trans s5
 refine ⟨_,rfl,pA,rfl,⟨_,aT.of (Q6 _ _ fr.hp)⟩,let I:zIv:=fun i σ H'=>IS fun (o4 o5 o6:Α)=>σ=[ap pA,ap bA,ap dT,ap dU,o4,o5,o6]/\ao H H';bW (K:=K) (a:=pA) (xs:=us) I ⟨none,none,none,rfl,Q6⟩ (fun i σ H' _ h=>by
   obtain ⟨_,_,_,_,s⟩:=h
   exact aT.of (s _ _ fr.hp)) ?_ ?_⟩
 ·rintro i u σ H6 hu ⟨o4,o5,o6,rfl,s6⟩
  obtain ⟨p,ep,N6⟩:=aA fr.pp hu;have mp:p∈pins:=aaq ep;obtain ⟨ta,l,sv,iz,rfl,h1,h2,h3,h4⟩:=N6.same s6;refine ⟨ta,_,rfl,h1,rfl,_,_,rfl,_,_,rfl,_,_,rfl,rfl,?_⟩;obtain ⟨la,xs,dg,et,pu⟩:=(pl.same s6).ah5 mp;have lw:iz.length=p.ws.length:=abL h4;have lx:xs.length=(U p.nm).length:=abL pu;have lup:=pl.lU p mp;have lwp:=(fr.gp.ws p mp).len;refine ⟨_,rfl,_,rfl,dU,_,rfl,dg,_,_,_,true,rfl,rfl,.lst et,ah3,_,rfl,bB (fun c=>nomatch c) (fun _=>?_)⟩;refine ⟨_,rfl,_,rfl,dU,_,rfl,dg,la,_,rfl,.inl (aT.of et),_,rfl,l,_,rfl,.inl (aT.of h3),rfl,_,rfl,bB (fun c=>abM (show (xs.length:Int)=(iz.length:Int) by omega) (fun e=>by rw [e] at c;simp at c)) (fun _=>?_)⟩;refine ⟨_,rfl,_,rfl,dU,_,rfl,dg,la,rfl,⟨_,aT.of et⟩,fun D7 n7=>?_⟩;refine dG (cap:=[]) (K:=K) (a:=la) (xs:=xs) (fun _ v _=>v=.bl true) n7 (aaZ (show xs.length<=100 by omega) (by decide)) (fun H7 s7=>aT.of (s7 _ _ et)) (fun _ _ _ _ _ _ _ h=>h) ?_ ?_
  ·intro j x H7 R hx s7 k
   obtain ⟨r,er,nr⟩:=aA pu hx;exact ⟨_,rfl,x,r,rfl,nr.same s7,fun H8 s8=>k _ _ s8 rfl⟩
  intro ys H7 hy iH s7 hD;obtain ⟨bs,eb,ea⟩:=yQ iH;refine ⟨D7,bs,rfl,by rw [<-eb];exact aT.of hD,?_⟩;rw [ea];refine ⟨_,rfl,bB (fun c=>nomatch c) (fun _=>?_)⟩;exact ⟨_,_,_,rfl,s6.trans s7⟩
 ·rintro σ H6 ⟨o4,o5,o6,rfl,s6⟩
  exact q H6 s6
inductive Od (K:Frag)(vs:ζ)(H:Hp)(Q:VK)(E_:XK):Prop
|mk (pA dM:abA)(us:ζ)(pins:ι)(kM:γ)(M:χ)(N:Nat)(_:vs=[.ref pA,.ref dM])(_:H pA=some (.lst us))(_:Paired (h_ K H) us pins)(_:pins.length<=100)(_:TL K H pins dM kM M N)(_:∀H',ao H H' ->Q (.bl true) H')
def GK:av ["_law_pins_here","_law_motion","_law_name_here","_law_spot_here","_law_ways_here"] zau (ae J_):=sq
def abe (D:Def K mg "_law_is_motion" J_ zau)(bh:mg "isinstance"=none)(eE:mg "dict"=none)(cf:mg "list"=none)(gM:mg "tuple"=none)(aU:mg "len"=none)(Oc:ac P w K mg base 34 "_law_number" zaV (mW K)):
  ac P w K mg base 35 "_law_is_motion" zau (Od K):=by
 refine D.op GK fun f ck A outer s H vs Q E hr h=>?_;obtain ⟨pA,dM,us,pins,kM,M,N,rfl,hp,pp,lp,mo,q⟩:=h
 refine ⟨_,(aa (bu (PW.pt (jy (fD (eh (aH f_ rfl bh cv (aI (pv 1) (mj rfl eE kR))))) (iC (bx (qh hr.units) (bO (fQ rfl) rfl cf iE (aX (pv 1))) (eV (tn:=["_law_pin"]) (fr:=[]) (caps:=[]) (bo (pv 0)) (bE (dZ (K:=K) rfl) (pv 0) af)))))) (ag (aC gB)) aQ) (aa (bq abI rfl (bo (pv 0)) (fE rfl (a_ (bP 2 GK.nd) (a_ (bP 3 GK.nd) (a_ (bP 4 GK.nd) cX)))) (aa (bu (PW.pt (jy (fD (eh (aH f_ rfl bh cv (aI (cY (bH hr) (pv 1) (pv 2) (fun _ _=>rfl)) (mj rfl gM vt))))) (iC (bx lZ (aH aD rfl aU bS (aX (cY (bH hr) (pv 1) (pv 2) (fun _ _=>rfl)))) af)))) (ag (aC gB)) aQ) (ag (bu (PW.pt (jy (fD (eh (aL Oc hr (aX (aF (cY (bH hr) (pv 1) (pv 2) (fun _ _=>rfl))))))) (iC (fD (eh (aL Oc hr (aX (aF (cY (bH hr) (pv 1) (pv 2) (fun _ _=>rfl)))))))))) (ag (aC gB)) aQ)))) (ag (aC gB)))),?_⟩;dsimp only [cxr,jD,Cx.xw,Cx.tu];refine sq2 ?_;intros
 refine ⟨_,rfl,_,_,_,true,rfl,rfl,.dK mo.hM,Wk,_,rfl,bB (fun c=>nomatch c) (fun _=>?_)⟩;refine ⟨_,rfl,dM,_,rfl,.inl mo.hM,?_⟩;intro l1 n1;generalize eX:upd _ l1 _=H1;have ⟨s1,e1⟩:=nw n1 eX;rw [mB (nm:=aw.nm) mo.keys] at e1;have pp1:Paired (h_ K H1) us pins:=Paired.bV pp fun _ _ z=>z.same s1;refine ⟨_,rfl,pA,rfl,⟨_,aT.of (s1 _ _ hp)⟩,fun D2 n2=>?_⟩;refine rX (nm:=aw.nm) n2 (s1 _ _ hp) (rY pp1) (by omega) fun H2 s2 e2=>?_;refine wJ (s2 _ _ e1) e2 ?_;refine ⟨_,rfl,bB (fun c=>nomatch c) (fun _=>?_)⟩;have tO:=s1.trans s2
 refine ⟨_,rfl,pA,rfl,⟨_,aT.of (tO _ _ hp)⟩,let I:zIv:=fun i σ H'=>IS fun (o2 o3 o4:Α)=>σ=[ap pA,ap dM,o2,o3,o4]/\ao H H';bW (K:=K) (a:=pA) (xs:=us) I ⟨none,none,none,rfl,tO⟩ (fun i σ H' _ h=>by
   obtain ⟨_,_,_,_,s⟩:=h
   exact aT.of (s _ _ hp)) ?_ ?_⟩
 ·rintro i u σ H4 hu ⟨o2,o3,o4,rfl,s4⟩
  obtain ⟨p,ep,N6⟩:=aA pp hu;have mp:p∈pins:=aaq ep;obtain ⟨ta,l,sv,ws,rfl,h1,h2,h3,h4⟩:=N6.same s4;refine ⟨ta,_,rfl,h1,rfl,_,_,rfl,_,_,rfl,_,_,rfl,rfl,?_⟩;obtain ⟨t,v1,v2,dg,et,m1,m2⟩:=(mo.same s4).get mp;refine ⟨_,rfl,_,rfl,dM,_,rfl,dg,_,_,_,true,rfl,rfl,.tup et,abc,_,rfl,bB (fun c=>nomatch c) (fun _=>?_)⟩;refine ⟨_,rfl,_,rfl,dM,_,rfl,dg,t,_,rfl,.inr (bQ.of et),rfl,_,rfl,DZ rfl ?_⟩;refine ⟨_,rfl,_,rfl,dM,_,rfl,dg,t,_,_,_,rfl,rfl,bQ.of et,iU,_,_,rfl,m1,fun H5 s5=>?_⟩;refine ⟨_,rfl,bB (fun c=>nomatch c) (fun _=>?_)⟩;obtain ⟨t,v1,v2,dg,et,m1,m2⟩:=(mo.same (s4.trans s5)).get mp;refine ⟨_,rfl,_,rfl,dM,_,rfl,dg,t,_,_,_,rfl,rfl,bQ.of et,iu,_,_,rfl,m2,fun H6 s6=>?_⟩;refine ⟨_,rfl,bB (fun c=>nomatch c) (fun _=>?_)⟩;exact ⟨_,_,_,rfl,s4.trans (s5.trans s6)⟩
 ·rintro σ H4 ⟨o2,o3,o4,rfl,s4⟩
  exact q H4 s4
structure GL (K:Frag)(H:Hp)(d:abA)(kvs:γ)(pins:ι)(L:θ):Prop where
 hd:H d=some (.dK kvs)
 pt:BC K H kvs L
 nk:(kvs.map (·.1)).Nodup
 ks:∀kv∈kvs,∃x∈pins.map (·.nm),kv.1=.inr x
 sz:mvL L
 ll:kvs.length<=100
def GL.same (h:GL K H d kvs pins L)(s:ao H H'):GL K H' d kvs pins L:=⟨s _ _ h.hd,h.pt.same s,h.nk,h.ks,h.sz,h.ll⟩
def GL.at (h:GL K H d kvs pins L){t:Nat}(e:kvs[t]?=some (k,y)):∃x,k=.inr x/\x∈pins.map (·.nm)/\gc K H y (mv L x):=by
 obtain ⟨x,hx,ek⟩:=h.ks _ (aaq e);have ek':k=.inr x:=ek;subst ek';refine ⟨x,rfl,hx,?_⟩;have ev:=mG h.nk e
 rcases h.pt x with ⟨z,_⟩|⟨v,p,z1,z2,z3⟩
 ·rw [ev] at z
  cases z
 ·rw [ev] at z1
  cases z1;unfold mv;rw [z2];exact z3
def Oe {f:Β}:∀{ks names:ψ},ks.Nodup->names.Nodup->(∀x∈ks,x∈names)->(∀x∈names,x∉ks->f x=0)->(ks.map f).sum=(names.map f).sum:=by
 have ah7:∀{f:Β} {l:ψ},(∀x∈l,f x=0)->(l.map f).sum=0:=fun {f l} h=>by
  induction l with
  | nil=>rfl
  | cons a l ih=>
   rw [aaw,ad_,h a aa_,ih fun x hx=>h x (aax _ hx)];grind
 have pull:∀{f:Β} {k:Str} {l:ψ},l.Nodup->k∈l->(l.map f).sum=f k+(l.map fun x=>if x=k then 0 else f x).sum:=fun {f k l} nd hk=>by
  induction l with
  | nil=>cases hk
  | cons a l ih=>
   rw [aeC] at nd;rw [aaw,aaw,ad_,ad_];by_cases c:a=k
   ·subst c
    rw [abC rfl];have e:(l.map fun x=>if x=a then 0 else f x)=l.map f:=abk fun x hx=>abB (fun z=>nd.1 (by rw [<-z];exact hx));rw [e];grind
   ·have hk':k∈l:=by
     rcases aes.mp hk with z|z
     ·exact abM z.symm c
     ·exact z
    rw [ih nd.2 hk',abB c];grind
 intro ks
 induction ks generalizing f with
 | nil=>
  intro names _ _ _ h;rw [ah7 fun x hx=>h x hx (by simp)];rfl
 | cons k ks ih=>
  intro names nk nn sub h;rw [aeC] at nk;rw [aaw,ad_,pull nn (sub k aa_)];congr 1;rw [<-ih (f:=fun x=>if x=k then 0 else f x) nk.2 nn (fun x hx=>sub x (aax _ hx)) fun x hx nx=>?_]
  ·exact abR ah6 (abk fun x hx=>(abB (fun z:x=k=>nk.1 (by rw [<-z];exact hx))).symm)
  ·show (if x=k then 0 else f x)=0
   by_cases c:x=k
   ·rw [abC c]
   ·rw [abB c]
    exact h x hx (by
     intro z
     rcases aes.mp z with z|z
     ·exact c z
     ·exact nx z)
def lO:Key->Str
 | .inr x=>x
 | .inl _=> ""
def GL.sum (h:GL K H d kvs pins L)(np:(pins.map (·.nm)).Nodup)(M:χ):(kvs.map fun kv=>dt (mv L (lO kv.1)) (M (lO kv.1))).sum=iW pins L M:=by
 have nk:(kvs.map fun kv=>lO kv.1).Nodup:=by
  have e:(kvs.map fun kv=>lO kv.1)=(kvs.map (·.1)).map lO:=by rw [ab_];rfl
  rw [e];unfold aog;rw [ahb];refine ahi (fun {a b} ha hb ne e=>ne ?_) h.nk;obtain ⟨ka,hka,rfl⟩:=aar.mp ha;obtain ⟨kb,hkb,rfl⟩:=aar.mp hb;obtain ⟨x,_,ex⟩:=h.ks ka hka;obtain ⟨y,_,ey⟩:=h.ks kb hkb;rw [ex,ey] at e ⊢;exact abR aeB e
 have s:=Oe (f:=fun x=>dt (mv L x) (M x)) nk np (fun x hx=>by
  obtain ⟨kv,MK,rfl⟩:=aar.mp hx;obtain ⟨y,hy,ey⟩:=h.ks kv MK;rw [ey]
  exact hy) fun x hx nx=>by
   rcases h.pt x with ⟨_,z⟩|⟨v,p,z1,_,_⟩
   ·unfold mv
    rw [z];exact ke _
   ·exact abM (aar.mpr ⟨_,yg z1,rfl⟩) nx
 rw [ab_,ab_] at s;exact s
inductive CQ (K:Frag)(vs:ζ)(H:Hp)(Q:VK)(E_:XK):Prop
|mk (d dM:abA)(kvs kM:γ)(pins:ι)(L:θ)(M:χ)(N:Nat)(_:vs=[.ref d,.ref dM])(_:GL K H d kvs pins L)(_:(pins.map (·.nm)).Nodup)(_:TL K H pins dM kM M N)(_:dM≠d)(_:kvs.length<=9)(_:N<=1000000)(_:∀(v:V)(H':Hp),ao H H' ->ju K H' v (1+9*(2*N+2002)) (iW pins L M)->Q v H')
def yR:av ["_law_load","_law_motion","_law_total","_law_name_here","_law_drawn"] zaA (ae Kf):=sq
def abf (D:Def K mg "_law_work" Kf zaA)(rS:ac P w K mg base 1 "_law_sum" zac (cK K iL))(ah8:ac P w K mg base 2 "_law_dot" zac (CK K)):
  ac P w K mg base 3 "_law_work" zaA (CQ K):=by
 refine D.oo yR fun H hr h=>?_;obtain ⟨d,dM,kvs,kM,pins,L,M,N,rfl,ld,np,mo,ne,lk,hN,q⟩:=h;have L2:2<=abE:=by decide
 have sm:=ld.sum np M
 refine ⟨_,(aa (aG 2 yR.nd (aV (aI af af))) (aa (j6 (bq abI rfl (mz (pv 0)) (fE rfl (a_ (bP 3 yR.nd) (a_ (bP 4 yR.nd) cX))) (ag (aG 2 yR.nd (aL rS hr (aI (pv 2) (aL ah8 hr (aI (pv 4) (cY (bH hr) (pv 1) (pv 3) (fun _ _=>rfl)))))))))) (ag (aC (pv 2))))),?_⟩;dsimp only [cxr,jD,Cx.xw,Cx.tu];refine sq2 ?_;intros
 refine ⟨L2,?_⟩;intro t1 n1;generalize eX:upd _ t1 _=H1;have ⟨s1,e1⟩:=nw n1 eX;have Xs:=ld.same s1;have mo1:=mo.same s1
 have t0:ju K H1 (.ref t1) (1+0*(2*N+2002)) ((kvs.take 0).map fun kv=>dt (mv L (lO kv.1)) (M (lO kv.1))).sum:=by
  rw [agK];exact ⟨(0,1),⟨t1,rfl,bQ.of e1⟩,by decide,(show vl ((0,1):Int×Int)=0 by decide+kernel),by decide,by decide⟩
 refine ⟨_,rfl,d,kvs,rfl,Xs.hd,fun o=>?_⟩
 have st:∀{H':Hp},bw d H1 H' ->aY H1 H':=fun {H'} k b xs r=>by
  rcases r with r|⟨o',r⟩
  ·exact .inl (k _ _ (fun e=>by rw [e,Xs.hd] at r;cases r) r)
  ·exact .inr ⟨o',k _ _ (fun e=>by rw [e,Xs.hd] at r;cases r) r⟩
 have k0:bw d H1 (upd H1 d (.fB o (.dK kvs))):=fun b o' n e=>by rw [aj n];exact e
 refine let I:zIv:=fun t σ H'=>IS fun (tv:V) (o3 o4:Α)=>σ=[ap d,ap dM,some tv,o3,o4]/\bw d H1 H'/\H' d=some (.fB o (.dK kvs))/\ju K H' tv (1+t*(2*N+2002)) ((kvs.take t).map fun kv=>dt (mv L (lO kv.1)) (M (lO kv.1))).sum;j0 (d:=d) (o:=o) (kvs:=kvs) I ⟨.ref t1,none,none,rfl,k0,ah,t0.aJ (st k0)⟩ (fun t σ H' _ h=>by
   obtain ⟨_,_,_,_,_,h,_⟩:=h
   exact h) ?_ ?_
 ·rintro t k y σ H6 p7 uS ⟨tv,o3,o4,rfl,k6,Kz,nt⟩ n7
  have ht:t<kvs.length:=(Wp.mp uS).1;obtain ⟨x,rfl,hx,hv⟩:=Xs.at uS;obtain ⟨p,mp,rfl⟩:=aar.mp hx;have s7:=aE n7 (.tup [kV (.inr p.nm),y]);have e7:(upd H6 p7 (.tup [kV (.inr p.nm),y])) p7=some (.tup [kV (.inr p.nm),y]):=ah;generalize upd H6 p7 (.tup [kV (.inr p.nm),y])=H7 at s7 e7 ⊢;have k7:bw d H1 H7:=fun b o' n e=>s7 _ _ (k6 b o' n e);refine ⟨p7,_,rfl,bQ.of e7,rfl,_,_,rfl,_,_,rfl,rfl,?_⟩;obtain ⟨tm,v1,v2,dg,et,m1,m2⟩:=mo1.tM p mp
  have dg7:dh H7 dM (.str p.nm) (some (.ref tm)):=by
   have:=dh.k (k:=.inr p.nm) (k7 _ _ ne mo1.hM);rw [dg] at this;exact this
  have et7:H7 tm=some (.tup [v1,v2]):=k7 _ _ (fun e=>by rw [e,Xs.hd] at et;cases et) et;obtain ⟨da,u1,u2,rfl,hdq,NF,hd2⟩:=hv.aJ (st k7);have zd:=ld.sz p.nm;have zm:=mo.zb p mp;refine ⟨_,rfl,_,rfl,_,rfl,_,rfl,dM,_,rfl,dg7,?_⟩;dsimp only [gj];refine ⟨da,tm,u1,u2,v1,v2,_,_,_,_,1000,N,rfl,.inr hdq,.inr (bQ.of et7),iK NF (jq zd.1 (aaA _)),iK hd2 (jq zd.2 (aaA _)),iK (m1.aJ (st k7)) zm.1,iK (m2.aJ (st k7)) zm.2,by omega,fun v8 H8 s8 n8=>?_⟩;show cK K iL [_,_] _ _ E0;have bt:t*(2*N+2002)<=8*(2*N+2002):=aer _ (by omega);refine mR ((nt.same s7).same s8) n8 (by omega) fun p9 H9 s9 n9=>?_;refine ⟨_,_,_,rfl,fun b o' n e=>s9 _ _ (s8 _ _ (k7 b o' n e)),s9 _ _ (s8 _ _ (s7 _ _ Kz)),?_⟩
  have ew:((kvs.take (t+1)).map fun kv=>dt (mv L (lO kv.1)) (M (lO kv.1))).sum=((kvs.take t).map fun kv=>dt (mv L (lO kv.1)) (M (lO kv.1))).sum+((mv L p.nm).1*(M p.nm).1+(mv L p.nm).2*(M p.nm).2):=by
   rw [take_snoc uS,abq,ago,aaw,aez,ad_,ae3];show _+(dt (mv L p.nm) (M p.nm)+0)=_;unfold dt;grind
  rw [ew];exact n9.up (by rw [ae'];omega)
 ·rintro σ H6 ⟨tv,o3,o4,rfl,k6,Kz,nt⟩
  refine ⟨d,o,kvs,Kz,fun o' u' z=>(by have z':H d=some (.fB o' u'):=z;rw [ld.hd] at z';cases z'),?_⟩
  have s2:ao H1 (upd H6 d (.dK kvs)):=fun b o' e=>by
   by_cases n:b=d
   ·subst n
    rw [Xs.hd] at e;rw [ah];exact e
   ·rw [aj n]
    exact k6 b o' n e
  have t2:ju K (upd H6 d (.dK kvs)) tv (1+kvs.length*(2*N+2002)) ((kvs.take kvs.length).map fun kv=>dt (mv L (lO kv.1)) (M (lO kv.1))).sum:=nt.aJ fun b xs r=>by
   rcases r with r|⟨o',r⟩
   ·exact .inl (by rw [aj (fun e=>by rw [e,Kz] at r;cases r)];exact r)
   ·by_cases c:b=d
    ·rw [c,Kz] at r
     cases r
    ·exact .inr ⟨o',by rw [aj c];exact r⟩
  generalize upd H6 d (.dK kvs)=H8 at s2 t2 ⊢;rw [aeA,sm] at t2;have bt:kvs.length*(2*N+2002)<=9*(2*N+2002):=aer _ lk;exact ⟨_,rfl,q tv H8 (s1.trans s2) (t2.up (by omega))⟩
def e9:(10:Int)^(9:Int).toNat=1000000000:=by decide+kernel
def p9:X4 10 9:=⟨by decide,by decide,by decide⟩
def mX {t b:Int}(ht:0<t)(hb:0<b)(h1:t<1073741824)(h2:b<1073741824)(e:H p=some (.tup [.int (low t b).1,.int (low t b).2])):cU K H (.ref p) ((t:Rat) / (b:Rat))/\0<(t:Rat) / (b:Rat)/\Sz 31 ((t:Rat) / (b:Rat)):=by
 rw [fT (aeH hb)] at e;refine ⟨iY e,?_,rj (aeH hb) (intBits_le_iff.mpr (by show _<2147483648;omega)) (intBits_le_iff.mpr (by show _<2147483648;omega))⟩;rw [ahe];exact an4 (aeL.mpr ht) (ahf.mpr (aeL.mpr hb))
def qB (hb:0<b)(h:t=1\/b=1):low t b=(t,b):=mi hb (by rcases h with rfl|rfl<;>simp)
structure CS (K:Frag)(H0 H:Hp)(d:abA)(kG:γ)(bars:ς)(Go:τ)(n:Nat):Prop where
 s:ao H0 H
 hd:H d=some (.dK kG)
 nm:BA K H kG (fun x=>(Go x).map qr)
 ks:∀kv∈kG,∃x∈bars.map (·.nm),kv.1=.inr x
 ps:∀x,0<gR Go x/\Sz 31 (gR Go x)
 ll:kG.length<=n
def CS.same (h:CS K H0 H d kG bars Go n)(s:ao H H'):CS K H0 H' d kG bars Go n:=⟨h.s.trans s,s _ _ h.hd,h.nm.same s,h.ks,h.ps,h.ll⟩
def CS.up (h:CS K H0 H d kG bars Go m)(l:m<=n):CS K H0 H d kG bars Go n:=⟨h.s,h.hd,h.nm,h.ks,h.ps,aay h.ll l⟩
def CS.put (h:CS K H0 H d kG bars Go n)(n0:H0 d=none)(hb:b∈bars)(hv:cU K H v r/\0<r/\Sz 31 r):CS K H0 (upd H d (.dK (putK kG (.inr b.nm) v))) d (putK kG (.inr b.nm) v) bars (fun x=>if x=b.nm then some r else Go x) (n+1):=by
 have hd:=h.hd
 have t6:aY H (upd H d (.dK (putK kG (.inr b.nm) v))):=fun a zs r=>by
  rcases r with r|⟨o',r⟩
  ·exact .inl (by rw [aj (fun e=>by rw [e,hd] at r;cases r)];exact r)
  ·exact .inr ⟨o',by rw [aj (fun e=>by rw [e,hd] at r;cases r)];exact r⟩
 refine ⟨fun a o z=>?_,ah,?_,uI (fun k:Key=>∃x∈bars.map (·.nm),k=aeB x) h.ks ⟨b.nm,aar.mpr ⟨b,hb,rfl⟩,rfl⟩,fun x=>?_,aay (fg _ _ _) (anZ h.ll)⟩
 ·rw [aj (ak z n0)]
  exact h.s _ _ z
 ·have:=(h.nm.put (x:=b.nm) (v:=v) (q:=qr r) hv.1).aJ t6
  have e:(fun nm=>if nm=b.nm then some (qr r) else (Go nm).map qr)=fun x=>(if x=b.nm then some r else Go x).map qr:=funext fun x=>by
   by_cases c:x=b.nm
   ·rw [abC c,abC c]
    rfl
   ·rw [abB c,abB c]
  rw [e] at this;exact this
 ·show 0<(if x=b.nm then some r else Go x).getD 1/\Sz 31 ((if x=b.nm then some r else Go x).getD 1)
  by_cases c:x=b.nm
  ·rw [abC c]
   exact hv.2
  ·rw [abB c]
   exact h.ps x
inductive rZ (K:Frag)(vs:ζ)(H:Hp)(Q:VK)(E_:XK):Prop
|mk (sA bA:abA)(ns:ξ)(ws:ζ)(pins:ι)(bars:ς)(_:vs=[.ref sA,.ref bA])(_:aT K H sA (ns.map V.int))(_:H bA=some (.lst ws))(_:Paired (jk K H pins) ws bars)(_:bars.length<=14)(_:∀(d:abA)(kG:γ)(Go:τ)(H':Hp),H d=none->CS K H H' d kG bars Go 56->Q (.ref d) H')
def fK:av ["_law_script","_law_bars_here","_law_grips_here","_law_k","_law_cell","_law_way"] zav (ae fk):=sq
def wK (D:Def K mg "_law_grips" fk zav)(aU:mg "len"=none)(bf:mg "range"=none)(lM:ac P w K mg base 1 "_law_cell_at" zak (jQ K))(cE:ac P w K mg base 1 "_law_field" zad fJ)(jS:ac P w K mg base 33 "_law_lowest" zag b_):
  ac P w K mg base 34 "_law_grips" zav (rZ K):=by
 refine D.oo fK fun H hr h=>?_;obtain ⟨sA,bA,ns,ws,pins,bars,rfl,hS,hb,pb,lb,q⟩:=h;have L2:2<=abE:=by decide
 have lw:ws.length=bars.length:=abL pb
 refine ⟨_,(aa (aG 2 fK.nd dc) (aa (bq abI rfl (bY rfl bf (aX (aH aD rfl aU bS (aX (pv 1))))) (bP 3 fK.nd) (aa (aG 4 fK.nd (aL lM hr (aI (pv 0) (ay bC af (pv 3))))) (aa (aG 5 fK.nd (aL cE hr (bD (pv 4) af af))) (aa (bu (bx e_ (pv 5) af) (ag (cx (bH hr) (pv 2) (aF (bE aR (pv 1) (pv 3))) (aL jS hr (aI (ay bC af (aL cE hr (bD (pv 4) af af))) (ay bC af (aL cE hr (bD (pv 4) af af))))) rfl)) aQ) (aa (bu (bx e_ (pv 5) af) (ag (cx (bH hr) (pv 2) (aF (bE aR (pv 1) (pv 3))) (aV (aI (ay bC af (aL cE hr (bD (pv 4) af af))) af)) rfl)) aQ) (aa (bu (bx e_ (pv 5) af) (ag (cx (bH hr) (pv 2) (aF (bE aR (pv 1) (pv 3))) (aV (aI af (ay bC af (aL cE hr (bD (pv 4) af af))))) rfl)) aQ) (ag (bu (PW.pt (va (bx uk (pv 5) af) (qa (bx e_ (ay eQ (pv 3) af) af)))) (ag (cx (bH hr) (pv 2) (aF (bE aR (pv 1) (pv 3))) (bE aR (cg (aI (aV (aI (ay bC af (ay eQ (pv 4) (ay LQ af af))) af)) (aV (aI af (ay bC af (ay eQ (pv 4) (ay LQ af af))))))) (ay cG (pv 5) af)) rfl)) aQ)))))))) (ag (aC (pv 2))))),?_⟩;dsimp only [cxr,jD,Cx.xw,Cx.tu];refine sq2 ?_;intros
 intro d n1;generalize eX:upd _ d _=H1;have ⟨s1,e1⟩:=nw n1 eX;refine ⟨_,rfl,bA,_,rfl,.inl (aT.of (s1 _ _ hb)),((ws.length:Nat):Int),rfl,by omega,by omega,let I:zIv:=fun i σ H'=>Zf fun (o3 o4 o5:Α) (kG:γ) (Go:τ)=>σ=[ap sA,ap bA,ap d,o3,o4,o5]/\CS K H H' d kG bars Go (4*i);cA (lo:=0) (n:=((ws.length:Nat):Int).toNat) I ⟨none,none,none,[],fun _=>none,rfl,s1,e1,fun nm=>.inl ⟨rfl,rfl⟩,fun kv h=>(nomatch h),fun x=>⟨(by decide:(0:Rat)<1),nR (i:=1) (k:=31) (by decide) (by decide)⟩,aaA _⟩ ?_ ?_⟩
 ·rintro i σ H2 hi ⟨o3,o4,o5,kG,Go,rfl,g2⟩
  have ek:(0:Int)+(i:Int)=(i:Int):=aeO _;rw [ek];have xY:i<ws.length:=by omega
  refine ⟨_,rfl,_,rfl,_,_,rfl,rfl,sA,ns,_,rfl,g2.s.seq hS,by omega,by omega,?_⟩;generalize cell ns (32+(i:Int))=c;refine ⟨_,rfl,_,_,_,rfl,by decide,by decide,by decide,?_⟩;have iw:=aS (c:=c) (p:=1009) (m:=4) (by decide);generalize field c 1009 4=way at iw ⊢;have i1:=aS (c:=c) (p:=2003) (m:=9) (by decide);have i2:=aS (c:=c) (p:=3001) (m:=4) (by decide);have i3:=aS (c:=c) (p:=4001) (m:=90) (by decide);have i4:=aS (c:=c) (p:=4001) (m:=30) (by decide);obtain ⟨b,eb,O6⟩:=aA pb (gE xY);have mb:b∈bars:=aaq eb;obtain ⟨ta,j1,j2,eu,h1,_⟩:=O6;have ai:iZ ws (i:Int)=some (.ref ta):=bG (by rw [gE xY,eu]);dsimp only;refine jU (fun σ' H'=>EZ fun (kG:γ) (Go:τ)=>σ' =[some (.ref sA),some (.ref bA),some (.ref d),some (.int (i:Int)),some (.int c),some (.int way)]/\CS K H H' d kG bars Go (4*i+1)) (fun Nx KI=>?_) ?_
  ·refine ⟨_,rfl,rfl,_,rfl,?_⟩
   refine bB (fun _=>?_) (fun _=>?_)
   ·refine ⟨_,rfl,_,_,_,rfl,by decide,by decide,by decide,_,_,rfl,rfl,_,rfl,_,_,_,rfl,by decide,by decide,by decide,_,_,rfl,rfl,_,_,rfl,by omega,fun p4 H4 s4 e4=>?_⟩
    have g5:=g2.same s4;exact ⟨_,rfl,_,rfl,_,rfl,bA,_,_,_,rfl,rfl,aT.of (g5.s _ _ hb),ai,ta,_,_,_,rfl,rfl,Ty.ao.cQ g5.s h1,df,d,_,rfl,gI.k (k:=.inr b.nm) g5.hd (aaZ (show kG.length<=1000 by have:=g5.ll;omega) (by decide)),KI _ _ ⟨_,_,rfl,g5.put n1 mb (mX (by omega) (by omega) (by omega) (by omega) e4)⟩⟩
   ·exact KI _ _ ⟨kG,Go,rfl,g2.up (by omega)⟩
  rintro σ' H3 ⟨kG,Go,rfl,g3⟩;refine jU (fun σ' H'=>EZ fun (kG:γ) (Go:τ)=>σ' =[some (.ref sA),some (.ref bA),some (.ref d),some (.int (i:Int)),some (.int c),some (.int way)]/\CS K H H' d kG bars Go (4*i+2)) (fun Nx KI=>?_) ?_
  ·refine ⟨_,rfl,rfl,_,rfl,?_⟩
   refine bB (fun _=>?_) (fun _=>?_)
   ·refine ⟨_,rfl,_,_,_,rfl,by decide,by decide,by decide,_,_,rfl,rfl,L2,?_⟩
    intro p4 n4;generalize eX:upd _ p4 _=H4;have ⟨s4,e4⟩:=nw n4 eX;have g5:=g3.same s4;exact ⟨_,rfl,_,rfl,_,rfl,bA,_,_,_,rfl,rfl,aT.of (g5.s _ _ hb),ai,ta,_,_,_,rfl,rfl,Ty.ao.cQ g5.s h1,df,d,_,rfl,gI.k (k:=.inr b.nm) g5.hd (aaZ (show kG.length<=1000 by have:=g5.ll;omega) (by decide)),KI _ _ ⟨_,_,rfl,g5.put n1 mb (mX (t:=10+field c 4001 90) (b:=1) (by omega) (by omega) (by omega) (by omega) (by rw [qB (by decide) (.inr rfl)];exact e4))⟩⟩
   ·exact KI _ _ ⟨kG,Go,rfl,g3.up (by omega)⟩
  rintro σ' H3 ⟨kG,Go,rfl,g3⟩;refine jU (fun σ' H'=>EZ fun (kG:γ) (Go:τ)=>σ' =[some (.ref sA),some (.ref bA),some (.ref d),some (.int (i:Int)),some (.int c),some (.int way)]/\CS K H H' d kG bars Go (4*i+3)) (fun Nx KI=>?_) ?_
  ·refine ⟨_,rfl,rfl,_,rfl,?_⟩
   refine bB (fun _=>?_) (fun _=>?_)
   ·refine ⟨_,rfl,_,_,_,rfl,by decide,by decide,by decide,_,_,rfl,rfl,L2,?_⟩
    intro p4 n4;generalize eX:upd _ p4 _=H4;have ⟨s4,e4⟩:=nw n4 eX;have g5:=g3.same s4;exact ⟨_,rfl,_,rfl,_,rfl,bA,_,_,_,rfl,rfl,aT.of (g5.s _ _ hb),ai,ta,_,_,_,rfl,rfl,Ty.ao.cQ g5.s h1,df,d,_,rfl,gI.k (k:=.inr b.nm) g5.hd (aaZ (show kG.length<=1000 by have:=g5.ll;omega) (by decide)),KI _ _ ⟨_,_,rfl,g5.put n1 mb (mX (t:=1) (b:=1+field c 4001 30) (by omega) (by omega) (by omega) (by omega) (by rw [qB (by omega) (.inl rfl)];exact e4))⟩⟩
   ·exact KI _ _ ⟨kG,Go,rfl,g3.up (by omega)⟩
  rintro σ' H3 ⟨kG,Go,rfl,g3⟩;refine ⟨_,rfl,_,_,rfl,rfl,_,rfl,?_⟩;refine bB (fun cw=>?_) (fun _=>?_)
  ·refine ⟨_,rfl,_,_,rfl,rfl,nz (by decide),rfl,_,rfl,?_⟩
   refine bB (fun _=>?_) (fun _=>?_)
   ·have cw':1<way:=abS cw
    have f1:=ki (x:=c) (m:=(10:Int)^(9:Int).toNat) (by decide);refine ⟨_,rfl,_,_,rfl,rfl,p9,_,_,rfl,rfl,nz (by decide),_,_,rfl,rfl,L2,?_⟩;intro p4 n4;generalize eX:upd _ p4 _=H4;have ⟨s4,e4⟩:=nw n4 eX;refine ⟨_,rfl,_,_,rfl,rfl,p9,_,_,rfl,rfl,nz (by decide),_,_,rfl,rfl,L2,?_⟩;intro p5 n5;generalize eX:upd _ p5 _=H5;have ⟨s5,e5⟩:=nw n5 eX;refine ⟨L2,?_⟩;intro l6 n6;generalize eX:upd _ l6 _=H6;have ⟨s6,e6⟩:=nw n6 eX;have s56:=s5.trans s6;have g5:=g3.same (s4.trans s56);rw [e9] at f1 e4 e5
    have dn:∃(x:abA)(r:Rat),iZ [V.ref p4,V.ref p5] (way-2)=some (.ref x)/\(cU K H6 (.ref x) r/\0<r/\Sz 31 r):=by
     rcases (by omega:way=2\/way=3) with rfl|rfl
     ·exact ⟨p4,_,rfl,mX (t:=1+c.fmod 1000000000) (b:=1) (by omega) (by omega) (by omega) (by omega) (by rw [qB (by decide) (.inr rfl)];exact s56 _ _ e4)⟩
     ·exact ⟨p5,_,rfl,mX (t:=1) (b:=1+c.fmod 1000000000) (by omega) (by omega) (by omega) (by omega) (by rw [qB (by omega) (.inl rfl)];exact s6 _ _ e5)⟩
    obtain ⟨x,r,ex,hx⟩:=dn;exact ⟨_,rfl,_,_,rfl,rfl,l6,_,_,_,rfl,rfl,aT.of e6,ex,_,rfl,_,rfl,_,rfl,bA,_,_,_,rfl,rfl,aT.of (g5.s _ _ hb),ai,ta,_,_,_,rfl,rfl,Ty.ao.cQ g5.s h1,df,d,_,rfl,gI.k (k:=.inr b.nm) g5.hd (aaZ (show kG.length<=1000 by have:=g5.ll;omega) (by decide)),_,_,_,_,_,rfl,(g5.put n1 mb hx).up (by omega)⟩
   ·exact ⟨_,_,_,_,_,rfl,g3.up (by omega)⟩
  ·exact Qp ⟨_,_,_,_,_,rfl,g3.up (by omega)⟩
 ·rintro σ H2 ⟨o3,o4,o5,kG,Go,rfl,g2⟩
  exact ⟨_,rfl,q d kG Go H2 n1 (g2.up (by omega))⟩
def CT {α β:Type}{nm:α->Str}(b0:β){l:List α}(nd:(l.map nm).Nodup)(f:Nat->β):∃T:Str->β,∀(i:Nat)(x:α),l[i]?=some x->T (nm x)=f i:=by
 classical
 refine ⟨fun s=>if h:∃i,(l.map nm)[i]?=some s then f h.choose else b0,fun i x e=>?_⟩;have e':(l.map nm)[i]?=some (nm x):=by rw [aaa,e];rfl
 have h:∃i,(l.map nm)[i]?=some (nm x):=⟨i,e'⟩;show (if h:∃i,(l.map nm)[i]?=some (nm x) then f h.choose else b0)=f i;rw [dif_pos h];exact abR f (dO nd h.choose_spec e')
def f9 (hd:H d=some (.dK k)):aY H (upd H d (.dK k')):=fun a zs r=>by
 rcases r with r|⟨o',r⟩
 ·exact .inl (by rw [aj (fun e=>by rw [e,hd] at r;cases r)];exact r)
 ·exact .inr ⟨o',by rw [aj (fun e=>by rw [e,hd] at r;cases r)];exact r⟩
structure AD {α:Type}(H:Hp)(d:abA)(kT:γ)(nm:α->Str)(l:List α)(R:Hp->V->α->Prop):Prop where
 hd:H d=some (.dK kT)
 ky:kT.map (·.1)=l.map (fun x=>(aeB (nm x):Key))
 tv:∀x∈l,∃v,bJ kT (.inr (nm x))=some v/\R H v x
def AD.same {R:Hp->V->α->Prop}(h:AD H d kT nm l R)(m:∀v x,R H v x->R H' v x)(s:ao H H'):AD H' d kT nm l R:=⟨s _ _ h.hd,h.ky,fun x hx=>by
 obtain ⟨v,a,b⟩:=h.tv x hx
 exact ⟨v,a,m v x b⟩⟩
def AD.len {R:Hp->V->α->Prop}(h:AD H d kT nm l R):kT.length=l.length:=by
 have:=abR afb h.ky;rw [ir,ir] at this;exact this
def AD.put {l:List α}(nd:(l.map nm).Nodup)(e:l[i]?=some x)(h:AD H d kT nm (l.take i) R)(m:∀v' y,R H v' y->R (upd H d (.dK (putK kT (.inr (nm x)) v))) v' y)(hv:R H v x):AD (upd H d (.dK (putK kT (.inr (nm x)) v))) d (putK kT (.inr (nm x)) v) nm (l.take (i+1)) R:=by
 refine ⟨ah,?_,fun y hy=>?_⟩
 ·rw [dE _ (bZ (by
   rw [h.ky];intro z;obtain ⟨p',ia,e'⟩:=aar.mp z
   exact g7 (nm:=nm) nd e ia (by injection e'))),abq,h.ky,take_snoc e,abq]
  rfl
 ·rw [jI]
  by_cases c:nm y=nm x
  ·have ey:y=x:=by
    obtain ⟨j,ej⟩:=abh (agf hy);have:=dO nd (x:=nm x) (i:=j) (j:=i) (by rw [aaa,ej,<-c];rfl) (by rw [aaa,e];rfl);rw [this,e] at ej;exact (aen ej).symm
   subst ey;rw [abC rfl];exact ⟨v,rfl,m _ _ hv⟩
  ·rw [abB (fun z=>c (by injection z))]
   rw [take_snoc e] at hy
   rcases abj.mp hy with z|z
   ·obtain ⟨v',a,b⟩:=h.tv y z
    exact ⟨v',a,m _ _ b⟩
   ·exact abM (abR nm (abg.mp z)) c
def Rw {t b:Int}(h:0<b)(h1:t.natAbs<1024)(h2:b<1024):Sz 10 ((t:Rat) / (b:Rat)):=rj (aeH h) (intBits_le_iff.mpr (by show _<1024;omega)) (intBits_le_iff.mpr (by show _<1024;omega))
inductive r6 (K:Frag)(vs:ζ)(H:Hp)(Q:VK)(E_:XK):Prop
|mk (sA bA:abA)(st:Int)(ns:ξ)(ws:ζ)(pins:ι)(bars:ς)(_:vs=[.ref sA,.ref bA,.int st])(_:aT K H sA (ns.map V.int))(_:H bA=some (.lst ws))(_:Paired (jk K H pins) ws bars)(_:bars.length<=14)(_:(bars.map (·.nm)).Nodup)(_:0<=st)(_:st<=900)(_:∀(d:abA)(kT:γ)(T:Β)(H':Hp),ao H H' ->H d=none->AD H' d kT (·.nm) bars (fun H v b=>cU K H v (T b.nm))->(∀b∈bars,Sz 10 (T b.nm))->Q (.ref d) H')
def gN:av ["_law_script","_law_bars_here","_law_start","_law_pulls_here","_law_k","_law_cell"] zao (ae fq):=sq
def wL (D:Def K mg "_law_pulls" fq zao)(aU:mg "len"=none)(bf:mg "range"=none)(lM:ac P w K mg base 1 "_law_cell_at" zak (jQ K))(cE:ac P w K mg base 1 "_law_field" zad fJ)(jS:ac P w K mg base 33 "_law_lowest" zag b_):
  ac P w K mg base 34 "_law_pulls" zao (r6 K):=by
 refine D.oo gN fun H hr h=>?_;obtain ⟨sA,bA,st,ns,ws,pins,bars,rfl,hS,hb,pb,lb,nb,st0,sZ,q⟩:=h;have lw:ws.length=bars.length:=abL pb;obtain ⟨T,hT⟩:=CT (nm:=aK.nm) (0:Rat) nb fun i=>((field (cell ns (st+(i:Int))) 4001 2001-1000:Int):Rat) / ((1+field (cell ns (st+(i:Int))) 5003 9:Int):Rat)
 refine ⟨_,(aa (aG 3 gN.nd dc) (aa (bq abI rfl (bY rfl bf (aX (aH aD rfl aU bS (aX (pv 1))))) (bP 4 gN.nd) (aa (aG 5 gN.nd (aL lM hr (aI (pv 0) (ay bC (pv 2) (pv 4))))) (ag (cx (bH hr) (pv 3) (aF (bE aR (pv 1) (pv 4))) (aL jS hr (aI (ay cG (aL cE hr (bD (pv 5) af af)) af) (ay bC af (aL cE hr (bD (pv 5) af af))))) rfl)))) (ag (aC (pv 3))))),?_⟩
 intro d n1;generalize eX:upd _ d _=H1;have ⟨s1,e1⟩:=nw n1 eX;have en:((ws.length:Nat):Int).toNat=bars.length:=by omega
 refine ⟨_,rfl,bA,_,rfl,.inl (aT.of (s1 _ _ hb)),((ws.length:Nat):Int),rfl,by omega,by omega,let I:zIv:=fun i σ H'=>IS fun (o4 o5:Α) (kT:γ)=>σ=[ap sA,ap bA,some (.int st),ap d,o4,o5]/\ao H H'/\AD H' d kT (·.nm) (bars.take i) (fun H v b=>cU K H v (T b.nm));cA (lo:=0) (n:=((ws.length:Nat):Int).toNat) I ⟨none,none,[],rfl,s1,e1,by simp,fun x hx=>by simp at hx⟩ ?_ ?_⟩
 ·rintro i σ H2 hi ⟨o4,o5,kT,rfl,s2,di⟩
  have ek:(0:Int)+(i:Int)=(i:Int):=aeO _;rw [ek];have xY:i<ws.length:=by omega
  obtain ⟨b,eb,O6⟩:=aA pb (gE xY);obtain ⟨ta,j1,j2,eu,h1,_⟩:=O6;have ai:iZ ws (i:Int)=some (.ref ta):=bG (by rw [gE xY,eu]);have tb:=hT i b eb;refine ⟨_,rfl,_,rfl,_,rfl,_,_,rfl,rfl,sA,ns,_,rfl,s2.seq hS,by omega,by omega,?_⟩;generalize cell ns (st+(i:Int))=c at tb ⊢;have i1:=aS (c:=c) (p:=4001) (m:=2001) (by decide);have i2:=aS (c:=c) (p:=5003) (m:=9) (by decide);refine ⟨_,rfl,_,_,_,rfl,by decide,by decide,by decide,_,_,rfl,rfl,_,rfl,_,_,_,rfl,by decide,by decide,by decide,_,_,rfl,rfl,_,_,rfl,by omega,fun p4 H4 s4 e4=>?_⟩;rw [fT (by omega),<-tb] at e4;have di4:=di.same (fun _ _ z=>z.same s4) s4;have lk:=di4.len;rw [abv] at lk;exact ⟨_,rfl,_,rfl,_,rfl,bA,_,_,_,rfl,rfl,aT.of (s4 _ _ (s2 _ _ hb)),ai,ta,_,_,_,rfl,rfl,Ty.ao.cQ (s2.trans s4) h1,df,d,_,rfl,gI.k (k:=.inr b.nm) di4.hd (aaZ (show kT.length<=1000 by omega) (by decide)),_,_,_,rfl,fun b o z=>(by rw [aj (ak z n1)];exact s4 _ _ (s2 _ _ z)),di4.put nb eb (fun _ _ z=>z.aJ (f9 di4.hd)) (iY e4)⟩
 ·rintro σ H2 ⟨o4,o5,kT,rfl,s2,di⟩
  rw [en,aeA] at di;refine ⟨_,rfl,q d kT T H2 s2 n1 di fun b hb=>?_⟩;obtain ⟨i,ei⟩:=abh hb;rw [hT i b ei];generalize cell ns (st+(i:Int))=c;have i1:=aS (c:=c) (p:=4001) (m:=2001) (by decide);have i2:=aS (c:=c) (p:=5003) (m:=9) (by decide);exact Rw (by omega) (by omega) (by omega)
theorem o_ :∀(n:Nat) {us:ζ} {zs:List α},Paired R us zs->Paired R (us.take n) (zs.take n)
 | 0,_,_,_=>by simpa using Paired.nil
 | n+1,_,_,.nil=>by simpa using Paired.nil
 | n+1,_,_,.cons h t=>by
  rw [aib,aib];exact .cons h (o_ n t)
def UsR (K:Frag)(U:υ)(H:Hp)(v:V)(p:aw):Prop:=∃la ys,v=.ref la/\H la=some (.lst ys)/\Paired (cU K H) ys (U p.nm)
def UsR.same (h:UsR K U H v p)(s:ao H H'):UsR K U H' v p:=by
 obtain ⟨la,ys,a,b,c⟩:=h;exact ⟨la,ys,a,s _ _ b,Paired.bV c fun _ _ z=>z.same s⟩
inductive oA (K:Frag)(vs:ζ)(H:Hp)(Q:VK)(E_:XK):Prop
|mk (sA pA:abA)(st:Int)(ns:ξ)(us:ζ)(pins:ι)(_:vs=[.ref sA,.ref pA,.int st])(_:aT K H sA (ns.map V.int))(_:H pA=some (.lst us))(_:Paired (h_ K H) us pins)(_:jT pins)(_:pins.length<=9)(_:0<=st)(_:st<=900)(_:∀(d:abA)(kU:γ)(U:υ)(H':Hp),ao H H' ->H d=none->AD H' d kU (·.nm) pins (UsR K U)->(∀p∈pins,(U p.nm).length=p.ws.length)->(∀p∈pins,∀u∈U p.nm,Sz 8 u)->Q (.ref d) H')
def eO:av ["_law_script","_law_pins_here","_law_start","_law_pushes_here","_law_k","_law_cell","_law_some"] zap (ae d5):=sq
def tV (D:Def K mg "_law_pushes" d5 zap)(aU:mg "len"=none)(bf:mg "range"=none)(lM:ac P w K mg base 1 "_law_cell_at" zak (jQ K))(cE:ac P w K mg base 1 "_law_field" zad fJ):
  ac P w K mg base 2 "_law_pushes" zap (oA K):=by
 refine D.oo eO fun H hr h=>?_;obtain ⟨sA,pA,st,ns,us,pins,rfl,hS,hp,pp,gp,lp,st0,sZ,q⟩:=h;have L2:2<=abE:=by decide
 have lu:us.length=pins.length:=abL pp;obtain ⟨U,hU⟩:=CT (nm:=aw.nm) ([]:List Rat) gp.np fun i=>([((field (cell ns (st+(i:Int))) 6007 201-100:Int):Rat),((field (cell ns (st+(i:Int))) 7001 401-200:Int):Rat)]).take ((pins[i]?.map fun p=>p.ws.length).getD 0)
 refine ⟨_,(aa (aG 3 eO.nd dc) (aa (bq abI rfl (bY rfl bf (aX (aH aD rfl aU bS (aX (pv 1))))) (bP 4 eO.nd) (aa (aG 5 eO.nd (aL lM hr (aI (pv 0) (ay bC (pv 2) (pv 4))))) (aa (aG 6 eO.nd (cg (aI (aV (aI (ay cG (aL cE hr (bD (pv 5) af af)) af) af)) (aV (aI (ay cG (aL cE hr (bD (pv 5) af af)) af) af))))) (ag (cx (bH hr) (pv 3) (aF (bE aR (pv 1) (pv 4))) (cL dY (pv 6) dX (dw (aH aD rfl aU bS (aX (aF (bE aR (pv 1) (pv 4))))))) rfl))))) (ag (aC (pv 3))))),?_⟩;dsimp only [cxr,jD,Cx.xw,Cx.tu];refine sq2 ?_;intros
 intro d n1;generalize eX:upd _ d _=H1;have ⟨s1,e1⟩:=nw n1 eX;have en:((us.length:Nat):Int).toNat=pins.length:=by omega
 refine ⟨_,rfl,pA,_,rfl,.inl (aT.of (s1 _ _ hp)),((us.length:Nat):Int),rfl,by omega,by omega,let I:zIv:=fun i σ H'=>Lk fun (o4 o5 o6:Α) (kU:γ)=>σ=[ap sA,ap pA,some (.int st),ap d,o4,o5,o6]/\ao H H'/\AD H' d kU (·.nm) (pins.take i) (UsR K U);cA (lo:=0) (n:=((us.length:Nat):Int).toNat) I ⟨none,none,none,[],rfl,s1,e1,by simp,fun x hx=>by simp at hx⟩ ?_ ?_⟩
 ·rintro i σ H2 hi ⟨o4,o5,o6,kU,rfl,s2,di⟩
  have ek:(0:Int)+(i:Int)=(i:Int):=aeO _;rw [ek];have xY:i<us.length:=by omega
  obtain ⟨p,ep,N6⟩:=aA pp (gE xY);have mp:=aaq ep;obtain ⟨ta,l,sv,iz,eu,h1,h2,h3,h4⟩:=N6.same s2;have ai:iZ us (i:Int)=some (.ref ta):=bG (by rw [gE xY,eu]);have lv:iz.length=p.ws.length:=abL h4;have lwp:=(gp.ws p mp).len;have tb:=hU i p ep;rw [ep] at tb;refine ⟨_,rfl,_,rfl,_,rfl,_,_,rfl,rfl,sA,ns,_,rfl,s2.seq hS,by omega,by omega,?_⟩;generalize cell ns (st+(i:Int))=c0 at tb ⊢;refine ⟨_,rfl,_,_,_,rfl,by decide,by decide,by decide,_,_,rfl,rfl,L2,?_⟩;intro p5 n5;generalize eX:upd _ p5 _=H5;have ⟨s5,e5⟩:=nw n5 eX;refine ⟨_,rfl,_,_,_,rfl,by decide,by decide,by decide,_,_,rfl,rfl,L2,?_⟩;intro p6 n6;generalize eX:upd _ p6 _=H6;have ⟨s6,e6⟩:=nw n6 eX;refine ⟨L2,?_⟩;intro l7 n7;generalize eX:upd _ l7 _=H7;have ⟨s7,e7⟩:=nw n7 eX;have V5:=s5.trans (s6.trans s7);refine ⟨_,rfl,_,rfl,_,rfl,pA,_,_,_,rfl,rfl,aT.of (V5 _ _ (s2 _ _ hp)),ai,ta,_,_,_,rfl,rfl,Ty.ao.cQ V5 h1,rfl,l,_,rfl,.inl (aT.of (V5 _ _ h3)),_,rfl,l7,_,rfl,aT.of e7,?_⟩;rw [mH (show iz.length<=[V.ref p5,V.ref p6].length by show iz.length<=2;omega)];intro la n8;generalize eX:upd _ la _=H8;have ⟨s8,e8⟩:=nw n8 eX;have s28:=V5.trans s8;have di8:=di.same (fun _ _ z=>z.same s28) s28;have lk:=di8.len;rw [abv] at lk;refine ⟨_,rfl,_,rfl,_,rfl,pA,_,_,_,rfl,rfl,aT.of (s28 _ _ (s2 _ _ hp)),ai,ta,_,_,_,rfl,rfl,Ty.ao.cQ s28 h1,df,d,_,rfl,gI.k (k:=.inr p.nm) di8.hd (aaZ (show kU.length<=1000 by omega) (by decide)),?_⟩;have two:Paired (cU K H8) [V.ref p5,V.ref p6] [((field c0 6007 201-100:Int):Rat),((field c0 7001 401-200:Int):Rat)]:=.cons (rR _ (s8 _ _ (s7 _ _ (s6 _ _ e5)))) (.cons (rR _ (s8 _ _ (s7 _ _ e6))) .nil);refine ⟨_,_,_,_,rfl,fun b o z=>(by rw [aj (ak z n1)];exact s28 _ _ (s2 _ _ z)),di8.put gp.np ep (fun _ _ ⟨a,ys,z1,z2,z3⟩=>⟨a,ys,z1,by rw [aj (fun e=>by rw [e,di8.hd] at z2;cases z2)];exact z2,Paired.bV z3 fun _ _ z=>z.aJ (f9 di8.hd)⟩) ⟨la,_,rfl,e8,?_⟩⟩;rw [tb,lv];exact o_ _ two
 ·rintro σ H2 ⟨o4,o5,o6,kU,rfl,s2,di⟩
  rw [en,aeA] at di;refine ⟨_,rfl,q d kU U H2 s2 n1 di (fun p hp=>?_) fun p hp u hu=>?_⟩
  ·obtain ⟨i,ei⟩:=abh hp
   have lwp:=(gp.ws p hp).len;rw [hU i p ei,ei,abv];show min p.ws.length 2=p.ws.length;omega
  ·obtain ⟨i,ei⟩:=abh hp
   rw [hU i p ei] at hu;generalize cell ns (st+(i:Int))=c at hu;have i1:=aS (c:=c) (p:=6007) (m:=201) (by decide);have i2:=aS (c:=c) (p:=7001) (m:=401) (by decide);have sm:∀i:Int,i.natAbs<256->Sz 8 (i:Rat):=fun i h=>nR h (by decide)
   rcases aes.mp (agf hu) with z|z
   ·rw [z]
    exact sm _ (by omega)
   ·rw [abg.mp z]
    exact sm _ (by omega)
theorem Of {α:Type}{f:α->Rat}:∀{l:List α},(∀x∈l,Sz k (f x))->Sz (l.length*(k+1)+1) (l.map f).sum
 | [],_=>by
  rw [aez,ae3];exact d6 (by simp)
 | x::l,h=>by
  rw [aaw,ad_,aey];refine ((h x aa_).add (Of fun y hy=>h y (aax _ hy))).up ?_;rw [ae'];omega
theorem TN :∀{us ws:Ι},(∀u∈us,Sz k u)->(∀w∈ws,Sz m w)->Sz (us.length*(k+m+1)+1) (sP us ws)
 | [],ws,_,_=>by
  rw [eZ];exact d6 (by simp)
 | u::us,[],_,_=>by
  have:sP (u::us) []=0:=by simp [sP]
  rw [this];exact d6 (by simp)
 | u::us,w::ws,h1,h2=>by
  rw [bU,aey];refine (((h1 u aa_).mul (h2 w aa_)).add (TN (us:=us) (ws:=ws) (fun y hy=>h1 y (aax _ hy)) fun y hy=>h2 y (aax _ hy))).up ?_;rw [ae'];omega
def yS (g:cV pins bars)(lb:bars.length<=7)(zT:∀b∈bars,Sz 10 (T b.nm))(zU:∀p∈pins,∀u∈U p.nm,Sz 8 u)(lU:∀p∈pins,(U p.nm).length=p.ws.length)(hp:p∈pins)(hc:∀{n:Nat} {w:Rat×Rat},Sz n w.1/\Sz n w.2->Sz n (c w)):Sz 495 (dR bars T U p c):=by
 unfold dR
 have z1:Sz ((U p.nm).length*(8+22+1)+1) (sP (U p.nm) (p.ws.map c)):=TN (zU p hp) fun w hw=>by
  obtain ⟨w',VE,rfl⟩:=aar.mp hw;exact hc ((g.sz p hp).2.2 w' VE)
 have z2:Sz (bars.length*(60+1)+1) (bars.map fun b=>T b.nm*c (mv (cJ b) p.nm)).sum:=Of fun b hb=>((zT b hb).mul (hc (BW g hb p.nm))).up (by decide);have l1:=g.lw p hp;have l3:=lU p hp;have m1:(U p.nm).length*(8+22+1)<=2*31:=aer 31 (by omega);have m2:bars.length*(60+1)<=7*61:=aer 61 lb;exact (z1.add z2).up (by omega)
def GN (bars:ς)(T:Β)(U:υ)(p:aw):Rat×Rat:=(-(dR bars T U p (·.1)), -(dR bars T U p (·.2)))
def GO (h:0<q.2)(e:vl q=r):low (0-q.1) q.2=qr (-r):=by
 rw [fT (aeH h),<-e];congr 1;unfold vl;push_cast;grind
def AD.ldg {pins:ι}{f:aw->Rat×Rat}(di:AD H d kvs (·.nm) pins (fun H v p=>gc K H v (f p)))(np:(pins.map (·.nm)).Nodup)(lp:pins.length<=9)(z:∀p∈pins,Sz 1000 (f p).1/\Sz 1000 (f p).2):∃L,GL K H d kvs pins L/\∀p∈pins,mv L p.nm=f p:=by
 have lk:=di.len;have ky:=di.ky
 have nk:(kvs.map (·.1)).Nodup:=by
  rw [ky];have:(pins.map fun p=>(aeB p.nm:Key))=(pins.map (·.nm)).map aeB:=by rw [ab_];rfl
  rw [this];exact ai_ _ (fun a b n z=>n (by injection z)) np
 obtain ⟨L,hL⟩:=CT (nm:=aw.nm) ((0,0):Rat×Rat) np fun i=>(pins[i]?.map f).getD (0,0)
 have eL:∀p∈pins,L p.nm=f p:=fun p hp=>by
  obtain ⟨i,e⟩:=abh hp;rw [hL i p e,e];rfl
 have Xt:∀p∈pins,mv (fun x=>if x∈pins.map (·.nm) then some (L x) else none) p.nm=f p:=fun p hp=>by
  show (if p.nm∈pins.map (·.nm) then some (L p.nm) else none).getD (0,0)=_;rw [abC (aar.mpr ⟨p,hp,rfl⟩)];exact eL p hp
 refine ⟨fun x=>if x∈pins.map (·.nm) then some (L x) else none,⟨di.hd,fun x=>?_,nk,fun kv MK=>?_,fun x=>?_,by omega⟩,Xt⟩
 ·by_cases c:x∈pins.map (·.nm)
  ·obtain ⟨p,mp,rfl⟩:=aar.mp c
   obtain ⟨v,a,b⟩:=di.tv p mp;exact .inr ⟨v,L p.nm,a,abC c,by rw [eL p mp];exact b⟩
  ·refine .inl ⟨bZ (fun z=>c ?_),abB c⟩
   rw [ky] at z;obtain ⟨p,mp,e⟩:=aar.mp z;exact aar.mpr ⟨p,mp,by injection e⟩
 ·have:kv.1∈kvs.map (·.1):=aar.mpr ⟨kv,MK,rfl⟩
  rw [ky] at this;obtain ⟨p',mp,e⟩:=aar.mp this;exact ⟨p'.nm,aar.mpr ⟨p',mp,rfl⟩,e.symm⟩
 ·by_cases c:x∈pins.map (·.nm)
  ·obtain ⟨p,mp,rfl⟩:=aar.mp c
   rw [Xt p mp];exact z p mp
  ·show Sz 1000 ((if x∈pins.map (·.nm) then some (L x) else none).getD (0,0)).1/\Sz 1000 ((if x∈pins.map (·.nm) then some (L x) else none).getD (0,0)).2
   rw [abB c];exact ⟨d6 (by decide),d6 (by decide)⟩
inductive wM (K:Frag)(vs:ζ)(H:Hp)(Q:VK)(E_:XK):Prop
|mk (pA bA tA uA:abA)(us ws:ζ)(kT kU:γ)(pins:ι)(bars:ς)(T:Β)(U:υ)(N:Nat)(_:vs=[.ref pA,.ref bA,.ref tA,.ref uA])(_:Lo K H pA bA us ws pins bars)(_:LFo K H tA uA kT kU pins bars T U N)(_:cV pins bars)(_:bars.length<=7)(_:(∀b∈bars,Sz 10 (T b.nm)))(_:(∀p∈pins,∀u∈U p.nm,Sz 8 u))(_:∀(d:abA)(kvs:γ)(L:θ)(H':Hp),ao H H' ->H d=none->GL K H' d kvs pins L->kvs.length<=9->gw pins bars T U L->AD H' d kvs (·.nm) pins (fun H v p=>gc K H v (mv L p.nm))->(∀p∈pins,Sz 495 (mv L p.nm).1/\Sz 495 (mv L p.nm).2)->Q (.ref d) H')
def dS:av ["_law_pins_here","_law_bars_here","_law_pulls_here","_law_pushes_here","_law_found","_law_load","_law_k","_law_x"] zaa (ae dH):=sq
def r8 (D:Def K mg "_law_load_by" dH zaa)(aU:mg "len"=none)(bf:mg "range"=none)(ah9:ac P w K mg base 3 "_law_forces" zaa (rV K))(jS:ac P w K mg base 33 "_law_lowest" zag b_):
  ac P w K mg base 34 "_law_load_by" zaa (wM K):=by
 refine D.oo dS fun H hr h=>?_;obtain ⟨pA,bA,tA,uA,us,ws,kT,kU,pins,bars,T,U,N,rfl,fr,fo,g,lb7,zT,zU,q⟩:=h;have L2:2<=abE:=by decide
 have lp:=fr.lp;have lu:us.length=pins.length:=abL fr.pp
 refine ⟨_,(aa (aG 4 dS.nd (aL ah9 hr (pM (pv 0) (bD (pv 1) (pv 2) (pv 3))))) (aa (aG 5 dS.nd dc) (aa (bq abI rfl (bY rfl bf (aX (aH aD rfl aU bS (aX (pv 0))))) (bP 6 dS.nd) (aa (aG 7 dS.nd (aL jS hr (aI (ay cG af (aF (uO (bE aR (pv 4) (pv 6))))) (aF (uO (bE aR (pv 4) (pv 6))))))) (ag (cx (bH hr) (pv 5) (aF (bE aR (pv 0) (pv 6))) (aV (aI (pv 7) (aL jS hr (aI (ay cG af (aF (uO (bE aR (pv 4) (pv 6))))) (aF (uO (bE aR (pv 4) (pv 6)))))))) rfl)))) (ag (aC (pv 5)))))),?_⟩;dsimp only [cxr,jD,Cx.xw,Cx.tu];refine sq3 ?_;intros
 refine ⟨_,rfl,_,rfl,_,rfl,_,rfl,pA,bA,tA,uA,us,ws,kT,kU,pins,bars,T,U,N,rfl,fr,fo,fun fA ls F H1 s1 ll hF eF=>?_⟩;intro d nd;generalize eX:upd _ d _=H2;have ⟨s2,e2⟩:=nw nd eX;have tO:=s1.trans s2;have enb:((us.length:Nat):Int).toNat=pins.length:=by omega
 refine ⟨_,rfl,pA,_,rfl,.inl (aT.of (tO _ _ fr.hp)),((us.length:Nat):Int),rfl,by omega,by omega,let I:zIv:=fun i σ H'=>IS fun (o6 o7:Α) (kvs:γ)=>σ=[ap pA,ap bA,ap tA,ap uA,ap fA,ap d,o6,o7]/\ao H1 H'/\AD H' d kvs (·.nm) (pins.take i) (fun H v p=>gc K H v (GN bars T U p));cA (lo:=0) (n:=((us.length:Nat):Int).toNat) I ⟨none,none,[],rfl,s2,e2,by simp,fun x hx=>by simp at hx⟩ ?_ ?_⟩
 ·rintro i σ H3 hi ⟨o6,o7,kvs,rfl,s3,di⟩
  have ek:(0:Int)+(i:Int)=(i:Int):=aeO _;rw [ek];have yH:=s1.trans s3;have hiu:i<us.length:=by omega
  obtain ⟨p,ep,N6⟩:=aA fr.pp (gE hiu);obtain ⟨ta,lw,sv,iz,eu,h1,_,_,_⟩:=N6.same yH;have ai:iZ us (i:Int)=some (.ref ta):=bG (by rw [gE hiu,eu]);have F3:=hF.same s3;obtain ⟨lr,elr⟩:∃lr,ls[i]?=some lr:=⟨_,gE (by omega)⟩;obtain ⟨w1,w2,hlr,⟨q1,⟨a1,rfl,m1⟩,b1,c1,_⟩,⟨q2,⟨a2,rfl,m2⟩,b2,c2,_⟩⟩:=F3.row i lr elr;obtain ⟨f1,f2⟩:=eF i p ep;have etl:iZ (ls.map V.ref) (i:Int)=some (.ref lr):=bG (by rw [aaa,elr];rfl);have lf:=aT.of (K:=K) F3.hf;have lrq:=aT.of (K:=K) hlr;refine ⟨_,rfl,_,rfl,fA,_,_,_,rfl,rfl,lf,etl,lr,_,_,_,rfl,rfl,lrq,rfl,a1,_,_,_,rfl,rfl,m1,iU,_,_,rfl,rfl,_,rfl,_,rfl,fA,_,_,_,rfl,rfl,lf,etl,lr,_,_,_,rfl,rfl,lrq,rfl,a1,_,_,_,rfl,rfl,m1,iu,_,_,rfl,b1,fun p4 H4 s4 e4=>?_⟩;rw [GO b1 (c1.trans f1)] at e4;have lf4:=aT.of (K:=K) (s4 _ _ F3.hf);have lr4:=aT.of (K:=K) (s4 _ _ hlr);have m24:=Ty.ao.cQ s4 m2;refine ⟨_,rfl,_,rfl,_,rfl,fA,_,_,_,rfl,rfl,lf4,etl,lr,_,_,_,rfl,rfl,lr4,rfl,a2,_,_,_,rfl,rfl,m24,iU,_,_,rfl,rfl,_,rfl,_,rfl,fA,_,_,_,rfl,rfl,lf4,etl,lr,_,_,_,rfl,rfl,lr4,rfl,a2,_,_,_,rfl,rfl,m24,iu,_,_,rfl,b2,fun p5 H5 s5 e5=>?_⟩;rw [GO b2 (c2.trans f2)] at e5;refine ⟨L2,?_⟩;intro p6 n6;generalize eX:upd _ p6 _=H6;have ⟨s6,e6⟩:=nw n6 eX;have NX:=s4.trans (s5.trans s6);have TQ:=di.same (fun _ _ z=>z.same NX) NX;have lk:=TQ.len;rw [abv] at lk;exact ⟨_,rfl,_,rfl,_,rfl,pA,_,_,_,rfl,rfl,aT.of ((yH.trans NX) _ _ fr.hp),ai,ta,_,_,_,rfl,rfl,Ty.ao.cQ NX h1,df,d,_,rfl,gI.k (k:=.inr p.nm) TQ.hd (aaZ (show kvs.length<=100 by omega) (by decide)),_,_,_,rfl,fun b o z=>(by rw [aj (ak z nd)];exact NX _ _ (s3 _ _ z)),TQ.put fr.gp.np ep (fun _ _ z=>z.aJ (f9 TQ.hd)) ⟨p6,_,_,rfl,bQ.of e6,iY (s6 _ _ (s5 _ _ e4)),iY (s6 _ _ e5)⟩⟩
 ·rintro σ H3 ⟨o6,o7,kvs,rfl,s3,di⟩
  rw [enb,aeA] at di;have zz:∀p∈pins,Sz 495 (GN bars T U p).1/\Sz 495 (GN bars T U p).2:=fun p mp=>⟨(yS g lb7 zT zU fo.lU mp (fun h=>h.1)).neg,(yS g lb7 zT zU fo.lU mp (fun h=>h.2)).neg⟩;obtain ⟨L,ld,Xt⟩:=di.ldg fr.gp.np lp fun p hp=>⟨(zz p hp).1.up (by decide),(zz p hp).2.up (by decide)⟩;refine ⟨_,rfl,q d kvs L H3 (s1.trans s3) (s1.free nd) ld (by have:=di.len;omega) (fun p hp=>?_) ⟨di.hd,di.ky,fun p hp=>?_⟩ fun p hp=>?_⟩
  ·rw [Xt p hp]
   unfold GN;constructor<;>grind
  ·obtain ⟨v,a,b⟩:=di.tv p hp
   exact ⟨v,a,by rw [Xt p hp];exact b⟩
  ·rw [Xt p hp]
   exact zz p hp
def yT {α:Type}{l:List α}(h:l.length=n+1):∃x t,l=x::t/\t.length=n:=by
 cases l with
 | nil=>cases h
 | cons x t=>exact ⟨x,t,rfl,Nat.succ.inj h⟩
def GP {α:Type}{l:List α}(h:l.length=2):∃x y,l=[x,y]:=by
 obtain ⟨x,t,rfl,h1⟩:=yT h;obtain ⟨y,t,rfl,h2⟩:=yT h1;obtain rfl:=afd.mp h2;exact ⟨x,y,rfl⟩
noncomputable def cy (bars:ς)(Go:τ)(T:Β):Rat:=(bars.map fun b=>T b.nm*T b.nm*(1 / (2*gR Go b.nm))).sum
structure Bt (K:Frag)(H:Hp)(pins:ι)(bars:ς)(p dT dU dM:abA)(kT kU kM:γ)(T:Β)(U:υ)(M:χ):Prop where
 hp:H p=some (.tup [.str "bent",.ref dT,.ref dU,.ref dM])
 pl:Rv K H pins bars dT dU kT kU T U 1600000
 mo:TL K H pins dM kM M 400000
def Bt.same (h:Bt K H pins bars p dT dU dM kT kU kM T U M)(s:ao H H'):Bt K H' pins bars p dT dU dM kT kU kM T U M:=⟨s _ _ h.hp,h.pl.same s,h.mo.same s⟩
inductive wN (K:Frag)(vs:ζ)(H:Hp)(Q:VK)(E_:XK):Prop
|mk (pA bA p dT dU dM:abA)(us ws:ζ)(pins:ι)(bars:ς)(kT kU kM:γ)(T:Β)(U:υ)(M:χ)(_:vs=[.ref pA,.ref bA,.ref p])(_:Lo K H pA bA us ws pins bars)(_:Bt K H pins bars p dT dU dM kT kU kM T U M)(_:∀H',ao H H' ->Q (.bl true) H')
def yU:av zah zah (ae fU):=sq
def yV (D:Def K mg "_law_told" fU zah)(bh:mg "isinstance"=none)(gM:mg "tuple"=none)(aU:mg "len"=none)(ah':ac P w K mg base 35 "_law_are_forces" zaa (CP K))(aia:ac P w K mg base 35 "_law_is_motion" zau (Od K)):
  ac P w K mg base 36 "_law_told" zah (wN K):=by
 refine D.oo yU fun H hr h=>?_;obtain ⟨pA,bA,p,dT,dU,dM,us,ws,pins,bars,kT,kU,kM,T,U,M,rfl,fr,bt,q⟩:=h
 refine ⟨_,(aa (bu (PW.pt (jy (fD (eh (aH f_ rfl bh cv (aI (pv 2) (mj rfl gM vt))))) (jy (bx lZ (aH aD rfl aU bS (aX (pv 2))) af) (iC (bx lZ (aF (pv 2)) eY))))) (ag (aC gB)) aQ) (ag (aC (vb (aL ah' hr (pM (pv 0) (bD (pv 1) (aF (pv 2)) (aF (pv 2))))) (AF (aL aia hr (aI (pv 0) (aF (pv 2))))))))),?_⟩
 have ep:=bt.hp;have spq:=bQ.of (K:=K) ep;have lp:=fr.lp;refine ⟨_,rfl,_,_,_,true,rfl,rfl,.tup ep,abc,_,rfl,bB (fun c=>nomatch c) (fun _=>?_)⟩;refine ⟨_,rfl,p,_,rfl,.inr spq,rfl,_,rfl,DZ rfl ?_⟩;refine ⟨_,rfl,p,_,_,_,rfl,rfl,spq,df,rfl,_,rfl,DZ rfl ?_⟩;refine ⟨_,rfl,_,rfl,_,rfl,p,_,_,_,rfl,rfl,spq,rfl,_,rfl,p,_,_,_,rfl,rfl,spq,rfl,pA,bA,dT,dU,us,ws,pins,bars,kT,kU,T,U,1600000,rfl,fr,bt.pl,fun H9 s9=>⟨_,rfl,UO ?_⟩⟩;have fr9:=fr.same s9;exact ⟨_,rfl,_,rfl,p,_,_,_,rfl,rfl,Ty.ao.cQ s9 spq,rfl,pA,dM,us,pins,kM,M,400000,rfl,fr9.hp,fr9.pp,by omega,bt.mo.same s9,fun Ha sa=>q _ (s9.trans sa)⟩
structure yW (pins:ι)(bars:ς)(Go:τ)(L:θ)(T:Β)(U:υ)(M:χ):Prop where
 hw:∀p∈pins,∀w∈p.ws,dt w (M p.nm)=0
 hT:∀b∈bars,T b.nm=gR Go b.nm*cR M b
 rest:gw pins bars T U L
theorem ph (hg:∀x,0<gR Go x):∀{bars:ς},(∀b∈bars,T b.nm=gR Go b.nm*cR M b)->cy bars Go T+cy bars Go T=(bars.map fun b=>T b.nm*cR M b).sum
 | [],_=>by
  show (0:Rat)+0=0;grind
 | b::bs,h=>by
  have ih:=ph hg fun b' hb=>h b' (aax _ hb);have e:=h b aa_;have z:gR Go b.nm≠0:=fun z=>abM (hg b.nm) (by rw [z];exact aid);unfold cy at ih ⊢;rw [aaw,aaw,ad_,ad_,<-ih]
  have:T b.nm*T b.nm*(1 / (2*gR Go b.nm))+T b.nm*T b.nm*(1 / (2*gR Go b.nm))=T b.nm*cR M b:=by
   rw [e];grind
  grind
theorem pj (hg:∀x,0<gR Go x):∀{bars:ς},(∀b∈bars,T b.nm=gR Go b.nm*cR M b)->cy bars Go T+cy bars Go (fun x=>D x+ -T x)+(bars.map fun b=>D b.nm*cR M b).sum=cy bars Go D+(bars.map fun b=>T b.nm*cR M b).sum
 | [],_=>by
  show (0:Rat)+0+0=0+0;grind
 | b::bs,h=>by
  have ih:=pj (D:=D) hg fun b' hb=>h b' (aax _ hb);have e:=h b aa_;have z:gR Go b.nm≠0:=fun z=>abM (hg b.nm) (by rw [z];exact aid);unfold cy at ih ⊢;rw [aaw,aaw,aaw,aaw,aaw,ad_,ad_,ad_,ad_,ad_]
  have:T b.nm*T b.nm*(1 / (2*gR Go b.nm))+(D b.nm+ -T b.nm)*(D b.nm+ -T b.nm)*(1 / (2*gR Go b.nm))+D b.nm*cR M b=D b.nm*D b.nm*(1 / (2*gR Go b.nm))+T b.nm*cR M b:=by
   rw [e];grind
  grind
def yX {g:Rat}(h:0<g):0<=1 / (2*g):=by
 rw [ahe];have:(0:Rat)<2*g:=by grind
 have:=agE (ahf.mpr this);grind
theorem oB (hg:∀x,0<gR Go x):∀bars:List aK,0<=cy bars Go T
 | []=>by
  show (0:Rat)<=0;grind
 | b::bs=>by
  have ih:=oB (T:=T) hg bs;have h:=ae8 (sq_pos (T b.nm)) (yX (hg b.nm));unfold cy at ih ⊢;rw [aaw,ad_];grind
def Rx {g h:Rat}(hg:0<g)(l:g<=h):1 / (2*h)<=1 / (2*g):=by
 have hh:0<h:=by grind
 have e1:1 / (2*g)-1 / (2*h)=(h-g)*(1 / (2*g)*(1 / h)):=by grind
 have p1:=yX hg
 have p2:0<=1 / h:=by
  rw [ahe];have:=agE (ahf.mpr hh);grind
 have:=ae8 (show 0<=h-g by grind) (ae8 p1 p2);grind
theorem yY (hg:∀x,0<gR Go x):∀{bars:ς},(∀b∈bars,T2 b.nm=T b.nm/\gR Go b.nm<=gR oC b.nm)->cy bars oC T2<=cy bars Go T
 | [],_=>by
  show (0:Rat)<=0;grind
 | b::bs,h=>by
  have ih:=yY hg fun b' hb=>h b' (aax _ hb);obtain ⟨e,l⟩:=h b aa_;have d:=Rx (hg b.nm) l;have m:=ae8 (sq_pos (T b.nm)) (show 0<=1 / (2*gR Go b.nm)-1 / (2*gR oC b.nm) by grind);unfold cy at ih ⊢;rw [aaw,aaw,ad_,ad_,e];grind
structure wO (bars:ς)(Go:τ)(gi:ς)(oC:τ):Prop where
 ex:∃ext,gi=bars++ext
 nb:(gi.map (·.nm)).Nodup
 le:∀b∈bars,gR Go b.nm<=gR oC b.nm
theorem lQ:∀{l:ς} {f:aK->Rat},(∀b∈l,f b=0)->(l.map f).sum=0
 | [],_,_=>rfl
 | b::bs,f,h=>by
  rw [aaw,ad_,h b aa_,lQ fun c hc=>h c (aax _ hc)];grind
def uX (nb:((bars++ext).map (·.nm)).Nodup)(h:gw pins bars T U L):∃T2:Str->Rat,gw pins (bars++ext) T2 U L/\(∀b∈bars,T2 b.nm=T b.nm)/\∀b∈ext,T2 b.nm=0:=by
 have out:∀b∈bars,b.nm∉ext.map (·.nm):=fun b hb z=>by
  rw [abq,afo] at nb;exact nb.2.2 _ (aar.mpr ⟨b,hb,rfl⟩) _ z rfl
 refine ⟨fun x=>if x∈ext.map (·.nm) then 0 else T x,fun p hp=>?_,fun b hb=>abB (out b hb),fun b hb=>abC (aar.mpr ⟨b,hb,rfl⟩)⟩
 have e:∀c:Rat×Rat->Rat,dR (bars++ext) (fun x=>if x∈ext.map (·.nm) then 0 else T x) U p c=dR bars T U p c:=fun c=>by
  unfold dR;rw [abq,ago];have e1:(bars.map fun b=>(if b.nm∈ext.map (·.nm) then (0:Rat) else T b.nm)*c (mv (cJ b) p.nm))=bars.map fun b=>T b.nm*c (mv (cJ b) p.nm):=abk fun b hb=>by rw [abB (out b hb)]
  have e2:(ext.map fun b=>(if b.nm∈ext.map (·.nm) then (0:Rat) else T b.nm)*c (mv (cJ b) p.nm)).sum=0:=lQ fun b hb=>by
   rw [abC (aar.mpr ⟨b,hb,rfl⟩)];grind
  rw [e1,e2];grind
 rw [e,e];exact h p hp
def lR (g:cV pins bars)(hg:∀x,0<gR Go x)(b:yW pins bars Go L T U M):iW pins L M=cy bars Go T+cy bars Go T:=by
 rw [ph hg b.hT,<-yF g b.rest b.hw]
def Og (g:cV pins bars)(hg:∀x,0<gR Go x)(b:yW pins bars Go L T U M):0<=iW pins L M:=by
 have:=oB (T:=T) hg bars;rw [lR g hg b];grind
def KJ (f:wO bars Go gi oC)(g:cV pins bars)(g2:cV pins gi)(hg:∀x,0<gR Go x)(hg2:∀x,0<gR oC x){M M2:χ}(b:yW pins bars Go L T U M)(b2:yW pins gi oC L T2 U2 M2):iW pins L M2<=iW pins L M:=by
 obtain ⟨ext,rfl⟩:=f.ex;obtain ⟨D,rD,h1,h2⟩:=uX f.nb b.rest;rw [lR g hg b,lR g2 hg2 b2];have s:=pj (D:=D) hg2 b2.hT;rw [<-yF g2 b2.rest b2.hw,<-yF g2 rD b2.hw] at s;have p:=oB (T:=fun x=>D x+ -T2 x) hg2 (bars++ext)
 have l:cy (bars++ext) oC D<=cy bars Go T:=by
  have l1:cy bars oC D<=cy bars Go T:=yY hg fun c hc=>⟨h1 c hc,f.le c hc⟩
  have l2:cy ext oC D=0:=by
   unfold cy
   exact lQ fun c hc=>by
    rw [h2 c hc];grind
  have e:cy (bars++ext) oC D=cy bars oC D+cy ext oC D:=by
   unfold cy;rw [abq,ago]
  rw [e,l2];grind
 grind
theorem four {T1 T2 x1 x2:aK->Rat}:∀bars:List aK,(bars.map fun b=>(T1 b-T2 b)*(x1 b-x2 b)).sum=(bars.map fun b=>T1 b*x1 b).sum-(bars.map fun b=>T2 b*x1 b).sum-((bars.map fun b=>T1 b*x2 b).sum-(bars.map fun b=>T2 b*x2 b).sum)
 | []=>by
  simp only [aez,ae3];grind
 | b::bs=>by
  have ih:=four (T1:=T1) (T2:=T2) (x1:=x1) (x2:=x2) bs;simp only [aaw,ad_] at ih ⊢;grind
def Oh (g:cV pins bars)(hg:∀x,0<gR Go x){M1 M2:χ}(b1:yW pins bars Go L T1 U1 M1)(b2:yW pins bars Go L T2 U2 M2):∀b∈bars,T1 b.nm=T2 b.nm:=by
 have z:=four (T1:=fun b=>T1 b.nm) (T2:=fun b=>T2 b.nm) (x1:=cR M1) (x2:=cR M2) bars;rw [<-yF g b1.rest b1.hw,<-yF g b2.rest b1.hw,<-yF g b1.rest b2.hw,<-yF g b2.rest b2.hw] at z
 have e:(bars.map fun b=>(T1 b.nm-T2 b.nm)*(cR M1 b-cR M2 b))=bars.map fun b=>gR Go b.nm*((cR M1 b-cR M2 b)*(cR M1 b-cR M2 b)):=abk fun b hb=>by
  rw [b1.hT b hb,b2.hT b hb];grind
 rw [e] at z;intro b hb;have s:cR M1 b-cR M2 b=0:=wo (fun b=>gR Go b.nm) (fun b=>cR M1 b-cR M2 b) bars (fun b _=>hg b.nm) (by rw [z];grind) b hb;rw [b1.hT b hb,b2.hT b hb];grind
def KN (h:jh ws)(l1:u1.length=ws.length)(l2:u2.length=ws.length)(e1:sP u1 (ws.map (·.1))=sP u2 (ws.map (·.1)))(e2:sP u1 (ws.map (·.2))=sP u2 (ws.map (·.2))):u1=u2:=by
 rcases h with rfl|⟨x,y,rfl,ne,_,_⟩|rfl
 ·rw [afd.mp l1,afd.mp l2]
 ·obtain ⟨a,rfl⟩:=agG.mp l1
  obtain ⟨b,rfl⟩:=agG.mp l2;simp only [aaw,aez,bU,eZ] at e1 e2;have d1:(a-b)*x=0:=by grind
  have d2:(a-b)*y=0:=by grind
  have:a=b:=by
   rcases agX.mp d1 with z|z
   ·grind
   ·rcases agX.mp d2 with z'|z'
    ·grind
    ·exact abM ⟨z,z'⟩ ne
  rw [this]
 ·obtain ⟨a1,a2,rfl⟩:=GP l1
  obtain ⟨b1,b2,rfl⟩:=GP l2;simp only [aaw,aez,bU,eZ] at e1 e2;have h1:a1=b1:=by grind
  have h2:a2=b2:=by grind
  rw [h1,h2]
def Oi (r1:gw pins bars T1 U1 L)(r2:gw pins bars T2 U2 L)(hT:∀b∈bars,T1 b.nm=T2 b.nm)(hp:p∈pins)(wk:jh p.ws)(l1:(U1 p.nm).length=p.ws.length)(l2:(U2 p.nm).length=p.ws.length):U1 p.nm=U2 p.nm:=by
 obtain ⟨x1,y1⟩:=r1 p hp;obtain ⟨x2,y2⟩:=r2 p hp;unfold dR at x1 y1 x2 y2;have e:∀f:aK->Rat,(bars.map fun b=>T1 b.nm*f b).sum=(bars.map fun b=>T2 b.nm*f b).sum:=fun f=>abR ah6 (abk fun b hb=>by rw [hT b hb]);have e1:=e fun b=>(mv (cJ b) p.nm).1;have e2:=e fun b=>(mv (cJ b) p.nm).2;exact KN wk l1 l2 (by grind) (by grind)
abbrev Xu (pins:ι):List (Str×Pt):=pins.map fun p=>(p.nm,xy p.sp)
abbrev mpW (pins:ι):List (Str×List (Rat×Rat)):=pins.map fun p=>(p.nm,p.ws)
abbrev KO (bars:ς):List (Str×Str×Str):=bars.map fun b=>(b.nm,b.one.nm,b.other.nm)
def yZ (k:bw pB H0 H)(e:H0 pB=some (.dK kB)):aY H0 H:=fun b xs r=>by
 rcases r with r|⟨o',r⟩
 ·exact .inl (k _ _ (fun z=>by rw [z,e] at r;cases r) r)
 ·exact .inr ⟨o',k _ _ (fun z=>by rw [z,e] at r;cases r) r⟩
def wQ (k:bw pB H0 H)(e:H0 pB=some (.dK kB))(r:H0 b=some (.lst xs)):H b=some (.lst xs):=k _ _ (fun z=>by rw [z,e] at r;cases r) r
def h_.ks (k:bw pB H0 H)(e:H0 pB=some (.dK kB))(h:h_ K H0 v p):h_ K H v p:=by
 obtain ⟨a,l,sv,us,ev,h1,h2,h3,h4⟩:=h;have t:=yZ k e;exact ⟨a,l,sv,us,ev,t.cQ h1,h2.aJ t,wQ k e h3,h4.aJ t⟩
def jk.t (t:aY H0 H)(h:jk K H0 pins v b):jk K H pins v b:=by
 obtain ⟨a,i,j,ev,h1,h2,h3⟩:=h;exact ⟨a,i,j,ev,t.cQ h1,h2,h3⟩
def Lo.ks (k:bw pB H0 H)(e:H0 pB=some (.dK kB))(h:Lo K H0 pA bA us vs pins bars):Lo K H pA bA us vs pins bars:=⟨wQ k e h.hp,Paired.bV h.pp fun _ _ z=>z.ks k e,h.gp,wQ k e h.hb,Paired.bV h.pb fun _ _ z=>z.t (yZ k e),h.en,h.lp,h.lb⟩
def BC.t (t:aY H0 H)(h:BC K H0 kvs L):BC K H kvs L:=fun x=>by
 rcases h x with h|⟨v,p,h1,h2,h3⟩
 ·exact .inl h
 ·exact .inr ⟨v,p,h1,h2,h3.aJ t⟩
def GL.kk (k:bw pB H0 H)(e:H0 pB=some (.dK kB))(n:d≠pB)(h:GL K H0 d kvs pins L):GL K H d kvs pins L:=⟨k _ _ n h.hd,BC.t (yZ k e) h.pt,h.nk,h.ks,h.sz,h.ll⟩
structure uY (K:Frag)(H:Hp)(d:abA)(kG:γ)(bars:ς)(Go:τ)(z n:Nat):Prop where
 hd:H d=some (.dK kG)
 nm:BA K H kG (fun x=>(Go x).map qr)
 ks:∀kv∈kG,∃x∈bars.map (·.nm),kv.1=.inr x
 ps:∀x,0<gR Go x/\Sz z (gR Go x)
 ll:kG.length<=n
def uY.of (h:CS K H0 H d kG bars Go n):uY K H d kG bars Go 31 n:=⟨h.hd,h.nm,h.ks,h.ps,h.ll⟩
section
variable {H H':Hp}{d e:abA}{kG:γ}{bars:ς}{Go:τ}{z n:Nat}
def uY.same (h:uY K H d kG bars Go z n)(s:ao H H'):uY K H' d kG bars Go z n:=⟨s _ _ h.hd,h.nm.same s,h.ks,h.ps,h.ll⟩
def uY.to (h:uY K H d kG bars Go z n)(t:aY H H')(hd:H' e=some (.dK kG)):uY K H' e kG bars Go z n:=⟨hd,h.nm.aJ t,h.ks,h.ps,h.ll⟩
def uY.up (h:uY K H d kG bars Go z n)(l:z<=z')(m:n<=n'):uY K H d kG bars Go z' n':=⟨h.hd,h.nm,h.ks,fun x=>⟨(h.ps x).1,(h.ps x).2.up l⟩,aay h.ll m⟩
def uY.more (h:uY K H d kG bars Go z n)(ext:ς):uY K H d kG (bars++ext) Go z n:=⟨h.hd,h.nm,fun kv hk=>by
 obtain ⟨x,hx,e⟩:=h.ks kv hk
 exact ⟨x,by rw [abq];exact aex _ hx,e⟩,h.ps,h.ll⟩
def uY.put (h:uY K H d kG bars Go z n)(hb:b∈bars)(hv:cU K H v r)(hr:0<r/\Sz z r):uY K (upd H d (.dK (putK kG (.inr b.nm) v))) d (putK kG (.inr b.nm) v) bars (fun x=>if x=b.nm then some r else Go x) z (n+1):=by
 have hd:=h.hd;have t6:=f9 (k':=putK kG (.inr b.nm) v) hd;refine ⟨ah,?_,uI (fun k:Key=>∃x∈bars.map (·.nm),k=aeB x) h.ks ⟨b.nm,aar.mpr ⟨b,hb,rfl⟩,rfl⟩,fun x=>?_,aay (fg _ _ _) (anZ h.ll)⟩
 ·have:=(h.nm.put (x:=b.nm) (v:=v) (q:=qr r) hv).aJ t6
  have e:(fun nm=>if nm=b.nm then some (qr r) else (Go nm).map qr)=fun x=>(if x=b.nm then some r else Go x).map qr:=funext fun x=>by
   by_cases c:x=b.nm
   ·rw [abC c,abC c]
    rfl
   ·rw [abB c,abB c]
  rw [e] at this;exact this
 ·show 0<(if x=b.nm then some r else Go x).getD 1/\Sz z ((if x=b.nm then some r else Go x).getD 1)
  by_cases c:x=b.nm
  ·rw [abC c]
   exact hr
  ·rw [abB c]
   exact h.ps x
end
def gD (k:Nat):Str:="more"++ab2 (toString (k:Int))
def Oj:∀i:Fin 2,("more":Str).length+(ab2 (toString (i.val:Int))).length<=1000:=by decide+kernel
def qC:gD 0="more0"/\gD 1="more1":=by decide+kernel
structure m8 (K:Frag)(H0 H:Hp)(C fA dx pP pW pB lP lB gA:abA)(kP kW:γ)(us vs:ζ)(pins:ι)(bars:ς)(kG:γ)(Go:τ)(k:Nat):Prop where
 fr:∃kB,fS K H C fA dx pP pW pB (Xu pins) (KO bars) kP kW kB
 ks:bw pB H0 H
 b0:∃kB,H0 pB=some (.dK kB)
 p0:H0 pP=some (.dK kP)
 q0:H0 pW=some (.dK kW)
 w0:vG K H0 (mpW pins) kW
 nB:H0 lB=none
 nG:H0 gA=none
 ne:lB≠gA
 Th:H0 lP=some (.lst us)
 Wm:Paired (h_ K H0) us pins
 hb:H lB=some (.lst vs)
 pb:Paired (jk K H pins) vs bars
 gp:jT pins
 gb:oW pins bars
 lp:pins.length<=3
 lb:bars.length<=7+k
 gr:uY K H gA kG bars Go (31+7*k) (56+2*k)
 nm:∀j,k<=j->j<2->gD j∉bars.map (·.nm)
section
variable {H0 H H':Hp}{C fA dx pP pW pB lP lB gA:abA}{kP kW:γ}{us vs:ζ}{pins:ι}{bars:ς}{kG:γ}{Go:τ}{k:Nat}
def m8.same (h:m8 K H0 H C fA dx pP pW pB lP lB gA kP kW us vs pins bars kG Go k)(s:ao H H'):m8 K H0 H' C fA dx pP pW pB lP lB gA kP kW us vs pins bars kG Go k:=by
 obtain ⟨kB,R⟩:=h.fr;exact ⟨⟨kB,R.same s⟩,fun b o n e=>s _ _ (h.ks b o n e),h.b0,h.p0,h.q0,h.w0,h.nB,h.nG,h.ne,h.Th,h.Wm,s _ _ h.hb,Paired.bV h.pb fun _ _ z=>z.same s,h.gp,h.gb,h.lp,h.lb,h.gr.same s,h.nm⟩
def TR (k:bw pB H0 H)(e:H0 pB=some (.dK kB))(W:vG K H0 (mpW pins) kW):vG K H (mpW pins) kW:=by
 have t:=yZ k e;refine gP (abL W) fun i p kv e1 e2=>?_;obtain ⟨sY,e3,z1,l,mI,z2,z3,z4⟩:=aA W e1;rw [e2] at e3;cases e3;exact ⟨z1,l,mI,z2,wQ k e z3,z4.aJ t⟩
def m8.fa (h:m8 K H0 H C fA dx pP pW pB lP lB gA kP kW us vs pins bars kG Go k):sW K H C fA pins bars:=by
 obtain ⟨kB,R⟩:=h.fr;obtain ⟨kB0,e⟩:=h.b0;exact ⟨dx,pP,pW,pB,kP,kW,kB,R,TR h.ks e h.w0⟩
def m8.hp (h:m8 K H0 H C fA dx pP pW pB lP lB gA kP kW us vs pins bars kG Go k):H lP=some (.lst us):=by
 obtain ⟨kB0,e⟩:=h.b0;exact wQ h.ks e h.Th
def m8.pp (h:m8 K H0 H C fA dx pP pW pB lP lB gA kP kW us vs pins bars kG Go k):Paired (h_ K H) us pins:=by
 obtain ⟨kB0,e⟩:=h.b0;exact Paired.bV h.Wm fun _ _ z=>z.ks h.ks e
def m8.g (h:m8 K H0 H C fA dx pP pW pB lP lB gA kP kW us vs pins bars kG Go k)(hk:k<=2):cV pins bars:=TJ h.gp h.gb (by have:=h.lp;omega) (by have:=h.lb;omega)
def m8.lfr (h:m8 K H0 H C fA dx pP pW pB lP lB gA kP kW us vs pins bars kG Go k)(hk:k<=2):Lo K H lP lB us vs pins bars:=⟨h.hp,h.pp,h.gp,h.hb,h.pb,fun b hb=>(h.gb.ends b hb).2.2,by have:=h.lp;omega,by have:=h.lb;omega⟩
def m8.t (h:m8 K H0 H C fA dx pP pW pB lP lB gA kP kW us vs pins bars kG Go k)(o:∀b o,b≠lB->b≠gA->H b=some o->H' b=some o):aY H H':=fun b xs r=>by
 have nn:∀{o:HO},H b=some o->(∀l,o≠.lst l)->(∀l,o≠.dK l)->b≠lB/\b≠gA:=fun {o} r n1 n2=>⟨fun z=>by rw [z,h.hb] at r;exact n1 _ (aen r).symm,fun z=>by rw [z,h.gr.hd] at r;exact n2 _ (aen r).symm⟩
 rcases r with r|⟨o',r⟩
 ·exact .inl (o _ _ (nn r (fun _ z=>nomatch z) fun _ z=>nomatch z).1 (nn r (fun _ z=>nomatch z) fun _ z=>nomatch z).2 r)
 ·exact .inr ⟨o',o _ _ (nn r (fun _ z=>nomatch z) fun _ z=>nomatch z).1 (nn r (fun _ z=>nomatch z) fun _ z=>nomatch z).2 r⟩
def m8.ksU (h:m8 K H0 H C fA dx pP pW pB lP lB gA kP kW us vs pins bars kG Go k)(o:∀b o,b≠lB->b≠gA->H b=some o->H' b=some o):bw pB H0 H':=fun b o' n e=>o b o' (fun z=>by rw [z,h.nB] at e;cases e) (fun z=>by rw [z,h.nG] at e;cases e) (h.ks b o' n e)
def m8.frU (h:m8 K H0 H C fA dx pP pW pB lP lB gA kP kW us vs pins bars kG Go k)(o:∀b o,b≠lB->b≠gA->H b=some o->H' b=some o):∃kB,fS K H' C fA dx pP pW pB (Xu pins) (KO bars) kP kW kB:=by
 obtain ⟨kB,R⟩:=h.fr;have nn:∀{b:abA} {o:HO},H b=some o->(∀l,o≠.lst l)->b≠lB:=fun {b o} r n1 z=>by rw [z,h.hb] at r;exact n1 _ (aen r).symm
 obtain ⟨kB0,e0⟩:=h.b0;have go:fA≠gA:=fun z=>by have:=R.obj;rw [z,h.gr.hd] at this;cases this
 have old:∀{b:abA} {o:HO},H0 b=some o->b≠gA:=fun {b o} r z=>by rw [z,h.nG] at r;cases r
 have nz:∀{b:abA},b≠gA->∀{o1:HO},H b=some o1->(∀l,o1≠.lst l)->H' b=H b:=fun {b} n {o1} r n1=>by rw [r];exact o _ _ (nn r n1) n r
 exact ⟨kB,R.yi (h.t o) (nz go R.obj fun _ z=>nomatch z) (nz (old h.p0) R.pl fun _ z=>nomatch z) (nz (old h.q0) R.wy fun _ z=>nomatch z) (nz (old e0) R.br fun _ z=>nomatch z)⟩
def m8.abl (h:m8 K H0 H C fA dx pP pW pB lP lB gA kP kW us vs pins bars kG Go k)(ll:kG.length<56+2*k)(hb:b∈bars)(hv:cU K H v r)(hr:0<r/\Sz (31+7*k) r):m8 K H0 (upd H gA (.dK (putK kG (.inr b.nm) v))) C fA dx pP pW pB lP lB gA kP kW us vs pins bars (putK kG (.inr b.nm) v) (fun x=>if x=b.nm then some r else Go x) k:=by
 have o:∀b' o,b'≠lB->b'≠gA->H b'=some o->(upd H gA (.dK (putK kG (.inr b.nm) v))) b'=some o:=fun b' o _ n e=>by rw [aj n];exact e
 have t:=h.t o;have g:=h.gr.put hb hv hr;exact ⟨h.frU o,h.ksU o,h.b0,h.p0,h.q0,h.w0,h.nB,h.nG,h.ne,h.Th,h.Wm,by rw [aj h.ne];exact h.hb,Paired.bV h.pb fun _ _ z=>z.t t,h.gp,h.gb,h.lp,h.lb,⟨g.hd,g.nm,g.ks,g.ps,aay (fg _ _ _) ll⟩,h.nm⟩
end
def uZ (nb:(bars.map (·.nm)).Nodup)(h:∀b∈bars,gR Go b.nm<=gR oC b.nm):wO bars Go bars oC:=⟨⟨[],(ae_ _).symm⟩,nb,h⟩
def y4 (x:Str):gR (fun z=>if z=y then some r else Go z) x=if x=y then r else gR Go x:=by
 show (if x=y then some r else Go x).getD 1=_;by_cases c:x=y
 ·rw [abC c,abC c]
  rfl
 ·rw [abB c,abB c]
  rfl
def Ol {t b:Int}(ht:0<t)(hb:0<b):0<(t:Rat) / (b:Rat):=by
 rw [ahe];exact an4 (aeL.mpr ht) (ahf.mpr (aeL.mpr hb))
inductive CU (K:Frag)(C:abA)(vs:ζ)(H:Hp)(Q:VK)(E_:XK):Prop
|mk (H0:Hp)(fA dx pP pW pB lP lB gA:abA)(kP kW:γ)(us iz :ζ)(pins:ι)(bars:ς)(kG:γ)(Go:τ)(c:Int)(k:Nat)(_:vs=[.ref fA,.ref lP,.ref lB,.ref gA,.int c,.int (k:Int)])(_:k<2)(_:m8 K H0 H C fA dx pP pW pB lP lB gA kP kW us iz pins bars kG Go k)(_:∀(Ry:ζ)(gi:ς)(Xv:γ)(oC:τ)(H':Hp),aY H H' ->m8 K H0 H' C fA dx pP pW pB lP lB gA kP kW us Ry pins gi Xv oC (k+1)->wO bars Go gi oC->Q .cT H')
def dW:av ["_law_frame_here","_law_pins_here","_law_bars_here","_law_grips_here","_law_cell","_law_k","_law_name_here","_law_more","_law_top","_law_bottom","_law_one","_law_other"] zae (ae fV):=sq
def y6 (D:Def K mg "_law_deed" fV zae)(aU:mg "len"=none)(oV:mg "str"=none)(cE:ac P w K mg base 1 "_law_field" zad fJ)(rS:ac P w K mg base 1 "_law_sum" zac (cK K iL))(jS:ac P w K mg base 33 "_law_lowest" zag b_)
  (Xr:ad P w K mg base 3 C "put_bar" zaf (jN K C)):
  ac P w K mg base 34 "_law_deed" zae (CU K C):=by
 refine D.op dW fun f ck A outer s H vs Q E hr h=>?_;obtain ⟨H0,fA,dx,pP,pW,pB,lP,lB,gA,kP,kW,us,vs,pins,bars,kG,Go,c,k,rfl,hk,st,q⟩:=h;have L2:2<=abE:=by decide
 have L3:3<=abE:=by decide
 have lu:us.length=pins.length:=abL st.Wm;have lv:vs.length=bars.length:=abL st.pb;have lp:=st.lp;have lb:=st.lb;have lg:(k:Int).natAbs.log2<1920:=aaZ (anY _) (by show k<1920;omega);have fl:=aay (Oj ⟨k,hk⟩) (show 1000<=abE by decide)
 have up:∀{H1:Hp},ao H H1->m8 K H0 H1 C fA dx pP pW pB lP lB gA kP kW us vs pins bars kG Go (k+1):=fun {H1} s=>by
  have sZ:=st.same s;exact ⟨sZ.fr,sZ.ks,sZ.b0,sZ.p0,sZ.q0,sZ.w0,sZ.nB,sZ.nG,sZ.ne,sZ.Th,sZ.Wm,sZ.hb,sZ.pb,sZ.gp,sZ.gb,sZ.lp,by omega,sZ.gr.up (by omega) (by omega),fun j hj=>sZ.nm j (by omega)⟩
 refine ⟨_,(ag (bu (PW.pt (va (bx uk (aH aD rfl aU bS (aX (pv 2))) af) (qa (bx e_ (aL cE hr (bD (pv 4) af af)) af)))) (aa (aG 6 dW.nd (aF (bE aR (pv 2) (aL cE hr (bD (pv 4) af (aH aD rfl aU bS (aX (pv 2)))))))) (aa (aG 7 dW.nd (aV (aI (ay bC af (aL cE hr (bD (pv 4) af af))) (ay bC af (aL cE hr (bD (pv 4) af af)))))) (aa (vc (aL rS hr (aI (jJ (bH hr) (pv 3) (pv 6) (aV (aI af af)) ⟨rfl,rfl,rfl,rfl⟩) (pv 7))) (fE rfl (a_ (bP 8 dW.nd) (a_ (bP 9 dW.nd) cX)))) (ag (cx (bH hr) (pv 3) (pv 6) (aL jS hr (aI (pv 8) (pv 9))) rfl))))) (ag (bu (bx uk (aH aD rfl aU bS (aX (pv 1))) af) (aa (aG 10 dW.nd (aL cE hr (bD (pv 4) af (aH aD rfl aU bS (aX (pv 1)))))) (aa (aG 11 dW.nd (ay eQ (ay bC (ay bC (pv 10) af) (aL cE hr (bD (pv 4) af (ay cG (aH aD rfl aU bS (aX (pv 1))) af)))) (aH aD rfl aU bS (aX (pv 1))))) (aa (bN (oK ab9 acg ach fe (pv 2) (aX (aV (bD (ay fP eY (bO gH rfl oV EB (aX (pv 5)))) (pv 10) (pv 11)))))) (aa (bN (eC (k:=3) (pv 0) hr.mo (pY P w) (bD (ay fP eY (bO gH rfl oV EB (aX (pv 5)))) (aF (bE aR (pv 1) (pv 10))) (aF (bE aR (pv 1) (pv 11)))))) (ag (bu (bx e_ (aL cE hr (bD (pv 4) af af)) af) (ag (cx (bH hr) (pv 3) (ay fP eY (bO gH rfl oV EB (aX (pv 5)))) (aV (aI (ay bC af (aL cE hr (bD (pv 4) af af))) af)) rfl)) aQ)))))) aQ)))),?_⟩;dsimp only [cxr,jD,Cx.xw,Cx.tu]
 refine ⟨_,rfl,lB,_,rfl,.inl (aT.of st.hb),_,_,rfl,rfl,_,rfl,?_⟩;refine (fun (els:_)=>bB (fun c0=>?_) (fun _=>els)) ?_
 ·refine ⟨_,rfl,_,_,_,rfl,by decide,by decide,by decide,rfl,_,rfl,bB (fun c1=>?_) (fun _=>els)⟩
  clear els;have c0':(0:Int)<(vs.length:Int):=abS c0;refine ⟨_,rfl,_,rfl,_,rfl,lB,_,rfl,.inl (aT.of st.hb),_,_,_,rfl,by decide,by decide,by omega,?_⟩;have fi:=aS (c:=c) (p:=2003) (m:=((vs.length:Nat):Int)) (by omega);generalize field c 2003 ((vs.length:Nat):Int)=fv at fi ⊢;obtain ⟨n,rfl⟩:∃n:Nat,fv=(n:Int):=⟨fv.toNat,by omega⟩;obtain ⟨b,eb⟩:∃b,bars[n]?=some b:=⟨_,gE (by omega)⟩;have mb:=aaq eb;obtain ⟨y,ey,hy⟩:=aA (cO st.pb) eb;have hy:jk K H pins y b:=hy;obtain ⟨ta,i,j,rfl,h1,g1,g2⟩:=hy;refine ⟨lB,_,_,_,rfl,rfl,aT.of st.hb,bG ey,ta,_,_,_,rfl,rfl,h1,df,_,rfl,_,_,_,rfl,by decide,by decide,by decide,_,_,rfl,rfl,_,rfl,_,_,_,rfl,by decide,by decide,by decide,_,_,rfl,rfl,L2,?_⟩;have i1:=aS (c:=c) (p:=4001) (m:=50) (by decide);have i2:=aS (c:=c) (p:=5003) (m:=3) (by decide);intro p2 n2;generalize eX:upd _ p2 _=H2;have ⟨s2,e2⟩:=nw n2 eX;generalize field c 4001 50=ft at i1 e2;generalize field c 5003 3=fb at i2 e2;refine ⟨_,rfl,gA,rfl,.inl ⟨_,.inl (s2 _ _ st.gr.hd)⟩,_,rfl,L2,?_⟩;intro p3 n3;generalize eX:upd _ p3 _=H3;have ⟨s3,e3⟩:=nw n3 eX;have yH:=s2.trans s3;have zY:=st.same yH
  have gk:jw K H3 ((bJ kG (.inr b.nm)).getD (.ref p3)) (qr (gR Go b.nm)):=by
   rw [<-qz];exact zY.gr.nm.IF (x:=b.nm) (v:=.ref p3) (q:=(1,1)) ⟨p3,rfl,bQ.of e3⟩
  refine ⟨_,dh.k (k:=.inr b.nm) zY.gr.hd,?_⟩;generalize (bJ kG (.inr b.nm)).getD (.ref p3)=gv at gk ⊢;refine ⟨_,rfl,?_⟩;have gz:=st.gr.ps b.nm;have z2:Sz 6 (((1+ft:Int):Rat) / ((1+fb:Int):Rat)):=rj (by omega) (intBits_le_iff.mpr (by show _<64;omega)) (intBits_le_iff.mpr (by show _<64;omega));have nm2:ju K H3 (.ref p2) 6 (((1+ft:Int):Rat) / ((1+fb:Int):Rat)):=⟨(1+ft,1+fb),⟨p2,rfl,bQ.of (s3 _ _ e2)⟩,by show (0:Int)<1+fb;omega,rfl,by show (1+ft).natAbs<=64;omega,by show (1+fb).natAbs<=64;omega⟩;try dsimp only [gj];show cK K iL [_,_] _ _ E0;refine mR (iK gk (jq gz.2 (aaA _))) nm2 (by omega) fun p5 H5 s5 n5=>?_;obtain ⟨q5,⟨p5',ep5,sq5⟩,q5p,q5v,_⟩:=n5;cases ep5;refine ⟨p5,_,rfl,sq5,rfl,_,_,rfl,_,_,rfl,rfl,_,rfl,_,rfl,_,_,rfl,q5p,fun p6 H6 s6 e6=>?_⟩;rw [fT (by omega)] at e6;have e6v:((q5.1:Int):Rat) / ((q5.2:Int):Rat)=gR Go b.nm+((1+ft:Int):Rat) / ((1+fb:Int):Rat):=q5v;rw [e6v] at e6;have fp:0<((1+ft:Int):Rat) / ((1+fb:Int):Rat):=Ol (by omega) (by omega);have Xo:=yH.trans (s5.trans s6);have st6:=up Xo;have ll:=st.gr.ll;refine ⟨_,rfl,_,rfl,gA,_,rfl,gI.k (k:=.inr b.nm) st6.gr.hd (aaZ (show kG.length<=1000 by omega) (by decide)),q vs bars _ _ _ (fun b xs r=>f9 st6.gr.hd b xs (aY.of Xo b xs r)) (st6.abl (by omega) mb (iY e6) ⟨by have:=gz.1;grind,(gz.2.add z2).up (by omega)⟩) (uZ st.gb.nb fun b' ff =>?_)⟩;rw [y4];by_cases cc:b'.nm=b.nm
  ·rw [abC cc,cc]
   grind
  ·rw [abB cc]
   exact ahd
 ·refine ⟨_,rfl,lP,_,rfl,.inl (aT.of st.hp),_,_,rfl,rfl,_,rfl,bB (fun c2=>?_) (fun _=>q vs bars kG Go H (aY.of (ao.refl _)) (up (ao.refl _)) (uZ st.gb.nb fun _ _=>ahd))⟩
  have c2':(1:Int)<(us.length:Int):=abS c2;have sp:=aT.of (K:=K) st.hp;have hnm:=st.nm k (aaA _) hk;have j1:=aS (c:=c) (p:=2003) (m:=(us.length:Int)) (by omega);have j2:=aS (c:=c) (p:=3001) (m:=(us.length:Int)-1) (by omega);refine ⟨_,rfl,_,rfl,lP,_,rfl,.inl sp,_,_,_,rfl,by decide,by decide,by omega,?_⟩;generalize field c 2003 (us.length:Int)=one at j1 ⊢;refine ⟨_,rfl,_,_,rfl,rfl,_,rfl,_,rfl,lP,_,rfl,.inl sp,_,_,rfl,rfl,_,_,_,rfl,by decide,by decide,by omega,_,_,rfl,rfl,_,rfl,lP,_,rfl,.inl sp,_,_,rfl,rfl,nz (by omega),?_⟩;generalize field c 3001 ((us.length:Int)-1)=step at j2 ⊢;obtain ⟨on,rfl⟩:∃n:Nat,one=(n:Int):=⟨one.toNat,by omega⟩
  have oo:∃m:Nat,((on:Int)+1+step).fmod (us.length:Int)=(m:Int)/\m<us.length/\m≠on:=by
   have f:=ki (x:=(on:Int)+1+step) (m:=(us.length:Int)) (by omega);refine ⟨(((on:Int)+1+step).fmod (us.length:Int)).toNat,by omega,by omega,fun z=>?_⟩;have e:((on:Int)+1+step).fmod (us.length:Int)=(on:Int):=by omega
   rw [ag8 _ (by omega)] at e;by_cases c:(on:Int)+1+step<(us.length:Int)
   ·rw [agF (by omega) c] at e
    omega
   ·rw [<-aiq,agF (by omega) (by omega)] at e
    omega
  obtain ⟨TK,Xq,l2',ne2⟩:=oo;dsimp only;rw [Xq];obtain ⟨p1,g1⟩:∃p,pins[on]?=some p:=⟨_,gE (by omega)⟩;obtain ⟨p2,g2⟩:∃p,pins[TK]?=some p:=⟨_,gE (by omega)⟩;have m1:=aaq g1;have m2:=aaq g2;have m3:p1.nm≠p2.nm:=fun z=>ne2 (dO st.gp.np (x:=p1.nm) (by rw [aaa,g2,z];rfl) (by rw [aaa,g1];rfl));refine ⟨_,rfl,.inl ⟨rfl,_,aT.of st.hb⟩,_,rfl,_,rfl,lg,_,_,rfl,rfl,fl,_,rfl,_,rfl,L3,?_⟩;intro O7 n16;generalize eX:upd _ O7 _=Xw;have ⟨FK,e16⟩:=nw n16 eX;have Om:=st.same FK;refine ⟨lB,_,_,rfl,rfl,Om.hb,(aaZ (show vs.length<=1000 by omega) (by decide)),?_⟩;have o17:∀b o,b≠lB->b≠gA->Xw b=some o->(upd Xw lB (.lst (vs++[.ref O7]))) b=some o:=fun b o n _ e=>by rw [aj n];exact e
  have abm:(upd Xw lB (.lst (vs++[.ref O7]))) gA=some (.dK kG):=by rw [aj (aeD st.ne)];exact Om.gr.hd
  have abn:(upd Xw lB (.lst (vs++[.ref O7]))) lB=some (.lst (vs++[.ref O7])):=ah;have e17:(upd Xw lB (.lst (vs++[.ref O7]))) O7=some (.tup [.str (gD k),.int (on:Int),.int (TK:Int)]):=by rw [aj (fun z=>by rw [z,st.hb] at n16;cases n16)];exact e16
  generalize upd Xw lB (.lst (vs++[.ref O7]))=H17 at o17 abm abn e17 ⊢;have Wn:=Om.ksU o17;obtain ⟨kB,R17⟩:=Om.frU o17;have aii:aY H H17:=fun b xs r=>Om.t o17 b xs (aY.of FK b xs r);obtain ⟨kB0,eB0⟩:=st.b0;have abo:H17 lP=some (.lst us):=wQ Wn eB0 st.Th;have abp:Paired (h_ K H17) us pins:=Paired.bV st.Wm fun _ _ z=>z.ks Wn eB0;obtain ⟨u1,eu1,q1,_,_,_,rfl,c1,_⟩:=aA (cO abp) g1;obtain ⟨u2,eu2,q2,_,_,_,rfl,c3,_⟩:=aA (cO abp) g2;refine ⟨_,rfl,fA,C,dx,_,_,_,rfl,R17.obj,rfl,Xr,_,rfl,_,rfl,lg,_,_,rfl,rfl,fl,_,rfl,_,rfl,lP,_,_,_,rfl,rfl,aT.of abo,bG eu1,q1,_,_,_,rfl,rfl,c1,rfl,_,rfl,_,rfl,lP,_,_,_,rfl,rfl,aT.of abo,bG eu2,q2,_,_,_,rfl,rfl,c3,rfl,?_⟩;dsimp only [gj];have nmP:(Xu pins).map (·.1)=pins.map (·.nm):=by rw [ab_];rfl
  refine ⟨fA,dx,pP,pW,pB,Xu pins,KO bars,kP,kW,kB,gD k,p1.nm,p2.nm,rfl,R17,by rw [ab_];exact hnm,by rw [nmP];exact aar.mpr ⟨_,m1,rfl⟩,by rw [nmP];exact aar.mpr ⟨_,m2,rfl⟩,m3,by rw [ir];omega,fun H18 kB2 k18 R18=>?_⟩;have Rz:aY H H18:=fun b xs r=>yZ k18 R17.br b xs (aii b xs r);have nlB:lB≠pB:=fun z=>by have:=st.nB;rw [z,eB0] at this;cases this
  have ngB:gA≠pB:=fun z=>by have:=st.nG;rw [z,eB0] at this;cases this
  have nbx:((bars++[(⟨gD k,p1,p2⟩:aK)]).map (·.nm)).Nodup:=(st.gb.snoc (b:=⟨gD k,p1,p2⟩) hnm ⟨m1,m2,m3⟩).nb
  have abr:m8 K H0 H18 C fA dx pP pW pB lP lB gA kP kW us (vs++[.ref O7]) pins (bars++[⟨gD k,p1,p2⟩]) kG Go (k+1):=⟨⟨kB2,by
   rw [show KO (bars++[⟨gD k,p1,p2⟩])=KO bars++[(gD k,p1.nm,p2.nm)] from abq]
   exact R18⟩,fun b o n e=>k18 _ _ n (Wn b o n e),st.b0,st.p0,st.q0,st.w0,st.nB,st.nG,st.ne,st.Th,st.Wm,k18 _ _ nlB abn,iB (Paired.bV st.pb fun _ _ z=>z.t Rz) ⟨O7,on,TK,rfl,bQ.of (k18 _ _ (fun z=>by rw [z,R17.br] at e17;cases e17) e17),g1,g2⟩,st.gp,st.gb.snoc hnm ⟨m1,m2,m3⟩,st.lp,by rw [aba,af1];omega,((st.gr.to Rz (k18 _ _ ngB abm)).more _).up (by omega) (by omega),fun j hj hj2 z=>?_⟩
  ·have fm:wO bars Go (bars++[⟨gD k,p1,p2⟩]) Go:=⟨⟨_,rfl⟩,nbx,fun _ _=>ahd⟩
   refine ⟨_,rfl,_,_,_,rfl,by decide,by decide,by decide,rfl,_,rfl,bB (fun _=>?_) (fun _=>q _ _ _ _ _ Rz abr fm)⟩;refine ⟨_,rfl,_,_,_,rfl,by decide,by decide,by decide,_,_,rfl,rfl,L2,?_⟩;have i2:=aS (c:=c) (p:=5003) (m:=9) (by decide);intro p20 n20;generalize eX:upd _ p20 _=H20;have ⟨s20,e20⟩:=nw n20 eX;generalize field c 5003 9=fb at i2 e20;have Wo:=abr.same s20;have ll:=st.gr.ll;refine ⟨_,rfl,_,rfl,_,rfl,lg,_,_,rfl,rfl,fl,gA,_,rfl,gI.k (k:=.inr (gD k)) Wo.gr.hd (aaZ (show kG.length<=1000 by omega) (by decide)),?_⟩;have nr:cU K H20 (.ref p20) ((1+fb:Int):Rat):=⟨p20,rfl,by rw [kZ];exact bQ.of e20⟩
   have r0:(0:Rat)<((1+fb:Int):Rat):=by
    have:(0:Int)<1+fb:=by omega
    exact aeL.mpr this
   have rz:Sz (31+7*(k+1)) ((1+fb:Int):Rat):=(nR (i:=1+fb) (k:=5) (by show _<32;omega) (by decide)).up (by omega);refine q _ _ _ _ _ (fun b xs r=>f9 Wo.gr.hd b xs (aY.of s20 b xs (Rz b xs r))) (Wo.abl (b:=⟨gD k,p1,p2⟩) (by omega) (aeu _ (abg.mpr rfl)) nr ⟨r0,rz⟩) ⟨⟨_,rfl⟩,nbx,fun b' ff =>?_⟩;rw [y4,abB (fun z:b'.nm=gD k=>hnm (by rw [<-z];exact aar.mpr ⟨b',ff,rfl⟩))];exact ahd
  ·rw [abq] at z
   rcases abj.mp z with z|z
   ·exact st.nm j (by omega) hj2 z
   ·have e:gD j=gD k:=by simpa using z
    have:j=1/\k=0:=by omega
    rw [this.1,this.2,qC.1,qC.2] at e;exact abM e (by decide+kernel)
def Bt.kk (k:bw pB H0 H)(e:H0 pB=some (.dK kB))(n1:dT≠pB)(n2:dU≠pB)(n3:dM≠pB)(h:Bt K H0 pins bars p dT dU dM kT kU kM T U M):Bt K H pins bars p dT dU dM kT kU kM T U M:=by
 have st:=yZ k e;have tp:∀{a:abA} {l:ζ},H0 a=some (.tup l)->H a=some (.tup l):=fun {a l} r=>k _ _ (fun z=>by rw [z,e] at r;cases r) r;refine ⟨tp h.hp,⟨k _ _ n1 h.pl.hT,k _ _ n2 h.pl.hU,h.pl.vW,h.pl.vX,fun b hb=>?_,fun p hp=>?_,h.pl.lU,h.pl.zT,h.pl.zU⟩,⟨k _ _ n3 h.mo.hM,h.mo.keys,fun p hp=>?_,h.mo.zb,h.mo.hN⟩⟩
 ·obtain ⟨v,a,c⟩:=h.pl.tT b hb
  exact ⟨v,a,c.aJ st⟩
 ·obtain ⟨la,vs,a,b,c⟩:=h.pl.tU p hp
  exact ⟨la,vs,a,wQ k e b,Paired.bV c fun _ _ z=>z.aJ st⟩
 ·obtain ⟨t,v1,v2,a,b,c,d⟩:=h.mo.tM p hp
  exact ⟨t,v1,v2,a,tp b,c.aJ st,d.aJ st⟩
def r9 (R:sW K H C fA pins bars)(g:cV pins bars)(lp:pins.length<=3)(lb:bars.length<=9)(gr:uY K H gX kG bars Go z n)(lz:z<=46)(ld:GL K H lA kL pins L)(y8:gw pins bars D U0 L)
  (k:∀(p dT dU dM:abA)(kT kU kM:γ)(T:Β)(U:υ)(M:χ)(H':Hp),ao H H' ->Bt K H' pins bars p dT dU dM kT kU kM T U M->yW pins bars Go L T U M->H dT=none/\H dU=none/\H dM=none->Q (.ref p) H'):lJ K C [.ref fA,.ref gX,.ref lA] H Q E:=
 ⟨fA,gX,lA,pins,bars,kG,kL,Go,L,rfl,R,g,lp,lb,gr.hd,gr.nm,gr.ks,fun x=>⟨(gr.ps x).1,(gr.ps x).2.up lz⟩,ld.hd,ld.pt,ld.sz,ld.ks,fun M p dM kM H' _ _ _ mo wk=>(NL g y8 mo wk).elim,fun T U Lx M p dT dU dM kT kU kM H6 s6 ep PR MR hw hT rest zT zV zM=>k p dT dU dM kT kU kM T U M H6 s6 ⟨ep,⟨PR.hT,PR.hU,PR.vW,PR.vX,PR.tT,fun p hp=>by
   obtain ⟨vs,a,_,b,c⟩:=PR.tU p hp
   exact ⟨_,vs,a,b,c⟩,PR.lU,fun b hb=>jq (zT b hb) (aaA _),fun p hp u hu=>jq (zV p hp u hu) (by decide)⟩,⟨MR.hM,MR.keys,MR.tM,fun p hp=>⟨jq (zM p hp).1 (aaA _),jq (zM p hp).2 (aaA _)⟩,by decide⟩⟩ ⟨hw,hT,rest⟩ ⟨PR.nT,PR.nU,MR.nM⟩⟩
abbrev tW (r:Rat):Da:=.t [.v (.int (qr r).1),.v (.int (qr r).2)]
theorem GQ {R:V->α->Prop}(h:∀u a,R u a->Is K H (f a) u):∀{us:ζ} {l:List α},Paired R us l->i0 K H (l.map f) us
 | [],[],.nil=>by
  unfold i0;trivial
 | _::_,_::_,.cons z t=>by
  show i0 K H (_::_) _;unfold i0;exact ⟨h _ _ z,GQ h t⟩
def Oo (h:cU K H v r):Is K H (tW r) v:=by
 obtain ⟨p,rfl,sq⟩:=h;unfold Is;refine ⟨p,_,rfl,sq,?_⟩;unfold i0;refine ⟨by unfold Is;exact ⟨rfl,rfl⟩,?_⟩;unfold i0;refine ⟨by unfold Is;exact ⟨rfl,rfl⟩,?_⟩;unfold i0;trivial
def Oq {us:ζ}{rs:Ι}(h:H l=some (.lst us))(p:Paired (cU K H) us rs):Is K H (.l (rs.map tW)) (.ref l):=by
 unfold Is;exact ⟨l,_,rfl,aT.of h,GQ (fun u a z=>Oo z) p⟩
def Ot (d:Da):Prop:=alike d d=true/\gY d d=true/\dep d<=60
theorem r_:∀rs:List Rat,dN (rs.map tW) (rs.map tW)=true/\cN (rs.map tW) (rs.map tW)=true/\jr (rs.map tW)<=1
 | []=>⟨rfl,rfl,aeF _⟩
 | r::rs=>by
  obtain ⟨a,b,c⟩:=r_ rs;refine ⟨?_,?_,?_⟩
  ·show (alike (tW r) (tW r) && dN (rs.map tW) (rs.map tW))=true
   rw [a];simp [alike,dN]
  ·show (gY (tW r) (tW r) && cN (rs.map tW) (rs.map tW))=true
   rw [b];simp [gY,cN,m7]
  ·show max 1 (jr (rs.map tW))<=1
   omega
def RA (r:Rat):Ot (tW r):=by
 obtain ⟨a,b,c⟩:=r_ [r];refine ⟨?_,?_,by show 1<=60;decide⟩
 ·simpa [dN] using a
 ·simpa [cN] using b
def Ou (rs:Ι):Ot (.l (rs.map tW)):=by
 obtain ⟨a,b,c⟩:=r_ rs;refine ⟨?_,?_,by show jr (rs.map tW)+1<=60;omega⟩
 ·unfold alike
  exact a
 ·unfold gY
  exact b
def abt (k:bw pB H0 H)(e:H0 pB=some (.dK kB))(h:aT K H0 a xs):aT K H a xs:=by
 rcases h with r|r
 ·rcases r with r|⟨o,r⟩
  ·exact .inl (.inl (k _ _ (fun z=>by rw [z,e] at r;cases r) r))
  ·exact .inl (.inr ⟨o,k _ _ (fun z=>by rw [z,e] at r;cases r) r⟩)
 ·exact .inr r
def GU {k1 k2:γ}{α:Type}{xs:List α}{nm:α->Str}{f:α->Da}(h1:H a=some (.dK k1))(h2:H b=some (.dK k2))(e1:k1.map (·.1)=xs.map fun x=>(aeB (nm x):Key))(e2:k2.map (·.1)=xs.map fun x=>(aeB (nm x):Key))(nd:(xs.map nm).Nodup)(v1:∀x∈xs,∃v,bJ k1 (.inr (nm x))=some v/\Is K H (f x) v)(v2:∀x∈xs,∃v,bJ k2 (.inr (nm x))=some v/\Is K H (f x) v)(hd:∀x∈xs,Ot (f x))(q:Q (.bl true) H):Tp K (.ref a) (.ref b) H Q:=by
 have nk:(xs.map fun x=>(aeB (nm x):Key)).Nodup:=by
  have:(xs.map fun x=>(aeB (nm x):Key))=(xs.map nm).map aeB:=by rw [ab_];rfl
  rw [this];exact ai_ _ (fun a b n z=>n (by injection z)) nd
 refine ⟨a,b,k1,k2,xs.map f,rfl,rfl,.inl h1,.inl h2,e1.trans e2.symm,?_,fun i d u v Lb hu hv=>?_,q⟩
 ·have:=abR afb e1
  rw [ir,ir] at this;rw [ir];omega
 rw [aaa] at Lb;obtain ⟨x,ex,rfl⟩:=aaB.mp Lb;have mx:=aaq ex
 have kx:∀{k:γ} {w:Key×V},k.map (·.1)=xs.map (fun x=>(aeB (nm x):Key))->k[i]?=some w->bJ k (.inr (nm x))=some w.2:=fun {k w} e hw=>by
  have a1:(k.map (·.1))[i]?=some w.1:=by rw [aaa,hw];rfl
  rw [e,aaa,ex] at a1;have a2:w.1=aeB (nm x):=(aen a1).symm;have VE :k[i]?=some (aeB (nm x),w.2):=by rw [hw,<-a2]
  exact mG (by rw [e];exact nk) VE
 obtain ⟨w1,y1,z1⟩:=v1 x mx;obtain ⟨w2,y2,z2⟩:=v2 x mx;rw [kx e1 hu] at y1;rw [kx e2 hv] at y2;cases y1;cases y2;exact ⟨z1,z2,(hd x mx).1,(hd x mx).2.1,(hd x mx).2.2⟩
theorem se:∀{bars:ς} {k:Nat} {b:aK},(bars.map (·.nm)).Nodup->bars[k]?=some b->(KO bars).filter (fun x=>decide (x.1≠b.nm))=KO (bars.eraseIdx k)
 | q::ps,0,p,nd,e=>by
  cases e;rw [aaw,aeC] at nd;show ((q.nm,q.one.nm,q.other.nm)::KO ps).filter _=KO ps;rw [ahp (by simp),List.filter_eq_self];intro b hb;obtain ⟨r,hr,rfl⟩:=aar.mp hb;exact abU (fun z=>nd.1 (by rw [<-z];exact aar.mpr ⟨r,hr,rfl⟩))
 | q::ps,k+1,p,nd,e=>by
  rw [aaw,aeC] at nd;have e':ps[k]?=some p:=by simpa using e
  have ne:q.nm≠p.nm:=fun z=>nd.1 (by rw [z];exact aar.mpr ⟨p,aaq e',rfl⟩);show ((q.nm,q.one.nm,q.other.nm)::KO ps).filter _=(q.nm,q.one.nm,q.other.nm)::KO (ps.eraseIdx k);rw [aho (by simpa using ne),se nd.2 e']
theorem u0 {α:Type}:∀(l:List α)(b:α)(r:List α),(l++b::r).eraseIdx l.length=l++r
 | [],_,_=>rfl
 | a::l,b,r=>by
  show a::((l++b::r).eraseIdx l.length)=_;rw [u0 l b r];rfl
def y_ (hx:0<x.2)(hy:0<y.2)(h:vl x<=vl y):x.1*y.2<=y.1*x.2:=by
 have z1:(0:Rat)<((x.2:Int):Rat):=aeL.mpr hx;have z2:(0:Rat)<((y.2:Int):Rat):=aeL.mpr hy;have m:=ae8 (show 0<=vl y-vl x by grind) (agE (an4 z1 z2));have n1:((x.2:Int):Rat)≠0:=dD (aeH hx);have n2:((y.2:Int):Rat)≠0:=dD (aeH hy);unfold vl at m
 have e:(((y.1:Int):Rat) / ((y.2:Int):Rat)-((x.1:Int):Rat) / ((x.2:Int):Rat))*(((x.2:Int):Rat)*((y.2:Int):Rat))=((y.1*x.2:Int):Rat)-((x.1*y.2:Int):Rat):=by
  push_cast;grind
 rw [e] at m;have:((x.1*y.2:Int):Rat)<=((y.1*x.2:Int):Rat):=by grind
 exact afg.mp this
def RB (hx:0<x.2)(h:0<=vl x):0<=x.1:=by
 have:=y_ (x:=(0,1)) (y:=x) (by decide) hx (by rw [show vl ((0,1):Int×Int)=0 by decide+kernel];exact h);simpa using this
def eI:av ["_law_script","_law_pins_here","_law_drawn","_law_frame_here","_law_firm","_law_load","_law_first","_law_work_here","_law_bars_here","_law_grips_here","_law_k","_law_told_here","_law_less","_law_bar","_law_again"] ["_law_script"] (ae mD):=sq
def Wq (F:qe K "law" "law" mD f fd)(eE:mg "dict"=none)(cf:mg "list"=none)(aU:mg "len"=none)(bf:mg "range"=none)(lM:ac P w K mg base 1 "_law_cell_at" zak (jQ K))
  (ail:ac P w K mg base 35 "_law_pins" zaz (wG K)) (aim:ac P w K mg base 3 "_law_bars" zat (wH K)) (ain:ac P w K mg base 4 "_law_frame" zaq (rT K C))
  (za:ac P w K mg base 34 "_law_grips" zav (rZ K)) (ze:ac P w K mg base 34 "_law_pulls" zao (r6 K)) (wU:ac P w K mg base 2 "_law_pushes" zap (oA K))
  (tX:ac P w K mg base 34 "_law_load_by" zaa (wM K)) (oE:ac P w K mg base 40 "bend_of" zaI (lJ K C)) (lV:ac P w K mg base 36 "_law_told" zah (wN K))
  (abu:ac P w K mg base 3 "_law_work" zaA (CQ K)) (CV:ac P w K mg base 34 "_law_deed" zae (CU K C)) (MTb:ad P w K mg base 1 C "take_bar" zaP (j_ K C)):
  am P w K mg base 42 f fd ["_law_script"] (Mg K):=by
 refine F.okG eI (fun vs H Q E h=>?_) (fun ck A outer s H vs Q E hr h=>?_)
 ·obtain ⟨a,ns,rfl,_⟩:=h
  rfl
 obtain ⟨sA,ns,rfl,hS,hn,hb,q⟩:=h
 refine ⟨_,(aa (aG 1 eI.nd (aL ail hr (aI (pv 0) af))) (aa (aG 2 eI.nd (aL aim hr (aI (pv 0) (pv 1)))) (aa (aG 3 eI.nd (aL ain hr (aI (pv 1) (pv 2)))) (aa (aG 4 eI.nd (aL za hr (aI (pv 0) (pv 2)))) (aa (aG 5 eI.nd (aL tX hr (pM (pv 1) (bD (pv 2) (aL ze hr (bD (pv 0) (pv 2) af)) (aL wU hr (bD (pv 0) (pv 1) af)))))) (aa (aG 6 eI.nd (aL oE hr (bD (pv 3) (bO i9 rfl eE kR (aX (pv 4))) (pv 5)))) (aa (bu (fD (eh (aL lV hr (bD (pv 1) (pv 2) (pv 6))))) (ag (aC gB)) aQ) (aa (aG 7 eI.nd (aL abu hr (aI (pv 5) (aF (pv 6))))) (aa (aG 8 eI.nd (bO kX rfl cf iE (aX (pv 2)))) (aa (aG 9 eI.nd (bO i9 rfl eE kR (aX (pv 4)))) (aa (bq abI rfl (bY rfl bf (aX af)) (bP 10 eI.nd) (aa (bN (aL CV hr (pM (pv 3) (pM (pv 1) (pM (pv 8) (bD (pv 9) (aL lM hr (aI (pv 0) (ay bC af (pv 10)))) (pv 10))))))) (aa (aG 11 eI.nd (aL oE hr (bD (pv 3) (bO i9 rfl eE kR (aX (pv 9))) (pv 5)))) (aa (bu (fD (eh (aL lV hr (bD (pv 1) (pv 8) (pv 11))))) (ag (aC gB)) aQ) (aa (aG 12 eI.nd (aL abu hr (aI (pv 5) (aF (pv 11))))) (aa (bu (PW.pt (jy (bx oG (aF (pv 12)) af) (iC (bx uk (ay ig (aF (pv 12)) (aF (pv 7))) (ay ig (aF (pv 7)) (aF (pv 12))))))) (ag (aC gB)) aQ) (ag (aG 7 eI.nd (pv 12))))))))) (aa (bq abI rfl (bo (cL dY (pv 8) (dw (aH aD rfl aU bS (aX (pv 2)))) dX)) (bP 13 eI.nd) (ag (bN (eC (k:=1) (pv 3) hr.mo (pY P w) (aX (aF (pv 13))))))) (aa (aG 14 eI.nd (aL oE hr (bD (pv 3) (bO i9 rfl eE kR (aX (pv 4))) (pv 5)))) (ag (aC (vb (aL lV hr (bD (pv 1) (pv 2) (pv 14))) (vb (l_ (EY hr.units) (aF (pv 14)) (aF (pv 6)) (nh _)) (AF (l_ (EY hr.units) (aF (pv 14)) (aF (pv 6)) (nh _)))))))))))))))))))),?_⟩;dsimp only [cxr,jD,Cx.xw,Cx.tu];refine sq13 ?_;intros
 refine ⟨_,rfl,sA,ns,3,rfl,hS,fun lP us pins H1 s1 nP eP pp gp lp=>?_⟩;have lu:us.length=pins.length:=abL pp;refine ⟨_,rfl,_,rfl,sA,lP,ns,us,pins,rfl,s1.seq hS,eP,lu,gp.np,by omega,fun lD vs bars H2 s2 nD eD pb gb lb TC=>?_⟩;have lv:vs.length=bars.length:=abL pb;have pp2:Paired (h_ K H2) us pins:=Paired.bV pp fun _ _ z=>z.same s2;have eP2:=s2 _ _ eP;refine ⟨_,rfl,_,rfl,lP,lD,us,vs,pins,bars,rfl,eP2,pp2,eD,pb,gp,gb,by omega,by omega,fun fA H3 s3 R3=>?_⟩;have g:=TJ gp gb (by omega) (by omega);have LP:Lo K H3 lP lD us vs pins bars:=⟨s3 _ _ eP2,Paired.bV pp2 fun _ _ z=>z.same s3,gp,s3 _ _ eD,Paired.bV pb fun _ _ z=>z.same s3,fun b hb=>(gb.ends b hb).2.2,by omega,by omega⟩;have yH:=s1.trans (s2.trans s3);obtain ⟨dx,pP,pW,pB,kP,kW,kB,F3,W3⟩:=R3.ex;have b3:=F3.br;have old:∀{d:abA},H3 d=none->d≠pB:=fun {d} n z=>by rw [z,b3] at n;cases n
 refine ⟨_,rfl,_,rfl,sA,lD,ns,vs,pins,bars,rfl,yH.seq hS,LP.hb,LP.pb,by omega,fun gF kF Go0 H4 nF g4=>?_⟩;have s4:=g4.s;have nFB:=old nF;have Wj:=LP.same s4;have O5:=yH.trans s4;refine ⟨_,rfl,_,rfl,_,rfl,_,rfl,sA,lD,20,ns,vs,pins,bars,rfl,O5.seq hS,Wj.hb,Wj.pb,by omega,gb.nb,by decide,by decide,fun dA kD D H5 s5 nD' di zD=>?_⟩;have P9:=Wj.same s5;have Q6:=O5.trans s5;refine ⟨_,rfl,_,rfl,sA,lP,28,ns,us,pins,rfl,Q6.seq hS,P9.hp,P9.pp,gp,by omega,by decide,by decide,fun uA kU U0 H6 s6 nU du lU zU=>?_⟩;have fr6:=P9.same s6;have TQ:=di.same (fun _ _ z=>z.same s6) s6
 have fo:LFo K H6 dA uA kD kU pins bars D U0 11:=⟨TQ.hd,fun b hb=>by
  obtain ⟨v,a,c⟩:=TQ.tv b hb;exact ⟨v,a,iK c (jq (zD b hb) (by decide))⟩,du.hd,fun p hp=>by
  obtain ⟨v,a,la,ys,rfl,b,c⟩:=du.tv p hp
  exact ⟨la,ys,a,b,oq (abL c) fun i u e=>by
   obtain ⟨r,er,h⟩:=aA c e
   exact ⟨r,er,iK h (jq (zU p hp r (aaq er)) (by decide))⟩⟩,lU,by decide⟩
 refine ⟨lP,lD,dA,uA,us,vs,kD,kU,pins,bars,D,U0,11,rfl,fr6,fo,g,lb,zD,zU,fun lA kL L H7 s7 nL ld ll y8 _ _=>?_⟩;have NX:=s4.trans (s5.trans s6);have nLB:=old (NX.free nL);have V0:=s5.trans (s6.trans s7);have V7:=s4.trans V0;have gr7:=uY.of (g4.same V0);have Yq:=fr6.same s7;have R7:=R3.same V7;refine ⟨_,rfl,_,rfl,gF,kF,rfl,.inl gr7.hd,?_⟩;intro d8 n8;generalize eX:upd _ d8 _=H8;have ⟨s8,e8⟩:=nw n8 eX;refine ⟨_,rfl,?_⟩;try dsimp only [gj];show lJ K C [_,_,_] _ _ E0;refine r9 (R7.same s8) g lp.2 (by omega) ((gr7.same s8).to (aY.of (ao.refl _)) e8) (by decide) (ld.same s8) y8 fun p dT dU dM kT kU' kM T U M H9 s9 bt be nn=>?_;have s38:=V7.trans s8;have nT:=old (s38.free nn.1);have nU':=old (s38.free nn.2.1);have nM:=old (s38.free nn.2.2);have s79:=s8.trans s9;have fr9:=Yq.same s79;refine ⟨_,rfl,_,rfl,_,rfl,lP,lD,p,dT,dU,dM,us,vs,pins,bars,kT,kU',kM,T,U,M,rfl,fr9,bt,fun Ha sa=>?_⟩;refine ⟨_,rfl,bB (fun c=>nomatch c) (fun _=>?_)⟩;have btA:=bt.same sa;have s7a:=s79.trans sa;have ldA:=ld.same s7a;have nLM:dM≠lA:=fun z=>by have:=nn.2.2;rw [z,s8 _ _ ld.hd] at this;cases this
 refine ⟨_,rfl,_,rfl,p,_,_,_,rfl,rfl,bQ.of btA.hp,rfl,lA,dM,kL,kM,pins,L,M,400000,rfl,ldA,gp.np,btA.mo,nLM,ll,by decide,fun wv Hb sb nv=>?_⟩;have s7b:=s7a.trans sb;have s3b:=V7.trans s7b;have Xx:=Yq.same s7b;have gr0:=gr7.same s7b;have ld0:=ld.same s7b;have bt0:=btA.same sb;have F0:=F3.same s3b;have W0:=W3.same s3b;have hS0:=(yH.trans s3b).seq hS;have b0:=F0.br;have abw:∀x,0<gR Go0 x:=fun x=>(gr0.ps x).1;clear s8 s9 sa sb s7a s79 s38 V7 V0 NX fr9 Yq fr6 P9 Wj LP btA bt ldA ld gr7 g4 di TQ du fo R7 R3 F3 W3 b3 e8 n8;refine ⟨_,rfl,lD,vs,rfl,aT.of Xx.hb,?_⟩;intro lB nlB;generalize eX:upd _ lB _=Hc;have ⟨sB,eB⟩:=nw nlB eX;refine ⟨_,rfl,gF,kF,rfl,.inl (sB _ _ gr0.hd),?_⟩;intro gA nG;generalize eX:upd _ gA _=Hd;have ⟨sG,eG⟩:=nw nG eX;have sBd:=sB.trans sG;have ne:lB≠gA:=fun z=>by rw [<-z,eB] at nG;cases nG
 have st0:m8 K Hb Hd C fA dx pP pW pB lP lB gA kP kW us vs pins bars kF Go0 0:=⟨⟨kB,F0.same sBd⟩,bw.of sBd,⟨kB,b0⟩,F0.pl,F0.wy,W0,nlB,sB.free nG,ne,Xx.hp,Xx.pp,sG _ _ eB,Paired.bV Xx.pb fun _ _ z=>z.same sBd,gp,gb,lp.2,by omega,(gr0.same sBd).to (aY.of (ao.refl _)) eG,fun j _ hj z=>by
  obtain ⟨b,hb,e⟩:=aar.mp z
  rcases (show j=0\/j=1 by omega) with rfl|rfl
  ·exact (TC b hb).1 (e.trans qC.1)
  ·exact (TC b hb).2 (e.trans qC.2)⟩
 refine ⟨(2:Int),rfl,by decide,by decide,let I:zIv:=fun i σ H'=>Zg fun (wv:V) (AB o11 o12:Α) (Ry:ζ) (gi ext:ς) (Xv:γ) (oC:τ) (T2 D2:Β) (U2 V2:υ) (M2:χ)=>σ=[ap sA,ap lP,ap lD,ap fA,ap gF,ap lA,ap p,some wv,ap lB,ap gA,AB,o11,o12,none,none]/\m8 K Hb H' C fA dx pP pW pB lP lB gA kP kW us Ry pins gi Xv oC i/\ju K H' wv (1+9*(2*400000+2002)) (iW pins L M2)/\yW pins gi oC L T2 U2 M2/\gw pins gi D2 V2 L/\gi=bars++ext;cA (lo:=0) (n:=2) I ⟨wv,none,none,none,vs,bars,[],kF,Go0,T,D,U,U0,M,rfl,st0,nv.same sBd,be,y8,(ae_ _).symm⟩ ?_ ?_⟩
 ·rintro i σ He hi ⟨wv,AB,o11,o12,Ry,gi,ext,Xv,oC,T2,D2,U2,V2,M2,rfl,st,nv,be2,TU,aiu⟩
  have ei:(0:Int)+(i:Int)=(i:Int):=aeO _;rw [ei];refine ⟨_,rfl,_,rfl,_,rfl,_,rfl,_,rfl,_,rfl,_,_,rfl,rfl,sA,ns,_,rfl,abt st.ks b0 hS0,by omega,by omega,?_⟩;generalize cell ns (40+(i:Int))=c;refine ⟨_,rfl,?_⟩;try dsimp only [gj];refine ⟨Hb,fA,dx,pP,pW,pB,lP,lB,gA,kP,kW,us,Ry,pins,gi,Xv,oC,c,i,rfl,hi,st,fun vs3 TV kG3 Go3 Hf tf zY fm=>?_⟩;obtain ⟨ext3,Ov⟩:=fm.ex;obtain ⟨D3,Ow,_⟩:=uX (ext:=ext3) (by rw [<-Ov];exact fm.nb) TU;rw [<-Ov] at Ow;have g2:=st.g (by omega);have g3:=zY.g (by omega);have lb3:=zY.lb;refine ⟨_,rfl,_,rfl,gA,kG3,rfl,.inl zY.gr.hd,?_⟩;intro d9 n9;generalize eX:upd _ d9 _=Hg;have ⟨s9,e9⟩:=nw n9 eX;have st9:=zY.same s9;have ld9:=ld0.kk st9.ks b0 nLB;refine ⟨_,rfl,?_⟩;try dsimp only [gj];show lJ K C [_,_,_] _ _ E0;refine r9 st9.fa g3 lp.2 (by omega) (st9.gr.to (aY.of (ao.refl _)) e9) (by omega) ld9 Ow fun p3 dT3 dU3 dM3 kT3 kU3 kM3 T3 U3 M3 Hh sh bt3 be3 nn3=>?_;have sth:=st9.same sh;refine ⟨_,rfl,_,rfl,_,rfl,lP,lB,p3,dT3,dU3,dM3,us,vs3,pins,TV,kT3,kU3,kM3,T3,U3,M3,rfl,sth.lfr (by omega),bt3,fun Hi si=>?_⟩;refine ⟨_,rfl,bB (fun c=>nomatch c) (fun _=>?_)⟩;have bti:=bt3.same si;have ldi:=ld9.same (sh.trans si);refine ⟨_,rfl,_,rfl,p3,_,_,_,rfl,rfl,bQ.of bti.hp,rfl,lA,dM3,kL,kM3,pins,L,M3,400000,rfl,ldi,gp.np,bti.mo,(fun z=>by have:=nn3.2.2;rw [z,ld9.hd] at this;cases this),ll,by decide,fun lv Hj sj nl=>?_⟩;have sgj:=sh.trans (si.trans sj);have stj:=st9.same sgj;have tj:aY He Hj:=fun b xs r=>aY.of (s9.trans sgj) b xs (tf b xs r);have pos:=Og g3 (fun x=>(zY.gr.ps x).1) be3;have less:=KJ fm g2 g3 (fun x=>(st.gr.ps x).1) (fun x=>(zY.gr.ps x).1) be2 be3;have nwj:=nv.aJ tj;obtain ⟨x,⟨px',rfl,hx⟩,x2,x3,zx⟩:=id nl;obtain ⟨y,⟨py,rfl,hy⟩,y2,y3,zy⟩:=nwj;have tp:=RB x2 (by rw [x3];exact pos);have cl:=y_ x2 y2 (by rw [x3,y3];exact less);refine ⟨_,rfl,px',_,_,_,rfl,rfl,hx,iU,_,_,rfl,rfl,_,rfl,bB (fun c=>abM (abS c) (by omega)) (fun _=>?_)⟩;refine ⟨_,rfl,px',_,_,_,rfl,rfl,hx,iU,_,rfl,py,_,_,_,rfl,rfl,hy,iu,_,_,rfl,rfl,f' zx.top zy.bot (by decide),_,rfl,py,_,_,_,rfl,rfl,hy,iU,_,rfl,px',_,_,_,rfl,rfl,hx,iu,_,_,rfl,rfl,f' zy.top zx.bot (by decide),_,_,rfl,rfl,_,rfl,bB (fun c=>abM (abS c) (by omega)) (fun _=>?_)⟩;exact ⟨_,rfl,_,_,_,_,vs3,TV,ext++ext3,kG3,Go3,T3,D3,U3,V2,M3,rfl,stj,nl,be3,Ow,by rw [Ov,aiu,af_]⟩
 rintro σ He ⟨wv,AB,o11,o12,Ry,gi,ext,Xv,oC,T2,D2,U2,V2,M2,rfl,st,nv,be2,TU,rfl⟩;have lv2:Ry.length=bars.length+ext.length:=by rw [abL st.pb,aba]
 have ZE:=wQ st.ks b0 Xx.hb;refine ⟨_,rfl,_,rfl,lD,_,rfl,.inl (aT.of ZE),_,rfl,lB,_,rfl,aT.of st.hb,?_⟩;rw [gT (by omega)];intro l9 n9;generalize eX:upd _ l9 _=Hk;have ⟨s9,e9⟩:=nw n9 eX;have SN:=st.same s9;obtain ⟨kB2,R2⟩:=SN.fr;have bk:=R2.br;have lx:(Ry.drop vs.length).length=ext.length:=by rw [afr];omega
 refine ⟨l9,rfl,⟨_,aT.of e9⟩,let I:zIv:=fun i σ H'=>EZ fun (o13:Α) (NG :γ)=>σ=[ap sA,ap lP,ap lD,ap fA,ap gF,ap lA,ap p,some wv,ap lB,ap gA,AB,o11,o12,o13,none]/\bw pB Hk H'/\fS K H' C fA dx pP pW pB (Xu pins) (KO (bars++ext.drop i)) kP kW NG;bW (K:=K) (a:=l9) (xs:=Ry.drop vs.length) I ⟨none,kB2,rfl,bw.of (ao.refl _),R2⟩ (fun i σ H' _ h=>by
   obtain ⟨_,_,_,k,_⟩:=h
   exact aT.of (wQ k bk e9)) ?_ ?_⟩
 ·rintro i u σ Hl hu ⟨o13,NG,rfl,kl,Rl⟩
  rw [aio] at hu;obtain ⟨b,eb,O6⟩:=aA SN.pb hu;rw [abx (by omega),show vs.length+i-bars.length=i by omega] at eb;have hi:=(Wp.mp eb).1
  have edr:ext.drop i=b::ext.drop (i+1):=by
   rw [List.drop_eq_getElem_cons hi];congr 1;exact aen ((gE hi).symm.trans eb)
  obtain ⟨ta,j1,j2,rfl,h1,_⟩:=O6.t (yZ kl bk);refine ⟨_,rfl,fA,C,dx,_,_,_,rfl,Rl.obj,rfl,MTb,_,rfl,ta,_,_,_,rfl,rfl,h1,df,?_⟩;dsimp only [gj];have nbl:((bars++ext.drop i).map (·.nm)).Nodup:=st.gb.nb.sublist (List.Sublist.map _ (List.Sublist.append_left (List.drop_sublist i ext) bars));have ebl:(bars++ext.drop i)[bars.length]?=some b:=by rw [abx (aaA _),Nat.sub_self,edr];rfl
  refine ⟨fA,dx,pP,pW,pB,Xu pins,KO (bars++ext.drop i),kP,kW,NG,b.nm,rfl,Rl,by rw [ab_];exact aar.mpr ⟨b,aaq ebl,rfl⟩,fun Hm kB1 km Rm=>?_⟩;rw [se nbl ebl,edr,u0] at Rm;exact ⟨_,kB1,rfl,fun b o n e=>km b o n (kl b o n e),Rm⟩
 rintro σ Hl ⟨o13,NG,rfl,kl,Rl⟩;rw [lx,List.drop_length,ae_] at Rl;have k0:bw pB Hb Hl:=fun b o n e=>kl b o n (SN.ks b o n e);have frl:=Xx.ks k0 b0;have grl:=gr0.to (yZ k0 b0) (k0 _ _ nFB gr0.hd);have ldl:=ld0.kk k0 b0 nLB;have btl:=bt0.kk k0 b0 nT nU' nM;have Ral:sW K Hl C fA pins bars:=⟨dx,pP,pW,pB,kP,kW,NG,Rl,TR k0 b0 W0⟩;refine ⟨_,rfl,_,rfl,gF,kF,rfl,.inl grl.hd,?_⟩;intro d10 Rb;generalize eX:upd _ d10 _=Hm;have ⟨uB,Xi⟩:=nw Rb eX;refine ⟨_,rfl,?_⟩;try dsimp only [gj];show lJ K C [_,_,_] _ _ E0;refine r9 (Ral.same uB) g lp.2 (by omega) ((grl.same uB).to (aY.of (ao.refl _)) Xi) (by decide) (ldl.same uB) y8 fun p5 dT5 dU5 dM5 kT5 kU5 kM5 T5 U5 M5 Hn sn bt5 be5 _=>?_;have sln:=uB.trans sn;refine ⟨_,rfl,_,rfl,_,rfl,lP,lD,p5,dT5,dU5,dM5,us,vs,pins,bars,kT5,kU5,kM5,T5,U5,M5,rfl,frl.same sln,bt5,fun Ho so=>⟨_,rfl,UO ?_⟩⟩;have RC:=bt5.same so;have RD:=btl.same (sln.trans so);have eT:∀b∈bars,T5 b.nm=T b.nm:=Oh g abw be5 be;refine ⟨_,rfl,p5,_,_,_,rfl,rfl,bQ.of RC.hp,rfl,_,rfl,p,_,_,_,rfl,rfl,bQ.of RD.hp,rfl,?_⟩;refine GU (xs:=bars) (nm:=aK.nm) (f:=fun b=>tW (T b.nm)) RC.pl.hT RD.pl.hT RC.pl.vW RD.pl.vW gb.nb (fun b hb=>?_) (fun b hb=>?_) (fun b _=>RA _) ⟨_,rfl,UO ?_⟩
 ·obtain ⟨v,a,c⟩:=RC.pl.tT b hb
  rw [eT b hb] at c;exact ⟨v,a,Oo c⟩
 ·obtain ⟨v,a,c⟩:=RD.pl.tT b hb
  exact ⟨v,a,Oo c⟩
 refine ⟨_,rfl,p5,_,_,_,rfl,rfl,bQ.of RC.hp,rfl,_,rfl,p,_,_,_,rfl,rfl,bQ.of RD.hp,rfl,?_⟩;refine GU (xs:=pins) (nm:=aw.nm) (f:=fun p=>.l ((U p.nm).map tW)) RC.pl.hU RD.pl.hU RC.pl.vX RD.pl.vX gp.np (fun r hr=>?_) (fun r hr=>?_) (fun r _=>Ou _) (q _)
 ·obtain ⟨la,xs,a,b,c⟩:=RC.pl.tU r hr
  rw [Oi be5.rest be.rest eT hr (gp.ws r hr) (RC.pl.lU r hr) (RD.pl.lU r hr)] at c;exact ⟨_,a,Oq b c⟩
 ·obtain ⟨la,xs,a,b,c⟩:=RD.pl.tU r hr
  exact ⟨_,a,Oq b c⟩
end
def all_mk {l:PySem.W.OpenLaw}{w:World}{K:Frag}{h:Heap}{mg:ν}{fa:abA}(X:K.In h)(G:h.Ns abO mg)(hfa:mg "law"=some (.ref fa))
  (Ox:HXx K "sum_of" g9) (aiy:HXx K "difference_of" BI) (wV:HXx K "product_of" dz) (aiC:HXx K "lowest_terms" yy) (aiG:HXx K "greatest_shared" IU) (sf:HXx K "lengthenings" de) (aiK:HXx K "arm_between" IV) (aiO:HXx K "pair_difference" BJ) (sE:HXx K "pair_product" cC) (aiS:HXx K "pair_row" IW) (aiW:HXx K "load_row" IX) (wZ:HXx K "check_bars" d0) (ai0:HXx K "bar_row" IY) (ai4:HXx K "draw_rows" IZ) (ai8:HXx K "pulls_and_pushes" I_) (ajb:HXx K "motion_from" JA) (ajf:HXx K "signs_turned" JB) (ajj:HXx K "solve_rows" JC) (ajn:HXx K "turned" JD) (ajr:HXx K "whole_row" JE) (ajv:HXx K "solution_of" JF) (ajz:HXx K "reduced" JG) (ajD:HXx K "first_not_nought" JH) (ajH:HXx K "cleared" JI) (ajL:HXx K "divided" JJ) (KQ:HXx K "bend_of" gQ) (zh:HXx K "all_grips" fh) (KW:HXx K "gripped" gS) (zq:HXx K "bend_rows" fj) (xc:HXx K "stiff_rows" d3) (ajP:HXx K "_law_cell_at" JK) (ajT:HXx K "_law_field" JL) (ajX:HXx K "_law_lowest" JM) (aj1:HXx K "_law_sum" JN) (aj5:HXx K "_law_times" JO) (aj9:HXx K "_law_turned" JP) (akc:HXx K "_law_name" BK) (akg:HXx K "_law_number" JQ) (akk:HXx K "_law_spot" JR) (ako:HXx K "_law_ways" JS) (aks:HXx K "_law_pins" JT) (akx:HXx K "_law_bars" JU) (akB:HXx K "_law_frame" JV) (akF:HXx K "_law_arm" JW) (akJ:HXx K "_law_add" JX) (akN:HXx K "_law_forces" JY) (akR:HXx K "_law_are_forces" JZ) (akV:HXx K "_law_is_motion" J_) (akZ:HXx K "_law_dot" J') (ak3:HXx K "_law_work" Kf) (zB:HXx K "_law_grips" fk) (zH:HXx K "_law_pulls" fq) (xk:HXx K "_law_pushes" d5) (ub:HXx K "_law_load_by" dH) (CZ:HXx K "_law_told" fU) (DB:HXx K "_law_deed" fV) (acT:nsIn K abO "law"=some (some (.ref Ui))) (acU:K.lookup Ui=some ⟨ak7,ak8,.func (fnOf "law" "law" (au mD) (aq mD) (ae mD) .none WJ WK WL WM OJ WN),ak9⟩) (acV:codeIn K OJ "law"=true) (acW:keepIn K (.ref Ui)=true) (ak':nsIn K abO "MOST_PINS"=some (some (.int 24 avJ))) (ala:nsIn K abO "MOST_BARS"=some (some (.int 60 avK))) (alb:nsIn K abO "NOUGHT"=some (some (.ref WO))) (alc:K.lookup WO=some ⟨.type "tuple",avL,.seq #[.int 0 ald,.int 1 ale] avM,avN⟩) (alf:nsIn K abO "ONE"=some (some (.ref WQ))) (alg:K.lookup WQ=some ⟨.type "tuple",avO,.seq #[.int 1 alh,.int 1 ali] avP,avQ⟩) (alj:nsIn K abO "NO_MOVE"=some (some (.ref WR))) (alk:K.lookup WR=some ⟨.type "tuple",avR,.seq #[.ref acX,.ref acY] avS,avT⟩) (alm:K.lookup acX=some ⟨.type "tuple",avU,.seq #[.int 0 aln,.int 1 alo] avV,avW⟩) (alp:K.lookup acY=some ⟨.type "tuple",avX,.seq #[.int 0 alq,.int 1 alr] avY,avZ⟩) (xp:nsIn K abO "ValueError"=some none) (acZ:nsIn K abO "abs"=some none) (ac0:nsIn K abO "all"=some none) (ac1:nsIn K abO "any"=some none) (WS:nsIn K abO "bool"=some none) (WT:nsIn K abO "dict"=some none) (zO:nsIn K abO "enumerate"=some none) (ac2:nsIn K abO "int"=some none) (xq:nsIn K abO "isinstance"=some none) (ac3:nsIn K abO "len"=some none) (WU:nsIn K abO "list"=some none) (ac4:nsIn K abO "min"=some none) (Sr:nsIn K abO "range"=some none) (ac5:nsIn K abO "str"=some none) (Ss:nsIn K abO "tuple"=some none) (ac6:nsIn K abO "zip"=some none) (als:nsIn K abO "YardError"=some (some (.ref alu))) (alv:nsIn K abO "NoWay"=some (some (.ref alw))) (alx:nsIn K abO "PinThere"=some (some (.ref aly))) (alz:nsIn K abO "SpotTaken"=some (some (.ref alA))) (alB:nsIn K abO "NoPin"=some (some (.ref alC))) (alD:nsIn K abO "BarThere"=some (some (.ref alE))) (alF:nsIn K abO "NoBar"=some (some (.ref alG))) (alH:nsIn K abO "NoLength"=some (some (.ref alI))) (alJ:nsIn K abO "TooMany"=some (some (.ref alK))) (OK:nsIn K abO "NoGrip"=some (some (.ref OL))) (alL:nsIn K abO "Frame"=some (some (.ref bT))) (alM:nsIn K abO "Hold"=some (some (.ref p_))) (alN:nsIn K abO "Roller"=some (some (.ref kE))) (alO:nsIn K abO "Fixed"=some (some (.ref oF))) (ac7:aco K bT Str.empty=true) (ac8:acx K bT=true) (ac9:acL K bT=true) (ac':abT K (.ref bT) "__setattr__"=some (some (.builtin "object.__setattr__"))) (ada:acs K bT=true) (adb:keepIn K (.ref bT)=true) (ade:HXy K bT "__init__" "Frame.__init__" Kg) (alR:abT K (.ref bT) "put_pin"=some (some (.ref Su))) (alS:aiJ K (.ref Su)=true) (alT:K.lookup Su=some ⟨av8,av9,.func (fnOf "put_pin" "Frame.put_pin" (au pQ) (aq pQ) (ae pQ) (.ref ON) Uj Uk Ul Um OO Uo),av'⟩) (adi:K.lookup ON=some ⟨awa,alU,.seq #[.none] awb,alV⟩) (alW:codeIn K OO "Frame.put_pin"=true) (adj:keepIn K (.ref Su)=true) (alX:HXy K bT "put_bar" "Frame.put_bar" Kh) (al1:HXy K bT "check_bar" "Frame.check_bar" Ki) (al5:HXy K bT "check_pin" "Frame.check_pin" Kj) (al9:HXy K bT "take_bar" "Frame.take_bar" Kk) (amc:HXy K bT "pins" "Frame.pins" Kl) (amg:HXy K bT "bars" "Frame.bars" Km) (amk:HXy K bT "place" "Frame.place" Kn) (amo:HXy K bT "ways" "Frame.ways" Ko) (amt:HXy K bT "ends" "Frame.ends" Kp) (adD:aco K p_ Str.empty=true) (adE:acx K p_=true) (adF:acL K p_=true) (adG:abT K (.ref p_) "__setattr__"=some (some (.builtin "object.__setattr__"))) (adH:acs K p_=true) (adI:keepIn K (.ref p_)=true) (adJ:abT K (.ref p_) "__init__"=some (some (.builtin "object.__init__"))) (amx:HXy K p_ "ways" "Hold.ways" QO) (adM:aco K kE Str.empty=true) (adN:acx K kE=true) (adO:acL K kE=true) (adP:abT K (.ref kE) "__setattr__"=some (some (.builtin "object.__setattr__"))) (adQ:acs K kE=true) (adR:keepIn K (.ref kE)=true) (adS:HXy K kE "__init__" "Roller.__init__" Kq) (amD:HXy K kE "ways" "Roller.ways" Kr) (adY:aco K oF Str.empty=true) (adZ:acx K oF=true) (ad0:acL K oF=true) (ad1:abT K (.ref oF) "__setattr__"=some (some (.builtin "object.__setattr__"))) (ad2:acs K oF=true) (ad3:keepIn K (.ref oF)=true) (ad4:abT K (.ref oF) "__init__"=some (some (.builtin "object.__init__"))) (amH:HXy K oF "ways" "Fixed.ways" Ks) (OQ:abT K (.ref bT) "pin_places"=some none) (WV:abT K (.ref bT) "pin_ways"=some none) (WW:abT K (.ref bT) "bar_ends"=some none) (Up:abT K (.ref kE) "way"=some none) (ht:l.prog.given.tree=none):
  ∃fd:FuncData,(∀(s:abH)(v:Value),BindsTo s fd ⟨[v],[]⟩ [("_law_script",v)])/\∀base:Heap,K.In base->base.Ns abO mg->dq l.prog w K mg base (aZ l.prog w) 42 fa fd ["_law_script"] (Mg K):=by
 have e:=hfa.symm.trans (mg_of X G acT);cases e;obtain ⟨ade,adf,alP,alQ,adh⟩:=ade;obtain ⟨alX,alY,alZ,al0,adl⟩:=alX;obtain ⟨al1,al2,al3,al4,adn⟩:=al1;obtain ⟨al5,al6,al7,al8,adp⟩:=al5;obtain ⟨al9,al',ama,amb,ads⟩:=al9;obtain ⟨amc,amd,ame,amf,adu⟩:=amc;obtain ⟨amg,amh,ami,amj,adw⟩:=amg;obtain ⟨amk,aml,amm,amn,ady⟩:=amk;obtain ⟨amo,amq,amr,ams,adA⟩:=amo;obtain ⟨amt,amu,amv,amw,adC⟩:=amt;obtain ⟨amx,amy,amz,amA,adL⟩:=amx;obtain ⟨adS,adT,amB,amC,adV⟩:=adS;obtain ⟨amD,amE,amF,amG,adX⟩:=amD;obtain ⟨amH,amI,amJ,amK,ad6⟩:=amH;have OR:Def K mg _ _ ["one","other"]:=fO X G Ox;have amL:Def K mg _ _ ["one","other"]:=fO X G aiy;have xr:Def K mg _ _ ["one","other"]:=fO X G wV;have amM:Def K mg _ _ ["top","bottom"]:=fO X G aiC;have amN:Def K mg _ _ ["one","other"]:=fO X G aiG;have sO:Def K mg _ _ ["F","motion"]:=fO X G sf;have amO:Def K mg _ _ ["F","one","other"]:=fO X G aiK;have amP:Def K mg _ _ ["one","other"]:=fO X G aiO;have sQ:Def K mg _ _ ["one","other"]:=fO X G sE;have amQ:Def K mg _ _ ["F","draws"]:=fO X G aiS;have amR:Def K mg _ _ ["F","load"]:=fO X G aiW;have xt:Def K mg _ _ ["F","told"]:=fO X G wZ;have amS:Def K mg _ _ ["F","one","other"]:=fO X G ai0;have amT:Def K mg _ _ ["F"]:=fO X G ai4;have amU:Def K mg _ _ ["F","numbers"]:=fO X G ai8;have amV:Def K mg _ _ ["F","numbers"]:=fO X G ajb;have amW:Def K mg _ _ ["numbers"]:=fO X G ajf;have amX:Def K mg _ _ ["rows","due","many"]:=fO X G ajj;have amY:Def K mg _ _ ["rows","many"]:=fO X G ajn;have amZ:Def K mg _ _ ["row"]:=fO X G ajr;have am0:Def K mg _ _ ["lines","many"]:=fO X G ajv;have am1:Def K mg _ _ ["lines","many"]:=fO X G ajz;have am2:Def K mg _ _ ["lines","column"]:=fO X G ajD;have am3:Def K mg _ _ ["line","lead","column"]:=fO X G ajH;have am4:Def K mg _ _ ["line"]:=fO X G ajL;have K':Def K mg _ _ ["F","grips","load"]:=fO X G KQ;have zP:Def K mg _ _ ["F","grips"]:=fO X G zh;have La:Def K mg _ _ ["firm","longer"]:=fO X G KW;have zQ:Def K mg _ _ ["F","firm"]:=fO X G zq;have xu:Def K mg _ _ ["F","firm","bar_rows"]:=fO X G xc;have am5:Def K mg _ _ ["_law_script","_law_k"]:=fO X G ajP;have am6:Def K mg _ _ ["_law_cell","_law_prime","_law_many"]:=fO X G ajT;have am7:Def K mg _ _ ["_law_top","_law_bottom"]:=fO X G ajX;have am8:Def K mg _ _ ["_law_one","_law_other"]:=fO X G aj1;have am9:Def K mg _ _ ["_law_one","_law_other"]:=fO X G aj5;have am':Def K mg _ _ ["_law_one"]:=fO X G aj9;have ana:Def K mg _ _ ["_law_cell","_law_k"]:=fO X G akc;have anb:Def K mg _ _ ["_law_x"]:=fO X G akg;have anc:Def K mg _ _ ["_law_cell","_law_kind"]:=fO X G akk;have ane:Def K mg _ _ ["_law_cell"]:=fO X G ako;have anf:Def K mg _ _ ["_law_script","_law_most"]:=fO X G aks;have ang:Def K mg _ _ ["_law_script","_law_pins_here"]:=fO X G akx;have anh:Def K mg _ _ ["_law_pins_here","_law_bars_here"]:=fO X G akB;have ani:Def K mg _ _ ["_law_pins_here","_law_bar","_law_axis"]:=fO X G akF;have anj:Def K mg _ _ ["_law_found","_law_k","_law_axis","_law_draw"]:=fO X G akJ;have ank:Def K mg _ _ ["_law_pins_here","_law_bars_here","_law_pulls_here","_law_pushes_here"]:=fO X G akN;have anl:Def K mg _ _ ["_law_pins_here","_law_bars_here","_law_pulls_here","_law_pushes_here"]:=fO X G akR;have anm:Def K mg _ _ ["_law_pins_here","_law_motion"]:=fO X G akV;have ano:Def K mg _ _ ["_law_one","_law_other"]:=fO X G akZ;have anp:Def K mg _ _ ["_law_load","_law_motion"]:=fO X G ak3;have zR:Def K mg _ _ ["_law_script","_law_bars_here"]:=fO X G zB;have zW:Def K mg _ _ ["_law_script","_law_bars_here","_law_start"]:=fO X G zH;have xv:Def K mg _ _ ["_law_script","_law_pins_here","_law_start"]:=fO X G xk;have uf:Def K mg _ _ ["_law_pins_here","_law_bars_here","_law_pulls_here","_law_pushes_here"]:=fO X G ub;have DG:Def K mg _ _ ["_law_pins_here","_law_bars_here","_law_told_here"]:=fO X G CZ;have DH:Def K mg _ _ ["_law_frame_here","_law_pins_here","_law_bars_here","_law_grips_here","_law_cell","_law_k"]:=fO X G DB;have gy:xK K bT:=⟨ac7,ac8,ac9,ac'⟩;have V':Mk K bT _:=⟨ada,ade,adf,adb⟩;have ad7:=dP (st:=Kg) alP alQ adh;have Wb:=ad7.FC (ps:=["self"]);have aCt:Meth K bT "__init__" _:=⟨ade,adf,adh⟩;have anq:=Qz (st:=pQ) alT alW adj;have anr:Binds K (fnOf "put_pin" "Frame.put_pin" (au pQ) (aq pQ) (ae pQ) (.ref ON) Uj Uk Ul Um OO Uo) ["self","name","x","y","hold"] []:=fun s us X hl=>by obtain ⟨a,b,c,d,e,rfl⟩:=bl5 (P:=fun us=>∃a b c d e,us=[a,b,c,d,e]) (fun a b c d e=>⟨a,b,c,d,e,rfl⟩) us (by simpa using hl);exact BindsTo.of_defaults rfl (X _ _ adi) rfl rfl rfl
 have ad8:Binds K (fnOf "put_pin" "Frame.put_pin" (au pQ) (aq pQ) (ae pQ) (.ref ON) Uj Uk Ul Um OO Uo) ["self","name","x","y","hold"] [.none]:=fun s us X hl=>by obtain ⟨a,b,c,d,rfl⟩:=bl4 (P:=fun us=>∃a b c d,us=[a,b,c,d]) (fun a b c d=>⟨a,b,c,d,rfl⟩) us (by simpa using hl);exact BindsTo.of_defaults rfl (X _ _ adi) rfl rfl rfl
 have ad9:Meth K bT "put_pin" Su:=⟨alR,alS,adj⟩;have ad':=dP (st:=Kh) alZ al0 adl;have ans:=ad'.FC (ps:=["self","name","one","other"]);have ant:Meth K bT "put_bar" _:=⟨alX,alY,adl⟩;have aea:=dP (st:=Ki) al3 al4 adn;have anu:=aea.FC (ps:=["self","name","one","other"]);have anv:Meth K bT "check_bar" _:=⟨al1,al2,adn⟩;have aeb:=dP (st:=Kj) al7 al8 adp;have anw:=aeb.FC (ps:=["self","pin"]);have anx:Meth K bT "check_pin" _:=⟨al5,al6,adp⟩;have aec:=dP (st:=Kk) ama amb ads;have anz:=aec.FC (ps:=["self","name"]);have anA:Meth K bT "take_bar" _:=⟨al9,al',ads⟩;have aed:=dP (st:=Kl) ame amf adu;have anB:=aed.FC (ps:=["self"]);have anC:Meth K bT "pins" _:=⟨amc,amd,adu⟩;have aee:=dP (st:=Km) ami amj adw;have anD:=aee.FC (ps:=["self"]);have anE:Meth K bT "bars" _:=⟨amg,amh,adw⟩;have aef:=dP (st:=Kn) amm amn ady;have anF:=aef.FC (ps:=["self","pin"]);have anG:Meth K bT "place" _:=⟨amk,aml,ady⟩;have aeg:=dP (st:=Ko) amr ams adA;have anH:=aeg.FC (ps:=["self","pin"]);have anI:Meth K bT "ways" _:=⟨amo,amq,adA⟩;have aeh:=dP (st:=Kp) amv amw adC;have anJ:=aeh.FC (ps:=["self","bar"]);have anK:Meth K bT "ends" _:=⟨amt,amu,adC⟩;have cls_cm:xK K p_:=⟨adD,adE,adF,adG⟩;have aCu:Yr K p_:=⟨adH,adJ,adI⟩;have anL:=dP (st:=QO) amz amA adL;have aCv:=anL.FC (ps:=["self"]);have aCw:Meth K p_ "ways" _:=⟨amx,amy,adL⟩;have DI:xK K kE:=⟨adM,adN,adO,adP⟩;have Wf:Mk K kE _:=⟨adQ,adS,adT,adR⟩;have aei:=dP (st:=Kq) amB amC adV;have Wg:=aei.FC (ps:=["self","x","y"]);have aCx:Meth K kE "__init__" _:=⟨adS,adT,adV⟩;have aej:=dP (st:=Kr) amF amG adX;have anM:=aej.FC (ps:=["self"]);have anN:Meth K kE "ways" _:=⟨amD,amE,adX⟩;have WX:xK K oF:=⟨adY,adZ,ad0,ad1⟩;have We:Yr K oF:=⟨ad2,ad4,ad3⟩;have aek:=dP (st:=Ks) amJ amK ad6;have anO:=aek.FC (ps:=["self"]);have anP:Meth K oF "ways" _:=⟨amH,amI,ad6⟩;have VM:=mg_of X G ak';have VN:=mg_of X G ala;have og:mg "NOUGHT"=some (.ref WO):=mg_of X G alb;have VZ:mg "ONE"=some (.ref WQ):=mg_of X G alf;have BP:mg "NO_MOVE"=some (.ref WR):=mg_of X G alj;have aCy:mg "YardError"=some (.ref alu):=mg_of X G als;have aCz:mg "NoWay"=some (.ref alw):=mg_of X G alv;have aCA:mg "PinThere"=some (.ref aly):=mg_of X G alx;have aCB:mg "SpotTaken"=some (.ref alA):=mg_of X G alz;have aCC:mg "NoPin"=some (.ref alC):=mg_of X G alB;have aCD:mg "BarThere"=some (.ref alE):=mg_of X G alD;have aCE:mg "NoBar"=some (.ref alG):=mg_of X G alF;have aCF:mg "NoLength"=some (.ref alI):=mg_of X G alH;have aCG:mg "TooMany"=some (.ref alK):=mg_of X G alJ;have ael:mg "NoGrip"=some (.ref OL):=mg_of X G OK;have Wa:mg "Frame"=some (.ref bT):=mg_of X G alL;have aCH:mg "Hold"=some (.ref p_):=mg_of X G alM;have Wc:mg "Roller"=some (.ref kE):=mg_of X G alN;have Wd:mg "Fixed"=some (.ref oF):=mg_of X G alO;have SK:mg "ValueError"=none:=mg_none_of X G xp;have uQ:mg "abs"=none:=mg_none_of X G acZ;have GJ:mg "all"=none:=mg_none_of X G ac0;have Np:mg "any"=none:=mg_none_of X G ac1;have CN:mg "bool"=none:=mg_none_of X G WS;have eE:mg "dict"=none:=mg_none_of X G WT;have fu:mg "enumerate"=none:=mg_none_of X G zO;have Ob:mg "int"=none:=mg_none_of X G ac2;have bh:mg "isinstance"=none:=mg_none_of X G xq;have aU:mg "len"=none:=mg_none_of X G ac3;have cf:mg "list"=none:=mg_none_of X G WU;have N5:mg "min"=none:=mg_none_of X G ac4;have bf:mg "range"=none:=mg_none_of X G Sr;have oV:mg "str"=none:=mg_none_of X G ac5;have gM:mg "tuple"=none:=mg_none_of X G Ss;have gC:mg "zip"=none:=mg_none_of X G ac6;have F:=dP (st:=mD) acU acV acW;refine ⟨fnOf "law" "law" (au mD) (aq mD) (ae mD) .none WJ WK WL WM OJ WN,fun s v=>.of_eq rfl,fun base _ _=>?_⟩;have hM:qP (aZ l.prog w):=aZ.AU;have hN:∀H:Hp,bQ K H WO [.int 0,.int 1]:=fun H=>.inr ⟨_,_,_,alc,rfl,rfl,z2L,.cons ⟨_,rfl⟩ (.cons ⟨_,rfl⟩ .nil)⟩;have hO:∀H:Hp,bQ K H WQ [.int 1,.int 1]:=fun H=>.inr ⟨_,_,_,alg,rfl,rfl,z2L,.cons ⟨_,rfl⟩ (.cons ⟨_,rfl⟩ .nil)⟩;have nm:∀{c:abA} {o:Λ} {k0 k1:Tok} {n:Nat} {sl:Ν},K.lookup c=some ⟨.type "tuple",o,.seq #[.int 0 k0,.int 1 k1] n,sl⟩->∀H:Hp,cU K H (.ref c) 0:=fun t H=>⟨_,rfl,by rw [dI];exact .inr ⟨_,_,_,t,rfl,rfl,z2L,.cons ⟨_,rfl⟩ (.cons ⟨_,rfl⟩ .nil)⟩⟩;have hMo:∀H:Hp,gc K H (.ref WR) (0,0):=fun H=>⟨_,.ref acX,.ref acY,rfl,.inr ⟨_,_,_,alk,rfl,rfl,z2L,.cons rfl (.cons rfl .nil)⟩,nm alm H,nm alp H⟩;have fc:Lg K bT:=⟨gy,OQ,WV,WW⟩;have G1:=Zk (P:=l.prog) (w:=w) (base:=base) (CX:=aZ l.prog w) amN uQ;have G2:=Zl ht amM G1;have GW:=Zn amZ G1;have GDv:=Zo ht am4 G1;have GCl:=Zp ht am3 gC G1 GDv;have GF:=Zq (P:=l.prog) (w:=w) (base:=base) am2 fu;have GR:=Zr am1 bf cf GF GCl;have GS:=Zx hN og am0 Np GR G2;have GTn:=Zz (P:=l.prog) (w:=w) (base:=base) amY bf;have anQ:=ZA amX gC aU GW GS (Nu GTn) G2;have RS:=VH (Ky hM OR G2);have RM:=VJ (tN hM xr G2);have GD:=VI (ZN hM amL G2);have GPD:=ZP hM amP GD;have GPd:=pS hM sQ RS RM;have GI:=ZT (P:=l.prog) (w:=w) (mg:=mg) (base:=base) ad7 fc;have MBs:bL l.prog w K mg base (aZ l.prog w) 1 bT "bars" ["self"] (jM K bT):=⟨_,_,gy,anE,ZV aee fc cf,anD⟩;have XG:bL l.prog w K mg base (aZ l.prog w) 1 bT "pins" ["self"] (ja K bT):=⟨_,_,gy,anC,ZX aed fc cf,anB⟩;have MCp:bL l.prog w K mg base (aZ l.prog w) 1 bT "check_pin" ["self","pin"] (fY K bT):=⟨_,_,gy,anx,ZZ aeb fc,anw⟩;have MCb:bL l.prog w K mg base (aZ l.prog w) 2 bT "check_bar" ["self","name","one","other"] (jb K bT):=⟨_,_,gy,anv,aad aea fc VN aU MCp,anu⟩;have Xr:bL l.prog w K mg base (aZ l.prog w) 3 bT "put_bar" ["self","name","one","other"] (jN K bT):=⟨_,_,gy,ant,aaf ad' fc MCb,ans⟩;have okP:=aab (P:=l.prog) (w:=w) (mg:=mg) (base:=base) anq fc VM aU cf;have MPp:bL l.prog w K mg base (aZ l.prog w) 3 bT "put_pin" ["self","name","x","y","hold"] (fZ l.prog w K mg base bT):=⟨_,_,gy,ad9,okP,anr⟩;have MPd:A_ l.prog w K mg base (aZ l.prog w) 3 bT "put_pin" ["self","name","x","y","hold"] [.none] (fZ l.prog w K mg base bT):=⟨_,_,gy,ad9,okP,ad8⟩;have MPl:bL l.prog w K mg base (aZ l.prog w) 2 bT "place" ["self","pin"] (qt K bT):=⟨_,_,gy,anG,Z1 aef fc MCp,anF⟩;have ME:bL l.prog w K mg base (aZ l.prog w) 1 bT "ends" ["self","bar"] (rG K bT):=⟨_,_,gy,anK,Z3 aeh fc,anJ⟩;have MW:bL l.prog w K mg base (aZ l.prog w) 2 bT "ways" ["self","pin"] (rH K bT):=⟨_,_,gy,anI,Z5 aeg fc cf MCp,anH⟩;have wR:bL l.prog w K mg base (aZ l.prog w) 1 kE "ways" ["self"] (mM K kE):=⟨_,_,DI,anN,Z9 aej DI Up,anM⟩;have wF:bL l.prog w K mg base (aZ l.prog w) 1 oF "ways" ["self"] (mN K):=⟨_,_,WX,anP,Z' aek,anO⟩;have GRI:=Z7 (P:=l.prog) (w:=w) (mg:=mg) (base:=base) aei DI Up;have GA:=aaj amO MPl GPD;have GPR:=aak hMo BP amQ XG;have GBR:=aan amS GA GPR;have GDR:=aao amT XG MW MBs ME GPR GBR;have GPP:=aap amU aU eE gC XG MW MBs;have GMF:=aas amV fu XG;have GLR:=aal amR XG GPR;have GCB:=tQ xt MBs;have GAG:=wc hO VZ zP MBs GCB;have GLe:=pU hMo BP sO MBs ME GA GPD GPd;have GSt:=tR hN og xu aU bf gC XG RS RM;have GSg:=aau (P:=l.prog) (w:=w) (base:=base) amW;have GBe:=wj hN og zQ aU gC GDR GSt GTn GSg;have GGr:=CA La RM;have GBo:=CI hN og K' aU GLR GAG GBe anQ GMF GLe GGr GPP;have GC:=aaJ (P:=l.prog) (w:=w) (base:=base) (CX:=aZ l.prog w) am5 aU;have SM:=aaL (P:=l.prog) (w:=w) (base:=base) (CX:=aZ l.prog w) am6;have WY:=aaM (w:=w) (base:=base) ht am7 uQ;have XH:=aaO (P:=l.prog) (w:=w) (base:=base) am8;have GTi:=aaQ (P:=l.prog) (w:=w) (base:=base) am9;have GTu:=aaS (P:=l.prog) (w:=w) (base:=base) am';have GNa:=aaT hM ana oV SM;have GSp:=aaU anc SM WY;have GWy:=aaV ane SM WY;have GPi:=aaY anf bf N5 GC SM GSp GWy GNa XH;have GBa:=aa1 ang bf aU GC SM GNa;have GFr:=aa2 anh aU V' Wa GI Wb Wc Wd We Wf GRI Wg (wR.mono (by decide)) (wF.mono (by decide)) Xr MPp MPd;have GAr:=aa5 ani XH GTu;have GAd:=aa9 anj XH;have GFo:=aa' ank aU bf GTi GTu GAr GAd;have GDo:=aa7 ano XH GTi;have GNu:=abb anb aU bh Ob CN gM WY;have GAF:=abd anl bh eE cf aU GJ GNu;have GIM:=abe anm bh eE cf gM aU GNu;have GWo:=abf anp XH GDo;have GGp:=wK zR aU bf GC SM WY;have GPl:=wL zW aU bf GC SM WY;have GPh:=tV xv aU bf GC SM;have GLB:=r8 uf aU bf GFo WY;have GTl:=yV DG bh gM aU GAF GIM;have MTb:bL l.prog w K mg base (aZ l.prog w) 1 bT "take_bar" ["self","name"] (j_ K bT):=⟨_,_,gy,anA,aah aec fc,anz⟩;have GDe:=y6 DH aU oV SM XH WY Xr;exact Wq F eE cf aU bf GC GPi GBa GFr GGp GPl GPh GLB GBo GTl GWo GDe MTb
end T_k66
open PySem PySem.W PyProof.Rows
set_option maxRecDepth 100000 in
set_option maxHeartbeats 0 in
theorem PySem.Challenge.cw_trussyard_k66_whole_firmer_frames_holds : PySem.Challenge.rw_trussyard_k66_whole_firmer_frames.Holds := by
 w_on;o_law;k_head;(case hw=>w_witness2)
 k_fill
 refine Ty.walk (l:=PySem.Challenge.rw_trussyard_k66_whole_firmer_frames) (x:="_law_script") (k:=42) (CX:=fun w=>Ty.aZ (PySem.Challenge.rw_trussyard_k66_whole_firmer_frames).prog w) rfl rfl (by first | rfl | decide+kernel) ⟨rfl,by decide,by decide⟩ (fun w h Y=>PySem.W.kIn_of Y) (fun w=>Ty.aZ.AU) ?F
 case F=>
  intro w mg fa h KX G Ym
  refine' T_k66.all_mk KX G Ym ⟨?A0,?A1,?A2,?A3⟩ ⟨?A4,?A5,?A6,?A7⟩ ⟨?A8,?A9,?Aa,?Ab⟩ ⟨?Ac,?Ad,?Ae,?Af⟩ ⟨?Ag,?Ah,?Ai,?Aj⟩ ⟨?Ak,?Al,?Am,?An⟩ ⟨?Ao,?Ap,?Aq,?Ar⟩ ⟨?As,?At,?Au,?Av⟩ ⟨?Aw,?Ax,?Ay,?Az⟩ ⟨?B0,?B1,?B2,?B3⟩ ⟨?B4,?B5,?B6,?B7⟩ ⟨?B8,?B9,?Ba,?Bb⟩ ⟨?Bc,?Bd,?Be,?Bf⟩ ⟨?Bg,?Bh,?Bi,?Bj⟩ ⟨?Bk,?Bl,?Bm,?Bn⟩ ⟨?Bo,?Bp,?Bq,?Br⟩ ⟨?Bs,?Bt,?Bu,?Bv⟩ ⟨?Bw,?Bx,?By,?Bz⟩ ⟨?C0,?C1,?C2,?C3⟩ ⟨?C4,?C5,?C6,?C7⟩ ⟨?C8,?C9,?Ca,?Cb⟩ ⟨?Cc,?Cd,?Ce,?Cf⟩ ⟨?Cg,?Ch,?Ci,?Cj⟩ ⟨?Ck,?Cl,?Cm,?Cn⟩ ⟨?Co,?Cp,?Cq,?Cr⟩ ⟨?Cs,?Ct,?Cu,?Cv⟩ ⟨?Cw,?Cx,?Cy,?Cz⟩ ⟨?D0,?D1,?D2,?D3⟩ ⟨?D4,?D5,?D6,?D7⟩ ⟨?D8,?D9,?Da,?Db⟩ ⟨?Dc,?Dd,?De,?Df⟩ ⟨?Dg,?Dh,?Di,?Dj⟩ ⟨?Dk,?Dl,?Dm,?Dn⟩ ⟨?Do,?Dp,?Dq,?Dr⟩ ⟨?Ds,?Dt,?Du,?Dv⟩ ⟨?Dw,?Dx,?Dy,?Dz⟩ ⟨?E0,?E1,?E2,?E3⟩ ⟨?E4,?E5,?E6,?E7⟩ ⟨?E8,?E9,?Ea,?Eb⟩ ⟨?Ec,?Ed,?Ee,?Ef⟩ ⟨?Eg,?Eh,?Ei,?Ej⟩ ⟨?Ek,?El,?Em,?En⟩ ⟨?Eo,?Ep,?Eq,?Er⟩ ⟨?Es,?Et,?Eu,?Ev⟩ ⟨?Ew,?Ex,?Ey,?Ez⟩ ⟨?F0,?F1,?F2,?F3⟩ ⟨?F4,?F5,?F6,?F7⟩ ⟨?F8,?F9,?Fa,?Fb⟩ ⟨?Fc,?Fd,?Fe,?Ff⟩ ⟨?Fg,?Fh,?Fi,?Fj⟩ ⟨?Fk,?Fl,?Fm,?Fn⟩ ⟨?Fo,?Fp,?Fq,?Fr⟩ ⟨?Fs,?Ft,?Fu,?Fv⟩ ⟨?Fw,?Fx,?Fy,?Fz⟩ ⟨?G0,?G1,?G2,?G3⟩ ⟨?G4,?G5,?G6,?G7⟩ ?G8 ?G9 ?Ga ?Gb ?Gc ?Gd ?Ge ?Gf ?Gg ?Gh ?Gi ?Gj ?Gk ?Gl ?Gm ?Gn ?Go ?Gp ?Gq ?Gr ?Gs ?Gt ?Gu ?Gv ?Gw ?Gx ?Gy ?Gz ?H0 ?H1 ?H2 ?H3 ?H4 ?H5 ?H6 ?H7 ?H8 ?H9 ?Ha ?Hb ?Hc ?Hd ?He ?Hf ?Hg ?Hh ?Hi ?Hj ?Hk ?Hl ⟨?Hm,?Hn,?Ho,?Hp,?Hq⟩ ?Hr ?Hs ?Ht ?Hu ?Hv ?Hw ⟨?Hx,?Hy,?Hz,?I0,?I1⟩ ⟨?I2,?I3,?I4,?I5,?I6⟩ ⟨?I7,?I8,?I9,?Ia,?Ib⟩ ⟨?Ic,?Id,?Ie,?If,?Ig⟩ ⟨?Ih,?Ii,?Ij,?Ik,?Il⟩ ⟨?Im,?In,?Io,?Ip,?Iq⟩ ⟨?Ir,?Is,?It,?Iu,?Iv⟩ ⟨?Iw,?Ix,?Iy,?Iz,?J0⟩ ⟨?J1,?J2,?J3,?J4,?J5⟩ ?J6 ?J7 ?J8 ?J9 ?Ja ?Jb ?Jc ⟨?Jd,?Je,?Jf,?Jg,?Jh⟩ ?Ji ?Jj ?Jk ?Jl ?Jm ?Jn ⟨?Jo,?Jp,?Jq,?Jr,?Js⟩ ⟨?Jt,?Ju,?Jv,?Jw,?Jx⟩ ?Jy ?Jz ?K0 ?K1 ?K2 ?K3 ?K4 ⟨?K5,?K6,?K7,?K8,?K9⟩ ?Ka ?Kb ?Kc ?Kd ?Ke
  (case A0|A1|A2|A3|A4|A5|A6|A7|A8|A9|Aa|Ab|Ac|Ad|Ae|Af|Ag|Ah|Ai|Aj|Ak|Al|Am|An|Ao|Ap|Aq|Ar|As|At|Au|Av|Aw|Ax|Ay|Az|B0|B1|B2|B3|B4|B5|B6|B7|B8|B9|Ba|Bb|Bc|Bd|Be|Bf|Bg|Bh|Bi|Bj|Bk|Bl|Bm|Bn|Bo|Bp|Bq|Br|Bs|Bt|Bu|Bv|Bw|Bx|By|Bz|C0|C1|C2|C3|C4|C5|C6|C7|C8|C9|Ca|Cb|Cc|Cd|Ce|Cf|Cg|Ch|Ci|Cj|Ck|Cl|Cm|Cn|Co|Cp|Cq|Cr|Cs|Ct|Cu|Cv|Cw|Cx|Cy|Cz|D0|D1|D2|D3|D4|D5|D6|D7|D8|D9|Da|Db|Dc|Dd|De|Df|Dg|Dh|Di|Dj|Dk|Dl|Dm|Dn|Do|Dp|Dq|Dr|Ds|Dt|Du|Dv|Dw|Dx|Dy|Dz|E0|E1|E2|E3|E4|E5|E6|E7|E8|E9|Ea|Eb|Ec|Ed|Ee|Ef|Eg|Eh|Ei|Ej|Ek|El|Em|En|Eo|Ep|Eq|Er|Es|Et|Eu|Ev|Ew|Ex|Ey|Ez|F0|F1|F2|F3|F4|F5|F6|F7|F8|F9|Fa|Fb|Fc|Fd|Fe|Ff|Fg|Fh|Fi|Fj|Fk|Fl|Fm|Fn|Fo|Fp|Fq|Fr|Fs|Ft|Fu|Fv|Fw|Fx|Fy|Fz|G0|G1|G2|G3|G4|G5|G6|G7|G8|G9|Ga|Gb|Gc|Gd|Ge|Gf|Gg|Gh|Gi|Gj|Gk|Gl|Gm|Gn|Go|Gp|Gq|Gr|Gs|Gt|Gu|Gv|Gw|Gx|Gy|Gz|H0|H1|H2|H3|H4|H5|H6|H7|H8|H9|Ha|Hb|Hc|Hd|He|Hf|Hg|Hh|Hi|Hj|Hk|Hl|Hm|Hn|Ho|Hp|Hq|Hr|Hs|Ht|Hu|Hv|Hw|Hx|Hy|Hz|I0|I1|I2|I3|I4|I5|I6|I7|I8|I9|Ia|Ib|Ic|Id|Ie|If|Ig|Ih|Ii|Ij|Ik|Il|Im|In|Io|Ip|Iq|Ir|Is|It|Iu|Iv|Iw|Ix|Iy|Iz|J0|J1|J2|J3|J4|J5|J6|J7|J8|J9|Ja|Jb|Jc|Jd|Je|Jf|Jg|Jh|Ji|Jj|Jk|Jl|Jm|Jn|Jo|Jp|Jq|Jr|Js|Jt|Ju|Jv|Jw|Jx|Jy|Jz|K0|K1|K2|K3|K4|K5|K6|K7|K8|K9|Ka|Kb|Kc|Kd=>k_is);(case Ke=>rfl)
#print axioms PySem.Challenge.cw_trussyard_k66_whole_firmer_frames_holds
