import PyProof.Rows.All
import Wide.All
import OpenK.AllK
import Wide.FinOn
import Lean
import PyProof.EqAt
import PyProof.EqKinds
import PyProof.TupleCall
import PyProof.ZipIter
import PyProof.SumWalkG
import PyProof.ListCopy
import PyProof.ListStr
import PyProof.DictItems
import PyProof.DictWalks
import PyProof.DictTruth
import PyProof.EnumMake
import PyProof.InstStoreFacts
import PyProof.Rows.SortWalk
import PyProof.ListRange
import PyProof.DictValues
import KE.KRevSl
import KE.KDictOf
import PyProof.DictIter
import PyProof.FactsAll.dict_1
import PyProof.AttrMissHeap
import KE.KEqDict
import KE.KDictList
import KE.KItemsList
import PyProof.Rows.Range3
import PySem.Challenge.RW_trussyard_k64_whole_least_stored_work
set_option Elab.async false
set_option linter.all false
set_option maxRecDepth 100000
set_option compiler.extract_closed false
theorem gE.{u}{α:Type u}{l:List α}(h:i < l.length):l[i]? =some l[i]:=List.getElem?_eq_getElem h
namespace PySem.W.Fast
def tw17819815566126239072:=()
def tw16222306236664583927:=()
def tw6695497318867459316:=()
def tw13884409423469413415:=()
def tw9028802533557430257:=()
def tw9556972408002497424:=()
def tw14434822311643758789:=()
def tw4606134688055985162:=()
def tw7061059609497989370:=()
def tw13707932587294299069:=()
def tw16401250450979614827:=()
def tw13749145183953080846:=()
def tw15632540205751233777:=()
def tw1990392230914075208:=()
def tw8344218868186560510:=()
def tw12049454015764277670:=()
def tw1845280197287581637:=()
def tw6454659146064260245:=()
def tw3212449700565083301:=()
def tw4919817985765018826:=()
def tw17187550694740631969:=()
def tw18048202021410185000:=()
def tw10184015057985080968:=()
def tw10920616618921448576:=()
def tw14080846975886271720:=()
def tw15453940012654792490:=()
def tw17360191392118414955:=()
def tw15656116643875472173:=()
def tw3176559808699738839:=()
def tw4552726917431672450:=()
def tw16056944849115303001:=()
def tw14573342397688375676:=()
def tw6833420484618081443:=()
def tw593569070743025697:=()
def tw17168407208180246091:=()
def tw12595469259165077522:=()
def tw952169272648595476:=()
def tw5675973311927719247:=()
def tw17667918731887706279:=()
def tw17519063637833849526:=()
def tw4075895376609177781:=()
def tw7037263692099048900:=()
def tw6676330705724902614:=()
def tw16845315813524442940:=()
def tw5808423806029509827:=()
def tw17128741140353143873:=()
def tw558084711603196163:=()
def tw15134747087091365722:=()
def tw2089076015225209814:=()
def tw2599378023886795438:=()
def tw10107556933702803740:=()
def tw8030661165701138362:=()
def tw14155298968491009546:=()
def tw7061430133045201310:=()
def tw13468431073860403967:=()
def tw1342868666755145086:=()
def tw8820927497566800203:=()
def tw7376778603144902336:=()
def tw16901908933512763151:=()
def tw5400032794767932933:=()
def tw6627039805704136230:=()
def tw7270341826061421378:=()
def tw9008764060658856902:=()
def tw13156120708708567213:=()
def tw11765102929629480140:=()
def tw10159355388095374747:=()
def tw12466713542903014672:=()
def tw18230834892400605901:=()
def tw8493059180155157648:=()
def tw10933298242722935913:=()
def tw14094854841448826493:=()
def tw11401534433082470971:=()
def tw1733453914989441769:=()
def tw11824413932737565553:=()
def tw4967508416203324238:=()
def tw8237466847468665225:=()
def tw15582048710273820822:=()
def tw13943307836562069333:=()
def tw6146218003792197694:=()
def tw14717681928896116688:=()
def tw8400686313628902025:=()
def tw15486213346678681419:=()
def tw8530388961207663342:=()
def tw13642818823372426502:=()
def tw17067140800493099762:=()
def tw7293021685707995153:=()
def tw9052128417884363551:=()
def tw15919434963698707079:=()
def tw11783082463460032474:=()
def tw13466169232535074666:=()
def tw6883948731482358170:=()
def tw9414798268131504236:=()
def tw17217735862572080646:=()
def tw5997626916790703871:=()
def tw7293316921240401509:=()
def tw10047946929088949658:=()
def tw13108828064897637139:=()
def tw3505883933257572328:=()
def tw11068635762468782865:=()
def tw6585731603238869773:=()
def tw1916157257605461400:=()
def tw9295812790342770436:=()
def tw3744085647327827953:=()
def tw1340711056081744269:=()
def tw8929362417374884046:=()
def tw16637379077129867177:=()
def tw7501106460049338016:=()
def tw7675847302945424608:=()
def tw6653348801003961643:=()
def tw1676375514407893640:=()
def tw11770652123222249979:=()
def tw7292281721973245402:=()
def tw14728938292237116849:=()
def tw1148906142914501542:=()
def tw5895640993060239350:=()
def tw2755122584058022944:=()
def tw6409625740681316231:=()
def tw7978849713951699495:=()
def tw17388967178321074234:=()
def tw8391095020325193144:=()
def tw16346085335429222244:=()
def tw5200475762348883663:=()
def tw10151552226578617395:=()
def tw15112950799606439091:=()
def tw8650382313320694748:=()
def tw9310638781883545472:=()
def tw8288616224228544148:=()
def tw6420645268868376953:=()
def tw2448532684909698344:=()
def tw15839370112818504959:=()
def tw17009528122910215652:=()
def tw15451729156980233079:=()
def tw18413588496554252600:=()
def tw14410218858087516892:=()
def tw14867488417817977273:=()
def tw13890981024914647400:=()
def tw15354069592449933021:=()
def tw2176851377141781182:=()
def tw14532041313002098223:=()
def tw4508397761017965090:=()
def tw4418934887035355889:=()
def tw16679889576267842303:=()
def tw5636813524361239671:=()
def tw11931071610393651290:=()
def tw12185369232856155496:=()
def tw16288874561013561888:=()
def tw11068240508842692268:=()
def tw7425559834777798701:=()
def tw8847030586005528286:=()
def tw8598397268858713916:=()
def tw7058919272977488675:=()
def tw9548688212053909783:=()
def tw17155196558628439867:=()
def tw1414155330351768209:=()
def tw10306109830437956021:=()
def tw9143927934614534328:=()
def tw14515089987159408172:=()
def tw12433835045673235033:=()
def tw15734699372648323333:=()
def tw10505231622246382458:=()
def tw5892678921459431997:=()
def tw17932397017620680897:=()
def tw9731040854337542433:=()
def tw17612605018718251975:=()
def tw2147345401638775857:=()
def tw5614305711084433404:=()
def tw14915750806083576887:=()
def tw13135456950753487397:=()
def tw14452665772337736121:=()
def tw4503389994094510818:=()
def tw18171437787939750391:=()
def tw9897875303185690551:=()
def tw1198515109951283004:=()
def tw9921860853780964528:=()
def tw7229904450876919221:=()
def tw9819115061436839103:=()
def tw5190890864471390506:=()
def tw10323831731284433233:=()
def tw2147122528461669170:=()
def tw18166867580558215342:=()
def tw14375670687836682586:=()
def tw17970268938554501311:=()
def tw7848563443665583979:=()
def tw829689871073680765:=()
def tw570231251073774520:=()
def tw2203327565685847972:=()
def tw6528803394358226381:=()
def tw4832326112501014626:=()
def tw14571392222662655824:=()
def tw8425260467326415474:=()
def tw3139407326671593241:=()
def tw3895831456331075587:=()
def tw1699269832025153982:=()
def tw10528080055008466456:=()
def tw12811328911042154672:=()
def tw12786687676651083878:=()
def tw632603261444612527:=()
def tw17334592807928080852:=()
def tw4312295162459608050:=()
def tw15253822844956130087:=()
def tw7633709896424174640:=()
def tw175879468610023692:=()
def tw2944265686921496915:=()
def tw6960313246838630229:=()
def tw4064973743142630883:=()
def tw11828707743892868065:=()
def tw2165604184031397411:=()
def tw4175220437196205401:=()
def tw7725991508807174799:=()
def tw14304026362448123287:=()
def tw7767213879229269609:=()
def tw17277337129852049567:=()
def tw8222878063900779490:=()
def tw7084771993707678889:=()
def tw4954244014344723046:=()
def tw1143585842588510222:=()
def tw6019688940528183601:=()
def tw6740666627639085810:=()
def tw7485337277003634295:=()
def tw8208022316854387254:=()
def tw17039784888926161117:=()
def tw12974581870576319432:=()
def tw5883639268650496645:=()
def tw9943780487015613636:=()
def tw11613347073205957514:=()
def tw2324424643447935149:=()
def tw14279210892115471550:=()
def tw531337537548158579:=()
def tw15411238758570185354:=()
def tw648615431623961661:=()
def tw15675175405966401772:=()
def tw10926610782011160915:=()
def tw13515248139506472188:=()
def tw15206210349286102058:=()
def tw13644708121504732706:=()
def tw8821904617914602063:=()
def tw7748090343511546691:=()
def tw3296720931569769630:=()
def tw13836114480029380618:=()
def tw8295209728339186653:=()
def tw7820943635562406317:=()
def tw12695415595758001341:=()
def tw7307057542636968176:=()
def tw14909995410712883199:=()
def tw7989206857310387309:=()
def tw11452014288105362886:=()
def tw6925874725692162778:=()
def tw8982347872895722856:=()
def tw8030121514709581051:=()
def tw17954033282508311944:=()
def tw6077208459882018145:=()
def tw17846566132796921010:=()
def tw8726257745476315302:=()
def tw13000468904147018719:=()
def tw600130453242328199:=()
def tw15964678884026372203:=()
def tw13066109943474057467:=()
def tw18278015308479815428:=()
def tw10111893516463588827:=()
def tw4976661430763437776:=()
def tw11629896844107927201:=()
def tw1552401523528175442:=()
def tw6948179187911759073:=()
def tw8423155266810181414:=()
def tw4645298248936936373:=()
def tw14728689999898445798:=()
def tw18170747897156149800:=()
def tw3486157439375279771:=()
def tw9500479496631128537:=()
def tw11294159412875849327:=()
def tw17468463148580973726:=()
def tw17865245964408394574:=()
def tw6123109873260313263:=()
def tw8248600529796087991:=()
def tw16486510029627942031:=()
def tw11385344482440023491:=()
def tw14251597602994179354:=()
def tw1794141970878146456:=()
def tw6621451699392757035:=()
def tw5060350909130030259:=()
def tw4385135189249571197:=()
def tw426887646910096518:=()
def tw7360448614073485622:=()
def tw14463781956097430199:=()
def tw9102926706347973806:=()
def tw17042819633666014697:=()
def tw6884581758948465895:=()
def tw9493937584431046325:=()
def tw13496235864064290307:=()
def tw8051363222244035858:=()
def tw1349376525309145696:=()
def tw9348625228042570152:=()
def tw1619652307848549554:=()
def tw13300892127650739854:=()
def tw10385707283776494232:=()
def tw894276995440791171:=()
def tw910167032814083719:=()
def tw98706183045550528:=()
def tw6405368977331054493:=()
def tw5782145516256577915:=()
def tw13637233349911009825:=()
def tw7614826964072334976:=()
def tw10657784072842176273:=()
def tw3120800981772751246:=()
def tw6435335028075328722:=()
def tw17720809458318418891:=()
def tw16442991183466264752:=()
def tw10238055095998548417:=()
def tw13489838461184885993:=()
def tw7229566719801356367:=()
def tw16870626462783515327:=()
def tw3855297602706177076:=()
def tw16707442186456978216:=()
def tw1410170025620679051:=()
def tw17816176400471197096:=()
def tw15276657800518933291:=()
def tw5565297105776083201:=()
def tw6444011533002850351:=()
def tw4469847441088609092:=()
def tw883060114214785815:=()
def tw16910603511966400269:=()
def tw7431411363203112109:=()
def tw834923516082941120:=()
def tw8595501382646476317:=()
def tw15208480413216935560:=()
def tw12903794057360929311:=()
def tw11060059775627403382:=()
def tw16057405203430047787:=()
def tw3153677722013335938:=()
def tw12910009969093617235:=()
def tw5235598672056516689:=()
def tw13285500579882840216:=()
def tw14713264259122260535:=()
def tw10384240837869109751:=()
def tw806965531552122625:=()
def tw1927847739589006113:=()
def tw13330892639799914515:=()
def tw1223559329811511972:=()
def tw7946782430083695962:=()
def tw14934407508495634882:=()
def tw7785719122648437540:=()
def tw17728471523414841699:=()
def tw10055871113528513878:=()
def tw12169281185325944980:=()
def tw10465377109046217812:=()
def tw10316880575398403721:=()
def tw17386199630964726990:=()
def tw16301464545378328655:=()
def tw468292744418413388:=()
def tw16443301861087009272:=()
def tw17928632141790284973:=()
def tw14012876915567939192:=()
def tw7361495241660675162:=()
def tw1131714580821732470:=()
def tw6779861378440200268:=()
def tw14108677847961064873:=()
def tw8658236727702496956:=()
def tw14346108879649478328:=()
def tw18321562646573945256:=()
def tw18275944257511196130:=()
def tw12659893648921282744:=()
def tw8863358029738137634:=()
def tw15527103014427228575:=()
def tw15001049638288599142:=()
def tw3655947440607356166:=()
def tw10091016467986848927:=()
def tw17254539394593999291:=()
def tw17708675935127744700:=()
def tw5233795793098883650:=()
def tw5387617218128666620:=()
def tw18187880454953163341:=()
def tw14911326597736848500:=()
def tw9530738238519426856:=()
def tw12843122502783891172:=()
def tw8585172528061582929:=()
def tw17398246846355327809:=()
def tw17041286569093324864:=()
def tw13652999394960026469:=()
def tw13449459412460544864:=()
def tw13581665487285493558:=()
def tw4946476031230953859:=()
def tw7851624949157619132:=()
def tw11023617414149971091:=()
def tw305424893256853535:=()
def tw3608909766084429536:=()
def tw4639936887853854909:=()
def tw11948918698002683885:=()
def tw7043393276409315947:=()
def tw9647183158272595661:=()
def tw546096248867827032:=()
def tw7303286461843409796:=()
def tw3102886182383082770:=()
def tw1112119186720470529:=()
def tw7467676627250911092:=()
def tw10347849808446697806:=()
def tw1428605716691636808:=()
def tw17872578320570571043:=()
def tw12459298027349298617:=()
def tw2886949606106054560:=()
def tw2716041325954086546:=()
def tw9063562958038065509:=()
def tw5569654558958586391:=()
def tw4287658416772433119:=()
def tw1169172143597236904:=()
def tw17060494473091737514:=()
def tw4110192097925809558:=()
def tw3187218480958361151:=()
def tw3339916420861149744:=()
def tw13702192092841440230:=()
def tw2137736922217007269:=()
def tw8305048492922604330:=()
def tw15848799416374785165:=()
def tw601762280982761296:=()
def tw7003848547959304370:=()
def tw13098796804519113334:=()
def tw5386275330946016687:=()
def tw14086222501321976646:=()
end PySem.W.Fast
open Array renaming length_toList->aml, toList->anl
open Bool renaming false_ne_true->adx, false_eq_true->aeP, and_eq_true->ae7, eq_iff_iff->afk, eq_false_iff->afX, and_false->agm, and_true->amn, or_false->anf
open Classical renaming byContradiction->ad6, propDecidable->aeb, not_imp->agy, not_forall->ami
open Int renaming ne_of_gt->adE, gcd->ad1, zero_add->ad2, natAbs_mul->aeu, mul_pos->aex, gcd_dvd_right->aeX, mul_comm->ae1, natAbs_add_le->ae2, gcd_dvd_left->ae8, fmod_nonneg_of_pos->afb, natAbs_dvd_natAbs->afr, fdiv_eq_of_eq_mul_right->aft, mul_ne_zero->afL, toNat_natCast->afQ, lt_trichotomy->afU, mul_zero->afV, mul_assoc->af7, fmod_lt_of_pos->agl, mul_neg_of_pos_of_neg->agr, mul_eq_zero->ag6, natAbs_neg->ak_, le_refl->amj, gcd_zero_right->ams, fmod_def->amu, emod_eq_of_lt->amC, gcd_mul_left->amJ, gcd_pos_iff->amU, dvd_coe_gcd->am0
open List renaming length_map->be, getElem?_eq_some_iff->ir, getElem?_map->Wp, mem_of_getElem?->aam, mem_map->aat, map_cons->aau, mem_cons_of_mem->aaw, getElem?_eq_none->aax, mem_singleton->adi, getElem?_of_mem->adj, mem_cons_self->adk, length_append->adl, length_take->adm, getD_eq_getElem?_getD->adn, mem_append->ado, map_congr_left->adp, getElem?_append_left->adq, map_append->ads, replicate->adt, map_map->adu, getElem?_append_right->adv, sum_cons->adw, flatMap_cons->adA, size_toArray->adC, mem_cons->adD, range->adG, take_length->adH, mem_append_right->adI, length_cons->adJ, mem_append_left->adL, map_nil->adM, take_of_length_le->adN, length_replicate->adP, nodup_cons->adQ, getElem?_replicate->adT, take_add_one->adU, length_range->adV, ext_getElem?->adW, getElem?_take_of_lt->adX, mem_iff_getElem->ad0, getElem_mem->ad3, zipWith->ad4, sum_nil->ad5, getElem?_range->ad7, getElem?_set->ad8, mem_range->ad9, mem_flatMap->aee, flatMap_append->ael, getElem?_inj->aeC, replicate_succ->aeN, lookup->aeO, getElem?_zipWith->aeS, length->aeV, length_eraseIdx->ae3, mem_of_mem_eraseIdx->ae6, length_eq_zero_iff->ae_, getElem?_eraseIdx->afe, append_nil->afl, find?_cons->afq, take_append_drop->afs, nodup_append->afw, mem_of_mem_take->afx, length_drop->afy, cons_append->afD, any_eq_true->afF, getElem?_zip_eq_some->afH, filterMap_cons->afI, any_cons->afK, sum_append->afO, flatten_cons->afR, append_assoc->afT, getElem_take->afW, length_singleton->afZ, length_filter_le->af0, filter_cons->af1, all_cons->af2, mem_filter->af_, forIn_cons->af', dropLast_concat_getLast->agc, mem_filterMap->agh, lookup_append->agp, forIn_nil->agq, pairwise_map->agx, length_eraseIdx_le->agH, getElem?_set_self->agI, range_succ_eq_map->agL, zipWith_cons_cons->agV, getElem_cons_drop->ag2, of_mem_zip->ag3, nil_append->ag4, length_nil->ag5, range_succ->ag_, eq_nil_or_concat->ah_, concat_eq_append->ai_, getElem?_set_ne->aj_, nodup_nil->amg, length_dropLast->amk, take_succ_cons->amm, forIn_toArray->amq, filter_append->amr, mem_replicate->amt, all_map->amv, foldl_append->amx, sum->amB, getElem_inj->amG, lookup_cons->amK, nodup_range->amL, zipIdx_cons->amM, cons_ne_nil->amN, flatMap_nil->amO, length_set->amT, length_zip->amV, zipIdx_nil->amZ, foldl->am4, Nodup->am6, take_zero->am7
open List.Pairwise renaming imp_of_mem->agD, map->amD
open Nat renaming le_trans->aav, le_refl->aa_, lt_of_le_of_lt->ac_, mul_le_mul_right->adz, lt_of_lt_of_le->adB, pow_le_pow_right->adF, ne_of_lt->adK, zero_le->adS, lt_succ_self->adY, lt_succ_iff_lt_or_eq->ad_, le_of_lt->ad', add_mul->aec, lt_irrefl->aeg, mul_le_mul->aek, not_lt_zero->aeH, add_sub_cancel_left->ae', ne_of_gt->afa, lt_succ_of_lt->afv, pow_succ->afz, zero_mul->afG, one_le_two_pow->afP, pow_add->af8, pow_lt_pow_right->af9, min_eq_left->agb, pow_le_pow_left->age, add_comm->agf, mul_comm->agg, le_succ_of_le->agw, le_of_not_lt->agG, le_of_eq->agJ, min_self->agM, lt_trans->agR, one_mul->amh, le_succ->amQ, two_pow_pos->amX
open Ne renaming symm->adO
open Option renaming map_eq_some_iff->ab_, map_some->afp, isSome_map->agv, isSome_iff_exists->agB, getD_none->amH, none->anx
open Option.some renaming inj->ady
open Or renaming inl->agC, inr->amI
open Prod renaming ext->al_, fst->anB, snd->anC
open Rat renaming intCast_mul->aea, intCast_le_intCast->aff, intCast_lt_intCast->afj, intCast_inj->afN, mul_nonneg->afY, lt_irrefl->agF, num_divInt_den->amo, divInt_eq_div->amw, add_zero->amz, le_of_lt->amA, intCast_add->amW, intCast_sub->amY, mul_eq_zero->am1
open Sum renaming inr->adR, inl->agu
open Sum.inl renaming inj->amP
open Sum.inr renaming inj->adZ
open PySem.W (Frag nsIn codeIn keepIn fnOf mg_of mg_none_of)
open PySem renaming wpAny_bind->aay, Addr->aaz, sizeLine->aaD, wpAny->aaE, wpAny_pure->aaF, Shared->aaH, model->aaJ, mainGlobals->aaN, starEach->aaO, Program->aaP, Around->aaT, eval->aaV, bootBuiltins->aaY, intBits_mul_le->aa1, wpAny_mono->aa3, IsPair->aa9, compareOp->aba, wpAny_field->abd, foldedSetIterable->abe, sysModules->abf, wpAny_holding->abi, backTo->abj, rawInt->abk, wpAny_seqItems->abn, wpAny_typeNameOfWhole_valiter->abu, binaryOp->abv, codeAny->abw, wpAny_call_entry->abx, wpAny_Call_Name_kw->aby, wpAny_setField_rec->abA, wpAny_passesOwn->abB, wpAny_truthy_bool->abD, wpAny_newObj_type->abE, cLine->abG, wpAny_typeNameOf_valiter->abI, mem_of_lookup->abJ, wpAny_getItem_str_slice->abK, pyNext->abL, IsZip->abO, tupleKind_room_in1->abP, wpAny_nextOf_list_item->acg, wpAny_isOneOf_valiter->ack, swapsWith->acn, assignEach->acp, wpAny_pyIter_zip->acr, intBits_le_of_natAbs->acu, behindInMarks->acw, attributeBase->acF, sliceBounds->acP, wpAny_pyIter_list->ag8, plainId_quiet->ahc, wpAny_execs_nil->ahf, letOwnedTupleGo->ahg, post_val_or_str->ahj, wpAny_updateSeq->ahk, recursionLimit->ahn, intBits_le_iff->aho, wpAny_fieldsOf->ahp, keywordEach->ahr
open PySem.Heap renaming get?_push_of_some->aaB, lt_size->aaI, get?_push_size->aaL, get?_update_other->aa5, size_push->abb, SameBut->abl, get?_update_self->abC
open PySem.PassesOwn renaming never->aaG
open PySem.Paired renaming length->aaK, snoc->ahb
open PySem.W renaming findIn->aaR, emptyDict->aaZ, instObj->aa2, kitOne->aa4, kia_one->aa8, plainGet->abm, makesIn->abo, hasDictIn->abt, plainOver->abF, callWith_K->acR, isFn->ahh, lookIn->ahl
open PySem.Builtin.SmallTypes renaming ownedTupleIsFree->aaW, nextOf->aaX
open PySem.Str renaming ofString->aa6
open PyProof.Rows renaming callWith_type1->aa7, envOfC->abN, kindOf->aci, AllBare->ac0
open PySem.F renaming plainAttrs_list->abc, slot_list_append->abg, type_list_append->abh, slot_zip_next->abq, slot_dict_valueiterator_next->abr, args_zip_next_1->ag9, entry_zip_next->ahd
open PySem.Builtin.List renaming listTooLong->abp, listExtendWith->abz
open PySem.Obj renaming mapSeq->abH
open PySem.Calls renaming spliced_cons->abM, callWith_builtin->acb
theorem aaA.{u}{c:Prop}[Decidable c](a:¬c){α:Sort u}{t e:α}:ite c t e=e:=if_neg a
theorem aaC.{u}{c:Prop}[Decidable c](a:c){α:Sort u}{t e:α}:ite c t e=t:=if_pos a
theorem aaM{a b:Prop}(h:a)(n:¬a):b:=absurd h n
theorem aaQ.{u,v}{α:Sort u}{β:Sort v}{a b:α}(f:α->β)(h:a=b):f a=f b:=congrArg f h
theorem aaS{p:Prop}[Decidable p](h:p):decide p=true:=decide_eq_true h
theorem aaU{p:Prop}[Decidable p](h:decide p=true):p:=of_decide_eq_true h
theorem aa0{p:Prop}[Decidable p](h:¬p):decide p=false:=decide_eq_false h
namespace L2
open PySem PySem.Spec PyProof.Rows
abbrev _root_.δ:=Value->aaH->Prop
abbrev _root_.ε:=List (aaz×Obj)
abbrev _root_.ζ:=List (List Int)
abbrev _root_.θ:=Str->Option Value
abbrev _root_.ι:=Str->Option (Rat×Rat)
abbrev _root_.ξ:=List Int
abbrev _root_.ο:=List (Int×Int)
abbrev _root_.π:=List (Nat×List Int)
abbrev _root_.ρ:=List Value
abbrev _root_.ς:=List Str
abbrev _root_.υ:=List aaz
abbrev _root_.χ:=Str->Option (Int×Int)
abbrev _root_.ψ:=Str->Rat×Rat
abbrev _root_.Α:=Str->List Rat
abbrev _root_.Β:=List (Str×Str×Str)
abbrev _root_.Δ:=List (List (Int×Int))
abbrev _root_.Ε:=List Expr
abbrev _root_.Η:=Str->Option Rat
abbrev _root_.Θ:=Str->Rat
abbrev _root_.Κ:=Option aaz
abbrev _root_.Λ:=List (Rat×Rat)
abbrev _root_.Μ:=List Rat
abbrev _root_.Ν:=Array Value
abbrev _root_.Ξ:=Array (Option Value)
abbrev _root_.Ο:=Option Value->aaH->Prop
abbrev _root_.Τ:=List (Str×List (Rat×Rat))
abbrev _root_.Υ:=Result->aaH->Prop
abbrev _root_.Χ:=List (Str×Value)
abbrev Key:=Sum Int Str
abbrev _root_.Φ:=List (List Key×aaz×Value)
def ue:Key->Value->Bool
 | .inl k,v=>Value.isInt k v
 | .inr x,v=>Value.isStrOf x v
def aed (w:World):Key->Int
 | .inl k=>hashInt k
 | .inr x=>hashStr w x
theorem cv:∀{k:Key} {v:Value},ue k v=true->(∃i t,k=agu i/\v=Value.int i t)\/(∃x t,k=adR x/\v=Value.str x t)
 | .inl i,v,h=>by
  obtain ⟨t,e⟩:=Value.isInt_shape (k:=i) (v:=v) h
  exact .inl ⟨i,t,rfl,e⟩
 | .inr x,v,h=>by
  obtain ⟨t,e⟩:=Value.isStrOf_shape (x:=x) (v:=v) h
  exact .inr ⟨x,t,rfl,e⟩
theorem FV (i:Int)(t:Tok):ue (.inl i) (.int i t)=true:=by simp [ue,Value.isInt]
theorem FW (x:Str)(t:Tok):ue (.inr x) (.str x t)=true:=by simp [ue,Value.isStrOf]
theorem TY (a b:Int):decide ((agu a:Key)=agu b)=(a==b):=by
 by_cases e:a=b
 ·subst e;simp
 ·have h:¬ (agu a:Key)=agu b:=fun q=>e (amP q)
  rw [aa0 h]
  exact (beq_eq_false_iff_ne.mpr e).symm
theorem TZ (a b:Str):decide ((adR a:Key)=adR b)=decide (a=b):=by
 by_cases e:a=b
 ·subst e;simp
 ·have h:¬ (adR a:Key)=adR b:=fun q=>e (adZ q)
  rw [aa0 h,aa0 e]
theorem T1 (a:Int)(b:Str):decide ((agu a:Key)=adR b)=false:=aa0 (fun q=>nomatch q)
theorem T2 (a:Str)(b:Int):decide ((adR a:Key)=agu b)=false:=aa0 (fun q=>nomatch q)
def bC (prog:aaP)(w:World):PySem.KeyKind prog w Key where
 is:=ue
 hash:=aed w
 inj:=fun v a b ha hb=>by
  rcases cv ha with ⟨i,t,rfl,rfl⟩|⟨x,t,rfl,rfl⟩
  ·rcases cv hb with ⟨j,u,rfl,e⟩|⟨y,u,rfl,e⟩
   ·injection e with e1 _;rw [e1]
   ·exact nomatch e
  ·rcases cv hb with ⟨j,u,rfl,e⟩|⟨y,u,rfl,e⟩
   ·exact nomatch e
   ·injection e with e1 _;rw [e1]
 byValue:=fun k v h=>by
  rcases cv h with ⟨i,t,rfl,rfl⟩|⟨x,t,rfl,rfl⟩<;>rfl
 pyHash:=fun hv h=>by
  rcases cv hv with ⟨i,t,rfl,rfl⟩|⟨x,t,rfl,rfl⟩
  ·exact wpAny_pyHash_int h
  ·exact wpAny_pyHash_str h
 eqBool:=fun hu hv h=>by
  rcases cv hu with ⟨i,t,rfl,rfl⟩|⟨x,t,rfl,rfl⟩
  ·rcases cv hv with ⟨j,u,rfl,rfl⟩|⟨y,u,rfl,rfl⟩
   ·rw [TY] at h;exact wpAny_eqBool_int h
   ·rw [T1] at h;exact SeqAt.EqAt.int_str i t y u _ _ _ _ h
  ·rcases cv hv with ⟨j,u,rfl,rfl⟩|⟨y,u,rfl,rfl⟩
   ·rw [T2] at h;exact SeqAt.EqAt.str_int x t j u _ _ _ _ h
   ·rw [TZ] at h;exact wpAny_eqBool_str h
 «strs»:=fun k x t v h=>by
  rcases cv h with ⟨i,u,rfl,e⟩|⟨y,u,rfl,e⟩
  ·exact nomatch e
  ·injection e with e1 _
   subst e1
   cases v<;>rfl
theorem xt (prog:aaP)(w:World)(i:Int)(t:Tok):(bC prog w).is (.inl i) (.int i t)=true:=FV i t
theorem xu (prog:aaP)(w:World)(x:Str)(t:Tok):(bC prog w).is (.inr x) (.str x t)=true:=FW x t
end L2
namespace L2
open PySem PySem.Spec PyProof.Rows
inductive V where
 | cS|bl (b:Bool)|int (i:Int)|str (x:Str)|byt (b:Array UInt8)|T3 (b:UInt64)|ref (a:aaz)|ty (n:String)
 deriving DecidableEq
abbrev _root_.γ:=List (Key×V)
abbrev _root_.η:=List V
abbrev _root_.ω:=Option V
abbrev _root_.Ζ:=List (List V)
abbrev _root_.Ρ:=List (List Key×V)
def RelV:V->Value->Prop
 | .cS,u=>u=Value.none
 | .bl b,u=>u=Value.bool b
 | .int i,u=>∃t,u=Value.int i t
 | .str x,u=>∃t,u=Value.str x t
 | .byt b,u=>∃t,u=Value.bytes b t
 | .T3 b,u=>∃t,u=Value.float b t
 | .ref a,u=>u=Value.ref a
 | .ty n,u=>u=Value.type n
abbrev Vals:List V->List Value->Prop:=Paired RelV
theorem Vals.length {xs:η}{us:ρ}(r:Vals xs us):xs.length=us.length:=aaK r
theorem Vals.get:∀{xs:η} {us:ρ} {i:Nat} {x:V},Vals xs us->xs[i]?=some x->∃u,us[i]?=some u/\RelV x u
 | _,_,_,_,.nil,e=>by simp at e
 | _,_,0,_,.cons r _,e=>by simp at e;subst e;exact ⟨_,rfl,r⟩
 | _,_,i+1,x,.cons _ t,e=>by
  obtain ⟨u,h1,h2⟩:=Vals.get (i:=i) (x:=x) t (by simpa using e)
  exact ⟨u,by simpa using h1,h2⟩
theorem Vals.set (r:RelV x u):∀{xs:η} {us:ρ} (i:Nat),Vals xs us->Vals (xs.set i x) (us.set i u)
 | _,_,_,.nil=>.nil
 | _,_,0,.cons _ t=>.cons r t
 | _,_,i+1,.cons q t=>.cons q (Vals.set r i t)
theorem Vals.append:∀{xs ys:η} {us ws:ρ},Vals xs us->Vals ys ws->Vals (xs++ys) (us++ws)
 | _,_,_,_,.nil,s=>s
 | _,_,_,_,.cons r t,s=>.cons r (Vals.append t s)
theorem Vals.take:∀{xs:η} {us:ρ} (n:Nat),Vals xs us->Vals (xs.take n) (us.take n)
 | _,_,0,_=>.nil
 | _,_,_+1,.nil=>.nil
 | _,_,n+1,.cons r t=>.cons r (Vals.take n t)
theorem Vals.drop:∀{xs:η} {us:ρ} (n:Nat),Vals xs us->Vals (xs.drop n) (us.drop n)
 | _,_,0,r=>r
 | _,_,_+1,.nil=>.nil
 | _,_,n+1,.cons _ t=>Vals.drop n t
def jo:Option V->Option Value->Prop
 | some v,some u=>RelV v u
 | none,none=>True
 | _,_=>False
def KV {κ:Type}:List (κ×V)->List (κ×Value)->Prop:=Paired fun (p:κ×V) (q:κ×Value)=>p.1=q.1/\RelV p.2 q.2
def kV:Key->V
 | .inl i=>.int i
 | .inr x=>.str x
inductive HO where
 | lst (xs:η)
 | tup (xs:η)
 | dK (kvs:γ)|dT (kvs:Ρ)
 | set (S:Int->Bool) (n:Nat)
 | ins (C dx:aaz) (fs:List (Str×V))
 | own (x:aaz)
 | xd (fs:List (Str×V))
 | met (f x:aaz)
 | rng (lo hi:Int)
 | fq (o:Obj) (u:HO)
 | T4 (ps:Ν)
 | ext (φ:Heap->Prop)
abbrev Hp:=aaz->Option HO
def upd (H:Hp)(a:aaz)(o:HO):Hp:=fun b=>if b=a then some o else H b
theorem ah :upd H a o a=some o:=by unfold upd;rw [aaC rfl]
theorem aj (h:b≠a):upd H a o b=H b:=by unfold upd;rw [aaA h]
theorem WZ {H:Hp}(h:H a=some o)(h':H b=some u)(d:o≠u):a≠b:=by
 intro e;subst e;rw [h] at h';exact d (ady h')
theorem ak {H:Hp}(h:H a=some o)(h':H b=none):a≠b:=by
 intro e;subst e;rw [h] at h';cases h'
section
variable (P:aaP)(w:World)
def cT (H:Hp)(h:Heap)(a:aaz):HO->Prop
 | .lst xs=>xs.length<=aaD/\∃(its:ρ)(n:Nat),Vals xs its/\h.get? a=some {cls:=.type "list",data:=.seq its.toArray n}
 | .tup xs=>xs.length<=aaD/\∃its:List Value,Vals xs its/\IsTup h a its.toArray
 | .dK kvs=>kvs.length<=aaD/\(a==abf)=false/\∃vs,KV kvs vs/\h.DictOf (bC P w) a vs
 | .dT kvs=>kvs.length<=aaD/\(a==abf)=false/\∃xs:List (List Key×aaz×Value),
   Paired (fun (p:List Key×V) (q:List Key×aaz×Value)=>p.1=q.1/\H q.2.1=some (.tup (p.1.map kV))/\RelV p.2 q.2.2) kvs xs/\
   ∃o es ep,h.get? a=some o/\o.ExactDict/\o.data=.dict es ep/\es.toList=xs.map (entryOfKey (tupleKind (bC P w)))/\(xs.map (·.1)).Nodup
 | .set S n=>h.SetOf (intKind P w) a S n
 | .ins C dx fs=>H dx=some (.own a)/\fs.length<=1000/\dx≠a/\h.get? a=some (aa2 C dx)/\
   ∃mA,h.Ns1 dx mA/\(∀f,jo (fs.lookup f) (mA f))/\PySem.Within mA (fs.map (·.1))
 | .own _=>∃o,h.get? a=some o
 | .xd fs=>∃mA,h.Ns1 a mA/\∀f,jo (fs.lookup f) (mA f)
 | .rng lo hi=>∃t u v,h.get? a=some {cls:=.type "range",data:=.fields #[.int lo t,.int hi u,.int 1 v]}
 | .fq o u=>h.get? a=some o/\cT H h a u
 | .T4 ps=>h.get? a=some {cls:=.none,data:=.fields ps}
 | .met f x=>h.get? a=some (PySem.W.methodObj (.ref f) (.ref x))
 | .ext φ=>φ h/\(∃o,h.get? a=some o)/\∀h1 h2:Heap,φ h1->(∀o,h1.get? a=some o->h2.get? a=some o)->φ h2
def kA (H:Hp)(h:Heap):Prop:=∀a o,H a=some o->cT P w H h a o
end
section
variable {P:aaP}{w:World}{H H':Hp}{h h':Heap}{a:aaz}{o:HO}
theorem cT.lt (x:cT P w H h a o):a<h.objs.size:=by
 cases o with
 | lst xs=>obtain ⟨_,_,_,_,e⟩:=x;exact aaI e
 | tup xs=>obtain ⟨_,_,_,p⟩:=x;exact p.lt
 | dK kvs=>obtain ⟨_,_,_,_,o,_,_,e,_⟩:=x;exact aaI e
 | dT kvs=>obtain ⟨_,_,_,_,o,_,_,e,_⟩:=x;exact aaI e
 | set S n=>obtain ⟨o,_,_,_,e,_⟩:=x;exact aaI e
 | ins C dx fs=>obtain ⟨_,_,_,e,_⟩:=x;exact aaI e
 | own y=>obtain ⟨_,e⟩:=x;exact aaI e
 | xd fs=>obtain ⟨_,⟨_,_,_,e,_⟩,_⟩:=x;exact aaI e
 | rng lo hi=>obtain ⟨_,_,_,e⟩:=x;exact aaI e
 | fq ob u=>obtain ⟨e,_⟩:=x;exact aaI e
 | T4 ps=>exact aaI (show h.get? a=some _ from x)
 | met f y=>exact aaI (show h.get? a=some _ from x)
 | ext φ=>obtain ⟨_,⟨_,e⟩,_⟩:=x;exact aaI e
theorem Paired.cF :∀{l₁:List α} {l₂:List β},Paired F l₁ l₂->(∀a b,F a b->G a b)->Paired G l₁ l₂
 | _,_,.nil,_=>.nil
 | _,_,.cons r t,f=>.cons (f _ _ r) (Paired.cF t f)
theorem cT.uV (x:cT P w H h a o)(k:∀b u,(b=a\/H b=some (.own a))->h.get? b=some u->h'.get? b=some u)
  (ho:∀b,H b=some (.own a)->H' b=some (.own a)) (ht:∀b xs,H b=some (.tup xs)->H' b=some (.tup xs)):cT P w H' h' a o:=by
 induction o with
 | lst xs=>obtain ⟨z,its,n,r,e⟩:=x;exact ⟨z,its,n,r,k _ _ (.inl rfl) e⟩
 | tup xs=>obtain ⟨z,its,r,ob,e,c⟩:=x;exact ⟨z,its,r,ob,k _ _ (.inl rfl) e,c⟩
 | dK kvs=>obtain ⟨z,y,vs,r,ob,es,ep,e,c⟩:=x;exact ⟨z,y,vs,r,ob,es,ep,k _ _ (.inl rfl) e,c⟩
 | dT kvs=>
  obtain ⟨z,y,xs,r,ob,es,ep,e,c⟩:=x
  exact ⟨z,y,xs,Paired.cF r fun p q z=>⟨z.1,ht _ _ z.2.1,z.2.2⟩,ob,es,ep,k _ _ (.inl rfl) e,c⟩
 | set S n=>obtain ⟨ob,es,ep,t,e,c⟩:=x;exact ⟨ob,es,ep,t,k _ _ (.inl rfl) e,c⟩
 | ins C dx fs=>
  obtain ⟨d,z,ne,e,mA,⟨od,es,ep,e2,c⟩,r⟩:=x
  exact ⟨ho _ d,z,ne,k _ _ (.inl rfl) e,mA,⟨od,es,ep,k _ _ (.inr d) e2,c⟩,r⟩
 | own y=>obtain ⟨ob,e⟩:=x;exact ⟨ob,k _ _ (.inl rfl) e⟩
 | xd fs=>obtain ⟨mA,⟨od,es,ep,e,c⟩,r⟩:=x;exact ⟨mA,⟨od,es,ep,k _ _ (.inl rfl) e,c⟩,r⟩
 | rng lo hi=>obtain ⟨t,u,v,e⟩:=x;exact ⟨t,u,v,k _ _ (.inl rfl) e⟩
 | fq ob u ih=>obtain ⟨e,q⟩:=x;exact ⟨k _ _ (.inl rfl) e,ih q⟩
 | T4 ps=>
  have e:h.get? a=some {cls:=.none,data:=.fields ps}:=x
  show h'.get? a=some {cls:=.none,data:=.fields ps}
  exact k a _ (.inl rfl) e
 | met f y=>
  have e:h.get? a=some (PySem.W.methodObj (.ref f) (.ref y)):=x
  show h'.get? a=some (PySem.W.methodObj (.ref f) (.ref y))
  exact k a _ (.inl rfl) e
 | ext φ=>obtain ⟨p,⟨o,e⟩,st⟩:=x;exact ⟨st _ _ p fun o q=>k _ _ (.inl rfl) q,⟨o,k _ _ (.inl rfl) e⟩,st⟩
theorem kA.lt (x:kA P w H h)(e:H a=some o):a<h.objs.size:=(x a o e).lt
theorem kA.fresh (x:kA P w H h)(e:h.objs.size<=a):H a=none:=by
 cases q:H a with
 | none=>rfl
 | some u=>exact aaM (adB (x.lt q) e) (aeg _)
theorem kA.kept (x:kA P w H h)(k:∀b u,h.get? b=some u->h'.get? b=some u):kA P w H h':=fun a o e=>
 (x a o e).uV (fun b u _ q=>k b u q) (fun _ q=>q) fun _ _ q=>q
theorem kA.laid (x:kA P w H h)(k:∀b u,h.get? b=some u->h'.get? b=some u)(hp:h.objs.size<=a)(new:cT P w (upd H a o) h' a o):kA P w (upd H a o) h':=fun b u e=>by
 have hn:=x.fresh hp
 by_cases hb:b=a
 ·subst hb;rw [ah] at e;cases e;exact new
 ·rw [aj hb] at e
  exact (x b u e).uV (fun c v _ q=>k c v q) (fun c q=>by rw [aj (ak q hn)];exact q) fun c xs q=>by rw [aj (ak q hn)];exact q
end
def Rd (H:Hp)(a:aaz)(u:HO):Prop:=H a=some u\/∃o,H a=some (.fq o u)
theorem Rd.of (h:H a=some u):Rd H a u:=.inl h
theorem Rd.ok (r:Rd H a u)(x:kA P w H h):cT P w H h a u:=by
 rcases r with r|⟨o,r⟩
 ·exact x a u r
 ·obtain ⟨_,q⟩:=x a _ r
  exact q
def W0:Option HO->Prop
 | some (.lst _)=>True
 | some (.dK _)=>True
 | some (.dT _)=>True
 | some (.set _ _)=>True
 | some (.ins _ _ _)=>True
 | some (.ext _)=>True
 | _=>False
section
variable {P:aaP}{w:World}{H:Hp}{h h':Heap}{x e:aaz}{o':HO}
theorem kA.write (ok:kA P w H h)(mu:W0 (H x))(he:e=x\/H e=some (.own x))(k:∀b u,b≠e->h.get? b=some u->h'.get? b=some u)(Wk:∃u,h'.get? e=some u)
  (new:cT P w (upd H x o') h' x o'):kA P w (upd H x o') h':=fun b u q=>by
 have W5:∀c y,H c=some (.own y)->c≠x:=fun c y r z=>by subst z;rw [r] at mu;exact mu
 have aef:∀c xs,H c=some (.tup xs)->c≠x:=fun c xs r z=>by subst z;rw [r] at mu;exact mu
 by_cases hb:b=x
 ·subst hb;rw [ah] at q;cases q;exact new
 ·rw [aj hb] at q
  by_cases T5:b=e
  ·have q':H b=some (.own x):=by
    rcases he with z|z
    ·exact aaM (T5.trans z) hb
    ·rw [T5];exact z
   rw [q] at q';cases q'
   obtain ⟨v,hv⟩:=Wk
   exact ⟨v,by rw [T5];exact hv⟩
  ·refine (ok b u q).uV (fun c v hc r=>k c v ?_ r) (fun c r=>by rw [aj (W5 c b r)];exact r) fun c xs r=>by rw [aj (aef c xs r)];exact r
   rcases hc with rfl|hc
   ·exact T5
   ·rintro rfl
    rcases he with z|z
    ·exact W5 c b hc z
    ·rw [hc] at z;cases z;exact hb rfl
end
structure Un (fs ex:υ)(H H':Hp)(h h':Heap):Prop where
 keep:∀b o,h.get? b=some o->H b=none->b∉fs->b∉ex->h'.get? b=some o
 slot:∀b o,h.get? b=some o->H b=none->b∈fs->b∉ex->∃sl,h'.get? b=some {o with slots:=sl}
 free:∀b o,h.get? b=some o->H b=none->b∉ex->H' b=none
 there:∀b o,h.get? b=some o->b∉ex->∃o',h'.get? b=some o'
 uW:∀b xs,H b=some (.tup xs)->H' b=some (.tup xs)
 sQ:∀b o u,H b=some (.fq o u)->H' b=some (.fq o u)
 uX:∀b ps,H b=some (.T4 ps)->∃more,H' b=some (.T4 (ps++more))
section
variable {fs fs' ex zF :υ}{H H1 H2:Hp}{h h1 h2 h':Heap}{a x e:aaz}{o:HO}
theorem Un.any (u:Un fs ex H H1 h h1)(q:h.get? b=some ob)(n:H b=none)(hx:b∉ex):∃sl,h1.get? b=some {ob with slots:=sl}:=by
 by_cases hb:b∈fs
 ·exact u.slot b ob q n hb hx
 ·exact ⟨ob.slots,u.keep b ob q n hb hx⟩
theorem Un.kept (k:∀b u,h.get? b=some u->h'.get? b=some u):Un fs ex H H h h':=
 ⟨fun b ob q _ _ _=>k b ob q,fun b ob q _ _ _=>⟨ob.slots,k b ob q⟩,fun _ _ _ n _=>n,fun b ob q _=>⟨ob,k b ob q⟩,fun _ _ q=>q,fun _ _ _ q=>q,fun _ ps q=>⟨#[],by rw [q];simp⟩⟩
theorem Un.refl:Un fs ex H H h h:=Un.kept fun _ _ q=>q
theorem Un.laid (k:∀b u,h.get? b=some u->h'.get? b=some u)(hp:h.objs.size<=a)(hn:H a=none):Un fs ex H (upd H a o) h h' where
 keep:=fun b u q _ _ _=>k b u q
 slot:=fun b u q _ _ _=>⟨u.slots,k b u q⟩
 free:=fun b u q n _=>by rw [aj (adK (adB (aaI q) hp))];exact n
 there:=fun b u q _=>⟨u,k b u q⟩
 uW:=fun b xs q=>by rw [aj (ak q hn)];exact q
 sQ:=fun b u xs q=>by rw [aj (ak q hn)];exact q
 uX:=fun b ps q=>⟨#[],by rw [aj (ak q hn),q];simp⟩
theorem Un.write (mu:W0 (H x))(he:e=x\/H e=some (.own x))(k:∀b u,b≠e->h.get? b=some u->h'.get? b=some u)(Wk:∃u,h'.get? e=some u):Un fs ex H (upd H x o) h h':=by
 have hx:∀b,H b=none->b≠x:=fun b n z=>by subst z;rw [n] at mu;exact mu
 have hb:∀b,H b=none->b≠e:=fun b n z=>by
  subst z
  rcases he with r|r
  ·exact hx b n r
  ·rw [n] at r;cases r
 have hm:∀b u,H b=some u->¬ W0 (some u)->b≠x:=fun b u q nm z=>by subst z;rw [q] at mu;exact nm mu
 refine ⟨fun b u q n _ _=>k b u (hb b n) q,fun b u q n _ _=>⟨u.slots,k b u (hb b n) q⟩,fun b u q n _=>by rw [aj (hx b n)];exact n,fun b u q _=>?_,
  fun b xs q=>by rw [aj (hm b _ q fun z=>z)];exact q,fun b u xs q=>by rw [aj (hm b _ q fun z=>z)];exact q,fun b ps q=>⟨#[],by rw [aj (hm b _ q fun z=>z),q];simp⟩⟩
 by_cases T5:b=e
 ·subst T5;exact Wk
 ·exact ⟨u,k b u T5 q⟩
end
def trk (h:Heap)(H:Hp):List aaz:=(adG h.objs.size).filter fun a=>(H a).isSome
def uY (h:Heap)(H:Hp):Heap:=PySem.W.hideAll h (trk h H)
theorem FX (h:Heap)(H:Hp):(uY h H).objs.size=h.objs.size:=PySem.W.hideAll_size _ _
theorem Lo (e:h.get? b=some o)(n:H b=none):(uY h H).get? b=some o:=
 PySem.W.hideAll_get _ e fun hm=>by
  have q:(H b).isSome=true:=(af_.mp hm).2
  rw [n] at q;simp at q
theorem PD (e:(uY h H).get? b=some o):h.get? b=some o/\H b=none:=by
 have e':h.get? b=some o:=PySem.W.of_hideAll (trk h H) e
 refine ⟨e',?_⟩
 cases q:H b with
 | none=>rfl
 | some x=>
  have hm:b∈trk h H:=af_.mpr ⟨ad9.mpr (aaI e'),by simp [q]⟩
  have z:(uY h H).get? b=none:=PySem.W.hideAll_none (trk h H) hm
  rw [z] at e;cases e
def PH (g h:Heap)(L:aaz):List (aaz×Obj):=(adG h.objs.size).filterMap fun a=>if a=L\/(g.get? a).isSome=true then none else (h.get? a).map fun o=>(a,o)
def rest (g h:Heap)(L d:aaz):List (aaz×Obj):=(PH g h L).filter fun p=>decide (p.1≠d)
end L2
namespace L2
open PySem PySem.Spec PyProof.Rows
structure Mod (K:Frag)(mg:θ)(base:Heap):Prop where
 Wm:K.In base
 glob:base.Ns aaN mg
 blt:∃mb,base.Ns builtinsNs mb/\∀x:Str,x≠ "__name__"->mb x=aaY x
 nolimit:base.NoLimit
 seer:base.NoSeer
structure Cx where
 prog:aaP
 w:World
 K:Frag
 mg:Str->Option Value
 base:Heap
 A:aaT
 N:List Str
 s₀:aaH
 H₀:Hp
 env:Env
 outer:List Env
 stack:List Env
 ex:List aaz
 fn:Str->Bool
 calm:Bool
 pn:List (aaz×Obj)
 xe:Value->aaH->Prop
def CU (l:List Env):List aaz:=l.filterMap (·.frame)
abbrev Cx.fs (X:Cx):List aaz:=CU X.outer
def Vis (sc:Scope)(x:Str):Prop:=sc.names.lookup x=some .local\/sc.names.lookup x=some .cell\/sc.names.lookup x=some .free
def Loc (sc:Scope)(x:Str):Prop:=sc.names.lookup x=some .local\/sc.names.lookup x=some .cell
def Look (env:Env)(h:Heap)(m:θ)(x:Str)(u:Value):Prop:=
 (env.kindOf x=some .local/\m x=some u)\/((env.kindOf x=some .cell\/env.kindOf x=some .free)/\∃c,env.cells.lookup x=some c/\h.IsCell c (some u))
structure Cx.Ok (X:Cx):Prop where
 mod:Mod X.K X.mg X.base
 kind:X.env.scope.kind=.function
 glob:X.env.globals=aaN
 blt:X.env.builtins=builtinsNs
 above:X.s₀.heap.objs.size<=X.env.locals
 inj:∀x y c,X.env.cells.lookup x=some c->X.env.cells.lookup y=some c->x=y
 has:∀x,(X.env.kindOf x=some .cell\/X.env.kindOf x=some .free)->∃c,X.env.cells.lookup x=some c
 W7:∀x c,X.fn x=true->X.env.cells.lookup x=some c->X.s₀.heap.objs.size<=c
 hd:X.calm=true->X.A.handled=none
 frames:X.A.frames=some X.stack
 stk:X.stack=X.outer\/(X.stack=X.env::X.outer/\X.env.frame=some X.env.locals)
 exf:∀b∈X.ex,b≠X.env.locals/\∀x c,X.env.cells.lookup x=some c->c≠b
 bs:∀b o,X.base.get? b=some o->X.s₀.heap.get? b=some o/\X.H₀ b=none
 PJ:X.base.objs.size<=X.s₀.heap.objs.size
 Lp:∀b o,X.base.get? b=some o->b∉X.ex
 PK:∀b∈X.ex,b∉X.fs
 pC:X.s₀.heap.FunFrames X.base X.outer
 T6:∀b∈X.fs,X.H₀ b=none
structure Inv (X:Cx)(pins:ε)(σ:List (Option V))(H:Hp)(s:aaH):Prop where
 ok:X.Ok
 os:s.os=X.s₀.os
 bare:ac0 s.gens
 base:Un X.fs X.ex X.H₀ H X.s₀.heap s.heap
 loc:∃m,s.heap.Ns X.env.locals m/\∀(i:Nat)(x:Str)(v:V),X.N[i]?=some x->σ[i]?=some (some v)->Vis X.env.scope x->∃u,RelV v u/\Look X.env s.heap m x u
 cell:∀x c,X.env.cells.lookup x=some c->∃v,s.heap.IsCell c v
 free:H X.env.locals=none
 iI:∀x c,X.env.cells.lookup x=some c->H c=none
 pin:∀p∈X.pn++pins,s.heap.get? p.1=some p.2/\H p.1=none/\p.1≠X.env.locals/\p.1∉X.fs/\∀v,p.2.data≠.cell v
 bH:kA X.prog X.w H s.heap
 len:σ.length=X.N.length
section
variable {X:Cx}{pins:ε}{σ:List (Option V)}{H H':Hp}{s:aaH}{h':Heap}
theorem Cx.Ok.aeh (ok:X.Ok)(e:X.base.get? b=some o):b∉X.fs:=fun hb=>by
 have:=(ok.pC.mem hb).1
 rw [e] at this;cases this
theorem Inv.bs (I:Inv X pins σ H s):∀b o,X.base.get? b=some o->s.heap.get? b=some o/\H b=none:=fun b o e=>
 ⟨I.base.keep b o (I.ok.bs b o e).1 (I.ok.bs b o e).2 (I.ok.aeh e) (I.ok.Lp b o e),I.base.free b o (I.ok.bs b o e).1 (I.ok.bs b o e).2 (I.ok.Lp b o e)⟩
theorem Inv.bk (I:Inv X pins σ H s):∀b o,X.base.get? b=some o->s.heap.get? b=some o:=fun b o e=>(I.bs b o e).1
theorem Inv.mod (I:Inv X pins σ H s):Mod X.K X.mg X.base:=I.ok.mod
theorem Inv.kK (I:Inv X pins σ H s):X.K.In s.heap:=I.ok.mod.Wm.keeps I.bk
theorem Inv.nolimit (I:Inv X pins σ H s):s.heap.NoLimit:=I.ok.mod.nolimit.keeps I.bk
theorem Inv.lt (I:Inv X pins σ H s):X.env.locals<s.heap.objs.size:=let ⟨_,hn,_⟩:=I.loc;hn.lt
theorem Inv.sz (I:Inv X pins σ H s):X.s₀.heap.objs.size<=s.heap.objs.size:=aav I.ok.above (ad' I.lt)
theorem Inv.aei (I:Inv X pins σ H s){a:aaz}(h:s.heap.objs.size<=a):a∉X.fs:=fun hb=>by
 obtain ⟨_,o,ho,_⟩:=I.ok.pC.mem hb
 exact aaM (adB (aaI ho) (aav I.sz h)) (aeg _)
theorem Inv.PM (I:Inv X pins σ H s):∀x c,X.env.cells.lookup x=some c->c≠X.env.locals:=fun x c e z=>by
 obtain ⟨v,o,ho,hd⟩:=I.cell x c e
 obtain ⟨m,⟨o',es,ep,T7,PQ,_⟩,_⟩:=I.loc
 rw [z,T7] at ho;cases ho;rw [PQ] at hd;cases hd
theorem Inv.pC (I:Inv X pins σ H s):s.heap.FunFrames X.base X.outer:=by
 have all:∀(l:List Env),(∀b∈CU l,b∈X.fs)->X.s₀.heap.FunFrames X.base l->s.heap.FunFrames X.base l:=by
  intro l
  induction l with
  | nil=>intro _ _;trivial
  | cons env r ih=>
   intro hs hl
   obtain ⟨hk,⟨L,o,hf,hn,ho,hd⟩,hr⟩:=hl
   have hL:L∈X.fs:=hs L (by unfold CU;rw [afI,hf];exact adk)
   obtain ⟨sl,e⟩:=I.base.slot L o ho (I.ok.T6 L hL) hL fun z=>I.ok.PK L z hL
   exact ⟨hk,⟨L,_,hf,hn,e,hd⟩,ih (fun b hb=>hs b (by unfold CU;rw [afI,hf];exact aaw _ hb)) hr⟩
 exact all X.outer (fun _ hb=>hb) I.ok.pC
theorem Inv.stack (I:Inv X pins σ H s):s.heap.FunFrames X.base X.stack:=by
 rcases I.ok.stk with e|⟨e,hf⟩
 ·rw [e];exact I.pC
 ·rw [e]
  obtain ⟨m,hn,_⟩:=I.loc
  refine .cons (by rw [I.ok.kind];decide) hf hn ?_ I.pC
  exact Heap.get?_none_of_le (aav I.ok.PJ I.ok.above)
theorem Inv.zO (I:Inv X pins σ H s):∀b∈CU X.stack,b∈X.env.locals::X.fs:=fun b hb=>by
 rcases I.ok.stk with e|⟨e,hf⟩
 ·rw [e] at hb;exact aaw _ hb
 ·rw [e] at hb
  unfold CU at hb
  rw [afI,hf] at hb
  exact hb
theorem Inv.CV (I:Inv X pins σ H s):∀b∈CU X.stack,H b=none:=fun b hb=>by
 rcases adD.mp (I.zO b hb) with e|hb
 ·rw [e];exact I.free
 ·obtain ⟨_,o,ho,_⟩:=I.ok.pC.mem hb
  exact I.base.free b o ho (I.ok.T6 b hb) fun z=>I.ok.PK b z hb
theorem Inv.step {ch:υ}(I:Inv X pins σ H s)
  (OC:∀b∈ch,(b∈X.ex\/X.s₀.heap.objs.size<=b)/\b≠X.env.locals/\(∀x c,X.env.cells.lookup x=some c->c≠b)/\∀p∈X.pn++pins,p.1≠b)
  (keep:∀b o,b≠X.env.locals->b∉X.fs->b∉ch->s.heap.get? b=some o->H b=none->h'.get? b=some o)
  (slot:∀b o,b≠X.env.locals->b∈X.fs->b∉ch->s.heap.get? b=some o->H b=none->∃sl,h'.get? b=some {o with slots:=sl}) (free:∀b o,b∉ch->s.heap.get? b=some o->H b=none->H' b=none)
  (there:∀b o,b∉ch->s.heap.get? b=some o->∃o',h'.get? b=some o')
  (uW:∀b xs,H b=some (.tup xs)->H' b=some (.tup xs)) (sQ:∀b o u,H b=some (.fq o u)->H' b=some (.fq o u)) (uX:∀b ps,H b=some (.T4 ps)->∃more,H' b=some (.T4 (ps++more)))
  (ns:∀m,s.heap.Ns X.env.locals m->h'.Ns X.env.locals m) (bH:kA X.prog X.w H' h') (hg:ac0 g'):
  Inv X pins σ H' {s with heap:=h',gens:=g',drawn:=d',toks:=t'}:=by
 have neL:∀b o,X.s₀.heap.get? b=some o->b≠X.env.locals:=fun b o e=>adK (adB (aaI e) I.ok.above)
 have neC:∀b o,X.s₀.heap.get? b=some o->b∉X.ex->b∉ch:=fun b o e hx hb=>by
  rcases (OC b hb).1 with z|z
  ·exact hx z
  ·exact aaM (adB (aaI e) z) (aeg _)
 have cellK:∀x c,X.env.cells.lookup x=some c->∀v,s.heap.IsCell c v->h'.IsCell c v:=fun x c e v ⟨o,ho,hd⟩=>by
  have W8:c∉ch:=fun z=>(OC c z).2.2.1 x c e rfl
  by_cases hc:c∈X.fs
  ·obtain ⟨sl,q⟩:=slot c o (I.PM x c e) hc W8 ho (I.iI x c e)
   exact ⟨_,q,hd⟩
  ·exact ⟨o,keep c o (I.PM x c e) hc W8 ho (I.iI x c e),hd⟩
 refine ⟨I.ok,I.os,hg,⟨fun b o e n hb hx=>?_,fun b o e n hb hx=>?_,fun b o e n hx=>?_,fun b o e hx=>?_,fun b xs e=>uW b xs (I.base.uW b xs e),fun b o xs e=>sQ b o xs (I.base.sQ b o xs e),fun b ps e=>?_⟩,?_,fun x c e=>?_,?_,fun x c e=>?_,fun p hp=>?_,bH,I.len⟩
 ·exact keep b o (neL b o e) hb (neC b o e hx) (I.base.keep b o e n hb hx) (I.base.free b o e n hx)
 ·obtain ⟨sl,e1⟩:=I.base.slot b o e n hb hx
  obtain ⟨sl',e2⟩:=slot b _ (neL b o e) hb (neC b o e hx) e1 (I.base.free b o e n hx)
  exact ⟨sl',e2⟩
 ·obtain ⟨o',e1⟩:=I.base.there b o e hx
  exact free b o' (neC b o e hx) e1 (I.base.free b o e n hx)
 ·obtain ⟨o',e1⟩:=I.base.there b o e hx
  exact there b o' (neC b o e hx) e1
 ·obtain ⟨m1,e1⟩:=I.base.uX b ps e
  obtain ⟨m2,e2⟩:=uX b _ e1
  exact ⟨m1++m2,by rw [e2,Array.append_assoc]⟩
 ·obtain ⟨m,hn,hl⟩:=I.loc
  refine ⟨m,ns m hn,fun i x v e1 e2 e3=>?_⟩
  obtain ⟨u,r,l⟩:=hl i x v e1 e2 e3
  refine ⟨u,r,?_⟩
  rcases l with l|⟨k,c,e,z⟩
  ·exact .inl l
  ·exact .inr ⟨k,c,e,cellK x c e _ z⟩
 ·obtain ⟨v,z⟩:=I.cell x c e
  exact ⟨v,cellK x c e v z⟩
 ·obtain ⟨m,⟨o,_,_,ho,_⟩,_⟩:=I.loc
  exact free _ o (fun z=>(OC _ z).2.1 rfl) ho I.free
 ·obtain ⟨v,o,ho,hd⟩:=I.cell x c e
  exact free c o (fun z=>(OC c z).2.2.1 x c e rfl) ho (I.iI x c e)
 ·obtain ⟨e,n,ne,nf,d⟩:=I.pin p hp
  have W8:p.1∉ch:=fun z=>(OC p.1 z).2.2.2 p hp rfl
  exact ⟨keep p.1 p.2 ne nf W8 e n,free p.1 p.2 W8 e n,ne,nf,d⟩
theorem Inv.un (I:Inv X pins σ H s)(u:Un X.fs [] H H' s.heap h')(bH:kA X.prog X.w H' h'):Inv X pins σ H' {s with heap:=h',toks:=t'}:=by
 obtain ⟨m,⟨o,es,ep,ho,r⟩,_⟩:=id I.loc
 obtain ⟨sl,hL⟩:=u.any ho I.free (by simp)
 exact I.step (g':=s.gens) (d':=s.drawn) (ch:=[]) (fun _ z=>nomatch z) (fun b o _ hb _ e n=>u.keep b o e n hb (by simp)) (fun b o _ hb _ e n=>u.slot b o e n hb (by simp)) (fun b o _ e n=>u.free b o e n (by simp)) (fun b o _ e=>u.there b o e (by simp)) u.uW u.sQ u.uX (fun m' hm=>by
  obtain ⟨o',W9,CW,T7,r'⟩:=hm
  rw [ho] at T7;cases T7
  exact ⟨_,W9,CW,hL,r'⟩) bH I.bare
theorem Inv.call (I:Inv X pins σ H s)(u:Un (CU X.stack) ch H H' s.heap h')(bH:kA X.prog X.w H' h')(hg:ac0 g')
  (OC:∀b∈ch,(b∈X.ex\/X.s₀.heap.objs.size<=b)/\b≠X.env.locals/\(∀x c,X.env.cells.lookup x=some c->c≠b)/\∀p∈X.pn++pins,p.1≠b):
  Inv X pins σ H' {s with heap:=h',gens:=g',drawn:=d',toks:=t'}:=by
 obtain ⟨m,⟨o,es,ep,ho,r⟩,_⟩:=id I.loc
 obtain ⟨sl,hL⟩:=u.any ho I.free fun z=>(OC _ z).2.1 rfl
 exact I.step (ch:=ch) OC (fun b o hL hb hc e n=>u.keep b o e n (fun z=>(adD.mp (I.zO b z)).elim hL hb) hc) (fun b o _ _ hc e n=>u.any e n hc) (fun b o hc e n=>u.free b o e n hc) (fun b o hc e=>u.there b o e hc) u.uW u.sQ u.uX (fun m' hm=>by
  obtain ⟨o',W9,CW,T7,r'⟩:=hm
  rw [ho] at T7;cases T7
  exact ⟨_,W9,CW,hL,r'⟩) bH hg
theorem Inv.turned (I:Inv X pins σ H s)(k:∀b o,b≠it->s.heap.get? b=some o->h'.get? b=some o)(hn:H it=none)(hL:it≠X.env.locals)
  (h1:it∈X.ex\/X.s₀.heap.objs.size<=it) (h2:∀x c,X.env.cells.lookup x=some c->c≠it) (h3:∀p∈X.pn++pins,p.1≠it):Inv X pins σ H {s with heap:=h',toks:=t'}:=by
 have SE:∀b u,H b=some u->b≠it:=fun b u e z=>by rw [z,hn] at e;cases e
 refine I.step (g':=s.gens) (d':=s.drawn) (ch:=[it]) (fun b hb=>?_) (fun b o _ _ hc e _=>k b o (fun z=>hc (by simp [z])) e) (fun b o _ _ hc e _=>⟨o.slots,k b o (fun z=>hc (by simp [z])) e⟩) (fun _ _ _ _ n=>n)
  (fun b o hc e=>⟨o,k b o (fun z=>hc (by simp [z])) e⟩) (fun _ _ e=>e) (fun _ _ _ e=>e) (fun b ps e=>⟨#[],by rw [e];simp⟩) (fun m hm=>?_) (fun b u e=>?_) I.bare
 ·have e:b=it:=by simpa using hb
  subst e
  exact ⟨h1,hL,h2,h3⟩
 ·obtain ⟨o,es,ep,ho,r⟩:=hm
  exact ⟨o,es,ep,k _ o (adO hL) ho,r⟩
 ·refine (I.bH b u e).uV (fun c v hc q=>k c v ?_ q) (fun _ q=>q) fun _ _ q=>q
  rcases hc with z|z
  ·rw [z];exact SE b u e
  ·exact SE c _ z
theorem Inv.tok (I:Inv X pins σ H s)(t:Nat):Inv X pins σ H {s with toks:=t}:=I.un (h':=s.heap) (t':=t) Un.refl I.bH
theorem Inv.kept (I:Inv X pins σ H s)(k:∀b u,s.heap.get? b=some u->h'.get? b=some u):Inv X pins σ H {s with heap:=h',toks:=t'}:=I.un (Un.kept k) (I.bH.kept k)
theorem Inv.laid {a:aaz}(I:Inv X pins σ H s)(k:∀b u,s.heap.get? b=some u->h'.get? b=some u)(hp:s.heap.objs.size<=a)(new:cT X.prog X.w (upd H a o) h' a o):
  Inv X pins σ (upd H a o) {s with heap:=h',toks:=t'}:=I.un (Un.laid k hp (I.bH.fresh hp)) (I.bH.laid k hp new)
theorem Inv.write (I:Inv X pins σ H s)(mu:W0 (H x))(he:e=x\/H e=some (.own x))(k:∀b u,b≠e->s.heap.get? b=some u->h'.get? b=some u)(Wk:∃u,h'.get? e=some u)
  (new:cT X.prog X.w (upd H x o) h' x o):Inv X pins σ (upd H x o) {s with heap:=h',toks:=t'}:=I.un (Un.write mu he k Wk) (I.bH.write mu he k Wk new)
theorem Inv.CY (I:Inv X pins σ H s)(h:∀p∈SF,s.heap.get? p.1=some p.2/\H p.1=none/\p.1≠X.env.locals/\p.1∉X.fs/\∀v,p.2.data≠.cell v):Inv X SF σ H s:=
 ⟨I.ok,I.os,I.bare,I.base,I.loc,I.cell,I.free,I.iI,fun p hp=>(ado.mp hp).elim (fun z=>I.pin p (adL _ z)) (h p),I.bH,I.len⟩
theorem d_ {N:ς}(hN:N.Nodup){i j:Nat}(a:N[i]?=some x)(b:N[j]?=some x):i=j:=by
 obtain ⟨h1,e1⟩:=ir.mp a
 obtain ⟨h2,e2⟩:=ir.mp b
 exact (amG hN).mp (e1.trans e2.symm)
theorem uf {E:δ}(I:Inv X pins σ H s)(hN:X.N.Nodup)(hi:X.N[i]?=some x)(hx:Loc X.env.scope x)(r:RelV v u)
  (h:∀s',Inv X pins (σ.set i (some v)) H s' ->(∃a,abl a s.heap s'.heap/\(a=X.env.locals\/X.env.cells.lookup x=some a))->Q () s') (hf:X.fn x=true\/X.env.scope.names.lookup x=some .local:=by first|exact .inl rfl|exact .inr rfl|assumption):aaE M A (storeName X.env x u) Q E s:=by
 obtain ⟨m,hn,hl⟩:=id I.loc
 have aej:(X.env.scope.kind==.class || (X.env.scope.kind==.module && X.env.locals !=X.env.globals))=false:=by rw [I.ok.kind];rfl
 have hiσ:i < σ.length:=by rw [I.len];exact (ir.mp hi).1
 have PM:=I.PM
 have tracked:∀{a:aaz} {h':Heap},(∃o,s.heap.get? a=some o/\H a=none)->abl a s.heap h' ->kA X.prog X.w H h':=fun {a h'} ha hs b ob e=>by
  obtain ⟨_,_,SG⟩:=ha
  refine (I.bH b ob e).uV (fun c w' hc q=>(hs.2 c ?_).trans q) (fun _ q=>q) fun _ _ q=>q
  rintro rfl
  rcases hc with rfl|hc
  ·rw [SG] at e;cases e
  ·rw [SG] at hc;cases hc
 rcases hx with hk|hk
 ·refine wpAny_storeName_local hk hn (fun h' hn' hs=>?_) aej
  obtain ⟨oL,_,_,hoL,_⟩:=id hn
  refine h _ ⟨I.ok,I.os,I.bare,⟨fun b o e n hb hx=>?_,fun b o e n hb hx=>?_,I.base.free,fun b o e hx=>?_,I.base.uW,I.base.sQ,I.base.uX⟩,⟨_,hn',fun j y v' e1 e2 e3=>?_⟩,fun y c e=>?_,I.free,I.iI,fun p hp=>?_,tracked ⟨oL,hoL,I.free⟩ hs,by simpa using I.len⟩ ⟨_,hs,.inl rfl⟩
  ·exact (hs.2 b (adK (adB (aaI e) I.ok.above))).trans (I.base.keep b o e n hb hx)
  ·obtain ⟨sl,e1⟩:=I.base.slot b o e n hb hx
   exact ⟨sl,(hs.2 b (adK (adB (aaI e) I.ok.above))).trans e1⟩
  ·obtain ⟨o',e1⟩:=I.base.there b o e hx
   exact ⟨o',(hs.2 b (adK (adB (aaI e) I.ok.above))).trans e1⟩
  ·by_cases hj:j=i
   ·subst hj
    rw [hi] at e1;cases e1
    rw [agI hiσ] at e2
    cases e2
    exact ⟨u,r,.inl ⟨hk,by simp⟩⟩
   ·rw [aj_ (adO hj)] at e2
    obtain ⟨u',r',q⟩:=hl j y v' e1 e2 e3
    refine ⟨u',r',?_⟩
    rcases q with ⟨k,e⟩|⟨k,c,e,z⟩
    ·refine .inl ⟨k,?_⟩
     have:y≠x:=fun e=>hj (d_ hN e1 (e▸hi))
     simp [this,e]
    ·exact .inr ⟨k,c,e,z.sameBut hs (PM y c e)⟩
  ·obtain ⟨w',z⟩:=I.cell y c e
   exact ⟨w',z.sameBut hs (PM y c e)⟩
  ·obtain ⟨e,n,ne,nf,d⟩:=I.pin p hp
   exact ⟨(hs.2 p.1 ne).trans e,n,ne,nf,d⟩
 ·have hfn:X.fn x=true:=by
   rcases hf with z|z
   ·exact z
   ·rw [z] at hk;cases hk
  obtain ⟨c,hc⟩:=I.ok.has x (.inl hk)
  obtain ⟨w',z⟩:=I.cell x c hc
  refine wpAny_storeName_cell I.ok.kind hk hc z (fun h' pE hs=>?_)
  obtain ⟨oc,hoc,aem⟩:=id z
  refine h {s with heap:=h'} ⟨I.ok,I.os,I.bare,⟨fun b o e n hb hx=>?_,fun b o e n hb hx=>?_,I.base.free,fun b o e hx=>?_,I.base.uW,I.base.sQ,I.base.uX⟩,⟨m,hn.sameBut hs (adO (PM x c hc)),fun j y v' e1 e2 e3=>?_⟩,fun y c' e=>?_,I.free,I.iI,fun p hp=>?_,tracked ⟨oc,hoc,I.iI x c hc⟩ hs,by simpa using I.len⟩ ⟨c,hs,.inr hc⟩
  ·exact (hs.2 b (adK (adB (aaI e) (I.ok.W7 x c hfn hc)))).trans (I.base.keep b o e n hb hx)
  ·obtain ⟨sl,e1⟩:=I.base.slot b o e n hb hx
   exact ⟨sl,(hs.2 b (adK (adB (aaI e) (I.ok.W7 x c hfn hc)))).trans e1⟩
  ·obtain ⟨o',e1⟩:=I.base.there b o e hx
   exact ⟨o',(hs.2 b (adK (adB (aaI e) (I.ok.W7 x c hfn hc)))).trans e1⟩
  ·by_cases hj:j=i
   ·subst hj
    rw [hi] at e1;cases e1
    rw [agI hiσ] at e2
    cases e2
    exact ⟨u,r,.inr ⟨.inl hk,c,hc,pE⟩⟩
   ·rw [aj_ (adO hj)] at e2
    obtain ⟨u',r',q⟩:=hl j y v' e1 e2 e3
    refine ⟨u',r',?_⟩
    rcases q with q|⟨k,c',e,z'⟩
    ·exact .inl q
    ·refine .inr ⟨k,c',e,z'.sameBut hs ?_⟩
     rintro rfl
     exact hj (d_ hN e1 (I.ok.inj _ _ _ e hc▸hi))
  ·by_cases hcc:c'=c
   ·subst hcc;exact ⟨_,pE⟩
   ·obtain ⟨w2,z2⟩:=I.cell y c' e
    exact ⟨w2,z2.sameBut hs hcc⟩
  ·obtain ⟨e,n,ne,nf,d⟩:=I.pin p hp
   refine ⟨(hs.2 p.1 ?_).trans e,n,ne,nf,d⟩
   intro q
   rw [q,hoc] at e
   have q':oc=p.2:=ady e
   exact d w' (by rw [<-q'];exact aem)
theorem lZ {E:δ}(I:Inv X pins σ H s)(hN:X.N.Nodup)(hi:X.N[i]?=some x)(hx:Loc X.env.scope x)(r:RelV v u)
  (h:∀s',Inv X pins (σ.set i (some v)) H s' ->Q () s') (hf:X.fn x=true\/X.env.scope.names.lookup x=some .local:=by first|exact .inl rfl|exact .inr rfl|assumption):aaE M A (storeName X.env x u) Q E s:=
 uf I hN hi hx r (fun s' I' _=>h s' I') hf
theorem Inv.W_ (I:Inv X pins σ H s)(ho:s'.os=s.os)(u:Un (CU X.stack) ch H H' s.heap s'.heap)(bH:kA X.prog X.w H' s'.heap)(hg:ac0 s'.gens)
  (OC:∀b∈ch,(b∈X.ex\/X.s₀.heap.objs.size<=b)/\b≠X.env.locals/\(∀x c,X.env.cells.lookup x=some c->c≠b)/\∀p∈X.pn++pins,p.1≠b):Inv X pins σ H' s':=by
 obtain ⟨h',g',d',t',o'⟩:=s'
 have e:o'=s.os:=ho
 subst e
 exact I.call (g':=g') (t':=t') (d':=d') u bH hg OC
end
abbrev XK:=Value->Option aaz->Hp->Prop
abbrev St:=List (Option V)
abbrev VK:=V->Hp->Prop
abbrev _root_.Ψ:=V->List V->Hp->VK->Prop
abbrev TE:=St->Hp->VK->Prop
abbrev TT:=St->Hp->(Bool->Hp->Prop)->Prop
abbrev TA:=St->Hp->(List V->Hp->Prop)->Prop
structure Ends where
 nx:St->Hp->Prop
 rt:VK
 bk:St->Hp->Prop:=fun _ _=>False
 ct:St->Hp->Prop:=fun _ _=>False
abbrev TS:=Ends->St->Hp->Prop
def EP (X:Cx)(pins:ε)(σ:St)(Q:VK)(u:Value)(s':aaH):Prop:=∃v H',Inv X pins σ H' s'/\RelV v u/\Q v H'
def TP (X:Cx)(pins:ε)(σ:St)(Q:Bool->Hp->Prop)(b:Bool)(s':aaH):Prop:=∃H',Inv X pins σ H' s'/\Q b H'
def AP (X:Cx)(pins:ε)(σ:St)(Q:List V->Hp->Prop)(us:ρ)(s':aaH):Prop:=∃vs H',Inv X pins σ H' s'/\Vals vs us/\Q vs H'
def SP (X:Cx)(pins:ε)(D:Ends)(f:Flow)(s':aaH):Prop:=
 match f with
 | .next=>∃σ' H',Inv X pins σ' H' s'/\D.nx σ' H'
 | .brk=>∃σ' H',Inv X pins σ' H' s'/\D.bk σ' H'
 | .cont=>∃σ' H',Inv X pins σ' H' s'/\D.ct σ' H'
 | .ret u=>∃v σ' H',Inv X pins σ' H' s'/\RelV v u/\D.rt v H'
def PE (X:Cx)(e:Expr)(t:TE):Prop:=
 ∀(pins:ε)(s:aaH)(σ:St)(H:Hp)(Q:VK),Inv X pins σ H s->t σ H Q->aaE (aaJ X.prog X.w) X.A (aaV e X.env) (EP X pins σ Q) X.xe s
def PT (X:Cx)(e:Expr)(t:TT):Prop:=
 ∀(pins:ε)(s:aaH)(σ:St)(H:Hp)(Q:Bool->Hp->Prop),Inv X pins σ H s->t σ H Q->aaE (aaJ X.prog X.w) X.A (isTrue e X.env (aaV e X.env)) (TP X pins σ Q) X.xe s
def PW (X:Cx)(e:Expr)(t:TT):Prop:=
 ∀(whole:Sem Value)(pins:ε)(s:aaH)(σ:St)(H:Hp)(Q:Bool->Hp->Prop),Inv X pins σ H s->t σ H Q->aaE (aaJ X.prog X.w) X.A (isTrue e X.env whole) (TP X pins σ Q) X.xe s
theorem PW.pt (h:PW X e t):PT X e t:=h _
def PA (X:Cx)(es:Ε)(t:TA):Prop:=
 ∀(pos:Pos)(pins:ε)(s:aaH)(σ:St)(H:Hp)(Q:List V->Hp->Prop),Inv X pins σ H s->t σ H Q->aaE (aaJ X.prog X.w) X.A (spliced (abj pos (aaO es X.env))) (AP X pins σ Q) X.xe s
def PS (X:Cx)(st:Stmt)(t:TS):Prop:=
 ∀(pins:ε)(s:aaH)(σ:St)(H:Hp)(D:Ends),Inv X pins σ H s->t D σ H->aaE (aaJ X.prog X.w) X.A (exec st X.env) (SP X pins D) X.xe s
def PSs (X:Cx)(st:List Stmt)(t:TS):Prop:=
 ∀(pins:ε)(s:aaH)(σ:St)(H:Hp)(D:Ends),Inv X pins σ H s->t D σ H->aaE (aaJ X.prog X.w) X.A (execs st X.env) (SP X pins D) X.xe s
theorem cI {Q Q':α->aaH->Prop}{E:δ}(h:aaE M A t Q E s)(hQ:∀a s,Q a s->Q' a s):aaE M A t Q' E s:=aa3 h hQ fun _ _ x=>x
end L2
namespace L2
open PySem PySem.Spec PyProof.Rows
section
variable {X:Cx}
inductive PV (i:Nat)(σ:St)(H:Hp)(Q:VK):Prop
|mk (v:_)(_:σ[i]?=some (some v))(_:Q v H)
def tC (v:V):TE:=fun _ H Q=>Q v H
theorem T8 {pos:Pos}(hN:X.N[i]?=some x)(hv:Vis X.env.scope x)(hd:(x==("__debug__":Str))=false:=by decide)(sR:(x==("__classdict__":Str))=false:=by decide):PE X (.Name x pos) (PV i):=by
 intro pins s σ H Q I h
 obtain ⟨v,e,h⟩:=h
 obtain ⟨m,hn,hl⟩:=I.loc
 obtain ⟨u,r,l⟩:=hl i x v hN e hv
 have fin:EP X pins σ Q u s:=⟨v,H,I,r,h⟩
 rcases l with ⟨hk,hm⟩|⟨hk,c,hc,hcell⟩
 ·exact wpAny_Name (wpAny_loadName_local I.ok.kind hk hn hm fin) hd
 ·rcases hk with hk|hk
  ·exact wpAny_Name (wpAny_loadName_cell I.ok.kind hk hc hcell fin) hd
  ·exact wpAny_Name (wpAny_loadName_free I.ok.kind hk hc hcell fin sR) hd
theorem af :PE X (.Constant (.int i) j pos) (tC (.int i)):=fun _ _ _ H _ I h=>wpAny_Constant_int ⟨.int i,H,I.tok _,⟨_,rfl⟩,h⟩
theorem gL :PE X (.Constant (.bool b) j pos) (tC (.bl b)):=fun _ _ _ H _ I h=>Constant_bool ⟨.bl b,H,I,rfl,h⟩
theorem qv :PE X (.Constant .none j pos) (tC .cS):=fun _ _ _ H _ I h=>Constant_none ⟨.cS,H,I,rfl,h⟩
theorem gi :PE X (.Constant (.str x) j pos) (tC (.str x)):=fun _ _ _ H _ I h=>Calls.Constant_str ⟨.str x,H,I.tok _,⟨_,rfl⟩,h⟩
def Gl (X:Cx)(x:Str):Prop:=X.env.kindOf x=some .globalImplicit
theorem l_ {E:δ}{σ:St}{Q:δ}(I:Inv X pins σ H s)(hg:Gl X x)(hm:X.mg x=some u)(h:Q u s)
  (hd:(x==("__debug__":Str))=false:=by decide):aaE (aaJ X.prog X.w) X.A (aaV (.Name x pos) X.env) Q E s:=
 Calls.Name_function_global I.ok.kind hg (Calls.loadGlobal_global (by rw [I.ok.glob];exact I.mod.glob.keeps I.bk) hm h) hd
theorem i5 {E:δ}{σ:St}{pos:Pos}{Q:δ}(I:Inv X pins σ H s)(hg:Gl X x)(hm:X.mg x=none)(hv:aaY x=some u)(h:Q u s)
  (hn:x≠ "__name__":=by decide) (hd:(x==("__debug__":Str))=false:=by decide):aaE (aaJ X.prog X.w) X.A (aaV (.Name x pos) X.env) Q E s:=by
 obtain ⟨mb,h1,h2⟩:=I.mod.blt
 exact Calls.Name_function_global I.ok.kind hg (Calls.loadGlobal_builtin (by rw [I.ok.glob];exact I.mod.glob.keeps I.bk) hm (by rw [I.ok.blt];exact h1.keeps I.bk) ((h2 x hn).trans hv) h) hd
theorem dP (hg:Gl X x)(hm:X.mg x=some u)(r:RelV v u)(hd:(x==("__debug__":Str))=false:=by decide):PE X (.Name x pos) (tC v):=
 fun _ _ _ H _ I h=>l_ I hg hm ⟨v,H,I,r,h⟩ hd
theorem PX {pos:Pos}(hg:Gl X x)(hm:X.mg x=none)(hv:aaY x=some u)(r:RelV v u)(hn:x≠ "__name__":=by decide)(hd:(x==("__debug__":Str))=false:=by decide):PE X (.Name x pos) (tC v):=
 fun _ _ _ H _ I h=>i5 I hg hm hv ⟨v,H,I,r,h⟩ hn hd
variable {a b:Expr}{ta tb:TE}{pos:Pos}
def PC (X:Cx)(op:CmpOp)(a b:Expr)(t:TE):Prop:=
 ∀(pins:ε)(s:aaH)(σ:St)(H:Hp)(Q:VK),Inv X pins σ H s->t σ H Q->
  aaE (aaJ X.prog X.w) X.A (aaV a X.env) (fun v s₁=>aaE (aaJ X.prog X.w) X.A (aaV b X.env) (fun u s₂=>aaE (aaJ X.prog X.w) X.A (aba op v u) (EP X pins σ Q) X.xe s₂) X.xe s₁) X.xe s
inductive tB_ (Q:(Bool->Hp->Prop))(x:V)(H1:Hp):Prop
|mk (c:_)(_:x=.bl c)(_:Q c H1)
def tB (t:TE):TT:=fun σ H Q=>t σ H fun x H1=>tB_ Q x H1
theorem uZ (h:PC X op a b t)(h1:acw op b=false:=by first|exact nobehind _ (by decide) (by decide)|rfl):PT X (.Compare a [op] [b] pos) (tB t):=by
 intro pins s σ H Q I hw
 refine wpAny_isTrue_Compare1 (cI (h pins s σ H _ I hw) fun v s1 h1=>cI h1 fun u s2 h2=>cI h2 fun c s3 ⟨x,H1,I1,r1,q1⟩=>?_) h1
 obtain ⟨d,rfl,q⟩:=q1
 cases r1
 exact abD ⟨H1,I1,q⟩
theorem dJ (h:PE X e t)(he:∀whole,isTrue e X.env whole=(do let v <- whole;standAt e.pos;holding [v] (truthy v)):=by intro _;rfl):PT X e (tB t):=by
 intro pins s σ H Q I hw
 refine isTrue_plain (cI (h pins s σ H _ I hw) fun v s1 ⟨x,H1,I1,r1,q1⟩=>?_) (he _)
 obtain ⟨d,rfl,q⟩:=q1
 cases r1
 exact abD ⟨H1,I1,q⟩
variable {tA tB':TT}{rest:Ε}
def aen (t u:TT):TT:=fun σ H Q=>t σ H fun c H1=>if c=true then u σ H1 Q else Q false H1
def tOr (t u:TT):TT:=fun σ H Q=>t σ H fun c H1=>if c=true then Q true H1 else u σ H1 Q
def aeo (t:TT):TT:=fun σ H Q=>t σ H fun c H1=>Q (!c) H1
theorem u0 (ha:PT X a tA):PW X (.BoolOp .And [a] pos) tA:=by
 intro wh pins s σ H Q I h
 refine isTrue_and (cI (ha pins s σ H Q I h) fun c s1 e=>?_)
 cases c with
 | true=>exact isTrue_and_nil e
 | false=>exact e
theorem iz (ha:PT X a tA):PW X (.BoolOp .Or [a] pos) tA:=by
 intro wh pins s σ H Q I h
 refine isTrue_or (cI (ha pins s σ H Q I h) fun c s1 e=>?_)
 cases c with
 | false=>exact isTrue_or_nil e
 | true=>exact e
theorem zP (ha:PT X a tA)(hb:PW X (.BoolOp .And (b::rest) pos) tB'):PW X (.BoolOp .And (a::b::rest) pos) (aen tA tB'):=by
 intro wh pins s σ H Q I h
 refine isTrue_and (cI (ha pins s σ H _ I h) fun c s1 ⟨H1,I1,q1⟩=>?_)
 cases c with
 | true=>exact hb wh pins s1 σ H1 Q I1 q1
 | false=>exact ⟨H1,I1,q1⟩
theorem jx (ha:PT X a tA)(hb:PW X (.BoolOp .Or (b::rest) pos) tB'):PW X (.BoolOp .Or (a::b::rest) pos) (tOr tA tB'):=by
 intro wh pins s σ H Q I h
 refine isTrue_or (cI (ha pins s σ H _ I h) fun c s1 ⟨H1,I1,q1⟩=>?_)
 cases c with
 | true=>exact ⟨H1,I1,q1⟩
 | false=>exact hb wh pins s1 σ H1 Q I1 q1
theorem eO (ha:PT X a tA):PT X (.UnaryOp .Not a pos) (aeo tA):=by
 intro pins s σ H Q I h
 exact isTrue_not (ha pins s σ H (fun c H1=>Q (!c) H1) I h)
def Xa (ta tb:TE):TE:=fun σ H Q=>ta σ H fun x H1=>∃c,x=.bl c/\if c=true then tb σ H1 Q else Q (.bl false) H1
theorem Lq (h:PE X a t):PE X (.BoolOp op [a] pos) t:=fun pins s σ H Q I hw=>BoolOp_one (h pins s σ H Q I hw)
theorem Lr (ha:PE X a ta)(hb:PE X (.BoolOp .And (b::rest) pos) tb):PE X (.BoolOp .And (a::b::rest) pos) (Xa ta tb):=by
 intro pins s σ H Q I h
 refine BoolOp_and (cI (ha pins s σ H _ I h) fun v s1 ⟨x,H1,I1,r1,q1⟩=>?_)
 obtain ⟨c,rfl,q1⟩:=q1
 cases r1
 refine abD ?_
 cases c with
 | true=>exact hb pins s1 σ H1 Q I1 q1
 | false=>exact ⟨.bl false,H1,I1,rfl,q1⟩
def tIf (t:TT)(ta tb:TE):TE:=fun σ H Q=>t σ H fun c H1=>if c=true then ta σ H1 Q else tb σ H1 Q
theorem xv (hc:PT X c tA)(ha:PE X a ta)(hb:PE X b tb):PE X (.IfExp c a b pos) (tIf tA ta tb):=by
 intro pins s σ H Q I h
 refine wpAny_IfExp (cI (hc pins s σ H _ I h) fun d s1 ⟨H1,I1,q1⟩=>?_)
 cases d with
 | true=>exact ha pins s1 σ H1 Q I1 q1
 | false=>exact hb pins s1 σ H1 Q I1 q1
end
end L2
namespace L2
open PySem PySem.Spec PyProof.Rows
def aR (K:Frag)(H:Hp)(a:aaz)(xs:η):Prop:=
 Rd H a (.lst xs)\/
  ∃(o:Obj)(its:Ν)(n:Nat),K.lookup a=some o/\o.cls=.type "list"/\o.dict=none/\o.data=.seq its n/\its.size<=aaD/\Vals xs its.toList
def bM (K:Frag)(H:Hp)(a:aaz)(xs:η):Prop:=
 Rd H a (.tup xs)\/
  ∃(o:Obj)(its:Ν)(n:Nat),K.lookup a=some o/\o.cls=.type "tuple"/\o.data=.seq its n/\its.size<=aaD/\Vals xs its.toList
def aep:Value->Option V
 | .none=>some .cS
 | .bool b=>some (.bl b)
 | .int i _=>some (.int i)
 | .str x _=>some (.str x)
 | .bytes b _=>some (.byt b)
 | .float b _=>some (.T3 b)
 | .ref a=>some (.ref a)
 | .type n=>some (.ty n)
 | _=>none
theorem RelV.abs (r:RelV x u):aep u=some x:=by
 cases x with
 | cS=>cases r;rfl
 | bl _=>cases r;rfl
 | int _=>obtain ⟨t,rfl⟩:=r;rfl
 | str _=>obtain ⟨t,rfl⟩:=r;rfl
 | byt _=>obtain ⟨t,rfl⟩:=r;rfl
 | T3 _=>obtain ⟨t,rfl⟩:=r;rfl
 | ref _=>cases r;rfl
 | ty _=>cases r;rfl
theorem RelV.inj (r:RelV x u)(q:RelV y u):x=y:=ady (r.abs.symm.trans q.abs)
theorem Vals.inj:∀{xs ys:η} {us:ρ},Vals xs us->Vals ys us->xs=ys
 | _,_,_,.nil,.nil=>rfl
 | _,_,_,.cons r t,.cons r' t'=>by rw [r.inj r',Vals.inj t t']
section
variable {X:Cx}{pins:ε}{σ:St}{H:Hp}{s:aaH}{a:aaz}{xs ys:η}
theorem aR.of {K:Frag}(h:H a=some (.lst xs)):aR K H a xs:=.inl (.inl h)
theorem bM.of {K:Frag}(h:H a=some (.tup xs)):bM K H a xs:=.inl (.inl h)
theorem Inv.list (I:Inv X pins σ H s)(h:aR X.K H a xs):∃its:List Value,Vals xs its/\PlainL s.heap a its.toArray/\xs.length<=aaD:=by
 rcases h with h|⟨o,its,n,hk,hc,hd,hs,hz,r⟩
 ·obtain ⟨z,its,n,r,e⟩:=h.ok I.bH
  exact ⟨its,r,⟨_,n,e,rfl,rfl,rfl⟩,z⟩
 ·refine ⟨its.toList,r,⟨o,n,I.kK a o hk,hc,hd,by simpa using hs⟩,?_⟩
  have e:=r.length
  simp only [aml] at e
  omega
theorem Inv.tuple (I:Inv X pins σ H s)(h:bM X.K H a xs):∃its:List Value,Vals xs its/\IsTup s.heap a its.toArray/\xs.length<=aaD:=by
 rcases h with h|⟨o,its,n,hk,hc,hs,hz,r⟩
 ·obtain ⟨z,its,r,p⟩:=h.ok I.bH
  exact ⟨its,r,p,z⟩
 ·refine ⟨its.toList,r,⟨o,I.kK a o hk,hc,n,by simpa using hs⟩,?_⟩
  have e:=r.length
  simp only [aml] at e
  omega
theorem Inv.iJ (I:Inv X pins σ H s)(h:aR X.K H a xs)(h':aR X.K H a ys):xs=ys:=by
 obtain ⟨its,r,⟨o,n,e,_,_,d⟩,_⟩:=I.list h
 obtain ⟨its',r',⟨o',n',e',_,_,d'⟩,_⟩:=I.list h'
 rw [e] at e';cases e'
 rw [d] at d'
 injection d' with d1 _
 have:its=its':=by simpa using aaQ anl d1
 subst this
 exact r.inj r'
theorem Inv.iK (I:Inv X pins σ H s)(h:bM X.K H a xs)(h':bM X.K H a ys):xs=ys:=by
 obtain ⟨its,r,⟨o,e,_,n,d⟩,_⟩:=I.tuple h
 obtain ⟨its',r',⟨o',e',_,n',d'⟩,_⟩:=I.tuple h'
 rw [e] at e';cases e'
 rw [d] at d'
 injection d' with d1 _
 have:its=its':=by simpa using aaQ anl d1
 subst this
 exact r.inj r'
end
abbrev Cx.sV (X:Cx)(E:δ):Cx:={X with xe:=E}
abbrev Cx.xl (X:Cx):Cx:=X.sV fun _ _=>False
theorem Cx.Ok.sV {X:Cx}(ok:X.Ok)(E:δ):(X.sV E).Ok:=
 ⟨ok.mod,ok.kind,ok.glob,ok.blt,ok.above,ok.inj,ok.has,ok.W7,ok.hd,ok.frames,ok.stk,ok.exf,ok.bs,ok.PJ,ok.Lp,ok.PK,ok.pC,ok.T6⟩
theorem Cx.Ok.jy {X:Cx}(ok:(X.sV E).Ok):X.Ok:=
 ⟨ok.mod,ok.kind,ok.glob,ok.blt,ok.above,ok.inj,ok.has,ok.W7,ok.hd,ok.frames,ok.stk,ok.exf,ok.bs,ok.PJ,ok.Lp,ok.PK,ok.pC,ok.T6⟩
section
variable {X:Cx}{pins:ε}{σ:St}{H:Hp}{s:aaH}{E:δ}
theorem Inv.sV (I:Inv X pins σ H s)(E:δ):Inv (X.sV E) pins σ H s:=⟨I.ok.sV E,I.os,I.bare,I.base,I.loc,I.cell,I.free,I.iI,I.pin,I.bH,I.len⟩
theorem Inv.jy (I:Inv (X.sV E) pins σ H s):Inv X pins σ H s:=⟨I.ok.jy,I.os,I.bare,I.base,I.loc,I.cell,I.free,I.iI,I.pin,I.bH,I.len⟩
theorem SP.jy (h:SP (X.sV E) pins D f s'):SP X pins D f s':=by
 cases f with
 | next=>obtain ⟨σ',H',I,q⟩:=h;exact ⟨σ',H',I.jy,q⟩
 | brk=>obtain ⟨σ',H',I,q⟩:=h;exact ⟨σ',H',I.jy,q⟩
 | cont=>obtain ⟨σ',H',I,q⟩:=h;exact ⟨σ',H',I.jy,q⟩
 | ret u=>obtain ⟨v,σ',H',I,r,q⟩:=h;exact ⟨v,σ',H',I.jy,r,q⟩
theorem PSs.xl {st:List Stmt}(h:PSs X.xl st t):PSs X st t:=fun pins s σ H D I hw=>
 aa3 (h pins s σ H D (I.sV _) hw) (fun _ _ q=>q.jy) fun _ _ z=>False.elim z
end
section
variable {X:Cx}{st:Stmt}{rest:List Stmt}{t u:TS}{e:Expr}{te:TE}{pos:Pos}
def Xb:TS:=fun D σ H=>D.nx σ H
def Xc (t u:TS):TS:=fun D σ H=>t {D with nx:=u D} σ H
theorem aL:PSs X [] Xb:=fun _ _ σ H _ I h=>ahf ⟨σ,H,I,h⟩
theorem aa (h1:PS X st t)(h2:PSs X rest u):PSs X (st::rest) (Xc t u):=by
 intro pins s σ H D I h
 refine wpAny_execs_cons (cI (h1 pins s σ H {D with nx:=u D} I h) fun f s1 q=>?_)
 cases f with
 | next=>
  obtain ⟨σ',H',I',q⟩:=q
  exact h2 pins s1 σ' H' D I' q
 | ret v=>exact q
 | brk=>exact q
 | cont=>exact q
theorem ag (h1:PS X st t):PSs X [st] t:=by
 intro pins s σ H D I h
 refine wpAny_execs_cons (cI (h1 pins s σ H D I h) fun f s1 q=>?_)
 cases f with
 | next=>exact ahf q
 | ret v=>exact q
 | brk=>exact q
 | cont=>exact q
def Xd:TS:=fun D σ H=>D.ct σ H
theorem xw:PS X (.Continue pos) Xd:=fun _ _ σ H _ I h=>wpAny_Continue ⟨σ,H,I,h⟩
theorem Inv.quiet {σ:St}(I:Inv X pins σ H s):interactive X.env=false:=by simp [interactive,I.ok.kind]
def Xe (te:TE):TS:=fun D σ H=>te σ H fun _ H1=>D.nx σ H1
theorem bX (he:PE X e te)(hs:acn e none pos.line X.env=pure false:=by rfl):PS X (.Expr e pos) (Xe te):=by
 intro pins s σ H D I h
 exact wpAny_Expr_any (cI (he pins s σ H _ I h) fun v s1 ⟨x,H1,I1,r1,q1⟩=>⟨σ,H1,I1,q1⟩) I.quiet hs
def aeq (te:TE):TS:=fun D σ H=>te σ H D.rt
theorem ay (he:PE X e te):PS X (.Return (some e) pos) (aeq te):=by
 intro pins s σ H D I h
 exact wpAny_Return_some (cI (he pins s σ H _ I h) fun v s1 ⟨x,H1,I1,r1,q1⟩=>⟨x,σ,H1,I1,r1,q1⟩)
def aer (c:TT)(t u:TS):TS:=fun D σ H=>c σ H fun b H1=>if b=true then t D σ H1 else u D σ H1
theorem bq (hc:PT X c tc)(ha:PSs X a t)(hb:PSs X b u):PS X (.If c a b pos) (aer tc t u):=by
 intro pins s σ H D I h
 refine wpAny_If (cI (hc pins s σ H _ I h) fun d s1 ⟨H1,I1,q1⟩=>?_)
 cases d with
 | true=>exact ha pins s1 σ H1 D I1 q1
 | false=>exact hb pins s1 σ H1 D I1 q1
def T9:TS:=fun _ _ _=>False
theorem cU:PS X st T9:=fun _ _ _ _ _ _ h=>h.elim
end
abbrev TG:=V->St->Hp->(St->Hp->Prop)->Prop
abbrev SH:=List V->St->Hp->(St->Hp->Prop)->Prop
def PG (X:Cx)(target:Expr)(t:TG):Prop:=
 ∀(pins:ε)(s:aaH)(σ:St)(H:Hp)(v:V)(u:Value)(Q:St->Hp->Prop),Inv X pins σ H s->RelV v u->t v σ H Q->
  aaE (aaJ X.prog X.w) X.A (assign target X.env u) (fun _ s'=>∃σ' H',Inv X pins σ' H' s'/\Q σ' H') X.xe s
def Xf (X:Cx)(ts:Ε)(t:SH):Prop:=
 ∀(pins:ε)(s:aaH)(σ:St)(H:Hp)(vs:η)(us:ρ)(Q:St->Hp->Prop),Inv X pins σ H s->Vals vs us->t vs σ H Q->
  aaE (aaJ X.prog X.w) X.A (assignInOrder ((acp ts X.env).map (·.2)) us) (fun _ s'=>∃σ' H',Inv X pins σ' H' s'/\Q σ' H') X.xe s
abbrev T_:=V->V->V->Hp->(Hp->Prop)->Prop
def Xg (X:Cx)(t:T_):Prop:=
 ∀(pins:ε)(s:aaH)(σ:St)(H:Hp)(o i v:V)(ov iv u:Value)(Q:Hp->Prop),Inv X pins σ H s->RelV o ov->RelV i iv->RelV v u->t o i v H Q->
  aaE (aaJ X.prog X.w) X.A (setItem ov iv u) (fun _ s'=>∃H',Inv X pins σ H' s'/\Q H') X.xe s
section
variable {X:Cx}{pos:Pos}
def cV (i:Nat):TG:=fun v σ H Q=>Q (σ.set i (some v)) H
theorem gB (hN:X.N.Nodup)(hi:X.N[i]?=some x)(hx:Loc X.env.scope x)(hf:X.fn x=true\/X.env.scope.names.lookup x=some .local:=by first|exact .inl rfl|exact .inr rfl|assumption):PG X (.Name x pos) (cV i):=by
 intro pins s σ H v u Q I r h
 exact wpAny_assign_Name (lZ I hN hi hx r (fun s' I'=>⟨_,H,I',h⟩) hf)
def Ua:SH:=fun vs σ H Q=>vs=[]/\Q σ H
def xx (t:TG)(u:SH):SH:=fun vs σ H Q=>∃v r,vs=v::r/\t v σ H fun σ' H'=>u r σ' H' Q
theorem de:Xf X [] Ua:=by
 intro pins s σ H vs us Q I r h
 obtain ⟨e,h⟩:=h
 subst e
 cases r
 exact assignInOrder_nil ⟨σ,H,I,h⟩
theorem aY (h1:PG X e t)(h2:Xf X es u)
  (hs:(acp (e::es) X.env).map (·.2)=assign e X.env::(acp es X.env).map (·.2):=by rfl):Xf X (e::es) (xx t u):=by
 intro pins s σ H vs us Q I r h
 obtain ⟨v,vr,e1,h⟩:=h
 subst e1
 cases r with
 | cons r rr=>
  rw [hs]
  refine assignInOrder_cons (cI (h1 pins s σ H _ _ _ I r h) fun _ s1 ⟨σ1,H1,I1,q1⟩=>?_)
  exact h2 pins s1 σ1 H1 _ _ Q I1 rr q1
inductive Ls (K:Frag)(n:Nat)(t:SH)(v:V)(σ:St)(H:Hp)(Q:(St->Hp->Prop)):Prop
|mk (a xs:_)(_:v=.ref a)(_:bM K H a xs)(_:xs.length=n)(_:t xs σ H Q)
theorem fM {k:Nat}(hc:X.calm=true)(h:Xf X es t)
  (hn:(acp es X.env).length=n:=by rfl) (PY:(acp es X.env).findIdx? (·.1)=none:=by rfl):PG X (.Tuple es k pos) (Ls X.K n t):=by
 intro pins s σ H v u Q I r hw
 obtain ⟨a,xs,e1,hq,hl,hw⟩:=hw
 subst e1
 cases r
 obtain ⟨its,rv,ht,hz⟩:=I.tuple hq
 refine assign_Tuple_tuple (I.ok.hd hc) ht (by simp [hn,<-hl,rv.length]) PY fun h' hx=>?_
 have I1:Inv X pins σ H {s with heap:=h'}:=I.kept (t':=s.toks) fun b o e=>hx b o (adK (aaI e)) e
 exact h pins _ σ H xs _ Q I1 (by simpa using rv) hw
def aes (to ti:TE)(t:T_):TG:=fun v σ H Q=>to σ H fun o H1=>ti σ H1 fun i H2=>t o i v H2 fun H3=>Q σ H3
theorem zQ (ho:PE X o to)(hi:PE X i ti)(hs:Xg X t)
  (ha:∀v,assign (.Subscript o i pos) X.env v=(do
   let ov <- holding [v] (aaV o X.env)
   let iv <- holding [v,ov] (aaV i X.env)
   standAt pos
   holding [v,ov,iv] (setItem ov iv v)
   release [v,ov,iv] []):=by intro _;rfl):PG X (.Subscript o i pos) (aes to ti t):=by
 intro pins s σ H v u Q I r h
 rw [ha]
 refine aay (abi (cI (ho pins s σ H _ I h) fun ov s1 ⟨x,H1,I1,r1,q1⟩=>?_))
 refine aay (abi (cI (hi pins s1 σ H1 _ I1 q1) fun iv s2 ⟨y,H2,I2,r2,q2⟩=>?_))
 refine aay (wpAny_standAt (aay (abi (cI (hs pins s2 σ H2 x y v ov iv u _ I2 r1 r2 r q2) fun _ s3 ⟨H3,I3,q3⟩=>?_))))
 exact wpAny_release ⟨σ,H3,I3,q3⟩
def zR (te:TE)(g:TG):TS:=fun D σ H=>te σ H fun x H1=>g x σ H1 D.nx
theorem zW (he:PE X e te)(hg:PG X tg g)(hs:swapsWithSole [tg] e pos.line X.env=pure false:=by rfl)(hw:swappedStores [tg] e X.env=pure none:=by rfl)
  (h1:(acp [tg] X.env).map (·.2)=[assign tg X.env]:=by rfl):PS X (.Assign [tg] e pos) (zR te g):=by
 intro pins s σ H D I h
 refine wpAny_Assign_stores (cI (he pins s σ H _ I h) fun v s1 ⟨x,H1,I1,r1,q1⟩=>?_) hs hw
 rw [h1]
 exact cI (hg pins s1 σ H1 x v _ I1 r1 q1) fun _ s2 q=>q
theorem Ub (hN:X.N.Nodup)(hi:X.N[i]?=some x)(hx:Loc X.env.scope x)(he:PE X e te)(hs:acn e (some (.Name x pos')) pos.line X.env=pure false:=by rfl)(hf:X.fn x=true\/X.env.scope.names.lookup x=some .local:=by first|exact .inl rfl|exact .inr rfl|assumption):
  PS X (.Assign [.Name x pos'] e pos) (zR te (cV i)):=by
 intro pins s σ H D I h
 refine wpAny_Assign_Name (cI (he pins s σ H _ I h) fun v s1 ⟨y,H1,I1,r1,q1⟩=>?_) hs
 exact lZ I1 hN hi hx r1 (fun s2 I2=>⟨_,H1,I2,q1⟩) hf
inductive SI (i:Nat)(j:Nat)(D:Ends)(σ:St)(vs:η)(H1:Hp):Prop
|mk (v w:_)(_:vs=[v,w])(_:D.nx ((σ.set i (some v)).set j (some w)) H1)
def aet (i j:Nat)(ta:TA):TS:=fun D σ H=>ta σ H fun vs H1=>SI i j D σ vs H1
theorem Uc (hc:X.calm=true)(hN:X.N.Nodup)(hi:X.N[i]?=some x)(hj:X.N[j]?=some y)(hij:i≠j)
  (hx:X.env.scope.names.lookup x=some .local) (hy:X.env.scope.names.lookup y=some .local) (ha:PA X [a,b] ta)
  (hw:swappedStores [.Tuple [.Name x px,.Name y py] kt pt] (.Tuple [a,b] k2 pt2) X.env=pure (some [x,y]))
  (hs:swapsWithSole [.Tuple [.Name x px,.Name y py] kt pt] (.Tuple [a,b] k2 pt2) pos.line X.env=pure false:=by rfl):
  PS X (.Assign [.Tuple [.Name x px,.Name y py] kt pt] (.Tuple [a,b] k2 pt2) pos) (aet i j ta):=by
 intro pins s σ H D I h
 rw [exec_Assign_arm]
 refine aay (wpAny_standAt ?_)
 rw [hs]
 refine aay (aaF ?_)
 rw [aaA (by decide)]
 refine aay (Tuple_ (cI (ha _ pins s σ H _ I h) fun us s1 ⟨vs,H1,I1,r1,q1⟩=>?_))
 obtain ⟨v,w,e1,q1⟩:=q1
 subst e1
 obtain ⟨u1,u2,rfl,rv,sW⟩:∃u1 u2,us=[u1,u2]/\RelV v u1/\RelV w u2:=by
  cases r1 with
  | cons p q=>
   cases q with
   | cons p' q'=>
    cases q'
    exact ⟨_,_,rfl,p,p'⟩
 refine abE ?_ (by show 2<=aaD;decide)
 have I2:Inv X pins σ H1 {s1 with heap:=s1.heap.push {cls:=.type "tuple",data:=.seq [u1,u2].toArray}}:=I1.kept (t':=s1.toks) fun b o e=>aaB _ e
 rw [hw]
 refine aay (aaF ?_)
 show aaE (aaJ X.prog X.w) X.A (do rule "assign.swapped-stores";let items <- unpackItems (.ref s1.heap.objs.size) 2 none;assignInOrder [fun v=>bindName X.env y v,fun v=>bindName X.env x v] items.reverse;pure Flow.next) _ _ _
 refine aay (wpAny_rule (aay (unpackItems_tuple (items:= #[u1,u2]) (I.ok.hd hc) (IsTup.new s1.heap _) fun h' OD =>?_)))
 have I3:=I2.kept (h':=h') (t':=s1.toks) fun b o e=>OD b o (adK (aaI e)) e
 show aaE _ _ (assignInOrder [fun v=>bindName X.env y v,fun v=>bindName X.env x v] [u2,u1] >>=fun _=>pure Flow.next) _ _ _
 refine aay (assignInOrder_cons (wpAny_bindName (lZ I3 hN hj (.inl hy) sW (fun s2 I4=>?_) (.inr hy))))
 refine assignInOrder_cons (wpAny_bindName (lZ I4 hN hi (.inl hx) rv (fun s3 I5=>assignInOrder_nil (aaF ?_)) (.inr hx)))
 rw [List.set_comm _ _ (adO hij)] at I5
 exact ⟨_,H1,I5,q1⟩
def Lu (c:TT)(tb:TS):TS:=fun D σ H=>∃W:Nat->St->Hp->Prop,(∃m,W m σ H)/\∀m σ H,W m σ H->
 c σ H fun b H1=>if b=true then ∃N:St->Hp->Prop,(∀σ' H',N σ' H' ->∃m',m'<m/\W m' σ' H')/\tb {D with nx:=N,ct:=N,bk:=D.nx} σ H1 else D.nx σ H1
theorem qw (hp:PassesOwn (aaJ X.prog X.w) X.A X.env X.xe)(hc:PT X c tc)(hb:PSs X body tb):PS X (.While c body [] pos) (Lu tc tb):=by
 intro pins s σ H D I h
 obtain ⟨W,⟨m0,w0⟩,turn⟩:=h
 refine wpAny_While (codeAny_whileLoop (fun n s'=>∃σ' H',Inv X pins σ' H' s'/\W n σ' H') ?_ m0 ⟨σ,H,I,w0⟩)
 rintro n s1 ⟨σ1,H1,I1,w1⟩
 refine abB hp (cI (hc pins s1 σ1 H1 _ I1 (turn n σ1 H1 w1)) fun b s2 ⟨H2,I2,q2⟩=>?_)
 cases b with
 | true=>
  obtain ⟨N,hN,q2⟩:=q2
  rw [aaC rfl]
  refine abB hp (cI (hb pins s2 σ1 H2 _ I2 q2) fun f s3 q3=>?_)
  cases f with
  | next=>
   obtain ⟨σ3,H3,I3,n3⟩:=q3
   obtain ⟨m',hm,w3⟩:=hN σ3 H3 n3
   exact ⟨m',hm,σ3,H3,I3,w3⟩
  | cont=>
   obtain ⟨σ3,H3,I3,n3⟩:=q3
   obtain ⟨m',hm,w3⟩:=hN σ3 H3 n3
   exact ⟨m',hm,σ3,H3,I3,w3⟩
  | brk=>exact q3
  | ret v=>exact q3
 | false=>
  rw [aaA adx]
  exact ahf ⟨σ1,H2,I2,q2⟩
end
structure It where
 go:Nat->Hp->Prop
 CZ:Nat->Hp->V->Hp->Prop
 stop:Nat->Hp->Prop
def m7 (X:Cx)(pins:ε)(H:Hp)(b:aaz):Prop:=
 H b=none/\b≠X.env.locals/\b∉X.fs/\(b∈X.ex\/X.s₀.heap.objs.size<=b)/\(∀x c,X.env.cells.lookup x=some c->c≠b)/\∀p∈X.pn++pins,p.1≠b
theorem Inv.m8 {σ:St}{b:aaz}(I:Inv X pins σ H s)(hb:s.heap.objs.size<=b)(hn:H' b=none):m7 X pins H' b:=by
 refine ⟨hn,afa (adB I.lt hb),I.aei hb,.inr (aav I.sz hb),fun x c e z=>?_,fun p hp z=>?_⟩
 ·obtain ⟨v,q⟩:=I.cell x c e
  exact aaM (adB q.lt (by rw [z];exact hb)) (aeg _)
 ·exact aaM (adB (aaI (I.pin p hp).1) (by rw [z];exact hb)) (aeg _)
structure Turn (P:aaP)(w:World)(K:Frag)(tg:Expr)(J:It)(fp:υ)(it:aaz)(tn:Nat->Heap->Prop):Prop where
 mem:it∈fp
 obj:∀i h,tn i h->∀b∈fp,∃o,h.get? b=some o/\∀v,o.data≠.cell v
 keep:∀i h h',tn i h->(∀b∈fp,∀o,h.get? b=some o->h'.get? b=some o)->tn i h'
 item:∀(X:Cx),X.prog=P->X.w=w->X.K=K->X.calm=true->∀(i:Nat)(pins:ε)(s:aaH)(σ:St)(H:Hp)(E:δ),Inv X pins σ H s->(∀b∈fp,m7 X pins H b)->tn i s.heap->J.go i H->
  aaE (aaJ P w) X.A (abL (.ref it)) (fun r s1=>∃u,r=some u/\
   aaE (aaJ P w) X.A (ahg tg (.ref it) u) (fun _ s2=>∃x H',Inv X pins σ H' s2/\RelV x u/\J.CZ i H x H'/\tn (i+1) s2.heap/\∀b∈fp,H' b=none) E s1) E s
 done:∀(X:Cx),X.prog=P->X.w=w->X.K=K->X.calm=true->∀(i:Nat)(pins:ε)(s:aaH)(σ:St)(H:Hp)(E:δ),Inv X pins σ H s->(∀b∈fp,m7 X pins H b)->tn i s.heap->J.stop i H->
  aaE (aaJ P w) X.A (abL (.ref it)) (fun r s1=>r=none/\Inv X pins σ H s1) E s
 self:∀(A:aaT)(i:Nat)(s:aaH)(Q:δ)(E:δ),tn i s.heap->Q (.ref it) s->aaE (aaJ P w) A (pyIter (.ref it)) Q E s
abbrev TI:=St->Hp->(It->Hp->Prop)->Prop
def PIE (X:Cx)(pins:ε)(σ:St)(tg:Expr)(R:It->Hp->Prop)(itv:Value)(s2:aaH):Prop:=
 ∃(it:aaz)(fp:υ)(tn:Nat->Heap->Prop)(J:It)(H':Hp),itv=.ref it/\Inv X pins σ H' s2/\Turn X.prog X.w X.K tg J fp it tn/\tn 0 s2.heap/\(∀b∈fp,m7 X pins H' b)/\R J H'
def PI (X:Cx)(tg iter:Expr)(wi:TI):Prop:=
 ∀(pins:ε)(s:aaH)(σ:St)(H:Hp)(R:It->Hp->Prop),Inv X pins σ H s->wi σ H R->
  aaE (aaJ X.prog X.w) X.A (aaV iter X.env) (fun v s1=>aaE (aaJ X.prog X.w) X.A (pyIter v) (PIE X pins σ tg R) X.xe s1) X.xe s
theorem C_            (ho : s.heap.get? it = some o) (hc : o.cls = .type n) (hd : o.data = .fields vs)
    (hn : ["enumerate", "zip", "dict_itemiterator", "dict_reverseitemiterator", "odict_iterator", "itertools.zip_longest", "itertools.pairwise"].contains n = false) (hQ : Q () s) : aaE M A (ahg tg (.ref it) u) Q E s := by
  unfold ahg
  cases tg<;>first
    | exact aaF hQ
    | (cases u<;>first
        | exact aaF hQ
        | (refine aay (wpAny_load ho ?_)
           rw [hc, hd]
           show aaE M A (if (["enumerate", "zip", "dict_itemiterator", "dict_reverseitemiterator", "odict_iterator", "itertools.zip_longest", "itertools.pairwise"].contains n && vs[0]? == some (abk _)) = true then _ else _) Q E s
           rw [aaA (by intro h; rw [hn, Bool.false_and] at h; cases h)]
           exact aaF hQ))
def PZ (K:Frag)(a:aaz):It:=
 ⟨fun i H=>∃xs x,aR K H a xs/\xs[i]?=some x,fun i H x H'=>H'=H/\∀xs,aR K H a xs->xs[i]?=some x,fun i H=>∃xs,aR K H a xs/\xs.length<=i⟩
def Xh (K:Frag)(a:aaz):It:=
 ⟨fun i H=>∃xs x,bM K H a xs/\xs[i]?=some x,fun i H x H'=>H'=H/\∀xs,bM K H a xs->xs[i]?=some x,fun i H=>∃xs,bM K H a xs/\xs.length<=i⟩
def SJ (lo:Int)(n:Nat):It:=⟨fun i _=>i<n,fun i H x H'=>H'=H/\x=.int (lo+i),fun i _=>n<=i⟩
theorem FY {K:Frag}(a it:aaz):Turn P w K tg (PZ K a) [it] it (fun i h=>h.IsListIter it a i) where
 mem:=by simp
 obj:=fun i h st b hb=>by
  have e:b=it:=by simpa using hb
  subst e
  obtain ⟨o,e,c,d⟩:=st
  exact ⟨o,e,fun v z=>by rw [d] at z;cases z⟩
 keep:=fun i h h' st k=>st.at fun o e=>k it (by simp) o e
 item:=by
  intro X hP hw hK hc i pins s σ H E I hf st hg
  subst hP hw hK
  obtain ⟨xs,x,hq,hx⟩:=hg
  obtain ⟨its,rv,p,hz⟩:=I.list hq
  obtain ⟨u,hu,ru⟩:=rv.get hx
  obtain ⟨f0,f1,f2,f3,f4,f5⟩:=hf it (by simp)
  refine wpAny_pyNext_list_item st p.isList (x:=u) (by simpa using hu) fun h' C' sb=>?_
  have I1:Inv X pins σ H {s with heap:=h'}:=I.turned (t':=s.toks) (fun b o hb e=>(sb.2 b hb).trans e) f0 f1 f3 f4 f5
  obtain ⟨o,e,c,d⟩:=id C'
  exact ⟨u,rfl,C_ (s:={s with heap:=h'}) e c d (by decide) ⟨x,H,I1,ru,⟨rfl,fun ys hy=>by rw [I.iJ hy hq];exact hx⟩,C',fun b hb=>(hf b hb).1⟩⟩
 done:=by
  intro X hP hw hK hc i pins s σ H E I hf st hg
  subst hP hw hK
  obtain ⟨xs,hq,hx⟩:=hg
  obtain ⟨its,rv,p,hz⟩:=I.list hq
  obtain ⟨f0,f1,f2,f3,f4,f5⟩:=hf it (by simp)
  have hl:=rv.length
  exact wpAny_pyNext_list_end (I.ok.hd hc) st p.isList (by simp;omega) fun h' eb=>⟨rfl,I.turned (t':=s.toks) (fun b o hb e=>eb b o hb e) f0 f1 f3 f4 f5⟩
 self:=fun _ _ _ _ _ st h=>wpAny_pyIter_listiter st h
theorem zX {K:Frag}(a it:aaz):Turn P w K tg (Xh K a) [it] it (fun i h=>h.IsTupleIter it a i) where
 mem:=by simp
 obj:=fun i h st b hb=>by
  have e:b=it:=by simpa using hb
  subst e
  obtain ⟨o,e,c,d⟩:=st
  exact ⟨o,e,fun v z=>by rw [d] at z;cases z⟩
 keep:=fun i h h' st k=>st.at fun o e=>k it (by simp) o e
 item:=by
  intro X hP hw hK hc i pins s σ H E I hf st hg
  subst hP hw hK
  obtain ⟨xs,x,hq,hx⟩:=hg
  obtain ⟨its,rv,p,hz⟩:=I.tuple hq
  obtain ⟨u,hu,ru⟩:=rv.get hx
  obtain ⟨f0,f1,f2,f3,f4,f5⟩:=hf it (by simp)
  refine wpAny_pyNext_tuple_item st (show s.heap.IsTuple a its.toArray from p) (x:=u) (by simpa using hu) fun h' C' sb=>?_
  have I1:Inv X pins σ H {s with heap:=h'}:=I.turned (t':=s.toks) (fun b o hb e=>(sb.2 b hb).trans e) f0 f1 f3 f4 f5
  obtain ⟨o,e,c,d⟩:=id C'
  exact ⟨u,rfl,C_ (s:={s with heap:=h'}) e c d (by decide) ⟨x,H,I1,ru,⟨rfl,fun ys hy=>by rw [I.iK hy hq];exact hx⟩,C',fun b hb=>(hf b hb).1⟩⟩
 done:=by
  intro X hP hw hK hc i pins s σ H E I hf st hg
  subst hP hw hK
  obtain ⟨xs,hq,hx⟩:=hg
  obtain ⟨its,rv,p,hz⟩:=I.tuple hq
  obtain ⟨f0,f1,f2,f3,f4,f5⟩:=hf it (by simp)
  have hl:=rv.length
  exact wpAny_pyNext_tuple_end (I.ok.hd hc) st (show s.heap.IsTuple a its.toArray from p) (by simp;omega) fun h' eb=>⟨rfl,I.turned (t':=s.toks) (fun b o hb e=>eb b o hb e) f0 f1 f3 f4 f5⟩
 self:=fun _ _ _ _ _ st h=>wpAny_pyIter_tupleiter st h
theorem zY {K:Frag}(it:aaz)(lo:Int)(n:Nat):Turn P w K tg (SJ lo n) [it] it (fun i h=>IsRangeIter h it (lo+(i:Nat)*1) ((n:Int)-(i:Nat)) 1) where
 mem:=by simp
 obj:=fun i h st b hb=>by
  have e:b=it:=by simpa using hb
  subst e
  exact ⟨_,st,fun v z=>by
   have z':Data.fields _=Data.cell v:=z
   cases z'⟩
 keep:=fun i h h' st k=>k it (by simp) _ st
 item:=by
  intro X hP hw hK hc i pins s σ H E I hf st hg
  subst hP hw hK
  obtain ⟨f0,f1,f2,f3,f4,f5⟩:=hf it (by simp)
  have W:=Walks.range (prog:=X.prog) (w:=X.w) (I.ok.hd hc) it lo 1 n
  refine W.item i s _ _ hg st fun v h' tk hv C' kk=>?_
  obtain ⟨t,rfl⟩:=hv
  have I1:Inv X pins σ H {s with heap:=h',toks:=tk}:=I.turned (fun b o hb e=>kk b o (by simpa using hb) e) f0 f1 f3 f4 f5
  refine ⟨_,rfl,C_ (s:={s with heap:=h',toks:=tk}) (n:="range_iterator") C' rfl rfl (by decide) ⟨.int (lo+i),H,I1,⟨t,?_⟩,⟨rfl,rfl⟩,C',fun b hb=>(hf b hb).1⟩⟩
  rw [Int.mul_one]
 done:=by
  intro X hP hw hK hc i pins s σ H E I hf st hg
  subst hP hw hK
  obtain ⟨f0,f1,f2,f3,f4,f5⟩:=hf it (by simp)
  exact wpAny_pyNext_range_end (I.ok.hd hc) st (by have:n<=i:=hg;omega) fun h' eb=>⟨rfl,I.turned (t':=s.toks) (fun b o hb e=>eb b o hb e) f0 f1 f3 f4 f5⟩
 self:=fun _ _ _ _ _ st h=>wpAny_pyIter_rangeiter st h
end L2
namespace L2
open PySem PySem.Spec PyProof.Rows
section
variable {X:Cx}{tg:Expr}
inductive Lv (K:Frag)(R:(It->Hp->Prop))(x:V)(H1:Hp):Prop
|mk (a:_)(_:x=.ref a)(_:(∃xs,aR K H1 a xs))(_:R (PZ K a) H1)
def Xi (K:Frag)(tl:TE):TI:=fun σ H R=>tl σ H fun x H1=>Lv K R x H1
inductive SK (K:Frag)(R:(It->Hp->Prop))(x:V)(H1:Hp):Prop
|mk (a:_)(_:x=.ref a)(_:(∃xs,bM K H1 a xs))(_:R (Xh K a) H1)
def aev (K:Frag)(tl:TE):TI:=fun σ H R=>tl σ H fun x H1=>SK K R x H1
theorem a_ (hl:PE X l tl):PI X tg l (Xi X.K tl):=by
 intro pins s σ H R I h
 refine cI (hl pins s σ H _ I h) fun v s1 ⟨x,H1,I1,r1,q1⟩=>?_
 obtain ⟨a,e,⟨xs,hq⟩,q⟩:=q1
 subst e
 cases r1
 obtain ⟨its,rv,p,hz⟩:=I1.list hq
 refine ag8 p.isList ?_
 refine ⟨s1.heap.objs.size,[s1.heap.objs.size],_,_,H1,rfl,I1.kept (t':=s1.toks) fun b o e=>aaB _ e,FY a _,⟨_,aaL _ rfl,rfl,rfl⟩,fun b hb=>?_,q⟩
 have e:b=s1.heap.objs.size:=by simpa using hb
 subst e
 exact I1.m8 (aa_ _) (I1.bH.fresh (aa_ _))
theorem Ud (hl:PE X l tl):PI X tg l (aev X.K tl):=by
 intro pins s σ H R I h
 refine cI (hl pins s σ H _ I h) fun v s1 ⟨x,H1,I1,r1,q1⟩=>?_
 obtain ⟨a,e,⟨xs,hq⟩,q⟩:=q1
 subst e
 cases r1
 obtain ⟨its,rv,p,hz⟩:=I1.tuple hq
 refine wpAny_pyIter_tuple (show s1.heap.IsTuple a its.toArray from p) ?_
 refine ⟨s1.heap.objs.size,[s1.heap.objs.size],_,_,H1,rfl,I1.kept (t':=s1.toks) fun b o e=>aaB _ e,zX a _,⟨_,aaL _ rfl,rfl,rfl⟩,fun b hb=>?_,q⟩
 have e:b=s1.heap.objs.size:=by simpa using hb
 subst e
 exact I1.m8 (aa_ _) (I1.bH.fresh (aa_ _))
theorem Lw {σ:St}{E:δ}{lo hi:Int}(I:Inv X pins σ H s)(h1: -(2^62)<=lo)(h2:lo<2^62)(h3: -(2^62)<=hi)(h4:hi<2^62)
  (q:R (SJ lo (hi-lo).toNat) H):aaE (aaJ X.prog X.w) X.A (pyIter (.ref s.heap.objs.size)) (PIE X pins σ tg R) E {s with heap:=s.heap.push {cls:=.type "range",data:=.fields #[.int lo t,.int hi u,.int 1 v]},toks:=tk}:=by
 refine wpAny_pyIter_range (IsRange.new ..) (small_one h1 h2 h3 h4) ?_
 have I1:Inv X pins σ H {s with heap:=s.heap.push {cls:=.type "range",data:=.fields #[.int lo t,.int hi u,.int 1 v]},toks:=tk}:=I.kept fun b o e=>aaB _ e
 refine ⟨(s.heap.push {cls:=.type "range",data:=.fields #[.int lo t,.int hi u,.int 1 v]}).objs.size,[(s.heap.push {cls:=.type "range",data:=.fields #[.int lo t,.int hi u,.int 1 v]}).objs.size],_,_,H,rfl,
  I1.kept (t':=tk) fun b o e=>aaB _ e,zY _ lo (hi-lo).toNat,?_,fun b hb=>?_,q⟩
 ·have e1:lo+((0:Nat):Int)*1=lo:=by simp
  have e2:(((hi-lo).toNat:Nat):Int)-((0:Nat):Int)=Builtin.Range.rangeSize lo hi 1:=by rw [rangeSize_one];split<;>omega
  show IsRangeIter _ _ (lo+((0:Nat):Int)*1) ((((hi-lo).toNat:Nat):Int)-((0:Nat):Int)) 1
  rw [e1,e2]
  exact aaL _ rfl
 ·have e:b=(s.heap.push {cls:=.type "range",data:=.fields #[.int lo t,.int hi u,.int 1 v]}).objs.size:=by simpa using hb
  subst e
  exact I1.m8 (aa_ _) (I1.bH.fresh (aa_ _))
inductive Ly (R:(It->Hp->Prop))(vs:η)(H1:Hp):Prop
|mk (j:Int)(_:vs=[.int j])(_: -(2^62)<=j)(_:j<2^62)(_:R (SJ 0 j.toNat) H1)
def Xj (ta:TA):TI:=fun σ H R=>ta σ H fun vs H1=>Ly R vs H1
theorem bY (hg:Gl X "range")(hm:X.mg "range"=none)(ha:PA X [a] ta)(hs:aaO [a] X.env=[(false,aaV a X.env)]:=by rfl):PI X tg (.Call (.Name "range" p) [a] [] pos) (Xj ta):=by
 intro pins s σ H R I h
 refine Call_ (i5 I hg hm boot_range (aa7 (cI (ha pos pins s σ H _ I h) fun us s1 ⟨vs,H1,I1,r1,q1⟩=>?_) hs rfl))
 obtain ⟨j,e,q1,q2,q⟩:=q1
 subst e
 cases r1 with
 | cons r rr=>
  cases rr
  obtain ⟨t,rfl⟩:=r
  exact call_range_1 (Lw I1 (by omega) (by omega) q1 q2 (by simpa using q))
def aew (wi:TI)(g:TG)(tb:TS):TS:=fun D σ H=>wi σ H fun J H1=>∃W:Nat->Nat->St->Hp->Prop,(∃m,W 0 m σ H1)/\∀i m σ H,W i m σ H->
 (J.stop i H/\D.nx σ H)\/(J.go i H/\∃N:St->Hp->Prop,(∀σ' H',N σ' H' ->∃m',m'<m/\W (i+1) m' σ' H')/\∀x H',J.CZ i H x H' ->g x σ H' fun σ2 H2=>tb {D with nx:=N,ct:=N,bk:=D.nx} σ2 H2)
def qz (fp:υ)(h:Heap):List (aaz×Obj):=fp.filterMap fun b=>(h.get? b).map fun o=>(b,o)
theorem i6 (hb:b∈fp)(e:h.get? b=some o):(b,o)∈qz fp h:=agh.mpr ⟨b,hb,by rw [e];rfl⟩
theorem FZ (hp:p∈qz fp h):p.1∈fp/\h.get? p.1=some p.2:=by
 obtain ⟨b,hb,e⟩:=agh.mp hp
 cases q:h.get? b with
 | none=>rw [q] at e;cases e
 | some o=>
  rw [q] at e
  have e':(b,o)=p:=ady e
  subst e'
  exact ⟨hb,q⟩
theorem Inv.pinned {σ:St}(I:Inv X pins σ H s)(hf:∀b∈fp,m7 X pins H b)(ho:∀b∈fp,∃o,s.heap.get? b=some o/\∀v,o.data≠.cell v):Inv X (pins++qz fp s.heap) σ H s:=
 I.CY fun p hp=>(ado.mp hp).elim (fun z=>I.pin p (adI _ z)) fun z=>by
  obtain ⟨hb,e⟩:=FZ z
  obtain ⟨f0,f1,f2,_⟩:=hf p.1 hb
  obtain ⟨o,e',d⟩:=ho p.1 hb
  rw [e] at e';cases e'
  exact ⟨e,f0,f1,f2,d⟩
theorem Inv.jz {σ:St}(I:Inv X (pins++pl) σ H s):Inv X pins σ H s:=I.CY fun p hp=>I.pin p (adI _ (adL _ hp))
theorem bg (hp:PassesOwn (aaJ X.prog X.w) X.A X.env X.xe)(hc:X.calm=true)(hi:PI X tg iter wi)(hg:PG X tg g)(hb:PSs X body tb)
  (hs:∀x,abe iter X.env x=pure x:=by intro _;rfl):PS X (.For tg iter body [] pos) (aew wi g tb):=by
 intro pins s σ H D I h
 refine wpAny_For (cI (hi pins s σ H _ I h) fun v s1 h1=>cI h1 fun itv s2 h2=>?_) hs
 obtain ⟨it,fp,tn,J,H2,e,I2,T,SM,f2,W,⟨m0,w0⟩,turn⟩:=h2
 subst e
 have stat:∀{H':Hp},(∀b∈fp,H' b=none)->∀b∈fp,m7 X pins H' b:=fun hn b hb=>⟨hn b hb,(f2 b hb).2⟩
 refine codeAny_forLoop_any (fun n s'=>∃i σ' H',Inv X pins σ' H' s'/\tn i s'.heap/\(∀b∈fp,H' b=none)/\W i n σ' H') ?_ m0 ⟨0,σ,H2,I2,SM,fun b hb=>(f2 b hb).1,w0⟩
 rintro n s3 ⟨i,σ3,H3,I3,Wn,OE,w3⟩
 rcases turn i n σ3 H3 w3 with ⟨stop,qn⟩|⟨go,N,hN,step⟩
 ·refine abB hp (cI (T.done X rfl rfl rfl hc i pins s3 σ3 H3 X.xe I3 (stat OE) Wn stop) fun r s4 ⟨hr,I4⟩=>?_)
  subst hr
  exact ahf ⟨σ3,H3,I4,qn⟩
 ·refine abB hp (cI (T.item X rfl rfl rfl hc i pins s3 σ3 H3 X.xe I3 (stat OE) Wn go) fun r s4 ⟨u,hr,h4⟩=>?_)
  subst hr
  refine abB hp (cI h4 fun _ s5 ⟨x,H5,I5,r5,y5,Wo,SN⟩=>?_)
  have I5':=I5.pinned (stat SN) (T.obj _ _ Wo)
  refine abB hp (cI (hg _ s5 σ3 H5 x u _ I5' r5 (step x H5 y5)) fun _ s6 ⟨σ6,H6,I6,q6⟩=>?_)
  refine abB hp (cI (hb _ s6 σ6 H6 _ I6 q6) fun f s7 q7=>?_)
  have again:∀{σ7:St} {H7:Hp},Inv X (pins++qz fp s5.heap) σ7 H7 s7->N σ7 H7->∃m,m<n/\∃i σ' H',Inv X pins σ' H' s7/\tn i s7.heap/\(∀b∈fp,H' b=none)/\W i m σ' H':=fun {σ7 H7} I7 n7=>by
   obtain ⟨m',hm,w7⟩:=hN σ7 H7 n7
   refine ⟨m',hm,i+1,σ7,H7,I7.jz,T.keep _ _ _ Wo fun b hb o e=>(I7.pin (b,o) (adI _ (adI _ (i6 hb e)))).1,fun b hb=>?_,w7⟩
   obtain ⟨o,e,d⟩:=T.obj _ _ Wo b hb
   exact (I7.pin (b,o) (adI _ (adI _ (i6 hb e)))).2.1
  cases f with
  | next=>obtain ⟨σ7,H7,I7,n7⟩:=q7;exact again I7 n7
  | cont=>obtain ⟨σ7,H7,I7,n7⟩:=q7;exact again I7 n7
  | brk=>obtain ⟨σ7,H7,I7,q7⟩:=q7;exact ⟨σ7,H7,I7.jz,q7⟩
  | ret v=>obtain ⟨x7,σ7,H7,I7,r7,q7⟩:=q7;exact ⟨x7,σ7,H7,I7.jz,r7,q7⟩
end
theorem bI {K:Frag}{g:TG}{tb:TS}{D:Ends}(Pv:Nat->St->Hp->Prop)(h0:Pv 0 σ H)(hl:∀i σ H,i<=xs.length->Pv i σ H->aR K H a xs)
  (hs:∀i x σ H,xs[i]?=some x->Pv i σ H->g x σ H fun σ2 H2=>tb {D with nx:=Pv (i+1),ct:=Pv (i+1),bk:=D.nx} σ2 H2) (hd:∀σ H,Pv xs.length σ H->D.nx σ H):
  ∃W:Nat->Nat->St->Hp->Prop,(∃m,W 0 m σ H)/\∀i m σ H,W i m σ H->
   ((PZ K a).stop i H/\D.nx σ H)\/((PZ K a).go i H/\∃N:St->Hp->Prop,(∀σ' H',N σ' H' ->∃m',m'<m/\W (i+1) m' σ' H')/\∀x H',(PZ K a).CZ i H x H' ->g x σ H' fun σ2 H2=>tb {D with nx:=N,ct:=N,bk:=D.nx} σ2 H2):=by
 refine ⟨fun i m σ H=>m=xs.length-i/\i<=xs.length/\Pv i σ H,⟨xs.length,by simp,adS _,h0⟩,?_⟩
 rintro i m σ H ⟨rfl,hi,p⟩
 have q:=hl i σ H hi p
 by_cases kN:i<xs.length
 ·refine .inr ⟨⟨xs,xs[i],q,by simp [kN]⟩,Pv (i+1),fun σ' H' p'=>⟨xs.length-(i+1),by omega,rfl,kN,p'⟩,fun x H' y=>?_⟩
  obtain ⟨e,y⟩:=y
  subst e
  exact hs i x σ _ (y xs q) p
 ·have e:i=xs.length:=by omega
  subst e
  exact .inl ⟨⟨xs,q,aa_ _⟩,hd σ H p⟩
theorem P0 {K:Frag}{g:TG}{tb:TS}{D:Ends}(Pv:Nat->St->Hp->Prop)(h0:Pv 0 σ H)(hl:∀i σ H,i<=xs.length->Pv i σ H->bM K H a xs)
  (hs:∀i x σ H,xs[i]?=some x->Pv i σ H->g x σ H fun σ2 H2=>tb {D with nx:=Pv (i+1),ct:=Pv (i+1),bk:=D.nx} σ2 H2) (hd:∀σ H,Pv xs.length σ H->D.nx σ H):
  ∃W:Nat->Nat->St->Hp->Prop,(∃m,W 0 m σ H)/\∀i m σ H,W i m σ H->
   ((Xh K a).stop i H/\D.nx σ H)\/((Xh K a).go i H/\∃N:St->Hp->Prop,(∀σ' H',N σ' H' ->∃m',m'<m/\W (i+1) m' σ' H')/\∀x H',(Xh K a).CZ i H x H' ->g x σ H' fun σ2 H2=>tb {D with nx:=N,ct:=N,bk:=D.nx} σ2 H2):=by
 refine ⟨fun i m σ H=>m=xs.length-i/\i<=xs.length/\Pv i σ H,⟨xs.length,by simp,adS _,h0⟩,?_⟩
 rintro i m σ H ⟨rfl,hi,p⟩
 have q:=hl i σ H hi p
 by_cases kN:i<xs.length
 ·refine .inr ⟨⟨xs,xs[i],q,by simp [kN]⟩,Pv (i+1),fun σ' H' p'=>⟨xs.length-(i+1),by omega,rfl,kN,p'⟩,fun x H' y=>?_⟩
  obtain ⟨e,y⟩:=y
  subst e
  exact hs i x σ _ (y xs q) p
 ·have e:i=xs.length:=by omega
  subst e
  exact .inl ⟨⟨xs,q,aa_ _⟩,hd σ H p⟩
theorem cJ {lo:Int}{g:TG}{tb:TS}{D:Ends}(Pv:Nat->St->Hp->Prop)(h0:Pv 0 σ H)
  (hs:∀i σ H,i<n->Pv i σ H->g (.int (lo+i)) σ H fun σ2 H2=>tb {D with nx:=Pv (i+1),ct:=Pv (i+1),bk:=D.nx} σ2 H2) (hd:∀σ H,Pv n σ H->D.nx σ H):
  ∃W:Nat->Nat->St->Hp->Prop,(∃m,W 0 m σ H)/\∀i m σ H,W i m σ H->
   ((SJ lo n).stop i H/\D.nx σ H)\/((SJ lo n).go i H/\∃N:St->Hp->Prop,(∀σ' H',N σ' H' ->∃m',m'<m/\W (i+1) m' σ' H')/\∀x H',(SJ lo n).CZ i H x H' ->g x σ H' fun σ2 H2=>tb {D with nx:=N,ct:=N,bk:=D.nx} σ2 H2):=by
 refine ⟨fun i m σ H=>m=n-i/\i<=n/\Pv i σ H,⟨n,by simp,adS _,h0⟩,?_⟩
 rintro i m σ H ⟨rfl,hi,p⟩
 by_cases kN:i<n
 ·refine .inr ⟨kN,Pv (i+1),fun σ' H' p'=>⟨n-(i+1),by omega,rfl,kN,p'⟩,fun x H' y=>?_⟩
  obtain ⟨e,y⟩:=y
  subst e y
  exact hs i σ _ kN p
 ·have e:i=n:=by omega
  subst e
  exact .inl ⟨aa_ _,hd σ H p⟩
theorem xy (Pv:St->Hp->Prop)(μ:St->Hp->Nat)(h0:Pv σ H)
  (hs:∀σ H,Pv σ H->c σ H fun b H1=>if b=true then tb {D with nx:=fun σ' H'=>Pv σ' H'/\μ σ' H' < μ σ H,ct:=fun σ' H'=>Pv σ' H'/\μ σ' H' < μ σ H,bk:=D.nx} σ H1 else D.nx σ H1)
  (mono:∀σ H Q Q',(∀b H1,Q b H1->Q' b H1)->c σ H Q->c σ H Q'):Lu c tb D σ H:=by
 refine ⟨fun m σ H=>m=μ σ H/\Pv σ H,⟨_,rfl,h0⟩,?_⟩
 rintro m σ H ⟨rfl,p⟩
 refine mono σ H _ _ (fun b H1 q=>?_) (hs σ H p)
 cases b with
 | true=>exact ⟨_,fun σ' H' ⟨p',l⟩=>⟨_,l,rfl,p'⟩,q⟩
 | false=>exact q
end L2
namespace L2
open PySem PySem.Spec PyProof.Rows
abbrev R2:=V->V->Hp->VK->Prop
def kc (X:Cx)(f:Value->Value->Sem Value)(r:R2):Prop:=
 ∀(pins:ε)(s:aaH)(σ:St)(H:Hp)(x y:V)(v u:Value)(Q:VK),Inv X pins σ H s->RelV x v->RelV y u->r x y H Q->
  aaE (aaJ X.prog X.w) X.A (f v u) (EP X pins σ Q) X.xe s
def UnR (X:Cx)(f:Value->Sem Value)(r:V->Hp->VK->Prop):Prop:=
 ∀(pins:ε)(s:aaH)(σ:St)(H:Hp)(x:V)(v:Value)(Q:VK),Inv X pins σ H s->RelV x v->r x H Q->
  aaE (aaJ X.prog X.w) X.A (f v) (EP X pins σ Q) X.xe s
def iL (X:Cx)(f:Value)(r:List V->Hp->VK->Prop):Prop:=
 ∀(pins:ε)(s:aaH)(σ:St)(H:Hp)(xs:η)(us:ρ)(Q:VK),Inv X pins σ H s->Vals xs us->r xs H Q->
  aaE (aaJ X.prog X.w) X.A (call f us) (EP X pins σ Q) X.xe s
def P1 (r:R2)(ta tb:TE):TE:=fun σ H Q=>ta σ H fun x H1=>tb σ H1 fun y H2=>r x y H2 Q
def tUn (r:V->Hp->VK->Prop)(ta:TE):TE:=fun σ H Q=>ta σ H fun x H1=>r x H1 Q
inductive rI (C:Int->Int->Prop)(g:Int->Int->V)(x:V)(y:V)(H:Hp)(Q:VK):Prop
|mk (i j:_)(_:x=.int i)(_:y=.int j)(_:C i j)(_:Q (g i j) H)
inductive P2 (g:Int->Int->V)(x:V)(y:V)(H:Hp)(Q:VK):Prop
|mk (i j:_)(_:x=.int i)(_:y=.int j)(_:Q (g i j) H)
inductive rU (g:Int->V)(x:V)(H:Hp)(Q:VK):Prop
|mk (i:_)(_:x=.int i)(_:Q (g i) H)
section
variable {X:Cx}{a b c:Expr}{ta tb tc:TE}{pos:Pos}
theorem Ue (ha:PE X a ta)(hb:PE X b tb){σ:St}{R:V->V->Hp->Prop}(I:Inv X pins σ H s)
  (h:ta σ H fun x H1=>tb σ H1 fun y H2=>R x y H2) {Q:δ} {f:Value->Value->Sem Value}
  (hf:∀v u s2 x y H2,Inv X pins σ H2 s2->RelV x v->RelV y u->R x y H2->aaE (aaJ X.prog X.w) X.A (f v u) Q X.xe s2):
  aaE (aaJ X.prog X.w) X.A (aaV a X.env) (fun v s₁=>aaE (aaJ X.prog X.w) X.A (aaV b X.env) (fun u s₂=>aaE (aaJ X.prog X.w) X.A (f v u) Q X.xe s₂) X.xe s₁) X.xe s:=by
 refine cI (ha pins s σ H _ I h) fun v s1 ⟨x,H1,I1,r1,q1⟩=>?_
 refine cI (hb pins s1 σ H1 _ I1 q1) fun u s2 ⟨y,H2,I2,r2,q2⟩=>?_
 exact hf v u s2 x y H2 I2 r1 r2 q2
theorem aw (ho:kc X (abv op) r)(ha:PE X a ta)(hb:PE X b tb):PE X (.BinOp a op b pos) (P1 r ta tb):=by
 intro pins s σ H Q I h
 exact wpAny_BinOp (Ue ha hb I h fun v u s2 x y H2 I2 rx ry q=>ho pins s2 σ H2 x y v u Q I2 rx ry q)
theorem SO (ho:UnR X (unaryOp op) r)(ha:PE X a ta):PE X (.UnaryOp op a pos) (tUn r ta):=by
 intro pins s σ H Q I h
 exact UnaryOp_ (cI (ha pins s σ H _ I h) fun v s1 ⟨x,H1,I1,r1,q1⟩=>ho pins s1 σ H1 x v Q I1 r1 q1)
theorem Xk {g:Int->Int->Int}
  (rule:∀(i j:Int)(t u:Tok)(s:aaH)(Q:δ)(E:δ),C i j->Q (.int (g i j) s.toks) {s with toks:=s.toks+1}->aaE (aaJ X.prog X.w) X.A (f (.int i t) (.int j u)) Q E s):
  kc X f (rI C fun i j=>.int (g i j)):=by
 intro pins s σ H x y v u Q I rx ry h
 obtain ⟨i,j,rfl,rfl,hc,q⟩:=h
 obtain ⟨t,rfl⟩:=rx
 obtain ⟨t',rfl⟩:=ry
 exact rule i j t t' s _ _ hc ⟨.int (g i j),H,I.tok _,⟨_,rfl⟩,q⟩
theorem Xl {g:Int->Int->Int}
  (rule:∀(i j:Int)(t u:Tok)(s:aaH)(Q:δ)(E:δ),Q (.int (g i j) s.toks) {s with toks:=s.toks+1}->aaE (aaJ X.prog X.w) X.A (f (.int i t) (.int j u)) Q E s):
  kc X f (P2 fun i j=>.int (g i j)):=by
 intro pins s σ H x y v u Q I rx ry h
 obtain ⟨i,j,rfl,rfl,q⟩:=h
 obtain ⟨t,rfl⟩:=rx
 obtain ⟨t',rfl⟩:=ry
 exact rule i j t t' s _ _ ⟨.int (g i j),H,I.tok _,⟨_,rfl⟩,q⟩
theorem P5 {g:Int->Int->Bool}
  (rule:∀(i j:Int)(t u:Tok)(s:aaH)(Q:δ)(E:δ),Q (.bool (g i j)) s->aaE (aaJ X.prog X.w) X.A (f (.int i t) (.int j u)) Q E s):
  kc X f (P2 fun i j=>.bl (g i j)):=by
 intro pins s σ H x y v u Q I rx ry h
 obtain ⟨i,j,rfl,rfl,q⟩:=h
 obtain ⟨t,rfl⟩:=rx
 obtain ⟨t',rfl⟩:=ry
 exact rule i j t t' s _ _ ⟨.bl (g i j),H,I,rfl,q⟩
def Xm (i j:Int):Prop:=0<=j/\j<=1000000/\i.natAbs<2^64
theorem bG:kc X (abv .Add) (P2 fun i j=>.int (i+j)):=Xl fun _ _ _ _ _ _ _ q=>add_int q
theorem cN:kc X (abv .Sub) (P2 fun i j=>.int (i-j)):=Xl fun _ _ _ _ _ _ _ q=>sub_int q
theorem P6:kc X (abv .Mod) (rI (fun _ j=>j≠0) fun i j=>.int (i.fmod j)):=Xk fun _ _ _ _ _ _ _ hc q=>mod_int' hc q
theorem Lz:kc X (abv .Pow) (rI Xm fun i j=>.int (i^j.toNat)):=Xk fun _ _ _ _ _ _ _ hc q=>pow_int_small hc.1 hc.2.1 hc.2.2 q
theorem unI {g:Int->Int}
  (rule:∀(i:Int)(t:Tok)(s:aaH)(Q:δ)(E:δ),Q (.int (g i) s.toks) {s with toks:=s.toks+1}->aaE (aaJ X.prog X.w) X.A (f (.int i t)) Q E s):
  UnR X f (rU fun i=>.int (g i)):=by
 intro pins s σ H x v Q I rx h
 obtain ⟨i,rfl,q⟩:=h
 obtain ⟨t,rfl⟩:=rx
 exact rule i t s _ _ ⟨.int (g i),H,I.tok _,⟨_,rfl⟩,q⟩
theorem LA:UnR X (unaryOp .USub) (rU fun i=>.int (-i)):=unI fun _ _ _ _ _ q=>neg_int q
end
def Xn:V->V->Bool
 | .cS,.cS=>true | .cS,.int _=>true | .int _,.cS=>true | .cS,.bl _=>true | .bl _,.cS=>true | .cS,.str _=>true | .str _,.cS=>true
 | .int _,.int _=>true | .bl _,.bl _=>true | .str _,.str _=>true | .byt _,.byt _=>true
 | .int _,.str _=>true | .str _,.int _=>true | .bl _,.str _=>true | .str _,.bl _=>true
 | _,_=>false
def rEq:R2:=fun x y H Q=>Xn x y=true/\Q (.bl (decide (x=y))) H
def rNe:R2:=fun x y H Q=>Xn x y=true/\Q (.bl (!decide (x=y))) H
theorem DA :decide (V.int i=V.int j)=(i==j):=by
 rw [afk]
 simp
theorem LB :decide (V.bl i=V.bl j)=(i==j):=by
 rw [afk]
 simp
theorem DB :decide (V.str i=V.str j)=(i==j):=by
 rw [afk]
 simp
theorem DC :decide (V.byt i=V.byt j)=(i.toList==j.toList):=by
 rw [afk]
 cases i
 cases j
 simp
section
variable {X:Cx}{a b c:Expr}{ta tb tc:TE}{pos:Pos}
theorem bE {σ:St}(I:Inv X pins σ H s)(q:Q (.bl k) H)(e:k=k'):EP X pins σ Q (.bool k') s:=by
 subst e
 exact ⟨.bl k,H,I,rfl,q⟩
theorem eR:kc X (aba .Eq) rEq:=by
 intro pins s σ H x y v u Q I rx ry h
 obtain ⟨hs,q⟩:=h
 cases x with
 | cS=>
  cases rx
  cases y with
  | cS=>cases ry;exact PySem.EqNone.eq_none_none (bE I q (by simp))
  | bl j=>cases ry;exact PySem.EqNone.eq_none_bool (bE I q (by simp))
  | int j=>obtain ⟨t',rfl⟩:=ry;exact PySem.EqNone.eq_none_int (bE I q (by simp))
  | str j=>obtain ⟨t',rfl⟩:=ry;exact PySem.EqNone.eq_none_str (bE I q (by simp))
  | _=>exact aaM (show false=true from hs) adx
 | bl i=>
  cases rx
  cases y with
  | cS=>cases ry;exact PySem.EqNone.eq_bool_none (bE I q (by simp))
  | bl j=>cases ry;exact eq_bool (bE I q LB)
  | str j=>obtain ⟨t',rfl⟩:=ry;exact PySem.EqMixed.eq_bool_str (bE I q (by simp))
  | _=>exact aaM (show false=true from hs) adx
 | int i=>
  obtain ⟨t,rfl⟩:=rx
  cases y with
  | cS=>cases ry;exact PySem.EqNone.eq_int_none (bE I q (by simp))
  | int j=>obtain ⟨t',rfl⟩:=ry;exact eq_int (bE I q DA)
  | str j=>obtain ⟨t',rfl⟩:=ry;exact PySem.EqMixed.eq_int_str (bE I q (by simp))
  | _=>exact aaM (show false=true from hs) adx
 | str i=>
  obtain ⟨t,rfl⟩:=rx
  cases y with
  | cS=>cases ry;exact PySem.EqNone.eq_str_none (bE I q (by simp))
  | bl j=>cases ry;exact PySem.EqMixed.eq_str_bool (bE I q (by simp))
  | int j=>obtain ⟨t',rfl⟩:=ry;exact PySem.EqMixed.eq_str_int (bE I q (by simp))
  | str j=>obtain ⟨t',rfl⟩:=ry;exact eq_str (bE I q DB)
  | _=>exact aaM (show false=true from hs) adx
 | byt i=>
  obtain ⟨t,rfl⟩:=rx
  cases y with
  | byt j=>obtain ⟨t',rfl⟩:=ry;exact PySem.W.eq_bytes (bE I q DC)
  | _=>exact aaM (show false=true from hs) adx
 | _=>cases y<;>exact aaM (show false=true from hs) adx
theorem ma:kc X (aba .NotEq) rNe:=by
 intro pins s σ H x y v u Q I rx ry h
 obtain ⟨hs,q⟩:=h
 cases x with
 | cS=>
  cases rx
  cases y with
  | cS=>cases ry;exact PySem.EqNone.ne_none_none (bE I q (by simp))
  | bl j=>cases ry;exact PySem.EqNone.ne_none_bool (bE I q (by simp))
  | int j=>obtain ⟨t',rfl⟩:=ry;exact PySem.EqNone.ne_none_int (bE I q (by simp))
  | str j=>obtain ⟨t',rfl⟩:=ry;exact PySem.EqNone.ne_none_str (bE I q (by simp))
  | _=>exact aaM (show false=true from hs) adx
 | bl i=>
  cases rx
  cases y with
  | cS=>cases ry;exact PySem.EqNone.ne_bool_none (bE I q (by simp))
  | bl j=>cases ry;exact ne_bool (bE I q (aaQ not LB))
  | str j=>obtain ⟨t',rfl⟩:=ry;exact PySem.EqMixed.ne_bool_str (bE I q (by simp))
  | _=>exact aaM (show false=true from hs) adx
 | int i=>
  obtain ⟨t,rfl⟩:=rx
  cases y with
  | cS=>cases ry;exact PySem.EqNone.ne_int_none (bE I q (by simp))
  | int j=>obtain ⟨t',rfl⟩:=ry;exact ne_int (bE I q (aaQ not DA))
  | str j=>obtain ⟨t',rfl⟩:=ry;exact PySem.EqMixed.ne_int_str (bE I q (by simp))
  | _=>exact aaM (show false=true from hs) adx
 | str i=>
  obtain ⟨t,rfl⟩:=rx
  cases y with
  | cS=>cases ry;exact PySem.EqNone.ne_str_none (bE I q (by simp))
  | bl j=>cases ry;exact PySem.EqMixed.ne_str_bool (bE I q (by simp))
  | int j=>obtain ⟨t',rfl⟩:=ry;exact PySem.EqMixed.ne_str_int (bE I q (by simp))
  | str j=>obtain ⟨t',rfl⟩:=ry;exact ne_str (bE I q (aaQ not DB))
  | _=>exact aaM (show false=true from hs) adx
 | byt i=>
  obtain ⟨t,rfl⟩:=rx
  cases y with
  | byt j=>obtain ⟨t',rfl⟩:=ry;exact PySem.W.ne_bytes (bE I q (aaQ not DC))
  | _=>exact aaM (show false=true from hs) adx
 | _=>cases y<;>exact aaM (show false=true from hs) adx
theorem qA:kc X (aba .Lt) (P2 fun i j=>.bl (decide (i<j))):=P5 fun _ _ _ _ _ _ _ q=>lt_int q
theorem Xo:kc X (aba .LtE) (P2 fun i j=>.bl (decide (i<=j))):=P5 fun _ _ _ _ _ _ _ q=>le_int q
theorem LC:kc X (aba .Gt) (P2 fun i j=>.bl (decide (j<i))):=P5 fun _ _ _ _ _ _ _ q=>gt_int q
theorem SQ:kc X (aba .GtE) (P2 fun i j=>.bl (decide (j<=i))):=P5 fun _ _ _ _ _ _ _ q=>ge_int q
theorem LD:kc X (aba .Is) (fun x y H Q=>y=.cS/\Q (.bl (decide (x=.cS))) H):=by
 intro pins s σ H x y v u Q I rx ry h
 obtain ⟨rfl,q⟩:=h
 cases ry
 refine is_none_gen (bE I q ?_)
 cases x<;>first
  | (cases rx;rfl)
  | (obtain ⟨t,rfl⟩:=rx;rfl)
theorem P7:kc X (aba .IsNot) (fun x y H Q=>y=.cS/\Q (.bl (!decide (x=.cS))) H):=by
 intro pins s σ H x y v u Q I rx ry h
 obtain ⟨rfl,q⟩:=h
 cases ry
 refine isnot_none_gen (bE I q ?_)
 cases x<;>first
  | (cases rx;rfl)
  | (obtain ⟨t,rfl⟩:=rx;rfl)
theorem qB (b:Expr)(h:op≠.In:=by decide)(h2:op≠.NotIn:=by decide):acw op b=false:=by
 have e1:(op==CmpOp.In)=false:=by cases op<;>first|rfl|exact aaM rfl h
 have e2:(op==CmpOp.NotIn)=false:=by cases op<;>first|rfl|exact aaM rfl h2
 cases b<;>simp [acw,e1,e2]
theorem pS (ho:kc X (aba op) r)(ha:PE X a ta)(hb:PE X b tb)(hm:acw op b=false):PE X (.Compare a [op] [b] pos) (P1 r ta tb):=by
 intro pins s σ H Q I h
 exact wpAny_Compare1 (Ue ha hb I h fun v u s2 x y H2 I2 rx ry q=>ho pins s2 σ H2 x y v u Q I2 rx ry q) hm
inductive LF (Q:(Bool->Hp->Prop))(x:V)(H':Hp):Prop
|mk (k:_)(_:x=.bl k)(_:Q k H')
def SR (t:TE):TT:=fun σ H Q=>t σ H fun x H'=>LF Q x H'
theorem pU (ho:kc X (aba op) r)(ha:PE X a ta)(hb:PE X b tb)(hm:acw op b=false):PT X (.Compare a [op] [b] pos) (SR (P1 r ta tb)):=by
 intro pins s σ H Q I h
 refine wpAny_isTrue_Compare1 (cI (ha pins s σ H _ I h) fun v s1 ⟨x,H1,I1,r1,q1⟩=>cI (hb pins s1 σ H1 _ I1 q1) fun u s2 ⟨y,H2,I2,r2,q2⟩=>
  cI (ho pins s2 σ H2 x y v u _ I2 r1 r2 q2) fun c s3 ⟨z,H3,I3,r3,k,e,q3⟩=>?_) hm
 subst e
 cases r3
 exact abD ⟨H3,I3,q3⟩
theorem qC:(aaD:Nat)<2^63:=by rw [sizeLine_eq];decide
theorem kQ:kc X (abv .Add) (fun x y H Q=>∃i j,x=.str i/\y=.str j/\i.length+j.length<=aaD/\Q (.str (i++j)) H):=by
 intro pins s σ H x y v u Q I rx ry h
 obtain ⟨i,j,rfl,rfl,hz,q⟩:=h
 obtain ⟨t,rfl⟩:=rx
 obtain ⟨t',rfl⟩:=ry
 exact add_str (fun t' tk=>⟨.str (i++j),H,I.tok _,⟨_,rfl⟩,q⟩) hz
theorem vals1 {us:ρ}(r:Vals [x] us):∃u,us=[u]/\RelV x u:=by
 cases r with
 | cons r1 r2=>cases r2;exact ⟨_,rfl,r1⟩
theorem vals2 {us:ρ}(r:Vals [x,y] us):∃u w',us=[u,w']/\RelV x u/\RelV y w':=by
 cases r with
 | cons r1 r2=>
  cases r2 with
  | cons r3 r4=>cases r4;exact ⟨_,_,rfl,r1,r3⟩
theorem xA:iL X (.builtin "abs") (fun xs H Q=>∃i,xs=[.int i]/\Q (.int (if i<0 then -i else i)) H):=by
 intro pins s σ H xs us Q I r h
 obtain ⟨i,rfl,q⟩:=h
 obtain ⟨u,rfl,t,rfl⟩:=vals1 r
 exact call_abs_int fun u tk=>⟨.int (if i<0 then -i else i),H,I.tok _,⟨_,rfl⟩,q⟩
theorem u3:iL X (.type "str") (fun xs H Q=>∃i,xs=[.int i]/\i.natAbs.log2<1920/\Q (.str (toString i)) H):=by
 intro pins s σ H xs us Q I r h
 obtain ⟨i,rfl,hz,q⟩:=h
 obtain ⟨u,rfl,t,rfl⟩:=vals1 r
 exact PySem.P.str_of_int hz ⟨.str _,H,I.tok _,⟨_,rfl⟩,q⟩
end
end L2
namespace L2
open PySem PySem.Spec PyProof.Rows
structure zZ (h:Heap)(x dx C:aaz)(mA:θ):Prop where
 obj:h.get? x=some (aa2 C dx)
 ns:h.Ns1 dx mA
 ne:dx≠x
theorem F_ {h:Heap}{mA:θ}(n:h.Ns1 dx mA):∃od,h.get? dx=some od/\∀name,ahl name od=some (mA name):=by
 obtain ⟨o,es,ep,ho,hd,hk,_,hm⟩:=n
 refine ⟨o,ho,fun name=>?_⟩
 have e:=hm name
 unfold nsFind findBy at e
 rw [<-Array.find?_toList] at e
 unfold ahl
 rw [hd]
 dsimp only
 split
 ·rename_i y q
  rw [q] at e
  exact aaQ some e
 ·rename_i q
  rw [q] at e
  have a:es.toList.any (·.refKey)=false:=by
   rw [List.any_eq_false]
   intro y hy
   obtain ⟨z,t,LG⟩:=hk y (Array.mem_toList_iff.mp hy)
   simp [DictEntry.refKey,LG]
  have a':¬ es.toList.any (·.refKey)=true:=by rw [a];exact adx
  rw [aaA a']
  exact aaQ some e
theorem zZ.look (I:zZ h x dx C mA):∃od,PySem.W.InstAt h x (aa2 C dx) C (some od)/\∀name,ahl name od=some (mA name):=
 let ⟨od,ho,hl⟩:=F_ I.ns
 ⟨od,⟨I.obj,rfl,rfl,ho⟩,hl⟩
section
variable {prog:aaP}{w:World}{A:aaT}{E:δ}{s:aaH}{K:Frag}{x dx C f:aaz}{mA:θ}{name:Str}{v:Value}
theorem get_map {Q:δ}(X:K.In s.heap)(I:zZ s.heap x dx C mA)(hg:abm K C name=true)(hh:abt K C=true)
  (ha:aaR K (.ref C) name=some none) (hv:mA name=some v) (Ug :PySem.W.handedIn v=true) (h:Q v {s with toks:=s.toks+1}):
  aaE (aaJ prog w) A (getAttr (.ref x) name expr) Q E s:=by
 obtain ⟨od,J,hl⟩:=I.look
 exact PySem.W.get_value X J (PySem.W.plainGet_of hg).1 (PySem.W.findObj_own hh ha rfl (by rw [hl,hv])) Ug h
theorem LH (X:K.In s.heap)(I:zZ s.heap x dx C mA)(hg:abm K C name=true)
  (hf:aaR K (.ref C) name=some (some (.ref f))) (ht:ahh K (.ref f)=true) (hv:mA name=none) (h:Q (.ref f,[.ref x]) s):
  aaE (aaJ prog w) A (getMethod (.ref x) name pl) Q E s:=by
 obtain ⟨od,J,hl⟩:=I.look
 exact PySem.W.method_fn X J (PySem.W.plainGet_of hg).1 (PySem.W.plainGet_of hg).2 hf (beq_iff_eq.mp ht) (by show (ahl name od).map (·.isSome)=some false;rw [hl,hv];rfl) h
theorem P8 {ns:ς}(X:K.In s.heap)(I:zZ s.heap x dx C mA)
  (hs:aaR K (.ref C) "__setattr__"=some (some (.builtin "object.__setattr__"))) (hp:abF K C=true) (ht:PySem.W.takerIn K C name=some none) (hh:abt K C=true)
  (hw:PySem.Within mA ns) (hsz:ns.length<=aaD)
  (h:∀h',zZ h' x dx C (fun y=>if y=name then some v else mA y)->abl dx s.heap h' ->Q () {s with heap:=h',toks:=s.toks+2}):
  aaE (aaJ prog w) A (setAttr (.ref x) name v) Q E s:=by
 obtain ⟨od,J,hl⟩:=I.look
 refine PySem.W.set_plain X J hs (PySem.W.osa_open (s:={s with toks:=s.toks+1}) (r:=none) X J hp ht fun b=>?_)
 obtain ⟨cd,hc,PQ⟩:=PySem.W.any_some hh
 have hx:s.heap.get? x=some ⟨.ref C,some dx,.plain, #[]⟩:=I.obj
 refine aay (aaF (aay (aay (wpAny_loadPart hx (aay (PySem.W.Looks.here (s:={s with toks:=s.toks+1}) (PySem.W.looks_clsIn X hc) ?_))))))
 rw [PQ]
 refine aaF (a:=some dx) (aay (aaF (aay ?_)))
 refine wpAny_nsSet1 (s:={s with toks:=s.toks+1}) I.ns fun h' Wq DE=>?_
 obtain ⟨oD,esD,epD,hoD,hdD,hcD⟩:=Wq.count (PySem.Within.cons name v hw)
 refine aay (wpAny_lookBehind hoD (by rw [hdD];exact pastItsLine_dict (aav hcD (by rw [adJ];omega))) ?_)
 exact aaF (h _ ⟨(DE.2 _ (adO I.ne)).trans I.obj,Wq,I.ne⟩ DE)
theorem LI {R:Υ}{vs:ρ}{kw:Χ}(X:K.In s.heap)(hm:abo K C=true)
  (hi:aaR K (.ref C) "__init__"=some (some (.ref f))) (hf:PySem.W.typeIn K (.ref f)=some (.type "function"))
  (h:abw (aaJ prog w) (A.under (.builtin "type.__call__" ⟨.ref C::vs,kw⟩)) (.call (.ref f) ⟨.ref (s.heap.objs.size+1)::vs,kw⟩) (PySem.W.InitBack (s.heap.objs.size+1) R)
   {s with heap:=(s.heap.push aaZ).push (aa2 C s.heap.objs.size)}):
  abw (aaJ prog w) A (.call (.ref C) ⟨vs,kw⟩) R s:=by
 obtain ⟨hh,g,d,t,os⟩:=s
 exact PySem.W.make_core (PySem.W.makes_of X hm) (PySem.W.looks_findIn X hi) (fun self=>PySem.W.bind_fn X self hf) (.inl rfl) h
theorem F' {R:Υ}(X:K.In s.heap)(hm:abo K C=true)
  (hi:aaR K (.ref C) "__init__"=some (some (.builtin "object.__init__")))
  (hb:∀self,PySem.W.Looks (aaJ prog w) s.heap (bindSpecial (.builtin "object.__init__") self) (.builtin "object.__init__",[self]))
  (h:abw (aaJ prog w) (A.under (.builtin "type.__call__" ⟨[.ref C],[]⟩)) (.call (.builtin "object.__init__") ⟨[.ref (s.heap.objs.size+1)],[]⟩) (PySem.W.InitBack (s.heap.objs.size+1) R)
   {s with heap:=(s.heap.push aaZ).push (aa2 C s.heap.objs.size)}):
  abw (aaJ prog w) A (.call (.ref C) ⟨[],[]⟩) R s:=by
 obtain ⟨hh,g,d,t,os⟩:=s
 exact PySem.W.make_core (PySem.W.makes_of X hm) (PySem.W.looks_findIn X hi) hb (.inr ⟨rfl,rfl⟩) h
end
def ft (f:Str)(v:V):List (Str×V)->List (Str×V)
 | []=>[(f,v)]
 | (g,x)::r=>if g=f then (g,v)::r else (g,x)::ft f v r
theorem oz (f g:Str)(v:V):∀fs:List (Str×V),(ft f v fs).lookup g=if g=f then some v else fs.lookup g
 | []=>by
  show aeO g [(f,v)]=_
  by_cases h:g=f
  ·have hb:(g==f)=true:=beq_iff_eq.mpr h
   simp only [aeO,hb,aaC h]
  ·have hb:(g==f)=false:=beq_eq_false_iff_ne.mpr h
   simp only [aeO,hb,aaA h]
 | (k,x)::r=>by
  have ih:=oz f g v r
  rw [show ft f v ((k,x)::r)=(if k=f then (k,v)::r else (k,x)::ft f v r) from rfl]
  by_cases hk:k=f
  ·rw [aaC hk]
   by_cases h:g=k
   ·have hb:(g==k)=true:=beq_iff_eq.mpr h
    simp only [aeO,hb,aaC (h.trans hk)]
   ·have hb:(g==k)=false:=beq_eq_false_iff_ne.mpr h
    simp only [aeO,hb,aaA (fun e:g=f=>h (e.trans hk.symm))]
  ·rw [aaA hk]
   by_cases h:g=k
   ·have hb:(g==k)=true:=beq_iff_eq.mpr h
    simp only [aeO,hb,aaA (fun e:g=f=>hk (h.symm.trans e))]
   ·have hb:(g==k)=false:=beq_eq_false_iff_ne.mpr h
    simp only [aeO,hb]
    exact ih
theorem m9 (f:Str)(v:V):∀fs:List (Str×V),f∈(ft f v fs).map (·.1)/\∀g,g∈fs.map (·.1)->g∈(ft f v fs).map (·.1)
 | []=>⟨by simp [ft],fun g h=>by simp at h⟩
 | (k,x)::r=>by
  obtain ⟨i1,i2⟩:=m9 f v r
  rw [show ft f v ((k,x)::r)=(if k=f then (k,v)::r else (k,x)::ft f v r) from rfl]
  by_cases hk:k=f
  ·rw [aaC hk]
   subst hk
   exact ⟨by simp,fun g h=>by simpa using h⟩
  ·rw [aaA hk]
   refine ⟨?_,fun g h=>?_⟩
   ·rw [aau]
    exact aaw _ i1
   ·rw [aau] at h ⊢
    rcases adD.mp h with e|e
    ·exact adD.mpr (.inl e)
    ·exact aaw _ (i2 g e)
theorem oA (f:Str)(v:V):∀fs:List (Str×V),(ft f v fs).length<=fs.length+1
 | []=>by simp [ft]
 | (k,x)::r=>by
  have ih:=oA f v r
  rw [show ft f v ((k,x)::r)=(if k=f then (k,v)::r else (k,x)::ft f v r) from rfl]
  by_cases hk:k=f
  ·rw [aaC hk,adJ,adJ];omega
  ·rw [aaA hk,adJ,adJ];omega
theorem jo.some_of (r:jo (some v) o):∃u,o=some u/\RelV v u:=by
 cases o with
 | none=>exact (show False from r).elim
 | some u=>exact ⟨u,rfl,r⟩
theorem jo.none_of (r:jo none o):o=none:=by
 cases o with
 | none=>rfl
 | some u=>exact (show False from r).elim
theorem GB (r:RelV v u):PySem.W.handedIn u=true:=by
 cases v with
 | cS=>cases (show u=Value.none from r);rfl
 | bl b=>cases (show u=Value.bool b from r);rfl
 | int i=>obtain ⟨t,e⟩:=(show ∃t,u=Value.int i t from r);cases e;rfl
 | str x=>obtain ⟨t,e⟩:=(show ∃t,u=Value.str x t from r);cases e;rfl
 | byt b=>obtain ⟨t,e⟩:=(show ∃t,u=Value.bytes b t from r);cases e;rfl
 | T3 b=>obtain ⟨t,e⟩:=(show ∃t,u=Value.float b t from r);cases e;rfl
 | ref a=>cases (show u=Value.ref a from r);rfl
 | ty n=>cases (show u=Value.type n from r);rfl
section
variable {P:aaP}{w:World}{H H':Hp}{h h':Heap}{a C dx:aaz}{fs fs':List (Str×V)}
theorem pV (bH:kA P w H h)(e:H a=some (.ins C dx fs)):∃mA,zZ h a dx C mA/\(∀f,jo (fs.lookup f) (mA f))/\PySem.Within mA (fs.map (·.1))/\fs.length<=1000/\H dx=some (.own a):=by
 obtain ⟨d,z,ne,ob,mA,n,r,q⟩:=(show cT P w H h a (.ins C dx fs) from bH a _ e)
 exact ⟨mA,⟨ob,n,ne⟩,r,q,z,d⟩
end
structure xB (K:Frag)(C:aaz):Prop where
 pg:abm K C Str.empty=true
 hd:abt K C=true
 po:abF K C=true
 sa:aaR K (.ref C) "__setattr__"=some (some (.builtin "object.__setattr__"))
theorem xB.get {K:Frag}(c:xB K C)(f:Str):abm K C f=true:=c.pg
def gM (K:Frag)(C:aaz)(f:Str):Prop:=aaR K (.ref C) f=some none
theorem gM.Xp {K:Frag}(n:gM K C f):PySem.W.takerIn K C f=some none:=by
 unfold PySem.W.takerIn
 rw [show aaR K (.ref C) f=some none from n]
 rfl
structure Meth (K:Frag)(C:aaz)(m:Str)(f:aaz):Prop where
 at_:aaR K (.ref C) m=some (some (.ref f))
 fn:ahh K (.ref f)=true
 kp:keepIn K (.ref f)=true
section
variable {X:Cx}{pins:ε}{σ:St}{H:Hp}{s:aaH}{a C dx:aaz}{fs:List (Str×V)}{f:Str}{v:V}{A:aaT}{E:δ}
theorem z9 {Q:δ}(I:Inv X pins σ H s)(e:H a=some (.ins C dx fs))(c:xB X.K C)(n:gM X.K C f)(l:fs.lookup f=some v)
  (h:∀u s',Inv X pins σ H s' ->RelV v u->Q u s'):aaE (aaJ X.prog X.w) A (getAttr (.ref a) f b) Q E s:=by
 obtain ⟨mA,O,r,_,_,_⟩:=pV I.bH e
 obtain ⟨u,hu,ru⟩:=jo.some_of (v:=v) (o:=mA f) (by rw [<-l];exact r f)
 exact get_map I.kK O (c.get f) c.hd n hu (GB ru) (h u _ (I.tok _) ru)
theorem kR (I:Inv X pins σ H s)(e:H a=some (.ins C dx fs))(c:xB X.K C)(k:Meth X.K C m g)(l:fs.lookup m=none)
  (h:Q (.ref g,[.ref a]) s):aaE (aaJ X.prog X.w) A (getMethod (.ref a) m pl) Q E s:=by
 obtain ⟨mA,O,r,_,_,_⟩:=pV I.bH e
 have hn:mA m=none:=jo.none_of (by rw [<-l];exact r m)
 exact LH I.kK O (c.get m) k.at_ k.fn hn h
theorem z_ (I:Inv X pins σ H s)(e:H a=some (.ins C dx fs))(c:xB X.K C)(n:gM X.K C f)(hl:fs.length<1000)(ry:RelV y u)
  (h:∀s',Inv X pins σ (upd H a (.ins C dx (ft f y fs))) s' ->Q () s'):aaE (aaJ X.prog X.w) A (setAttr (.ref a) f u) Q E s:=by
 obtain ⟨mA,O,r,wi,_,ho⟩:=pV I.bH e
 have hz:(fs.map (·.1)).length<=aaD:=by rw [be,sizeLine_eq];omega
 refine P8 I.kK O c.sa c.po n.Xp c.hd wi hz fun h' O' sb=>h _ ?_
 have hd:∃o,h'.get? dx=some o:=let ⟨o,_,_,e',_⟩:=O'.ns;⟨o,e'⟩
 refine I.write (x:=a) (e:=dx) (by rw [e];exact True.intro) (.inr ho) (fun b q hb z=>(sb.2 b hb).trans z) hd ?_
 refine ⟨by rw [aj O.ne];exact ho,?_,O.ne,O'.obj,_,O'.ns,fun g=>?_,fun g hg=>?_⟩
 ·have:=oA f y fs;omega
 ·show jo ((ft f y fs).lookup g) (if g=f then some u else mA g)
  rw [oz]
  by_cases q:g=f
  ·rw [aaC q,aaC q];exact ry
  ·rw [aaA q,aaA q];exact r g
 ·by_cases q:g=f
  ·rw [q];exact (m9 f y fs).1
  ·refine (m9 f y fs).2 g (wi g fun z=>hg ?_)
   show (if g=f then some u else mA g)=none
   rw [aaA q];exact z
theorem Inv.made (I:Inv X pins σ H s):Inv X pins σ (upd (upd H s.heap.objs.size (.own (s.heap.objs.size+1))) (s.heap.objs.size+1) (.ins C s.heap.objs.size []))
  {s with heap:=(s.heap.push aaZ).push (aa2 C s.heap.objs.size)}:=by
 have e1:(s.heap.push aaZ).get? s.heap.objs.size=some aaZ:=aaL s.heap rfl
 have e2:((s.heap.push aaZ).push (aa2 C s.heap.objs.size)).get? (s.heap.objs.size+1)=some (aa2 C s.heap.objs.size):=by
  have:=aaL (s.heap.push aaZ) (o:=aa2 C s.heap.objs.size) rfl
  rwa [abb] at this
 have e3:(s.heap.push aaZ).Ns s.heap.objs.size (fun _=>none):=⟨aaZ, #[],_,e1,rfl,(fun e he=>aaM he (by simp)),fun _=>rfl⟩
 have I1:=I.laid (a:=s.heap.objs.size) (o:=.own (s.heap.objs.size+1)) (h':=s.heap.push aaZ) (t':=s.toks) (fun b u q=>aaB _ q) (aa_ _) ⟨_,e1⟩
 refine I1.laid (a:=s.heap.objs.size+1) (o:=.ins C s.heap.objs.size []) (t':=s.toks) (fun b u q=>aaB _ q) (agJ (abb _ _)) ?_
 have ne:s.heap.objs.size≠s.heap.objs.size+1:=adK (adY _)
 refine ⟨by rw [aj ne,ah],adS _,ne,e2,fun _=>none,(Heap.Ns1.of_empty e3).at fun o q=>aaB _ q,fun _=>True.intro,fun y hy=>aaM rfl hy⟩
theorem P9 {Q:δ}(hb:acF e f env (aaV e env)=aaV e env)
  (h:aaE (aaJ prog w) A (aaV e env) (fun o s₁=>aaE (aaJ prog w) A (getAttr o f true) Q E s₁) E s):aaE (aaJ prog w) A (aaV (.Attribute e f pos) env) Q E s:=
 Attribute_any_ h (by rw [arm_eval_Attribute,hb])
end
inductive SS (K:Frag)(f:Str)(Q:VK)(x:V)(H1:Hp):Prop
|mk (a C dx fs v:_)(_:x=.ref a)(_:H1 a=some (.ins C dx fs))(_:xB K C)(_:gM K C f)(_:fs.lookup f=some v)(_:Q v H1)
def aey (K:Frag)(ta:TE)(f:Str):TE:=fun σ H Q=>ta σ H fun x H1=>SS K f Q x H1
inductive SU (K:Frag)(f:Str)(D:Ends)(σ:St)(y:V)(x:V)(H2:Hp):Prop
|mk (a C dx fs:_)(_:x=.ref a)(_:H2 a=some (.ins C dx fs))(_:xB K C)(_:gM K C f)(_:fs.length<1000)(_:D.nx σ (upd H2 a (.ins C dx (ft f y fs))))
def aez (K:Frag)(ta tv:TE)(f:Str):TS:=fun D σ H=>tv σ H fun y H1=>ta σ H1 fun x H2=>SU K f D σ y x H2
section
variable {X:Cx}{o e value:Expr}{f:Str}{pos pos' u4:Pos}{ta tv:TE}
theorem d6 (he:PE X e ta)(hb:acF e f X.env (aaV e X.env)=aaV e X.env):PE X (.Attribute e f pos) (aey X.K ta f):=by
 intro pins s σ H Q I h
 refine P9 hb (cI (he pins s σ H _ I h) fun u s1 ⟨x,H1,I1,rx,a,C,dx,fs,v,ex,ea,c,n,l,q⟩=>?_)
 subst ex
 obtain rfl:u=Value.ref a:=rx
 exact z9 I1 ea c n l fun u' s2 I2 ru=>⟨v,H1,I2,ru,q⟩
theorem u5 (ha:PE X o ta)(hv:PE X value tv)(hs:acn value (some (.Attribute o f pos')) pos.line X.env=pure false):PS X (.Assign [.Attribute o f pos'] value pos) (aez X.K ta tv f):=by
 intro pins s σ H D I h
 refine plainObj_wpAny_Assign_Attribute (cI (hv pins s σ H _ I h) fun u s1 ⟨y,H1,I1,ry,q⟩=>cI (ha pins s1 σ H1 _ I1 q) fun ov s2 ⟨x,H2,I2,rx,a,C,dx,fs,ex,ea,c,n,l,q2⟩=>?_) hs
 subst ex
 obtain rfl:ov=Value.ref a:=rx
 exact z_ I2 ea c n l ry fun s3 I3=>⟨σ,_,I3,q2⟩
end
section
variable {X:Cx}{pins:ε}{σ:St}{H:Hp}{s:aaH}{A:aaT}{E:δ}{Q:δ}{c:Value}{b:Bool}
inductive m_ (K:Frag)(H:Hp):V->Value->Prop where
 | cS:m_ K H .cS (.type "NoneType")
 | bl (x:Bool):m_ K H (.bl x) (.type "bool")
 | int (i:Int):m_ K H (.int i) (.type "int")
 | str (x:Str):m_ K H (.str x) (.type "str")
 | T3 (x:UInt64):m_ K H (.T3 x) (.type "float")
 | lst {a:aaz} {xs:η} (e:H a=some (.lst xs)):m_ K H (.ref a) (.type "list")
 | fq {a:aaz} {o:Obj} {xs:η} (e:H a=some (.fq o (.lst xs))):m_ K H (.ref a) (.type "list")
 | tup {a:aaz} {xs:η} (e:H a=some (.tup xs)):m_ K H (.ref a) (.type "tuple")
 | dK {a:aaz} {kvs:γ} (e:H a=some (.dK kvs)):m_ K H (.ref a) (.type "dict")
 | dT {a:aaz} {kvs:Ρ} (e:H a=some (.dT kvs)):m_ K H (.ref a) (.type "dict")
 | ins {a C dx:aaz} {fs:List (Str×V)} (e:H a=some (.ins C dx fs)) (cl:xB K C) (ha:aaR K (.ref C) "__class__"=some (some (.builtin "object.__class__")))
   (hn:PySem.W.specialIn K (.builtin "object.__class__") "__get__"=some (some (.builtin "getset_descriptor.__get__"))) (htk:PySem.W.takesIn K (.builtin "object.__class__")=some true)
   (hm:PySem.W.mroIn K C (.type "object")=some true):m_ K H (.ref a) (.ref C)
theorem GG (I:Inv X pins σ H s)(rx:RelV x u)(ty:m_ X.K H x t)(e:aa4 X.K t c=some b)(h:∀tk,Q (.bool b) {s with toks:=tk}):
  aaE (aaJ X.prog X.w) A (call (.builtin "isinstance") [u,c]) Q E s:=by
 cases ty with
 | cS=>cases (show u=Value.none from rx);exact aa8 PySem.W.kitx_none I.kK True.intro e (fun z=>nomatch z) h
 | bl y=>cases (show u=Value.bool y from rx);exact aa8 PySem.W.kitx_bool I.kK True.intro e (fun z=>nomatch z) h
 | int i=>obtain ⟨t,q⟩:=(show ∃t,u=Value.int i t from rx);cases q;exact aa8 PySem.W.kitx_int I.kK True.intro e (fun z=>nomatch z) h
 | str y=>obtain ⟨t,q⟩:=(show ∃t,u=Value.str y t from rx);cases q;exact aa8 PySem.W.kitx_str I.kK True.intro e (fun z=>nomatch z) h
 | T3 y=>obtain ⟨t,q⟩:=(show ∃t,u=Value.float y t from rx);cases q;exact aa8 PySem.W.kitx_float I.kK True.intro e (fun z=>nomatch z) h
 | @lst a xs ea=>
  cases (show u=Value.ref a from rx)
  obtain ⟨_,_,n,_,h1⟩:=(show cT X.prog X.w H s.heap a (.lst xs) from I.bH a _ ea)
  exact aa8 PySem.W.kitx_list I.kK ⟨_,h1,rfl⟩ e (fun z=>nomatch z) h
 | @fq a ob xs ea=>
  cases (show u=Value.ref a from rx)
  obtain ⟨_,_,_,n,_,h1⟩:=(show cT X.prog X.w H s.heap a (.fq ob (.lst xs)) from I.bH a _ ea)
  exact aa8 PySem.W.kitx_list I.kK ⟨_,h1,rfl⟩ e (fun z=>nomatch z) h
 | @tup a xs ea=>
  cases (show u=Value.ref a from rx)
  obtain ⟨_,_,_,p⟩:=(show cT X.prog X.w H s.heap a (.tup xs) from I.bH a _ ea)
  obtain ⟨o,h1,h2,_⟩:=p
  exact aa8 PySem.W.kitx_tuple I.kK ⟨o,h1,h2⟩ e (fun z=>nomatch z) h
 | @dK a kvs ea=>
  cases (show u=Value.ref a from rx)
  obtain ⟨_,_,vs,_,p⟩:=(show cT X.prog X.w H s.heap a (.dK kvs) from I.bH a _ ea)
  obtain ⟨o,es,ep,h1,h2,_⟩:=p
  exact aa8 PySem.W.kitx_dict I.kK ⟨o,h1,h2.1⟩ e (fun z=>nomatch z) h
 | @dT a kvs ea=>
  cases (show u=Value.ref a from rx)
  obtain ⟨_,_,xs,_,o,es,ep,h1,h2,_⟩:=(show cT X.prog X.w H s.heap a (.dT kvs) from I.bH a _ ea)
  exact aa8 PySem.W.kitx_dict I.kK ⟨o,h1,h2.1⟩ e (fun z=>nomatch z) h
 | @ins a C dx fs ea cl ha hn htk hm=>
  cases (show u=Value.ref a from rx)
  obtain ⟨mA,O,_⟩:=pV I.bH ea
  obtain ⟨od,J,_⟩:=O.look
  exact aa8 (PySem.W.kitx_own (cl.get _) cl.hd ha hn htk hm) I.kK J e (fun z=>nomatch z) h
end
end L2
namespace L2
open PySem PySem.Spec PyProof.Rows
structure cy (k:Nat)(A:aaT):Prop where
 hd:A.handled=none
 dp:A.depth+3*k+5<ahn
 un:A.units+16*k+200<abG
theorem cy.mono (r:cy k A)(h:j<=k):cy j A:=⟨r.hd,by have:=r.dp;omega,by have:=r.un;omega⟩
theorem cy.deeper (r:cy (k+1) A)(env:Env):cy k (A.deeper env):=
 ⟨r.hd,by have:=r.dp;show A.depth+1+3*k+5<_;omega,by have:=r.un;show A.units+3+16*k+200<_;omega⟩
theorem AA {A:aaT}{us:ρ}{kw:Χ}:(A.under (.builtin "type.__call__" ⟨.ref C::us,kw⟩)).depth=A.depth+1:=by
 first|rfl|simp [Around.under,Code.weight,Code.isCreation,Code.isGuard,Code.isCaller,Code.frames,Code.isFrame,guardIds]
theorem AB {A:aaT}{us:ρ}{kw:Χ}:(A.under (.builtin "type.__call__" ⟨.ref C::us,kw⟩)).units=A.units+1:=by
 first|rfl|simp [Around.under,Code.cUnits,Code.frames,Code.isFrame]
theorem cy.make (r:cy (k+1) A)(C:aaz)(us:ρ)(kw:Χ):cy k (A.under (.builtin "type.__call__" ⟨.ref C::us,kw⟩)):=
 ⟨r.hd,by have:=r.dp;rw [AA];omega,by have:=r.un;rw [AB];omega⟩
theorem cy.depth (r:cy k A):A.depth<ahn:=by have:=r.dp;omega
theorem cy.units (r:cy k A):A.units+64<abG:=by have:=r.un;omega
def jq:TA:=fun _ H Q=>Q [] H
def oB (ta:TE)(tr:TA):TA:=fun σ H Q=>ta σ H fun x H1=>tr σ H1 fun xs H2=>Q (x::xs) H2
section
variable {X:Cx}{e:Expr}{es:Ε}{te:TE}{t:TA}{pos:Pos}
theorem jA:PA X [] jq:=fun _ _ _ _ H Q I h=>Calls.spliced_nil ⟨[],H,I,.nil,h⟩
theorem P_ (ha:PE X e te)(hr:PA X es t)(hs:aaO (e::es) X.env=(false,aaV e X.env)::aaO es X.env:=by rfl):PA X (e::es) (oB te t):=by
 intro pos pins s σ H Q I h
 rw [hs]
 show aaE _ _ (spliced ((false,aaV e X.env)::abj pos (aaO es X.env))) _ _ s
 refine abM (cI (ha pins s σ H _ I h) fun u s1 ⟨x,H1,I1,r1,q1⟩=>?_)
 exact cI (hr pos pins s1 σ H1 _ I1 q1) fun us s2 ⟨xs,H2,I2,r2,q2⟩=>⟨x::xs,H2,I2,.cons r1 r2,q2⟩
def aeA (t:TA):TE:=fun σ H Q=>t σ H fun xs H1=>xs.length<=aaD/\∀p,H1 p=none->Q (.ref p) (upd H1 p (.tup xs))
def aeB (t:TA):TE:=fun σ H Q=>t σ H fun xs H1=>xs.length<=aaD/\∀p,H1 p=none->Q (.ref p) (upd H1 p (.lst xs))
theorem aS (h:PA X es t):PE X (.Tuple es x1 pos) (aeA t):=by
 intro pins s σ H Q I hq
 refine wpAny_Tuple_spliced (cI (h pos pins s σ H _ I hq) fun us s1 ⟨xs,H1,I1,r,z,q⟩=>⟨by rw [<-r.length];exact z,?_⟩)
 have hf:H1 s1.heap.objs.size=none:=I1.bH.fresh (aa_ _)
 refine ⟨.ref s1.heap.objs.size,upd H1 s1.heap.objs.size (.tup xs),I1.laid (t':=s1.toks) (fun b u e=>aaB _ e) (aa_ _) ?_,rfl,q _ hf⟩
 exact ⟨z,us,r,⟨_,aaL _ rfl,rfl,_,rfl⟩⟩
theorem b_ (h:PA X es t):PE X (.List es pos) (aeB t):=by
 intro pins s σ H Q I hq
 refine wpAny_List_spliced (cI (h pos pins s σ H _ I hq) fun us s1 ⟨xs,H1,I1,r,z,q⟩=>⟨by rw [<-r.length];exact z,?_⟩)
 have hf:H1 s1.heap.objs.size=none:=I1.bH.fresh (aa_ _)
 refine ⟨.ref s1.heap.objs.size,upd H1 s1.heap.objs.size (.lst xs),I1.laid (t':=s1.toks) (fun b u e=>aaB _ e) (aa_ _) ?_,rfl,q _ hf⟩
 exact ⟨z,us,0,r,aaL _ rfl⟩
end
abbrev Sp:=List V->Hp->VK->XK->Prop
abbrev me:=List Env->Hp->aaH->XK->Value->aaH->Prop
structure AD (P:aaP)(w:World)(K:Frag)(mg:θ)(base:Heap)(A:aaT)(outer:List Env)(s:aaH)(H:Hp):Prop where
 frames:A.frames=some outer
 mod:Mod K mg base
 bs:∀b o,base.get? b=some o->s.heap.get? b=some o/\H b=none
 PJ:base.objs.size<=s.heap.objs.size
 pC:s.heap.FunFrames base outer
 T6:∀b∈CU outer,H b=none
 bH:kA P w H s.heap
 bare:ac0 s.gens
def CE (outer:List Env)(P:aaP)(w:World)(H:Hp)(s:aaH)(Q:VK)(u:Value)(s':aaH):Prop:=
 ∃v H',s'.os=s.os/\ac0 s'.gens/\Un (CU outer) [] H H' s.heap s'.heap/\kA P w H' s'.heap/\RelV v u/\Q v H'
def CR (CX:me)(outer:List Env)(P:aaP)(w:World)(H:Hp)(s:aaH)(Q:VK)(E:XK)(r:Result)(s':aaH):Prop:=
 match r with
 | .ok (.ret u)=>CE outer P w H s Q u s'
 | .ok _=>False
 | .error e=>CX outer H s E e s'
structure dm (P:aaP)(w:World)(K:Frag)(mg:θ)(base:Heap)(CX:me)(k:Nat)(f:aaz)(fd:FuncData)(ps:ς)(sp:Sp):Prop where
 len:∀vs H Q E,sp vs H Q E->vs.length=ps.length
 run:∀(A:aaT)(outer:List Env)(s:aaH)(H:Hp)(args:Args)(us:ρ)(vs:η)(Q:VK)(E:XK),cy k A->AD P w K mg base A outer s H->BindsTo s fd args (ps.zip us)->Vals vs us->sp vs H Q E->
  abw (aaJ P w) A (.call (.ref f) args) (CR CX outer P w H s Q E) s
theorem dm.mono {K:Frag}(F:dm P w K mg base CX j f fd ps sp)(h:j<=k):
  dm P w K mg base CX k f fd ps sp:=⟨F.len,fun A outer s H args us vs Q E hr=>F.run A outer s H args us vs Q E (hr.mono h)⟩
theorem dm.imp {K:Frag}(F:dm P w K mg base CX k f fd ps sp)
  (h:∀vs H Q E,sp' vs H Q E->sp vs H Q E):dm P w K mg base CX k f fd ps sp':=
 ⟨fun vs H Q E q=>F.len vs H Q E (h _ _ _ _ q),fun A outer s H args us vs Q E hr he hb hv hs=>F.run A outer s H args us vs Q E hr he hb hv (h _ _ _ _ hs)⟩
theorem AD.make {K:Frag}(e:AD P w K mg base A outer s H)(C:aaz)(us:ρ)(kw:Χ):
  AD P w K mg base (A.under (.builtin "type.__call__" ⟨.ref C::us,kw⟩)) outer s H:=⟨by first|exact e.frames|(simpa [Around.under,Code.envs,Code.isFrame,pushEnvs] using e.frames),e.mod,e.bs,e.PJ,e.pC,e.T6,e.bH,e.bare⟩
section
variable {X:Cx}{pins:ε}{σ:St}{H:Hp}{s s':aaH}
theorem Inv.Xq (I:Inv X pins σ H s):AD X.prog X.w X.K X.mg X.base X.A X.stack s H:=
 ⟨I.ok.frames,I.ok.mod,I.bs,aav I.ok.PJ I.sz,I.stack,I.CV,I.bH,I.bare⟩
theorem Inv.after (I:Inv X pins σ H s)(h:CE X.stack X.prog X.w H s Q u s'):EP X pins σ Q u s':=by
 obtain ⟨v,H',os,bare,un,bH,r,q⟩:=h
 obtain ⟨hh,g,d,t,os'⟩:=s'
 obtain rfl:os'=s.os:=os
 exact ⟨v,H',I.call (h':=hh) (g':=g) (d':=d) (t':=t) (ch:=[]) un bH bare (fun b z=>aaM z (by simp)),r,q⟩
end
def DF (sp:Sp)(dvs:η)(E:XK)(t:TA):TE:=fun σ H Q=>t σ H fun vs H1=>sp (vs++dvs) H1 Q E
def SV (C:aaz)(sp:Sp)(dvs:η)(E:XK)(t:TA):TE:=fun σ H Q=>t σ H fun vs H1=>∀x dx,H1 x=none->H1 dx=none->dx≠x->
 sp (.ref x::(vs++dvs)) (upd (upd H1 dx (.own x)) x (.ins C dx [])) (fun v H2=>v=.cS/\Q (.ref x) H2) E
def Binds (K:Frag)(fd:FuncData)(ps:ς)(ds:ρ):Prop:=
 ∀(s:aaH)(us:ρ),K.In s.heap->(us++ds).length=ps.length->BindsTo s fd ⟨us,[]⟩ (ps.zip (us++ds))
theorem Binds.all {K:Frag}(h:∀us:List Value,us.length=ps.length->bindArgs fd ⟨us,[]⟩=pure (ps.zip us)):Binds K fd ps []:=fun s us _ hl=>by
 rw [afl] at hl ⊢
 exact .of_eq (h us hl)
def Passes (CX:me)(X:Cx)(E:XK):Prop:=∀(pins:ε)(σ:St)(H:Hp)(s:aaH)(e:Value)(s':aaH),Inv X pins σ H s->CX X.stack H s E e s' ->X.xe e s'
section
variable {X:Cx}{CX:me}{k:Nat}{f C:aaz}{fd:FuncData}{ps:ς}{sp:Sp}{dvs:η}{ds:ρ}{E:XK}{x m:Str}{p pos apos:Pos}{e o:Expr}{es:Ε}{ta:TE}{t:TA}
theorem u6 {σ:St}{us:ρ}{vs:η}(F:dm X.prog X.w X.K X.mg X.base CX k f fd ps sp)(hr:cy k X.A)(hb:Binds X.K fd ps ds)(hd:Vals dvs ds)(hx:Passes CX X E)
  (I:Inv X pins σ H s) (r:Vals vs us) (h:sp (vs++dvs) H Q E):aaE (aaJ X.prog X.w) X.A (call (.ref f) us) (EP X pins σ Q) X.xe s:=by
 have r2:Vals (vs++dvs) (us++ds):=r.append hd
 have hl:(us++ds).length=ps.length:=by rw [<-r2.length];exact F.len _ _ _ _ h
 refine wpAny_call (codeAny_mono (F.run X.A X.stack s H ⟨us,[]⟩ (us++ds) (vs++dvs) Q E hr I.Xq (hb s us I.kK hl) r2 h) fun r s' hq=>?_)
 cases r with
 | error e=>exact hx pins σ H s e s' I hq
 | ok fl=>
  cases fl with
  | ret u=>exact I.after hq
  | next=>exact False.elim hq
  | brk=>exact False.elim hq
  | cont=>exact False.elim hq
theorem Qa (F:dm X.prog X.w X.K X.mg X.base CX k f fd ps sp)(hr:cy k X.A)(hg:Gl X x)(hm:X.mg x=some (.ref f))(hk:keepIn X.K (.ref f)=true)(hb:Binds X.K fd ps ds)(hd:Vals dvs ds)(hx:Passes CX X E)
  (ha:PA X (e::es) t) (xC:(x==("__debug__":Str))=false:=by decide) (he:aaO (e::es) X.env=(false,aaV e X.env)::aaO es X.env:=by rfl) (pF:(abj pos (aaO es X.env)).any (·.1)=false:=by rfl):
  PE X (.Call (.Name x p) (e::es) [] pos) (DF sp dvs E t):=by
 intro pins s σ H Q I h
 refine aby (l_ I hg hm ?_ xC)
 refine acR (h₀:=X.base) I.ok.mod.Wm hk (cI (ha pos pins s σ H _ I h) fun us s1 ⟨vs,H1,I1,r,q⟩=>⟨I1.kK,?_⟩) he pF
 exact u6 F hr hb hd hx I1 r q
structure Mk (K:Frag)(C f:aaz):Prop where
 makes:abo K C=true
 init:aaR K (.ref C) "__init__"=some (some (.ref f))
 fn:ahh K (.ref f)=true
 kp:keepIn K (.ref C)=true
theorem xD {σ:St}{us:ρ}{vs:η}(M:Mk X.K C f)(F:dm X.prog X.w X.K X.mg X.base CX k f fd ps sp)(hr:cy (k+1) X.A)(hb:Binds X.K fd ps ds)(hd:Vals dvs ds)
  (hx:Passes CX X E) (I:Inv X pins σ H s) (r:Vals vs us)
  (h:∀x dx,H x=none->H dx=none->dx≠x->sp (.ref x::(vs++dvs)) (upd (upd H dx (.own x)) x (.ins C dx [])) (fun v H2=>v=.cS/\Q (.ref x) H2) E):
  aaE (aaJ X.prog X.w) X.A (call (.ref C) us) (EP X pins σ Q) X.xe s:=by
 have hq:=h (s.heap.objs.size+1) s.heap.objs.size (I.bH.fresh (amQ _)) (I.bH.fresh (aa_ _)) (adK (adY _))
 have I2:=Inv.made (C:=C) I
 have r2:Vals (V.ref (s.heap.objs.size+1)::(vs++dvs)) (Value.ref (s.heap.objs.size+1)::(us++ds)):=.cons rfl (r.append hd)
 have hl:(Value.ref (s.heap.objs.size+1)::us++ds).length=ps.length:=by
  have e:=r2.length
  rw [F.len _ _ _ _ hq] at e
  exact e.symm
 refine wpAny_call (LI (f:=f) I.kK M.makes M.init (beq_iff_eq.mp M.fn) (codeAny_mono (F.run _ X.stack _ _ ⟨Value.ref (s.heap.objs.size+1)::us,[]⟩ (Value.ref (s.heap.objs.size+1)::(us++ds)) _ _ E (hr.make C us [])
  (I2.Xq.make C us []) (hb _ (Value.ref (s.heap.objs.size+1)::us) I2.kK hl) r2 hq) fun r s' m6 =>?_))
 cases r with
 | error e=>exact hx pins σ _ _ e s' I2 m6
 | ok fl=>
  cases fl with
  | ret u=>
   obtain ⟨v,H',I3,rv,ev,q3⟩:=I2.after m6
   subst ev
   exact ⟨rv,⟨V.ref (s.heap.objs.size+1),H',I3,rfl,q3⟩⟩
  | next=>exact False.elim m6
  | brk=>exact False.elim m6
  | cont=>exact False.elim m6
theorem Qb (M:Mk X.K C f)(F:dm X.prog X.w X.K X.mg X.base CX k f fd ps sp)(hr:cy (k+1) X.A)(hg:Gl X x)(hm:X.mg x=some (.ref C))(hb:Binds X.K fd ps ds)(hd:Vals dvs ds)(hx:Passes CX X E)
  (ha:PA X (e::es) t) (xC:(x==("__debug__":Str))=false:=by decide) (he:aaO (e::es) X.env=(false,aaV e X.env)::aaO es X.env:=by rfl) (pF:(abj pos (aaO es X.env)).any (·.1)=false:=by rfl):
  PE X (.Call (.Name x p) (e::es) [] pos) (SV C sp dvs E t):=by
 intro pins s σ H Q I h
 refine aby (l_ I hg hm ?_ xC)
 refine acR (h₀:=X.base) I.ok.mod.Wm M.kp (cI (ha pos pins s σ H _ I h) fun us s1 ⟨vs,H1,I1,r,q⟩=>⟨I1.kK,?_⟩) he pF
 exact xD M F hr hb hd hx I1 r q
theorem LJ (M:Mk X.K C f)(F:dm X.prog X.w X.K X.mg X.base CX k f fd ps sp)(hr:cy (k+1) X.A)(hg:Gl X x)(hm:X.mg x=some (.ref C))(hb:Binds X.K fd ps ds)(hd:Vals dvs ds)(hx:Passes CX X E)
  (xC:(x==("__debug__":Str))=false:=by decide):PE X (.Call (.Name x p) [] [] pos) (SV C sp dvs E jq):=by
 intro pins s σ H Q I h
 refine aby (l_ I hg hm ?_ xC)
 exact PySem.W.callWith_K0 I.kK M.kp (xD (us:=[]) M F hr hb hd hx I .nil h)
end
section
variable {X:Cx}{CX:me}{k:Nat}{f C:aaz}{fd:FuncData}{ps ks:ς}{sp:Sp}{E:XK}{x m:Str}{p pos apos awl:Pos}{e o:Expr}{es:Ε}{kws:List Keyword}{te ta:TE}{t tk:TA}{nm:Option Str}
variable {g:List Value->List Value->List Value}{gV:List V->List V->List V}
end
structure av (N P:ς)(sc:Scope):Prop where
 kind:sc.kind=.function
 co:sc.isCoroutine=false
 gen:sc.isGenerator=false
 nd:N.Nodup
 pre:N.take P.length=P
 par:∀x∈P,sc.names.lookup x=some .local\/sc.names.lookup x=some .cell
 Uh:∀y∈sc.names,y.2≠.free
theorem ug {aci:Str->Option NameKind}:∀{binds:Χ} {m:θ},(∀v,(x,v)∉binds)->bindL aci binds m x=m x
 | [],_,_=>rfl
 | (n,v)::r,m,h=>by
  unfold bindL
  rw [ug fun w hw=>h w (aaw _ hw)]
  split
  ·have:x≠n:=by rintro rfl;exact h v adk
   simp [this]
  ·rfl
theorem uh {aci:Str->Option NameKind}:∀{binds:Χ} {m:θ},(∀v,(x,v)∉binds)->bindC aci binds m x=m x
 | [],_,_=>rfl
 | (n,v)::r,m,h=>by
  unfold bindC
  rw [uh fun w hw=>h w (aaw _ hw)]
  split
  ·rfl
  ·have:x≠n:=by rintro rfl;exact h v adk
   simp [this]
theorem uk {aci:Str->Option NameKind}:∀{P:ς} {vs:ρ} {i:Nat} {m:θ},P.Nodup->P[i]?=some x->vs[i]?=some v->aci x=some .local->
  bindL aci (P.zip vs) m x=some v
 | [],_,_,_,_,h,_,_=>by simp at h
 | _::_,[],_,_,_,_,h,_=>by simp at h
 | p::P,w::vs,0,m,nd,h1,h2,hk=>by
  simp at h1 h2;subst h1;subst h2
  show bindL aci ((p,w)::P.zip vs) m p=_
  unfold bindL
  rw [ug fun v hv=>(adQ.mp nd).1 (ag3 hv).1,aaC hk]
  simp
 | p::P,w::vs,i+1,m,nd,h1,h2,hk=>by
  show bindL aci ((p,w)::P.zip vs) m x=_
  unfold bindL
  exact uk (i:=i) (adQ.mp nd).2 (by simpa using h1) (by simpa using h2) hk
theorem um {aci:Str->Option NameKind}:∀{P:ς} {vs:ρ} {i:Nat} {m:θ},P.Nodup->P[i]?=some x->vs[i]?=some v->aci x≠some .local->
  bindC aci (P.zip vs) m x=some v
 | [],_,_,_,_,h,_,_=>by simp at h
 | _::_,[],_,_,_,_,h,_=>by simp at h
 | p::P,w::vs,0,m,nd,h1,h2,hk=>by
  simp at h1 h2;subst h1;subst h2
  show bindC aci ((p,w)::P.zip vs) m p=_
  unfold bindC
  rw [uh fun v hv=>(adQ.mp nd).1 (ag3 hv).1,aaA hk]
  simp
 | p::P,w::vs,i+1,m,nd,h1,h2,hk=>by
  show bindC aci ((p,w)::P.zip vs) m x=_
  unfold bindC
  exact um (i:=i) (adQ.mp nd).2 (by simpa using h1) (by simpa using h2) hk
def start (N:ς)(vs:η):St:=vs.map some++adt (N.length-vs.length) none
def jr (CX:me)(P:aaP)(w:World)(K:Frag)(mg:θ)(base:Heap)(N:ς)(qual:Str)(scope:Scope)(f:aaz)(cd:Value)(A:aaT)(outer:List Env)(s:aaH)(H:Hp)(E:XK):Cx where
 prog:=P
 w:=w
 K:=K
 mg:=mg
 base:=base
 A:=A.deeper (abN qual scope s.heap.objs.size f cd)
 N:=N
 s₀:=s
 H₀:=H
 env:=abN qual scope s.heap.objs.size f cd
 outer:=outer
 stack:=abN qual scope s.heap.objs.size f cd::outer
 ex:=[]
 calm:=true
 fn:=fun _=>true
 pn:=[]
 xe:=fun e s'=>aaE (aaJ P w) (A.deeper (abN qual scope s.heap.objs.size f cd)) (leaving (abN qual scope s.heap.objs.size f cd) e) (fun _ Xr =>CX outer H s E e Xr) (fun e' Xr =>CX outer H s E e' Xr) s'
theorem xE {sc:Scope}(h:sc.names.lookup x=some .cell):∃c,(cellsFrom n sc.names []).lookup x=some c:=by
 have q:=PySem.W.cellsFrom_some sc.names n [] (.inl h)
 exact agB.mp q
theorem GH {K:Frag}{us:ρ}{vs:η}
  (S:av N ps scope) (hd:A.handled=none) (e0:AD P w K mg base A outer s H) (hl:vs.length=ps.length) (r:Vals vs us)
  (x:InCallC s s.heap.objs.size (bindL (abN qual scope s.heap.objs.size f cd).kindOf (ps.zip us) fun _=>none) (cellsFrom (s.heap.objs.size+1) scope.names []) (bindC (abN qual scope s.heap.objs.size f cd).kindOf (ps.zip us) fun _=>none) s1):
  Inv (jr CX P w K mg base N qual scope f cd A outer s H E) [] (start N vs) H s1:=by
 have pF:ps.length<=N.length:=by have:=aaQ aeV S.pre;rw [adm] at this;omega
 obtain ⟨h1,tk,rfl,hk⟩:=x.done
 have Xs:∀b:aaz,b∉(jr CX P w K mg base N qual scope f cd A outer s H E).ex:=fun b z=>aaM (show b∈([]:List aaz) from z) (by simp)
 refine ⟨⟨e0.mod,S.kind,rfl,rfl,aa_ _,fun y z c h1 h2=>?_,fun y hy=>?_,fun y c _ h=>?_,fun _=>hd,Around.frames_deeper e0.frames,.inr ⟨rfl,rfl⟩,fun b z=>aaM z (Xs b),e0.bs,e0.PJ,fun b _ _=>Xs b,fun b z=>aaM z (Xs b),e0.pC,e0.T6⟩,
  rfl,e0.bare,Un.kept hk,⟨_,x.toInCall.ns,fun i y v h1 h2 h3=>?_⟩,fun y c h=>⟨_,x.cell y c h⟩,e0.bH.fresh (aa_ _),fun y c h=>?_,fun p hp=>aaM (show p∈([]:List (aaz×Obj)) from hp) (by simp),e0.bH.kept hk,?_⟩
 ·exact name_of_addr x.apart (abJ h1) (abJ h2)
 ·have hy:scope.names.lookup y=some .cell\/scope.names.lookup y=some .free:=hy
  rcases hy with hy|hy
  ·exact xE hy
  ·exact aaM rfl (S.Uh _ (abJ hy))
 ·exact ad' (x.above y c (abJ h))
 ·have hi:i<vs.length:=by
   unfold start at h2
   by_cases hi:i<vs.length
   ·exact hi
   ·rw [adv (by simpa using hi)] at h2
    rw [adT] at h2
    split at h2<;>cases h2
  have ha:vs[i]?=some v:=by
   unfold start at h2
   rw [adq (by simpa using hi),Wp] at h2
   cases e:vs[i]? with
   | none=>rw [e] at h2;cases h2
   | some a=>rw [e] at h2;cases h2;rfl
  obtain ⟨u,hu,rv⟩:=r.get ha
  have hp:ps[i]?=some y:=by
   rw [<-S.pre,adX (by omega)];exact h1
  have ndP:ps.Nodup:=by rw [<-S.pre];exact S.nd.sublist (List.take_sublist _ _)
  refine ⟨u,rv,?_⟩
  rcases S.par y (aam hp) with k|k
  ·exact .inl ⟨k,uk ndP hp hu k⟩
  ·obtain ⟨c,e⟩:=xE (n:=s.heap.objs.size+1) k
   refine .inr ⟨.inl k,c,e,?_⟩
   have q:=x.cell y c e
   rw [um ndP hp hu (by show scope.names.lookup y≠_;rw [k];decide)] at q
   exact q
 ·exact e0.bH.fresh (ad' (x.above y c (abJ h)))
 ·unfold start
  show _=N.length
  rw [adl,be,adP]
  omega
theorem DG {K:Frag}{dV kV doc pm bZ ct oc:Value}{an od:Κ}
  {sL:Ξ}   (lk:K.lookup f=some ⟨oc,od,.func (fnOf name qual params body scope dV kV doc pm an bZ ct),sL⟩) (sR:codeIn K bZ qual=true) (S:av N ps scope)
  (len:∀vs H Q E,sp vs H Q E->vs.length=ps.length)
  (gN:∀(A:aaT)(outer:List Env)(s:aaH)(H:Hp)(vs:η)(Q:VK)(E:XK),cy k (A.deeper (abN qual scope s.heap.objs.size f bZ))->sp vs H Q E->
   ∃t,PSs (jr CX P w K mg base N qual scope f bZ A outer s H E) body t/\t {nx:=fun _ H'=>Q .cS H',rt:=Q} (start N vs) H):
  dm P w K mg base CX (k+1) f (fnOf name qual params body scope dV kV doc pm an bZ ct) ps sp:=by
 refine ⟨len,fun A outer s H args us vs Q E hr e0 hb r zH=>?_⟩
 have hl:=len _ _ _ _ zH
 have KX:K.In s.heap:=e0.mod.Wm.keeps fun b o e=>(e0.bs b o e).1
 have lim:s.heap.NoLimit:=e0.mod.nolimit.keeps fun b o e=>(e0.bs b o e).1
 have Xt:∀y∈ps.zip us,scope.names.lookup y.1=some .local\/(scope.names.lookup y.1=some .cell/\((cellsFrom (s.heap.objs.size+1) scope.names []).lookup y.1).isSome=true):=fun ⟨n,v⟩ hy=>by
  rcases S.par n (ag3 hy).1 with q|q
  ·exact .inl q
  ·exact .inr ⟨q,PySem.W.cellsFrom_some _ _ _ (.inl q)⟩
 refine codeAny_call_function hr.depth (KX _ _ lk) rfl S.co S.gen rfl (PySem.W.codeRec_of KX sR) (hb _ _ _ _ ?_)
 refine wpAny_newFunctionEnv_cells S.kind Xt fun env he s1 x=>?_
 subst he
 refine ⟨lim.keeps x.toInCall.keep,codeAny_func ?_⟩
 obtain ⟨t,ht,hq⟩:=gN A outer s H vs Q E (hr.deeper _) zH
 have I:Inv (jr CX P w K mg base N qual scope f bZ A outer s H E) [] (start N vs) H s1:=GH S hr.hd e0 hl r x
 refine aa3 (ht [] s1 (start N vs) H _ I hq) (fun fl s' hs=>?_) fun e s' hs=>hs
 have fin:∀{σ' :St} {H':Hp} {v:V} {u:Value},Inv (jr CX P w K mg base N qual scope f bZ A outer s H E) [] σ' H' s' ->RelV v u->Q v H' ->CE outer P w H s Q u s':=
  fun {σ' H' v u} J rv q=>⟨v,H',J.os,J.bare,J.base,J.bH,rv,q⟩
 cases fl with
 | ret u=>
  obtain ⟨v,σ',H',J,rv,q⟩:=hs
  exact fin J rv q
 | next=>
  obtain ⟨σ',H',J,q⟩:=hs
  exact fin (v:=V.cS) (u:=Value.none) J rfl q
 | brk=>
  obtain ⟨_,_,_,q⟩:=hs
  exact False.elim q
 | cont=>
  obtain ⟨_,_,_,q⟩:=hs
  exact False.elim q
end L2
namespace L2
open PySem PySem.Spec PyProof.Rows
section
variable {X:Cx}{x:Str}{p pos:Pos}{e:Expr}{es:Ε}{t:TA}{id T:String}{r:List V->Hp->VK->Prop}
def tCB (r:List V->Hp->VK->Prop)(t:TA):TE:=fun σ H Q=>t σ H fun vs H1=>r vs H1 Q
theorem aI (hc:iL X (.builtin id) r)(hg:Gl X x)(hm:X.mg x=none)(hv:aaY x=some (.builtin id))(ha:PA X (e::es) t)(hn:x≠ "__name__":=by decide)(xC:(x==("__debug__":Str))=false:=by decide)
  (he:aaO (e::es) X.env=(false,aaV e X.env)::aaO es X.env:=by rfl) (pF:(abj pos (aaO es X.env)).any (·.1)=false:=by rfl):PE X (.Call (.Name x p) (e::es) [] pos) (tCB r t):=by
 intro pins s σ H Q I h
 refine aby (i5 I hg hm hv ?_ hn xC)
 exact PyProof.Rows.callWith_builtin1 (cI (ha pos pins s σ H _ I h) fun us s1 ⟨vs,H1,I1,r1,q1⟩=>hc pins s1 σ H1 vs us Q I1 r1 q1) he pF
theorem dQ (hc:iL X (.type T) r)(hg:Gl X x)(hm:X.mg x=none)(hv:aaY x=some (.type T))(ha:PA X (e::es) t)(hn:x≠ "__name__":=by decide)(xC:(x==("__debug__":Str))=false:=by decide)
  (he:aaO (e::es) X.env=(false,aaV e X.env)::aaO es X.env:=by rfl) (pF:(abj pos (aaO es X.env)).any (·.1)=false:=by rfl):PE X (.Call (.Name x p) (e::es) [] pos) (tCB r t):=by
 intro pins s σ H Q I h
 refine aby (i5 I hg hm hv ?_ hn xC)
 exact aa7 (cI (ha pos pins s σ H _ I h) fun us s1 ⟨vs,H1,I1,r1,q1⟩=>hc pins s1 σ H1 vs us Q I1 r1 q1) he pF
end
end L2
namespace HT
open PySem PyProof.Rows
section
open PySem.SeqAt
open PySem.AutoSeq1 (wpAny_loadPart')
open PySem.MeetsSeq PySem.MeetsSeq2 PySem.MeetsSeq3
end
section
variable {prog:aaP}{w:World}{A:aaT}{E:δ}{s:aaH}
def xF (n d:Nat):Option Int->Nat
 | none=>d
 | some v=>if v<0 then (v+(n:Int)).toNat else min v.toNat n
theorem xG (n d:Nat):xF n d none=d:=rfl
theorem pZ (n d k:Nat):xF n d (some (k:Int))=min k n:=by
 show (if (k:Int)<0 then ((k:Int)+(n:Int)).toNat else min (k:Int).toNat n)=min k n
 rw [aaA (by omega),afQ]
end
end HT
namespace L2
open PySem PySem.Spec PyProof.Rows
abbrev TO:=St->Hp->(Option Int->Hp->Prop)->Prop
def PO (X:Cx)(e:Option Expr)(t:TO):Prop:=
 ∀(pins:ε)(s:aaH)(σ:St)(H:Hp)(Q:Option Int->Hp->Prop),Inv X pins σ H s->t σ H Q->
  aaE (aaJ X.prog X.w) X.A (evalPart e X.env) (fun u s'=>∃o H',Inv X pins σ H' s'/\IsPart u o/\Q o H') X.xe s
def Qc:TO:=fun _ H Q=>Q none H
inductive LK (Q:(Option Int->Hp->Prop))(x:V)(H1:Hp):Prop
|mk (i:_)(_:x=.int i)(_:Q (some i) H1)
def Xu (t:TE):TO:=fun σ H Q=>t σ H fun x H1=>LK Q x H1
section
variable {X:Cx}{e:Expr}{te:TE}{lo hi:Option Expr}{tl th:TO}{pos p2:Pos}
theorem eI:PO X none Qc:=by
 intro pins s σ H Q I h
 rw [evalPart_none]
 exact aaF ⟨none,H,I,.none,h⟩
theorem dI (h:PE X e te):PO X (some e) (Xu te):=by
 intro pins s σ H Q I hw
 rw [evalPart_some]
 refine cI (h pins s σ H _ I hw) fun u s1 ⟨x,H1,I1,r1,q1⟩=>?_
 obtain ⟨i,rfl,q⟩:=q1
 obtain ⟨t,rfl⟩:=r1
 exact ⟨some i,H1,I1,.int i t,q⟩
def SlR (X:Cx)(r:V->Option Int->Option Int->Hp->VK->Prop):Prop:=
 ∀(pins:ε)(s:aaH)(σ:St)(H:Hp)(x:V)(v vl vu:Value)(lo hi:Option Int)(sl:aaz)(Q:VK),Inv X pins σ H s->RelV x v->s.heap.IsSliceOf sl vl vu .none->IsPart vl lo->IsPart vu hi->r x lo hi H Q->
  ∃T id,typeLookup (.type T) "__getitem__"=pure (some (.builtin id))/\s.TypeIs v T/\aaE (aaJ X.prog X.w) X.A (getItem v (.ref sl)) (EP X pins σ Q) X.xe s
def tSl (r:V->Option Int->Option Int->Hp->VK->Prop)(te:TE)(tl th:TO):TE:=fun σ H Q=>te σ H fun x H1=>tl σ H1 fun l H2=>th σ H2 fun u H3=>r x l u H3 Q
theorem cW (hr:SlR X r)(he:PE X e te)(hl:PO X lo tl)(hu:PO X hi th):PE X (.Subscript e (.Slice lo hi none p2) pos) (tSl r te tl th):=by
 intro pins s σ H Q I h
 refine Subscript_ (cI (he pins s σ H _ I h) fun v s1 ⟨x,H1,I1,r1,q1⟩=>?_)
 refine wpAny_Slice (cI (hl pins s1 σ H1 _ I1 q1) fun vl s2 ⟨l,H2,I2,pl,q2⟩=>cI (hu pins s2 σ H2 _ I2 q2) fun vu s3 ⟨u,H3,I3,pu,q3⟩=>?_)
 rw [evalPart_none]
 refine aaF ?_
 have I4:Inv X pins σ H3 {s3 with heap:=s3.heap.push {cls:=.type "slice",data:=.fields #[vl,vu,.none]}}:=I3.kept (t':=s3.toks) fun b ob q=>aaB _ q
 obtain ⟨T,id,hT,ht,hg⟩:=hr pins {s3 with heap:=s3.heap.push {cls:=.type "slice",data:=.fields #[vl,vu,.none]}} σ H3 x v vl vu l u s3.heap.objs.size Q I4 r1 (Heap.IsSliceOf.new ..) pl pu q3
 show aaE (aaJ X.prog X.w) X.A (subscriptTail e (.Slice lo hi none p2) v (.ref s3.heap.objs.size)) (EP X pins σ Q) X.xe {s3 with heap:=s3.heap.push {cls:=.type "slice",data:=.fields #[vl,vu,.none]}}
 exact tail_any (ops:=[.ref s3.heap.objs.size,v]) ht hT hg (by with_unfolding_all rfl)
def iA (xs:η)(lo hi:Option Int):List V:=(xs.drop (HT.xF xs.length 0 lo)).take (HT.xF xs.length xs.length hi-HT.xF xs.length 0 lo)
theorem xH (xs:η)(lo hi:Option Int):(iA xs lo hi).length<=xs.length:=by
 unfold iA
 rw [adm,afy]
 omega
end
end L2
namespace L2
open PySem PySem.Spec PyProof.Rows
def KI (n:Nat)(i:Int):Option Nat:=if 0<=i then (if i<n then some i.toNat else none) else if -(n:Int)<=i then some (i+n).toNat else none
def i0 {α:Type}(xs:List α)(i:Int):Option α:=(KI xs.length i).bind fun j=>xs[j]?
theorem DH (h:KI n i=some j):seqIndex? i n=some j/\j<n/\ -(n:Int)<=i/\i<n:=by
 unfold KI at h
 by_cases h0:0<=i
 ·rw [aaC h0] at h
  by_cases h1:i<n
  ·rw [aaC h1] at h
   have e:i.toNat=j:=ady h
   exact ⟨by rw [seqIndex_of h0 h1,e],by omega,by omega,h1⟩
  ·rw [aaA h1] at h;cases h
 ·rw [aaA h0] at h
  by_cases h1: -(n:Int)<=i
  ·rw [aaC h1] at h
   have e:(i+n).toNat=j:=ady h
   exact ⟨by rw [seqIndex_neg (by omega) h1,e],by omega,h1,by omega⟩
  ·rw [aaA h1] at h;cases h
theorem u9 {v:α}(h:i0 xs i=some v):∃j,seqIndex? i xs.length=some j/\xs[j]?=some v/\j<xs.length/\ -(xs.length:Int)<=i/\i<xs.length:=by
 unfold i0 at h
 cases e:KI xs.length i with
 | none=>rw [e] at h;cases h
 | some j=>
  rw [e] at h
  obtain ⟨h1,h2,h3,h4⟩:=DH e
  exact ⟨j,h1,h,h2,h3,h4⟩
theorem bL {j:Nat}{v:α}(h:xs[j]?=some v):i0 xs (j:Int)=some v:=by
 have hj:j<xs.length:=(ir.mp h).1
 have e:KI xs.length (j:Int)=some j:=by
  unfold KI
  rw [aaC (by omega),aaC (by omega)];simp
 unfold i0;rw [e];exact h
def DI (b:Expr):Prop:=∀o i,subscripted b false o i=operate [o,i] (getItem o i)
def SW (X:Cx)(r:R2):Prop:=
 ∀(value slice:Expr)(pins:ε)(s:aaH)(σ:St)(H:Hp)(x y:V)(v u:Value)(Q:VK),Inv X pins σ H s->RelV x v->RelV y u->r x y H Q->
  subscripted slice false v u=operate [v,u] (getItem v u)->aaE (aaJ X.prog X.w) X.A (subscriptTail value slice v u) (EP X pins σ Q) X.xe s
def MtR (X:Cx)(id:String)(r:Ψ):Prop:=
 ∀(pins:ε)(s:aaH)(σ:St)(H:Hp)(x:V)(xs:η)(v:Value)(us:ρ)(Q:VK),Inv X pins σ H s->RelV x v->Vals xs us->r x xs H Q->
  aaE (aaJ X.prog X.w) X.A (call (.builtin id) (v::us)) (EP X pins σ Q) X.xe s
section
variable {X:Cx}{a b:Expr}{ta tb:TE}{pos:Pos}
theorem LL (hr:SW X r)(ha:PE X a ta)(hb:PE X b tb)(hs:DI b):PE X (.Subscript a b pos) (P1 r ta tb):=by
 intro pins s σ H Q I h
 exact Subscript_ (Ue ha hb I h fun v u s2 x y H2 I2 rx ry q=>hr a b pins s2 σ H2 x y v u Q I2 rx ry q (hs _ _))
inductive Qd (K:Frag)(x:V)(y:V)(H:Hp)(Q:VK):Prop
|mk (p xs i v:_)(_:x=.ref p)(_:y=.int i)(_:aR K H p xs)(_:i0 xs i=some v)(_:Q v H)
inductive LM (K:Frag)(x:V)(y:V)(H:Hp)(Q:VK):Prop
|mk (p xs i v:_)(_:x=.ref p)(_:y=.int i)(_:bM K H p xs)(_:i0 xs i=some v)(_:Q v H)
inductive Xv (x:V)(y:V)(H:Hp)(Q:VK):Prop
|mk (z i c:_)(_:x=.str z)(_:y=.int i)(_:z.length<=aaD)(_:i0 z.cps.toList i=some c)(_:Q (.str ⟨#[c]⟩) H)
theorem aQ:SW X (Qd X.K):=by
 intro value slice pins s σ H x y v u Q I rx ry h hs
 obtain ⟨p,xs,i,z,rfl,rfl,hq,he,q⟩:=h
 cases rx
 obtain ⟨t,rfl⟩:=ry
 obtain ⟨its,r,pl,hz⟩:=I.list hq
 obtain ⟨j,h1,h2,h3,h4,h5⟩:=u9 he
 obtain ⟨w,ew,sW⟩:=r.get h2
 have hl:=r.length
 have hn:=qC
 have fin:EP X pins σ Q w s:=⟨z,H,I,sW,q⟩
 by_cases h0:0<=i
 ·have hj:i.toNat=j:=by
   rw [seqIndex_of h0 h5] at h1
   exact ady h1
  exact item_listR pl.isList h0 (by omega) (by rw [hj];simpa using ew) fin hs
 ·have hj:(i+(its.toArray.size:Int)).toNat=j:=by
   rw [seqIndex_neg (by omega) h4] at h1
   rw [adC,<-hl]
   exact ady h1
  exact subscriptTail_builtinR (x:=w) pl.isList.typeIs slot_list_getitem.lookup
   (wpAny_getItem_list_neg (Q:=fun r s'=>r=w/\EP X pins σ Q r s') pl.isList (by omega) (by rw [adC]<;>omega) (by omega) (by rw [hj];simpa using ew) ⟨rfl,fin⟩) hs
theorem nh:SW X (LM X.K):=by
 intro value slice pins s σ H x y v u Q I rx ry h hs
 obtain ⟨p,xs,i,z,rfl,rfl,hq,he,q⟩:=h
 cases rx
 obtain ⟨t,rfl⟩:=ry
 obtain ⟨its,r,pl,hz⟩:=I.tuple hq
 obtain ⟨j,h1,h2,h3,h4,h5⟩:=u9 he
 obtain ⟨w,ew,sW⟩:=r.get h2
 have hl:=r.length
 have hn:=qC
 have fin:EP X pins σ Q w s:=⟨z,H,I,sW,q⟩
 exact subscriptTail_builtinR (x:=w) pl.typeIs slot_tuple_getitem.lookup
  (getItem_tuple (j:=j) (Q:=fun r s'=>r=w/\EP X pins σ Q r s') pl (by omega) (by omega) (by rw [adC,<-hl];exact h1) (by simpa using ew) ⟨rfl,fin⟩) hs
theorem Ui:SW X Xv:=by
 intro value slice pins s σ H x y v u Q I rx ry h hs
 obtain ⟨z,i,c,rfl,rfl,hz,he,q⟩:=h
 obtain ⟨t,rfl⟩:=rx
 obtain ⟨t',rfl⟩:=ry
 obtain ⟨j,h1,h2,h3,h4,h5⟩:=u9 he
 have hl:z.cps.toList.length=z.length:=by simp [Str.length]
 rw [hl] at h1 h4 h5
 have hn:=qC
 exact tail_any (typeIs_str s z t) slot_str_getitem.lookup (getItem_str (c:=c) (by
  have e1:decide (i < -(2^63:Int))=false:=aa0 (by omega)
  have e2:decide (i≥2^63)=false:=aa0 (by omega)
  rw [e1,e2,anf]) (by rw [h1];simpa using h2) ⟨.str ⟨#[c]⟩,H,I.tok _,⟨_,rfl⟩,q⟩) hs
theorem AE (its:ρ)(n j:Nat)(u:Value):abH (·.setIfInBounds j u) {cls:=.type "list",data:=.seq its.toArray n}={cls:=.type "list",data:=.seq (its.set j u).toArray n}:=by
 simp [abH]
theorem Inv.lst {pins:ε}{σ:St}{H:Hp}{s:aaH}{p:aaz}{xs:η}(I:Inv X pins σ H s)(h:H p=some (.lst xs)):
  ∃(its:ρ)(n:Nat),Vals xs its/\s.heap.get? p=some {cls:=.type "list",data:=.seq its.toArray n}/\xs.length<=aaD:=by
 obtain ⟨z,its,n,r,e⟩:=I.bH p _ h
 exact ⟨its,n,r,e,z⟩
theorem Inv.Uj {σ:St}{xs ys:η}{its its':ρ}(I:Inv X pins σ H s)(h:H p=some (.lst xs))
  (ho:s.heap.get? p=some {cls:=.type "list",data:=.seq its.toArray n}) (hf:f {cls:=.type "list",data:=.seq its.toArray n}={cls:=.type "list",data:=.seq its'.toArray n'}) (r:Vals ys its') (hz:ys.length<=aaD) (t:Nat):
  Inv X pins σ (upd H p (.lst ys)) {s with heap:=s.heap.update p f,toks:=t}:=by
 have e:(s.heap.update p f).get? p=some {cls:=.type "list",data:=.seq its'.toArray n'}:=by
  rw [abC f ho (by rw [hf]<;>rfl),hf]
 refine I.write (x:=p) (e:=p) (by rw [h];trivial) (.inl rfl) (fun b u hb q=>(aa5 _ _ (adO hb)).trans q) ⟨_,e⟩ ?_
 exact ⟨hz,its',n',r,e⟩
inductive SX (o:V)(i:V)(v:V)(H:Hp)(Q:(Hp->Prop)):Prop
|mk (p xs k j:_)(_:o=.ref p)(_:i=.int k)(_:H p=some (.lst xs))(_:KI xs.length k=some j)(_:Q (upd H p (.lst (xs.set j v))))
theorem set_list:Xg X SX:=by
 intro pins s σ H o i v ov iv u Q I ro ri rv h
 obtain ⟨p,xs,k,j,rfl,rfl,hp,hj,q⟩:=h
 cases ro
 obtain ⟨t,rfl⟩:=ri
 obtain ⟨its,n,r,ho,hz⟩:=I.lst hp
 obtain ⟨h1,h2,h3,h4⟩:=DH hj
 have hl:=r.length
 have hn:=qC
 have I':Inv X pins σ (upd H p (.lst (xs.set j v))) {s with heap:=s.heap.update p (abH (·.setIfInBounds j u))}:=
  I.Uj hp ho (AE its n j u) (r.set rv j) (by rw [amT];exact hz) s.toks
 by_cases h0:0<=k
 ·have hk:k.toNat=j:=by
   rw [seqIndex_of h0 h4] at h1
   exact ady h1
  exact PySem.W.ki_setAt ho h0 (by omega) (by rw [adC,<-hl];exact h4) (by rw [hk];exact ⟨_,I',q⟩)
 ·have hk:(k+(its.toArray.size:Int)).toNat=j:=by
   rw [seqIndex_neg (by omega) h3] at h1
   rw [adC,<-hl]
   exact ady h1
  exact PySem.W.ki_setBack ho (by omega) (by rw [adC,<-hl];exact h3) (by omega) (by rw [hk];exact ⟨_,I',q⟩)
theorem u_ (lo hi:Option Int)(n:Nat):(acP lo hi none n).1=((HT.xF n 0 lo:Nat):Int)/\(acP lo hi none n).2.1=((HT.xF n n hi:Nat):Int)/\(acP lo hi none n).2.2=1:=by
 refine ⟨?_,?_,rfl⟩
 ·cases lo with
  | none=>simp [acP,HT.xF]
  | some i=>
   simp only [acP,HT.xF,amH,show (1:Int) > 0 by decide,if_true]
   by_cases h:i<0
   ·simp only [h,if_true]<;>omega
   ·simp only [h,if_false]<;>omega
 ·cases hi with
  | none=>simp [acP,HT.xF]
  | some i=>
   simp only [acP,HT.xF,amH,show (1:Int) > 0 by decide,if_true]
   by_cases h:i<0
   ·simp only [h,if_true]<;>omega
   ·simp only [h,if_false]<;>omega
theorem sX (its:ρ)(lo hi:Option Int):slicePick its.toArray lo hi none=((its.drop (HT.xF its.length 0 lo)).take (HT.xF its.length its.length hi-HT.xF its.length 0 lo)).toArray:=by
 obtain ⟨h1,h2,h3⟩:=u_ lo hi its.toArray.size
 unfold slicePick
 rw [h1,h2,h3]
 simp only [sliceRange_one,pick_run,adC]<;>rfl
inductive Xw (K:Frag)(x:V)(lo:Option Int)(hi:Option Int)(H:Hp)(Q:VK):Prop
|mk (a xs:_)(_:x=.ref a)(_:aR K H a xs)(_:∀p,H p=none->Q (.ref p) (upd H p (.lst (iA xs lo hi))))
theorem eJ:SlR X (Xw X.K):=by
 intro pins s σ H x v vl vu lo hi sl Q I rx hs pl pu h
 obtain ⟨a,xs,rfl,hx,q⟩:=h
 cases rx
 obtain ⟨its,r,ht,hz⟩:=I.list hx
 have hlen:=r.length
 refine ⟨"list",_,slot_list_getitem.lookup,ht.isList.typeIs,wpAny_getItem_list_slice ht.isList hs pl pu .none (by simp) ?_ (by rw [adC]<;>omega)⟩
 rw [sX,<-hlen]
 refine ⟨.ref s.heap.objs.size,_,I.laid (t':=s.toks) (o:=.lst (iA xs lo hi)) (fun b ob q=>aaB _ q) (aa_ _) ?_,rfl,q _ (I.bH.fresh (aa_ _))⟩
 exact ⟨aav (xH xs lo hi) hz,_,0,(r.drop (HT.xF xs.length 0 lo)).take (HT.xF xs.length xs.length hi-HT.xF xs.length 0 lo),aaL _ rfl⟩
def jB:V->Bool
 | .cS=>true
 | .bl _=>true
 | .int _=>true
 | .str _=>true
 | _=>false
def ni:V->V->Bool
 | .cS,.cS=>true
 | .bl a,.bl b=>a==b
 | .bl a,.int b=>(if a then 1 else 0)==b
 | .int a,.bl b=>a==(if b then 1 else 0)
 | .int a,.int b=>a==b
 | .str a,.str b=>a==b
 | _,_=>false
theorem LN (ry:RelV y u)(rx:RelV x v)(fy:jB y=true)(fx:jB x=true):SeqAt.EqAt A s u v (ni y x):=by
 cases y with
 | cS=>
  cases ry
  cases x with
  | cS=>cases rx;exact SeqAt.EqAt.same _
  | bl b=>cases rx;exact SeqAt.EqAt.none_bool b
  | int b=>obtain ⟨t,rfl⟩:=rx;exact SeqAt.EqAt.none_int b t
  | str b=>obtain ⟨t,rfl⟩:=rx;exact SeqAt.EqAt.none_str b t
  | _=>exact aaM (show false=true from fx) adx
 | bl a=>
  cases ry
  cases x with
  | cS=>cases rx;exact SeqAt.EqAt.bool_none a
  | bl b=>cases rx;exact SeqAt.EqAt.bool_bool a b
  | int b=>obtain ⟨t,rfl⟩:=rx;exact SeqAt.EqAt.bool_int a b t
  | str b=>obtain ⟨t,rfl⟩:=rx;exact SeqAt.EqAt.bool_str a b t
  | _=>exact aaM (show false=true from fx) adx
 | int a=>
  obtain ⟨t',rfl⟩:=ry
  cases x with
  | cS=>cases rx;exact SeqAt.EqAt.int_none a t'
  | bl b=>cases rx;exact SeqAt.EqAt.int_bool a t' b
  | int b=>obtain ⟨t,rfl⟩:=rx;exact SeqAt.EqAt.int_int a t' b t
  | str b=>obtain ⟨t,rfl⟩:=rx;exact SeqAt.EqAt.int_str a t' b t
  | _=>exact aaM (show false=true from fx) adx
 | str a=>
  obtain ⟨t',rfl⟩:=ry
  cases x with
  | cS=>cases rx;exact SeqAt.EqAt.str_none a t'
  | bl b=>cases rx;exact SeqAt.EqAt.str_bool a t' b
  | int b=>obtain ⟨t,rfl⟩:=rx;exact SeqAt.EqAt.str_int a t' b t
  | str b=>obtain ⟨t,rfl⟩:=rx;exact SeqAt.EqAt.str_str a t' b t
  | _=>exact aaM (show false=true from fx) adx
 | _=>exact aaM (show false=true from fy) adx
def Qe (x:V)(u:Value):Bool:=match u with
 | .none=>ni .cS x
 | .bool b=>ni (.bl b) x
 | .int i _=>ni (.int i) x
 | .str z _=>ni (.str z) x
 | _=>false
theorem LO (r:RelV y u)(f:jB y=true):Qe x u=ni y x:=by
 cases y with
 | cS=>cases r;rfl
 | bl b=>cases r;rfl
 | int i=>obtain ⟨t,rfl⟩:=r;rfl
 | str z=>obtain ⟨t,rfl⟩:=r;rfl
 | _=>exact aaM (show false=true from f) adx
theorem va :∀{xs:η} {us:ρ},Vals xs us->xs.all jB=true->us.any (Qe x)=xs.any fun y=>ni y x
 | _,_,.nil,_=>rfl
 | y::xs,u::us,.cons r t,f=>by
  rw [af2,ae7] at f
  rw [afK,afK,LO r f.1,va t f.2]
theorem qD (rx:RelV x v)(fx:jB x=true):∀{xs:η} {us:ρ},Vals xs us->xs.all jB=true->∀u∈us,SeqAt.EqAt A s u v (Qe x u)
 | _,_,.nil,_=>fun u hu=>by cases hu
 | y::xs,u::us,.cons r t,f=>fun u' hu=>by
  rw [af2,ae7] at f
  rcases adD.mp hu with rfl|hu
  ·rw [LO r f.1];exact LN r rx f.1 fx
  ·exact qD rx fx t f.2 u' hu
def Wr (x:V)(xs:η):Bool:=xs.any fun y=>ni y x
inductive rIn (K:Frag)(neg:Bool)(x:V)(y:V)(H:Hp)(Q:VK):Prop
|mk (p xs:_)(_:y=.ref p)(_:(aR K H p xs\/bM K H p xs))(_:jB x=true)(_:xs.all jB=true)(_:Q (.bl (if neg then !Wr x xs else Wr x xs)) H)
theorem mf:kc X (aba .NotIn) (rIn X.K true):=by
 intro pins s σ H x y v u Q I rx ry h
 obtain ⟨p,xs,rfl,hq,fx,fs,q⟩:=h
 cases ry
 rcases hq with hq|hq
 ·obtain ⟨its,r,pl,hz⟩:=I.list hq
  refine SeqAt.notIn_listAt (Qe x) pl.isList (fun w hw=>qD rx fx r fs w (by simpa using hw)) ⟨.bl _,H,I,rfl,?_⟩
  rw [show its.toArray.any (Qe x)=its.any (Qe x) by simp,va r fs]
  exact q
 ·obtain ⟨its,r,pl,hz⟩:=I.tuple hq
  refine SeqAt.notIn_tupleAt (Qe x) pl (fun w hw=>qD rx fx r fs w (by simpa using hw)) ⟨.bl _,H,I,rfl,?_⟩
  rw [show its.toArray.any (Qe x)=its.any (Qe x) by simp,va r fs]
  exact q
theorem aH:iL X (.builtin "len") (fun xs H Q=>∃p ys,xs=[.ref p]/\(aR X.K H p ys\/bM X.K H p ys)/\Q (.int ys.length) H):=by
 intro pins s σ H xs us Q I r h
 obtain ⟨p,ys,rfl,hq,q⟩:=h
 obtain ⟨u,rfl,rx⟩:=vals1 r
 cases rx
 have hn:=qC
 rcases hq with hq|hq
 ·obtain ⟨its,r',pl,hz⟩:=I.list hq
  have hlen:=r'.length
  exact Calls.call_len_list pl.isList (by simp only [adC]<;>omega) ⟨.int ys.length,H,I.tok _,⟨s.toks+1,by rw [adC,hlen]⟩,q⟩
 ·obtain ⟨its,r',pl,hz⟩:=I.tuple hq
  have hlen:=r'.length
  exact len_tuple pl (by simp only [adC]<;>omega) ⟨.int ys.length,H,I.tok _,⟨s.toks+1,by rw [adC,hlen]⟩,q⟩
def tyV (K:Frag)(T:String)(x:V)(H:Hp):Prop:=match x with
 | .str _=>T="str"
 | .int _=>T="int"
 | .ref p=>(T="list"/\∃xs,aR K H p xs)\/(T="tuple"/\∃o,K.lookup p=some o/\o.cls=.type "tuple"/\o.dict=none)\/
   (T="dict"/\((∃kvs,H p=some (.dK kvs))\/∃kvs,H p=some (.dT kvs)))\/(T="set"/\∃S n,H p=some (.set S n))
 | _=>False
theorem LP {σ:St}(I:Inv X pins σ H s)(r:RelV x v)(ty:tyV X.K T x H):
  s.TypeIs v T/\∀a,v=.ref a->∃ob,s.heap.get? a=some ob/\ob.dict=none:=by
 cases x with
 | str z=>
  obtain ⟨t,rfl⟩:=r
  cases (show T="str" from ty)
  exact ⟨typeIs_str s z t,fun _ e=>nomatch e⟩
 | int i=>
  obtain ⟨t,rfl⟩:=r
  cases (show T="int" from ty)
  exact ⟨typeIs_int s i t,fun _ e=>nomatch e⟩
 | ref p=>
  cases r
  rcases ty with ⟨rfl,xs,hq⟩|⟨rfl,o,hk,hc,hd⟩|⟨rfl,hk⟩|⟨rfl,S,n,hk⟩
  ·obtain ⟨its,_,pl,_⟩:=I.list hq
   refine ⟨pl.isList.typeIs,fun a e=>?_⟩
   cases e
   obtain ⟨o,n,e,c,hd,_⟩:=pl
   exact ⟨o,e,hd⟩
  ·refine ⟨⟨o,I.kK p o hk,hc⟩,fun a e=>?_⟩
   cases e
   exact ⟨o,I.kK _ o hk,hd⟩
  ·have z:∃o,s.heap.get? p=some o/\o.ExactDict:=by
    rcases hk with ⟨kvs,hk⟩|⟨kvs,hk⟩
    ·obtain ⟨_,_,_,_,o,_,_,e,ex,_⟩:=I.bH p _ hk
     exact ⟨o,e,ex⟩
    ·obtain ⟨_,_,_,_,o,_,_,e,ex,_⟩:=I.bH p _ hk
     exact ⟨o,e,ex⟩
   obtain ⟨o,e,ex⟩:=z
   refine ⟨⟨o,e,ex.1⟩,fun a e2=>?_⟩
   cases e2
   exact ⟨o,e,ex.2.1⟩
  ·obtain ⟨o,_,_,_,e,ex,_⟩:=I.bH p _ hk
   refine ⟨⟨o,e,ex.1⟩,fun a e2=>?_⟩
   cases e2
   exact ⟨o,e,ex.2.1⟩
 | _=>exact False.elim ty
def tBM (K:Frag)(T:String)(r:Ψ)(to:TE)(t:TA):TE:=fun σ H Q=>to σ H fun x H1=>tyV K T x H1/\t σ H1 fun xs H2=>r x xs H2 Q
variable {o e:Expr}{es:Ε}{to:TE}{t:TA}{name:Str}{apos gj:Pos}{T id:String}{r:Ψ}
theorem qE (pa:PlainAttrs T)(slot:Slot T name id)(hty:typeOf (.builtin id)=pure (.type "method_descriptor"))(hm:MtR X id r)(ho:PE X o to)(ha:PA X (e::es) t)
  (xI:acF o name X.env (aaV o X.env)=aaV o X.env:=by rfl)
  (aeD:((abj gj (aaO (e::es) X.env)).all (fun x=> !x.1) && (backToKw gj (ahr [] X.env)).all (fun x=>x.1.isSome)
   && decide ((e::es).length+([]:List Keyword).length+(if ([]:List Keyword).isEmpty then 0 else 1)<30))=true:=by rfl)
  (xJ:(apos.endLine==gj.line)=true:=by rfl) (hs:aaO (e::es) X.env=(false,aaV e X.env)::aaO es X.env:=by rfl) (Uk:(abj gj (aaO es X.env)).any (·.1)=false:=by rfl):
  PE X (.Call (.Attribute o name apos) (e::es) [] gj) (tBM X.K T r to t):=by
 intro pins s σ H Q I h
 refine wpAny_Call_method_late xI aeD xJ rfl (cI (ho pins s σ H _ I h) fun v s1 ⟨x,H1,I1,r1,ty,q1⟩=>?_)
 obtain ⟨h1,h2⟩:=LP I1 r1 ty
 refine ⟨T,id,pa,slot,hty,h1,h2,?_⟩
 have hA:=ha gj pins s1 σ H1 _ I1 q1
 rw [hs] at hA ⊢
 refine acb (by show (false || (abj gj (aaO es X.env)).any (·.1))=false;rw [Uk]<;>rfl) (Calls.evalArgs_plain ?_)
 exact cI hA fun us s2 ⟨vs,H2,I2,r2,q2⟩=>hm pins s2 σ H2 x vs v us Q I2 r1 r2 q2
end
end L2
namespace L2
open PySem PySem.Spec PyProof.Rows
def MtM (X:Cx)(id:String)(r:Ψ):Prop:=
 ∀(pins:ε)(s:aaH)(σ:St)(H:Hp)(x:V)(xs:η)(v:Value)(us:ρ)(Q:VK),Inv X pins σ H s->RelV x v->Vals xs us->r x xs H Q->
  aaE (aaJ X.prog X.w) X.A (call (.builtin id) (v::us)) (EP X pins σ Q) X.xe s
theorem Vals.one:∀{x:V} {us:ρ},Vals [x] us->∃u,us=[u]/\RelV x u
 | _,_,.cons r .nil=>⟨_,rfl,r⟩
theorem Vals.rep {xs:η}{us:ρ}(h:Vals xs us):∀k:Nat,Vals (adt k xs).flatten (adt k us).flatten
 | 0=>.nil
 | k+1=>by
  rw [aeN,aeN,afR,afR]
  exact Vals.append h (Vals.rep h k)
theorem foldl_rep (its:ρ):∀(k:Nat)(acc:ρ),
  am4 (fun x1 x2=>x1++x2) acc.toArray (adt k its.toArray)=(acc++(adt k its).flatten).toArray
 | 0,acc=>by simp
 | k+1,acc=>by
  have e:acc.toArray++its.toArray=(acc++its).toArray:=by simp
  have e2:(acc++its)++(adt k its).flatten=acc++(adt (k+1) its).flatten:=by
   rw [aeN,afR,afT]
  rw [<-e2,<-foldl_rep its k (acc++its),<-e,aeN,List.foldl_cons]
section
variable {X:Cx}{pins:ε}{σ:St}{H:Hp}{s:aaH}{l b:aaz}{xs ys zs:η}
theorem Inv.Xx {its its':ρ}(I:Inv X pins σ H s)(hH:H l=some (.lst xs))
  (e:s.heap.get? l=some {cls:=.type "list",data:=.seq its.toArray n}) (hf:f its.toArray=its'.toArray) (hv:Vals ys its') (hz:ys.length<=aaD):
  Inv X pins σ (upd H l (.lst ys)) {s with heap:=s.heap.update l (abH f),toks:=t'}:=by
 have q:=PySem.IsL.update e f
 rw [hf] at q
 refine I.write (x:=l) (e:=l) (by rw [hH];exact trivial) (.inl rfl) (fun b' u hb hu=>(aa5 s.heap (abH f) (adO hb)).trans hu) ⟨_,q⟩ ?_
 exact ⟨hz,its',_,hv,q⟩
theorem Inv.Ul {its:ρ}(I:Inv X pins σ H s)(hv:Vals ys its)(hz:ys.length<=aaD):
  Inv X pins σ (upd H s.heap.objs.size (.lst ys)) {s with heap:=s.heap.push {cls:=.type "list",data:=.seq its.toArray},toks:=t'}:=
 I.laid (fun _ _ q=>aaB _ q) (aa_ _) ⟨hz,its,0,hv,aaL _ rfl⟩
theorem Inv.fresh (I:Inv X pins σ H s):H s.heap.objs.size=none:=I.bH.fresh (aa_ _)
theorem Inv.qF (I:Inv X pins σ H s)(hH:H l=some (.lst xs)):xs.length<=aaD/\∃(its:ρ)(n:Nat),Vals xs its/\xs.length=its.length/\s.heap.get? l=some {cls:=.type "list",data:=.seq its.toArray n}:=by
 obtain ⟨z,its,n,r,e⟩:=I.bH l _ hH
 exact ⟨z,its,n,r,r.length,e⟩
theorem xK (h:n<=aaD):abp n=false:=by
 unfold abp
 exact aa0 (by omega)
end
section
variable {X:Cx}
inductive DJ (x:V)(vs:η)(H:Hp)(Q:VK):Prop
|mk (l xs y:_)(_:x=.ref l)(_:vs=[y])(_:H l=some (.lst xs))(_:xs.length<aaD)(_:Q .cS (upd H l (.lst (xs++[y]))))
theorem fN:MtM X "list.append" DJ:=by
 intro pins s σ H x vs v us Q I rx rv h
 obtain ⟨l,xs,y,rfl,rfl,hH,hz,q⟩:=h
 cases rx
 obtain ⟨u,rfl,ru⟩:=rv.one
 obtain ⟨z,its,n,r,hl,e⟩:=I.qF hH
 refine call_meets F.slot_list_append ⟨_,e,rfl⟩ F.entry_list_append (F.args_list_append_2 _ _) (PySem.list_append l its.toArray n u (by rw [adC];omega)) ⟨e,?_⟩
 refine ⟨.cS,_,I.Xx (its':=its++[u]) hH e (by simp) (r.append (.cons ru .nil)) ?_,rfl,q⟩
 rw [adl,afZ]
 omega
inductive Xy (x:V)(y:V)(H:Hp)(Q:VK):Prop
|mk (l b xs zs:_)(_:x=.ref l)(_:y=.ref b)(_:H l=some (.lst xs))(_:H b=some (.lst zs))(_:xs.length+zs.length<=aaD)(_:∀p,H p=none->Q (.ref p) (upd H p (.lst (xs++zs))))
theorem jC:kc X (abv .Add) Xy:=by
 intro pins s σ H x y v u Q I rx ry h
 obtain ⟨l,b,xs,zs,rfl,rfl,hH,hB,hz,q⟩:=h
 cases rx
 cases ry
 obtain ⟨z,its,n,r,hl,e⟩:=I.qF hH
 obtain ⟨z2,fJ,n2,r2,AF,e2⟩:=I.qF hB
 refine PySem.P.add_list e e2 ?_ (by rw [adC,adC];omega)
 have ea:its.toArray++fJ.toArray=(its++fJ).toArray:=by simp
 rw [ea]
 exact ⟨.ref _,_,I.Ul (t':=s.toks) (r.append r2) (by rw [adl];omega),rfl,q _ I.fresh⟩
inductive Xz (x:V)(y:V)(H:Hp)(Q:VK):Prop
|mk (l k xs:_)(_:x=.ref l)(_:y=.int k)(_:H l=some (.lst xs))(_: -(2^63)<=k)(_:k<2^63)(_:xs.length*k.toNat<=aaD)(_:∀p,H p=none->Q (.ref p) (upd H p (.lst (adt k.toNat xs).flatten)))
theorem len_rep {α:Type}(xs:List α)(k:Nat):(adt k xs).flatten.length=k*xs.length:=by
 induction k with
 | zero=>simp
 | succ k ih=>rw [aeN,afR,adl,ih,Nat.succ_mul,agf]
theorem vb:kc X (abv .Mult) Xz:=by
 intro pins s σ H x y v u Q I rx ry h
 obtain ⟨l,k,xs,rfl,rfl,hH,h1,h2,hz,q⟩:=h
 cases rx
 obtain ⟨t,rfl⟩:=ry
 obtain ⟨z,its,n,r,hl,e⟩:=I.qF hH
 have hlen:its.toArray.size*k.toNat<=aaD:=by rw [adC,<-hl];exact hz
 have aeE:¬ its.toArray.size*k.toNat > (2^63-1) / 8:=by
  have:(aaD:Nat)<=(2^63-1) / 8:=by decide
  omega
 have aeF:¬ (!Builtin.List.listFitsIndex k)=true:=by
  rw [fitsIndex_both h1 h2]
  exact adx
 have LQ:¬ abp (its.toArray.size*k.toNat)=true:=by
  rw [xK hlen]
  exact adx
 have aeG:am4 (fun x1 x2=>x1++x2) #[] (adt (if its.toArray.isEmpty=true then 0 else k.toNat) its.toArray)=(adt k.toNat its).flatten.toArray:=by
  have f0:∀m:Nat,am4 (fun x1 x2=>x1++x2) #[] (adt m its.toArray)=(adt m its).flatten.toArray:=fun m=>by
   have:=foldl_rep its m []
   rw [ag4] at this
   exact this
  rw [f0]
  cases its with
  | nil=>simp
  | cons a r'=>rw [aaA (by simp)]
 refine wpAny_binaryOp_repeat_ref (T:="list") (U:="int") (by decide) ⟨_,e,rfl⟩ (fun s'=>typeIs_int s' k t) noFill_list_mul F.fills_int_mul F.slot_int_rmul repeat_list F.slot_int_index.lookup
  (call_meets F.slot_int_rmul (typeIs_int s k t) F.entry_int_rmul (F.args_int_rmul_2 _ _) (int___rmul___int_list k t l its.toArray n)
   ⟨e,rfl,⟨_,e,rfl⟩,call_meets F.slot_list_mul ⟨_,e,rfl⟩ F.entry_list_mul (F.args_list_mul_2 _ _) (AutoListH.list___mul___list_int_3 l its.toArray n k t aeF aeE LQ) ⟨e,?_⟩⟩)
 rw [aeG]
 exact ⟨.ref _,_,I.Ul (t':=s.toks) (r.rep k.toNat) (by rw [len_rep,agg];exact hz),rfl,q _ I.fresh⟩
end
section
variable {prog:aaP}{w:World}{A:aaT}{E:δ}{s:aaH}
set_option maxRecDepth 100000 in
end
section
variable {X:Cx}
end
end L2
namespace Att
open PySem PySem.W PySem.Calls PyProof.Rows
theorem pG :∀(ns:ξ)(vs:ρ),WellAll P h vs (ns.map WData.int)->IntsAre vs ns:=by
 intro ns
 induction ns with
 | nil=>
  intro vs w
  rw [adM] at w
  cases w
  exact .nil
 | cons n ns ih=>
  intro vs w
  rw [aau] at w
  cases w with
  | cons a b=>
   cases a
   exact .cons _ _ (ih _ b)
theorem GJ {l:OpenLaw}(hn:l.most=some n){vals:ρ}
  (Qf:l.row.toRowW.claim.pre args=true) (hwl:WellAll P h vals args):
  ∃a vs ns,vals=[Value.ref a]/\args=[WData.list (ns.map WData.int)]/\h.get? a=some {cls:=.type "list",data:=.seq vs.toArray}/\IntsAre vs ns/\ns.length<=n:=by
 have hsh:WShape.hasAll [] args [.list .int]=true:=(pre_splitW Qf).1
 have hc:l.pre.holds [] {args:=args}=true:=(pre_splitW Qf).2
 obtain ⟨d,r,rfl,h1,h2⟩:=hasAllW_cons hsh
 obtain rfl:=hasAllW_nil h2
 obtain ⟨xs,rfl,h3⟩:=hasW_list h1
 obtain ⟨ns,rfl⟩:=items_int h3
 have hlen:ns.length<=n:=by
  unfold OpenLaw.pre at hc
  have h4:(WTm.not (.lt (.lit (.int (n:Int))) (.len (.arg 0)))).holds [] {args:=[.list (ns.map .int)]}=true:=by
   have h4:=(holds_andW hc).1
   rw [hn] at h4
   exact h4
  have h5:=condW_of h4 (w_not (w_lt w_lit (w_len_list (w_arg rfl))))
  rw [be] at h5
  refine agG fun q=>?_
  have q':(n:Int)<((ns.length:Nat):Int):=by omega
  first
   | (rw [aaS q'] at h5;exact aaM h5 (by decide))
   | (simp at h5;omega)
 cases hwl with
 | cons w1 w2=>
  cases w2
  cases w1 with
  | list ho LR=>exact ⟨_,_,ns,rfl,rfl,ho,pG ns _ LR,hlen⟩
theorem GK (l:OpenLaw)(args:List WData):l.row.toRowW.claim.post args (.bool true) args=true:=
 postW_of (r:=l.row.toRowW) (X:=(true==true))
  (show WShape.has [] (.bool true) .bool=true by first|rfl|decide|simp [WShape.has,WShape.arms,WShape.armsAll])
  (show (WTm.eq .res (.lit (.bool true))).value [] {args:=args,res:=some (.bool true),after:=args}=some (.bool (true==true)) from w_eq_bool (w_res rfl) w_lit) rfl
section
variable {prog:aaP}{w:World}{A:aaT}{E:δ}{s:aaH}{K:Frag}
end
end Att
namespace L2
open PySem PySem.Spec PyProof.Rows
theorem uo:∀{vs:ρ} {ns:ξ},IntsAre vs ns->Vals (ns.map V.int) vs
 | _,_,.nil=>.nil
 | _,_,.cons n t h=>.cons ⟨t,rfl⟩ (uo h)
def XA (H:Hp):Prop:=∀b,H b=none\/∃o xs,H b=some (.fq o (.lst xs))
theorem LS {K:Frag}{mg mb:θ}{vs:ρ}{ns:ξ}
  (KX:K.In s₁.heap) (hns:s₁.heap.Ns aaN mg) (hb:s₁.heap.Ns builtinsNs mb) (hbb:∀x:Str,x≠ "__name__"->mb x=aaY x) (aeI:s₁.heap.NoLimit) (Qg:s₁.heap.NoSeer) (hg:s₁.gens= #[])
  (ha:s₁.heap.get? a=some {cls:=.type "list",data:=.seq vs.toArray}) (hi:IntsAre vs ns) (hl:ns.length<=aaD) (hr:cy k callerA)
  (F:∀base:Heap,K.In base->base.Ns aaN mg->dm P w K mg base CX k fa fd [x] sp) (XB:∀(s:aaH)(u:Value),BindsTo s fd ⟨[u],[]⟩ [(x,u)])
  (zH:∀H:Hp,XA H->aR K H a (ns.map V.int)->sp [.ref a] H (fun v _=>v=.bl true) fun _ _ _=>False)
  (hCX:∀H e s',CX [] H s₁ (fun _ _ _=>False) e s' ->False):
  abw (aaJ P w) callerA (.call (.ref fa) ⟨[.ref a],[]⟩) (fun r s'=>r=.ok (.ret (.bool true))/\OldK s₁.heap s'.heap/\s'.os=s₁.os/\ac0 s'.gens) s₁:=by
 have rv:=uo hi
 have aeJ:=hi.length
 have core:∀H:Hp,XA H->aR K H a (ns.map V.int)->kA P w H s₁.heap->(∀b,H b≠none->b=a)->(H a≠none->K.lookup a=none)->
   abw (aaJ P w) callerA (.call (.ref fa) ⟨[.ref a],[]⟩) (fun r s'=>r=.ok (.ret (.bool true))/\OldK s₁.heap s'.heap/\s'.os=s₁.os/\ac0 s'.gens) s₁:=by
  intro H hO hS bH hA hK
  have vc:∀{b:aaz} {o:Obj},s₁.heap.get? b=some o->H b=none->(uY s₁.heap H).get? b=some o:=fun e n=>Lo e n
  have Xs:∀{b:aaz} {o:Obj} {es:Array DictEntry} {ep:Nat},s₁.heap.get? b=some o->o.data=.dict es ep->H b=none:=fun {b o es ep} e d=>by
   cases q:H b with
   | none=>rfl
   | some u=>
    have e':b=a:=hA b (by rw [q];simp)
    subst e'
    rw [ha] at e;cases e
    have d':Data.seq vs.toArray _=Data.dict es ep:=d
    cases d'
  have SY:∀{b:aaz} {m:θ},s₁.heap.Ns b m->(uY s₁.heap H).Ns b m:=fun {b m} ⟨o,es,ep,e,d,r⟩=>⟨o,es,ep,vc e (Xs e d),d,r⟩
  have hKb:K.In (uY s₁.heap H):=fun b o e=>vc (KX b o e) (by
   cases q:H b with
   | none=>rfl
   | some u=>
    have e':b=a:=hA b (by rw [q];simp)
    subst e'
    rw [hK (by rw [q];simp)] at e;cases e)
  have hM:Mod K mg (uY s₁.heap H):=⟨hKb,SY hns,⟨mb,SY hb,hbb⟩,let ⟨mc,h1,h2⟩:=aeI;⟨mc,SY h1,h2⟩,
   ⟨let ⟨mc,h1,h2⟩:=Qg.statics;⟨mc,SY h1,h2⟩,let ⟨mc,h1,h2⟩:=Qg.mods;⟨mc,SY h1,h2⟩,let ⟨mc,h1,h2⟩:=Qg.imp;⟨mc,SY h1,h2⟩,
    let ⟨mg',bm,ob,h1,h2,h3,h4,h5⟩:=Qg.main;⟨mg',bm,ob,SY h1,h2,vc h3 (by
     cases q:H bm with
     | none=>rfl
     | some u=>
      have e':bm=a:=hA bm (by rw [q];simp)
      subst e'
      rw [ha] at h3
      cases h3
      have h4':Value.type "list"=Value.type "module":=h4
      injection h4' with e9
      exact aaM e9 (by decide)),h4,h5⟩⟩⟩
  have e0:AD P w K mg (uY s₁.heap H) callerA [] s₁ H:=⟨rfl,hM,fun b o e=>PD e,agJ (FX _ _),trivial,fun b hb=>aaM (show b∈([]:List aaz) from hb) (by simp),bH,.of_eq hg⟩
  refine codeAny_mono ((F _ hKb (SY hns)).run callerA [] s₁ H ⟨[.ref a],[]⟩ [.ref a] [.ref a] _ _ hr e0 (XB s₁ (.ref a)) (.cons rfl .nil) (zH H hO hS)) fun r s' h=>?_
  cases r with
  | error e=>exact (hCX H e s' h).elim
  | ok fl=>
   cases fl with
   | next=>exact False.elim h
   | brk=>exact False.elim h
   | cont=>exact False.elim h
   | ret u=>
    obtain ⟨v,H',os,bare,un,aeK,r',q⟩:=h
    have q':v=.bl true:=q
    subst q'
    obtain rfl:u=Value.bool true:=r'
    refine ⟨rfl,OldK.of_keep fun b o e=>?_,os,bare⟩
    cases q:H b with
    | none=>exact un.keep b o e q (by intro z;exact aaM (show b∈([]:List aaz) from z) (by simp)) (by simp)
    | some u=>
     rcases hO b with z|⟨ob,xs,z⟩
     ·rw [q] at z;cases z
     ·have z2:=un.sQ b ob _ z
      obtain ⟨e1,_⟩:=bH b _ z
      obtain ⟨e2,_⟩:=aeK b _ z2
      rw [e] at e1;cases e1
      exact e2
 cases hk:K.lookup a with
 | some o=>
  have e:=KX a o hk
  rw [ha] at e
  cases e
  refine core (fun _=>none) (fun _=>.inl rfl) (.inr ⟨_,vs.toArray,_,hk,rfl,rfl,rfl,by rw [adC,aeJ];exact hl,by simpa using rv⟩) (fun b u z=>by have z':(none:Option HO)=some u:=z;cases z') (fun b z=>aaM rfl z) fun z=>aaM rfl z
 | none=>
  refine core (fun b=>if b=a then some (.fq {cls:=.type "list",data:=.seq vs.toArray} (.lst (ns.map V.int))) else none) (fun b=>?_) (.inl (.inr ⟨{cls:=.type "list",data:=.seq vs.toArray},aaC rfl⟩)) (fun b u z=>?_) (fun b z=>?_) fun _=>hk
  ·by_cases hb:b=a
   ·exact .inr ⟨_,_,aaC hb⟩
   ·exact .inl (aaA hb)
  ·by_cases hb:b=a
   ·have z':=(aaC hb).symm.trans z
    cases z'
    subst hb
    exact ⟨ha,by rw [be];exact hl,vs,_,rv,ha⟩
   ·have z':=(aaA hb).symm.trans z
    cases z'
  ·by_cases hb:b=a
   ·exact hb
   ·exact aaM (aaA hb) z
end L2
namespace L2
open PySem PySem.Spec PyProof.Rows
abbrev KOf {K:Frag}{h:Heap}(_:K.In h):Frag:=K
end L2
namespace L2
open PySem PySem.Spec PyProof.Rows
def inClass (s:Stmt)(j:Nat):Stmt:=match s with
 | .ClassDef _ _ _ body _ _ _ _ _ _ _=>body.getD j (.Pass ⟨0,0,0,0⟩)
 | _=>.Pass ⟨0,0,0,0⟩
def au (s:Stmt):Arguments:=match s with
 | .FunctionDef _ a _ _ _ _ _ _ _ _=>a
 | _=>{posonlyargs:=[],args:=[],vararg:=none,kwonlyargs:=[],kw_defaults:=[],kwarg:=none,defaults:=[]}
def aq (s:Stmt):List Stmt:=match s with
 | .FunctionDef _ _ b _ _ _ _ _ _ _=>b
 | _=>[]
def ae (s:Stmt):Scope:=match s with
 | .FunctionDef _ _ _ _ _ _ sc _ _ _=>sc
 | _=>{kind:=.function,names:=[],isGenerator:=false,isCoroutine:=false}
abbrev E0:XK:=fun _ _ _=>False
structure qG (K:Frag)(x qual:Str)(st:Stmt)(f:aaz)(fd:FuncData):Prop where
 ex:∃(oc:Value)(od:Κ)(kV doc pm:Value)(an:Κ)(bZ ct:Value)(sL:Ξ),
  fd=fnOf x qual (au st) (aq st) (ae st) .none kV doc pm an bZ ct/\K.lookup f=some ⟨oc,od,.func fd,sL⟩/\codeIn K bZ qual=true
 kp:keepIn K (.ref f)=true
section
variable {P:aaP}{w:World}{K:Frag}{mg:θ}{base:Heap}
theorem qG.binds {st:Stmt}(F:qG K x qual st f fd)
  (h:∀(kV doc pm:Value)(an:Κ)(bZ ct:Value)(us:ρ),us.length=ps.length->bindArgs (fnOf x qual (au st) (aq st) (ae st) .none kV doc pm an bZ ct) ⟨us,[]⟩=pure (ps.zip us)):Binds K fd ps []:=by
 obtain ⟨oc,od,kV,doc,pm,an,bZ,ct,sL,rfl,lk,sR⟩:=F.ex
 exact .all (h kV doc pm an bZ ct)
theorem d9 {st:Stmt}{od an:Κ}{sL:Ξ}{kV doc pm bZ ct:Value}(l:K.lookup f=some ⟨oc,od,.func (fnOf x qual (au st) (aq st) (ae st) .none kV doc pm an bZ ct),sL⟩)
  (c:codeIn K bZ qual=true) (k:keepIn K (.ref f)=true):qG K x qual st f (fnOf x qual (au st) (aq st) (ae st) .none kV doc pm an bZ ct):=⟨⟨oc,od,kV,doc,pm,an,bZ,ct,sL,rfl,l,c⟩,k⟩
end
theorem bw (hr:cy k A):A.units+1<abG:=ac_ (Nat.add_le_add_left (by decide:1<=64) _) hr.units
section
variable {X:Cx}
theorem pv (i:Nat){pos:Pos}(hN:X.N[i]?=some x:=by rfl)(hv:Vis X.env.scope x:=by first|exact agC rfl|exact amI (agC rfl)|exact amI (amI rfl))(hd:(x==("__debug__":Str))=false:=by decide)
  (sR:(x==("__classdict__":Str))=false:=by decide):PE X (.Name x pos) (PV i):=T8 hN hv hd sR
end
theorem Qh {A B:Prop}(h:B):if false=true then A else B:=by
 rw [aaA adx]
 exact h
theorem aeL {A B:Prop}(h:A):if true=true then A else B:=by
 rw [aaC rfl]
 exact h
theorem bu {c A B:Prop}[Decidable c](h1:c->A)(h2:¬ c->B):if c then A else B:=by
 by_cases h:c
 ·rw [aaC h]
  exact h1 h
 ·rw [aaA h]
  exact h2 h
theorem DK {c A B:Prop}[Decidable c](hc:c)(h:B):if (!decide c)=true then A else B:=by
 rw [aaS hc]
 exact Qh h
def ao (H H':Hp):Prop:=∀b o,H b=some o->H' b=some o
theorem ao.refl (H:Hp):ao H H:=fun _ _ h=>h
theorem ao.trans (a:ao H H1)(b:ao H1 H2):ao H H2:=fun c o h=>b c o (a c o h)
theorem ao.free (e:ao H H')(h:H' l=anx):H l=anx:=by
 cases q:H l with
 | none=>rfl
 | some o=>
  rw [e l o q] at h
  cases h
theorem ao.seq {K:Frag}(e:ao H H')(h:aR K H a xs):aR K H' a xs:=by
 rcases h with (h|⟨o,h⟩)|h
 ·exact .inl (.inl (e _ _ h))
 ·exact .inl (.inr ⟨o,e _ _ h⟩)
 ·exact .inr h
end L2
namespace Ty
def gz (t b:Int):Int:=(ad1 t b:Nat)
def sg (t b:Int):Int:=if b<0 then -gz t b else gz t b
def low (t b:Int):Int×Int:=(t.fdiv (sg t b),b.fdiv (sg t b))
theorem xM (a b:Int):ad1 b (a.fmod b)=ad1 a b:=by
 rw [amu,Int.gcd_sub_mul_left_right,Int.gcd_comm]
theorem uq {a b:Int}(h:b≠0):(a.fmod b).natAbs<b.natAbs:=by
 rcases afU b 0 with q|q|q
 ·have h1:(-a).fmod (-b)= -(a.fmod b):=by
   rw [amu,amu,Int.neg_fdiv_neg,Int.neg_mul]
   omega
  have h2:=afb (-a) (show 0 < -b by omega)
  have h3:=agl (-a) (show 0 < -b by omega)
  omega
 ·exact aaM q h
 ·have h2:=afb a q
  have h3:=agl a q
  omega
theorem vd (h:b≠0):0<gz t b:=by
 have:=amU.mpr (amI h:t≠0\/b≠0)
 show (0:Int)<((ad1 t b:Nat):Int)
 omega
theorem XC (h:b≠0):(gz t b).natAbs<=b.natAbs:=by
 have h1:ad1 t b ∣ b.natAbs:=afr.mpr (aeX t b)
 have h2:=Nat.le_of_dvd (by omega) h1
 show ((ad1 t b:Nat):Int).natAbs<=_
 omega
theorem qH (h:b≠0):sg t b≠0:=by
 have:=vd (t:=t) h
 unfold sg
 split<;>omega
theorem Um :(sg t b).natAbs=(gz t b).natAbs:=by
 unfold sg
 split
 ·exact ak_ _
 ·rfl
theorem xN (t b:Int):sg t b ∣ t:=by
 unfold sg gz
 split
 ·exact Int.neg_dvd.mpr (ae8 t b)
 ·exact ae8 t b
theorem ve (t b:Int):sg t b ∣ b:=by
 unfold sg gz
 split
 ·exact Int.neg_dvd.mpr (aeX t b)
 ·exact aeX t b
theorem cK {a g:Int}(h:g≠0)(d:g ∣ a):a=g*a.fdiv g:=by
 obtain ⟨c,hc⟩:=d
 have:=aft h hc
 rw [this]
 exact hc
theorem p_ (h:b≠0):t=sg t b*(low t b).1:=cK (qH h) (xN t b)
theorem mh (h:b≠0):b=sg t b*(low t b).2:=cK (qH h) (ve t b)
theorem jV (h:b≠0):0<(low t b).2:=by
 have e:=mh (t:=t) h
 have g:=vd (t:=t) h
 rcases afU (low t b).2 0 with q|q|q
 ·exfalso
  by_cases c:b<0
  ·have s:sg t b= -gz t b:=by unfold sg;rw [aaC c]
   rw [s] at e
   have:=Int.mul_pos_of_neg_of_neg (show -gz t b<0 by omega) q
   omega
  ·have s:sg t b=gz t b:=by unfold sg;rw [aaA c]
   rw [s] at e
   have:=agr g q
   omega
 ·exfalso
  rw [q,afV] at e
  exact h e
 ·exact q
theorem GL (h:b≠0):(low t b).1*b=t*(low t b).2:=by
 have e1:=p_ (t:=t) h
 have e2:=mh (t:=t) h
 calc (low t b).1*b=(low t b).1*(sg t b*(low t b).2):=by rw [<-e2]
  _=sg t b*(low t b).1*(low t b).2:=by rw [<-af7,ae1 (low t b).1]
  _=t*(low t b).2:=by rw [<-e1]
theorem qa (h:b≠0):ad1 (low t b).1 (low t b).2=1:=by
 have e1:=p_ (t:=t) h
 have e2:=mh (t:=t) h
 have k:ad1 t b=(sg t b).natAbs*ad1 (low t b).1 (low t b).2:=by
  have q:=amJ (sg t b) (low t b).1 (low t b).2
  rw [<-e1,<-e2] at q
  exact q
 have g:(sg t b).natAbs=ad1 t b:=by
  rw [Um]
  rfl
 have p:=amU.mpr (amI h:t≠0\/b≠0)
 rw [g] at k
 have k':ad1 t b*1=ad1 t b*ad1 (low t b).1 (low t b).2:=by rw [Nat.mul_one];exact k
 exact (Nat.eq_of_mul_eq_mul_left p k').symm
theorem eh {g a:Int}(h:g≠0):a.natAbs<=(g*a).natAbs:=by
 rw [aeu]
 have:1<=g.natAbs:=by omega
 have:=adz a.natAbs this
 omega
theorem kY (h:b≠0):(low t b).1.natAbs<=t.natAbs:=by
 have e:=p_ (t:=t) h
 have:=eh (g:=sg t b) (a:=(low t b).1) (qH h)
 rw [<-e] at this
 exact this
theorem kZ (h:b≠0):(low t b).2.natAbs<=b.natAbs:=by
 have e:=mh (t:=t) h
 have:=eh (g:=sg t b) (a:=(low t b).2) (qH h)
 rw [<-e] at this
 exact this
theorem LU (hg:g≠0)(ht:t=g*x)(hb:b=g*y)(hy:0<y)(h1:ad1 x y=1):low t b=(x,y):=by
 have hbn:b≠0:=by
  rw [hb]
  exact afL hg (by omega)
 have gg:ad1 t b=g.natAbs:=by
  rw [ht,hb,amJ,h1,Nat.mul_one]
 have s:sg t b=g:=by
  unfold sg gz
  rw [gg]
  by_cases c:g<0
  ·have:b<0:=by rw [hb];exact Int.mul_neg_of_neg_of_pos c hy
   rw [aaC this]
   omega
  ·have:¬ b<0:=by
    have:=Int.mul_nonneg (show 0<=g by omega) (show 0<=y by omega)
    omega
   rw [aaA this]
   omega
 unfold low
 rw [s]
 rw [aft hg ht,aft hg hb]
theorem mi (hy:0<y)(h:ad1 x y=1):low x y=(x,y):=LU (g:=1) (by decide) (by omega) (by omega) hy h
theorem ur (hk:k≠0)(h:b≠0):low (k*t) (k*b)=low t b:=by
 refine LU (g:=k*sg t b) (afL hk (qH h)) ?_ ?_ (jV h) (qa h)
 ·rw [af7]
  exact aaQ (k*·) (p_ h)
 ·rw [af7]
  exact aaQ (k*·) (mh h)
theorem sY (hb:b≠0)(hc:c≠0)(h:t*c=u*b):low t b=low u c:=by
 rw [<-ur (t:=t) (b:=b) hc hb,<-ur (t:=u) (b:=c) hb hc]
 rw [ae1 c t,h,ae1 u b,ae1 c b]
end Ty
set_option maxHeartbeats 4000000
namespace Ty
open PySem PySem.Spec PyProof.Rows L2
open Builtin.Int (intBits)
section
variable {X:Cx}
def oC (i j:Int):Prop:=intBits i<=33554432/\intBits j<=33554432
theorem bQ:kc X (abv .Mult) (rI oC fun i j=>.int (i*j)):=
 Xk fun _ _ _ _ _ _ _ hc q=>mul_int q (IntMulOk.of_le hc.1 hc.2 (by decide))
def XD (i j:Int):Prop:=j≠0/\intBits j<=9000
theorem aeM (h:intBits j<=9000):Builtin.divisionGoesByPylong i j=false:=by
 refine PyProof.noPylong_of_log2 ?_
 have h1:=intBits_le_iff.mp h
 by_cases h0:j.natAbs=0
 ·rw [h0]
  decide+kernel
 ·exact (Nat.log2_lt h0).mpr h1
theorem xO:kc X (abv .FloorDiv) (rI XD fun i j=>.int (i.fdiv j)):=
 Xk fun _ _ _ _ _ _ _ hc q=>floordiv_int hc.1 q (.inl (aeM hc.2))
end
inductive Da where
 | v (x:V)
 | t (ds:List Da)
 | l (ds:List Da)
mutual
def Is (K:Frag)(H:Hp):Da->V->Prop
 | .v x,u=>u=x/\jB x=true
 | .t ds,u=>∃p xs,u=.ref p/\bM K H p xs/\ke K H ds xs
 | .l ds,u=>∃p xs,u=.ref p/\aR K H p xs/\ke K H ds xs
def ke (K:Frag)(H:Hp):List Da->List V->Prop
 | [],[]=>True
 | d::ds,x::xs=>Is K H d x/\ke K H ds xs
 | _,_=>False
end
mutual
def js:Da->Da->Bool
 | .v x,.v y=>ni x y
 | .t ds,.t es=>dq ds es
 | .l ds,.l es=>dq ds es
 | _,_=>false
def dq:List Da->List Da->Bool
 | [],[]=>true
 | d::ds,e::es=>js d e && dq ds es
 | _,_=>false
end
mutual
def alike:Da->Da->Bool
 | .v _,.v _=>true
 | .t ds,.t es=>fu ds es
 | .l ds,.l es=>fu ds es
 | _,_=>false
def fu:List Da->List Da->Bool
 | d::ds,e::es=>alike d e && fu ds es
 | _,_=>true
end
mutual
def dep:Da->Nat
 | .v _=>0
 | .t ds=>k_ ds+1
 | .l ds=>k_ ds+1
def k_:List Da->Nat
 | []=>0
 | d::ds=>max (dep d) (k_ ds)
end
theorem ke.length {K:Frag}:∀{ds:List Da} {xs:η},ke K H ds xs->ds.length=xs.length
 | [],[],_=>rfl
 | _::_,_::_,h=>aaQ (·+1) (ke.length (by unfold ke at h;exact h.2))
 | [],_::_,h=>by unfold ke at h;exact h.elim
 | _::_,[],h=>by unfold ke at h;exact h.elim
def jD (ds es:List Da)(j:Nat):Bool:=match ds[j]?,es[j]? with
 | some d,some e=>js d e
 | _,_=>true
theorem dN:∀ds es:List Da,dq ds es=((adG (min ds.length es.length)).all (jD ds es) && ds.length==es.length)
 | [],[]=>rfl
 | [],_::_=>by simp [dq]
 | _::_,[]=>by simp [dq]
 | d::ds,e::es=>by
  have ih:=dN ds es
  have r:min (d::ds).length (e::es).length=min ds.length es.length+1:=by simp [Nat.succ_min_succ]
  rw [r,agL,af2,amv]
  have b0:jD (d::ds) (e::es) 0=js d e:=rfl
  have b1:(jD (d::ds) (e::es) ∘ Nat.succ)=jD ds es:=by
   funext j
   rfl
  have l1:((d::ds).length==(e::es).length)=(ds.length==es.length):=by simp
  rw [b0,b1,l1,Bool.and_assoc,<-ih]
  rfl
section
variable {X:Cx}{pins:ε}{σ:L2.St}{H:Hp}{s:aaH}
theorem LV (h:jB x=true):ni x x=true:=by
 cases x<;>first|rfl|(simp [ni];done)|(cases h;done)
mutual
theorem vf (I:Inv X pins σ H s):∀(d e:Da)(x:V),Is X.K H d x->Is X.K H e x->alike d e=true->js d e=true
 | .v a,.v b,x,h1,h2,_=>by
  unfold Is at h1 h2
  obtain ⟨rfl,f⟩:=h1
  obtain ⟨rfl,_⟩:=h2
  unfold js
  exact LV f
 | .t ds,.t es,x,h1,h2,a=>by
  unfold Is at h1 h2
  obtain ⟨p,xs,rfl,q1,k1⟩:=h1
  obtain ⟨p',ys,e',q2,k2⟩:=h2
  cases e'
  cases I.iK q1 q2
  unfold js
  unfold alike at a
  exact qI I ds es xs k1 k2 a
 | .l ds,.l es,x,h1,h2,a=>by
  unfold Is at h1 h2
  obtain ⟨p,xs,rfl,q1,k1⟩:=h1
  obtain ⟨p',ys,e',q2,k2⟩:=h2
  cases e'
  cases I.iJ q1 q2
  unfold js
  unfold alike at a
  exact qI I ds es xs k1 k2 a
 | .v _,.t _,_,_,_,a=>by unfold alike at a;cases a
 | .v _,.l _,_,_,_,a=>by unfold alike at a;cases a
 | .t _,.v _,_,_,_,a=>by unfold alike at a;cases a
 | .t _,.l _,_,_,_,a=>by unfold alike at a;cases a
 | .l _,.v _,_,_,_,a=>by unfold alike at a;cases a
 | .l _,.t _,_,_,_,a=>by unfold alike at a;cases a
theorem qI (I:Inv X pins σ H s):∀(ds es:List Da)(xs:η),ke X.K H ds xs->ke X.K H es xs->fu ds es=true->dq ds es=true
 | [],[],_,_,_,_=>by unfold dq;rfl
 | d::ds,e::es,x::xs,h1,h2,a=>by
  unfold ke at h1 h2
  unfold fu at a
  rw [ae7] at a
  unfold dq
  rw [vf I d e x h1.1 h2.1 a.1,qI I ds es xs h1.2 h2.2 a.2]
  rfl
 | [],_::_,[],_,h2,_=>by unfold ke at h2;exact h2.elim
 | [],_::_,_::_,h1,_,_=>by unfold ke at h1;exact h1.elim
 | _::_,[],[],h1,_,_=>by unfold ke at h1;exact h1.elim
 | _::_,[],_::_,_,h2,_=>by unfold ke at h2;exact h2.elim
 | _::_,_::_,[],h1,_,_=>by unfold ke at h1;exact h1.elim
end
theorem in1_units (A:aaT):A.in1.units=A.units+1:=rfl
mutual
theorem DL (I:Inv X pins σ H s):∀(d e:Da)(x y:V)(u w:Value)(A:aaT),Is X.K H d x->Is X.K H e y->alike d e=true->RelV x u->RelV y w->A.units+dep d<abG->SeqAt.EqAt A s u w (js d e)
 | .v a,.v b,x,y,u,w,A,h1,h2,_,r1,r2,_=>by
  unfold Is at h1 h2
  obtain ⟨rfl,f1⟩:=h1
  obtain ⟨rfl,f2⟩:=h2
  unfold js
  exact LN r1 r2 f1 f2
 | .t ds,.t es,x,y,u,w,A,h1,h2,a,r1,r2,hu=>by
  have kg :=h1
  have h2':=h2
  unfold Is at h1 h2
  obtain ⟨p,xs,rfl,q1,k1⟩:=h1
  obtain ⟨p',ys,rfl,q2,k2⟩:=h2
  cases r1
  cases r2
  by_cases e:p=p'
  ·subst e
   rw [vf I _ _ _ kg h2' a]
   exact .same _
  ·refine .of_refs e ?_
   obtain ⟨its,v1,t1,_⟩:=I.tuple q1
   obtain ⟨fJ,v2,t2,_⟩:=I.tuple q2
   unfold js
   rw [dN,k1.length,k2.length,v1.length,v2.length]
   have z:=SeqAt.RcAt.tuples (A:=A) (e:=jD ds es) t1 t2 (by unfold dep at hu;omega) fun j g1 g2=>by
    unfold dep at hu
    unfold alike at a
    exact gO I ds es xs ys its fJ A.in1 k1 k2 a v1 v2 (by rw [in1_units];omega) j (by simpa using g1) (by simpa using g2)
   simpa using z
 | .l ds,.l es,x,y,u,w,A,h1,h2,a,r1,r2,hu=>by
  have kg :=h1
  have h2':=h2
  unfold Is at h1 h2
  obtain ⟨p,xs,rfl,q1,k1⟩:=h1
  obtain ⟨p',ys,rfl,q2,k2⟩:=h2
  cases r1
  cases r2
  by_cases e:p=p'
  ·subst e
   rw [vf I _ _ _ kg h2' a]
   exact .same _
  ·refine .of_refs e ?_
   obtain ⟨its,v1,t1,_⟩:=I.list q1
   obtain ⟨fJ,v2,t2,_⟩:=I.list q2
   unfold js
   unfold dep at hu
   unfold alike at a
   by_cases el:its.length=fJ.length
   ·rw [dN,k1.length,k2.length,v1.length,v2.length]
    have z:=SeqAt.RcAt.lists (A:=A) (e:=jD ds es) t1.isList t2.isList (by simpa using el) (by omega) fun j g1 g2=>
     gO I ds es xs ys its fJ A.in1 k1 k2 a v1 v2 (by rw [in1_units];omega) j (by simpa using g1) (by simpa using g2)
    rw [el,agM,beq_self_eq_true,amn]
    rw [adC,el] at z
    exact z
   ·have ne:dq ds es=false:=by
     rw [dN,k1.length,k2.length,v1.length,v2.length,beq_eq_false_iff_ne.mpr el,agm]
    rw [ne]
    exact SeqAt.RcAt.lists_lengths t1.isList t2.isList (by simpa using el) (by omega)
 | .v _,.t _,_,_,_,_,_,_,_,a,_,_,_=>by unfold alike at a;cases a
 | .v _,.l _,_,_,_,_,_,_,_,a,_,_,_=>by unfold alike at a;cases a
 | .t _,.v _,_,_,_,_,_,_,_,a,_,_,_=>by unfold alike at a;cases a
 | .t _,.l _,_,_,_,_,_,_,_,a,_,_,_=>by unfold alike at a;cases a
 | .l _,.v _,_,_,_,_,_,_,_,a,_,_,_=>by unfold alike at a;cases a
 | .l _,.t _,_,_,_,_,_,_,_,a,_,_,_=>by unfold alike at a;cases a
theorem gO (I:Inv X pins σ H s):∀(ds es:List Da)(xs ys:η)(us ws:ρ)(A:aaT),ke X.K H ds xs->ke X.K H es ys->fu ds es=true->Vals xs us->Vals ys ws->A.units+k_ ds<abG->
  ∀(j:Nat)(h1:j<us.length)(h2:j<ws.length),SeqAt.EqAt A s us[j] ws[j] (jD ds es j)
 | d::ds,e::es,xs,ys,us,ws,A,k1,k2,a,v1,v2,hu,j,h1,h2=>by
  cases xs with
  | nil=>unfold ke at k1;exact k1.elim
  | cons x xs=>
   cases ys with
   | nil=>unfold ke at k2;exact k2.elim
   | cons y ys=>
    cases v1 with
    | cons r1 v1=>
     cases v2 with
     | cons r2 v2=>
      unfold ke at k1 k2
      unfold fu at a
      rw [ae7] at a
      unfold k_ at hu
      cases j with
      | zero=>exact DL I d e x y _ _ A k1.1 k2.1 a.1 r1 r2 (by omega)
      | succ j=>exact gO I ds es xs ys _ _ A k1.2 k2.2 a.2 v1 v2 (by omega) j (by simpa using h1) (by simpa using h2)
 | [],_,xs,_,us,_,_,k1,_,_,v1,_,_,_,h1,_=>by
  cases xs with
  | nil=>
   cases v1
   exact aaM h1 (aeH _)
  | cons x xs=>unfold ke at k1;exact k1.elim
 | _::_,[],_,ys,_,ws,_,_,k2,_,_,v2,_,_,_,h2=>by
  cases ys with
  | nil=>
   cases v2
   exact aaM h2 (aeH _)
  | cons y ys=>unfold ke at k2;exact k2.elim
end
end
section
variable {X:Cx}
inductive S0 (K:Frag)(x:V)(y:V)(H:Hp)(Q:VK):Prop
|mk (ds es:_)(_:((Is K H (.t ds) x/\Is K H (.t es) y)\/(Is K H (.l ds) x/\Is K H (.l es) y)))(_:fu ds es=true)(_:k_ ds<=60)(_:Q (.bl (dq ds es)) H)
inductive DM (K:Frag)(x:V)(y:V)(H:Hp)(Q:VK):Prop
|mk (ds es:_)(_:((Is K H (.t ds) x/\Is K H (.t es) y)\/(Is K H (.l ds) x/\Is K H (.l es) y)))(_:fu ds es=true)(_:k_ ds<=60)(_:Q (.bl (!dq ds es)) H)
theorem DN (hu:X.A.units+64<abG):kc X (aba .Eq) (S0 X.K):=by
 intro pins s σ H x y v u Q I rx ry h
 obtain ⟨ds,es,h,a,hd,q⟩:=h
 rcases h with ⟨h1,h2⟩|⟨h1,h2⟩
 ·unfold Is at h1 h2
  obtain ⟨p,xs,rfl,q1,k1⟩:=h1
  obtain ⟨p',ys,rfl,q2,k2⟩:=h2
  cases rx
  cases ry
  obtain ⟨its,v1,t1,_⟩:=I.tuple q1
  obtain ⟨fJ,v2,t2,_⟩:=I.tuple q2
  have z:=SeqAt.RcAt.tuples (A:=X.A) (e:=jD ds es) t1 t2 (by omega) fun j g1 g2=>
   gO I ds es xs ys its fJ X.A.in1 k1 k2 a v1 v2 (by rw [in1_units];omega) j (by simpa using g1) (by simpa using g2)
  refine z X.prog X.w X.xe _ ⟨.bl _,H,I,rfl,?_⟩
  have e:=dN ds es
  rw [k1.length,k2.length,v1.length,v2.length] at e
  simpa [e] using q
 ·unfold Is at h1 h2
  obtain ⟨p,xs,rfl,q1,k1⟩:=h1
  obtain ⟨p',ys,rfl,q2,k2⟩:=h2
  cases rx
  cases ry
  obtain ⟨its,v1,t1,_⟩:=I.list q1
  obtain ⟨fJ,v2,t2,_⟩:=I.list q2
  have e:=dN ds es
  rw [k1.length,k2.length,v1.length,v2.length] at e
  by_cases el:its.length=fJ.length
  ·have z:=SeqAt.RcAt.lists (A:=X.A) (e:=jD ds es) t1.isList t2.isList (by simpa using el) (by omega) fun j g1 g2=>
    gO I ds es xs ys its fJ X.A.in1 k1 k2 a v1 v2 (by rw [in1_units];omega) j (by simpa using g1) (by simpa using g2)
   refine z X.prog X.w X.xe _ ⟨.bl _,H,I,rfl,?_⟩
   rw [el,agM,beq_self_eq_true,amn] at e
   simpa [e,el] using q
  ·have ne:dq ds es=false:=by rw [e,beq_eq_false_iff_ne.mpr el,agm]
   rw [ne] at q
   exact SeqAt.RcAt.lists_lengths t1.isList t2.isList (by simpa using el) (by omega) X.prog X.w X.xe _ ⟨.bl _,H,I,rfl,q⟩
theorem qb (hu:X.A.units+64<abG):kc X (aba .NotEq) (DM X.K):=by
 intro pins s σ H x y v u Q I rx ry h
 obtain ⟨ds,es,h,a,hd,q⟩:=h
 rcases h with ⟨h1,h2⟩|⟨h1,h2⟩
 ·unfold Is at h1 h2
  obtain ⟨p,xs,rfl,q1,k1⟩:=h1
  obtain ⟨p',ys,rfl,q2,k2⟩:=h2
  cases rx
  cases ry
  obtain ⟨its,v1,t1,_⟩:=I.tuple q1
  obtain ⟨fJ,v2,t2,_⟩:=I.tuple q2
  have z:=SeqAt.RcNeAt.tuples (A:=X.A) (e:=jD ds es) t1 t2 (by omega) fun j g1 g2=>
   gO I ds es xs ys its fJ X.A.in1 k1 k2 a v1 v2 (by rw [in1_units];omega) j (by simpa using g1) (by simpa using g2)
  refine z X.prog X.w X.xe _ ⟨.bl _,H,I,rfl,?_⟩
  have e:=dN ds es
  rw [k1.length,k2.length,v1.length,v2.length] at e
  simpa [e] using q
 ·unfold Is at h1 h2
  obtain ⟨p,xs,rfl,q1,k1⟩:=h1
  obtain ⟨p',ys,rfl,q2,k2⟩:=h2
  cases rx
  cases ry
  obtain ⟨its,v1,t1,_⟩:=I.list q1
  obtain ⟨fJ,v2,t2,_⟩:=I.list q2
  have e:=dN ds es
  rw [k1.length,k2.length,v1.length,v2.length] at e
  by_cases el:its.length=fJ.length
  ·have z:=SeqAt.RcNeAt.lists (A:=X.A) (e:=jD ds es) t1.isList t2.isList (by simpa using el) (by omega) fun j g1 g2=>
    gO I ds es xs ys its fJ X.A.in1 k1 k2 a v1 v2 (by rw [in1_units];omega) j (by simpa using g1) (by simpa using g2)
   refine z X.prog X.w X.xe _ ⟨.bl _,H,I,rfl,?_⟩
   rw [el,agM,beq_self_eq_true,amn] at e
   simpa [e,el] using q
  ·have ne:dq ds es=false:=by rw [e,beq_eq_false_iff_ne.mpr el,agm]
   rw [ne] at q
   exact SeqAt.RcNeAt.lists_lengths t1.isList t2.isList (by simpa using el) (by omega) X.prog X.w X.xe _ ⟨.bl _,H,I,rfl,q⟩
def Uo:V->Value
 | .ty n=>.type n
 | .ref a=>.ref a
 | _=>.none
def S1:V->Bool
 | .ty _=>true
 | .ref _=>true
 | _=>false
theorem DO (h:S1 c=true)(r:RelV c u):u=Uo c:=by
 cases c<;>first|exact r|(cases h;done)
inductive XE (K:Frag)(xs:η)(H:Hp)(Q:VK):Prop
|mk (x c t b:_)(_:xs=[x,c])(_:S1 c=true)(_:m_ K H x t)(_:aa4 K t (Uo c)=some b)(_:Q (.bl b) H)
theorem f9:iL X (.builtin "isinstance") (XE X.K):=by
 intro pins s σ H xs us Q I r h
 obtain ⟨x,c,t,b,rfl,hc,ty,e,q⟩:=h
 obtain ⟨u,w,rfl,r1,r2⟩:=vals2 r
 obtain rfl:=DO hc r2
 exact GG I r1 ty e fun tk=>⟨.bl b,H,I.tok tk,rfl,q⟩
end
section
variable {K:Frag}
theorem LW (h:((Value.type a==Value.type b)=true->v=true)/\((Value.type a==Value.type b)=false->PySem.W.kitMeta b=true/\(fastBuiltinMro a).map (·.contains (Value.type b))=some v)):aa4 K (.type a) (.type b)=some v:=by
 unfold aa4
 by_cases e:(Value.type a==Value.type b)=true
 ·rw [aaC e,h.1 e]
 ·rw [aaA e]
  obtain ⟨h1,h2⟩:=h.2 (by simpa using e)
  unfold PySem.W.kitCls
  dsimp only
  rw [aaC h1]
  exact h2
end
theorem cz:aaY "len"=some (.builtin "len"):=by decide+kernel
theorem S2:aaY "abs"=some (.builtin "abs"):=by decide+kernel
theorem cj:aaY "isinstance"=some (.builtin "isinstance"):=by decide+kernel
theorem S3:aaY "all"=some (.builtin "all"):=by decide+kernel
theorem XF:aaY "int"=some (.type "int"):=by decide+kernel
theorem Up:aaY "bool"=some (.type "bool"):=by decide+kernel
theorem XG:aaY "str"=some (.type "str"):=by decide+kernel
theorem i7:aaY "list"=some (.type "list"):=by decide+kernel
theorem vg:aaY "tuple"=some (.type "tuple"):=by decide+kernel
theorem AG:aaY "dict"=some (.type "dict"):=by decide+kernel
theorem mj {pos:Pos}(hg:Gl X x)(hm:X.mg x=none)(hv:aaY x=some (.type n))(hn:x≠ "__name__":=by decide)(hd:(x==("__debug__":Str))=false:=by decide):PE X (.Name x pos) (tC (.ty n)):=PX (v:=.ty n) hg hm hv rfl hn hd
def Uq (_ j:Int):Prop:=j≠0
theorem nz (h:j≠0):Uq i j:=h
theorem fw :kc X (abv .Mod) (rI Uq fun i j=>.int (i.fmod j)):=P6
theorem DP :k_ [.v a,.v b]<=60:=by simp [k_,dep]
end Ty
set_option maxHeartbeats 4000000
namespace TyAtt
open PySem PySem.W PySem.Calls PyProof.Rows
open Builtin.Int (intBits)
theorem GN {ns:ξ}(h:(WData.list (ns.map WData.int)).layable=true)(hn:n∈ns):intBits n<=1048576:=by
 obtain ⟨_,_,hw⟩:=layableW_iff.mp h
 have a:∀(l:ξ),n∈l->intBits n<=WData.weightAll (l.map WData.int):=by
  intro l
  induction l with
  | nil=>intro q;cases q
  | cons y r ih=>
   intro q
   rw [aau]
   unfold WData.weightAll
   rcases adD.mp q with z|z
   ·subst z
    have:intBits n<=WData.weight (.int n):=by
     unfold WData.weight
     exact aa_ _
    omega
   ·have:=ih z
    omega
 have b:=a ns hn
 unfold WData.weight at hw
 omega
theorem xP {l:OpenLaw}{loose:ς}
  (hn:l.most=some n) (hdf:d.params.defaults=[])
  (call:∀(w:World)(s₀ s₁:aaH)(mg mb:θ)(fa:aaz)(o:Obj)(pm cd doc:Value)(a:aaz)(vs:ρ)(ns:ξ),
   Ground q loose [] XP w s₀ mg mb s₁.heap->YP w s₁.heap->
   s₁.heap.get? fa=some o->o.data=.func (docDef d.name d.params d.body d.scope pm cd doc)->s₁.heap.CodeRec cd d.name->mg d.name=some (.ref fa)->
   s₁.heap.get? a=some {cls:=.type "list",data:=.seq vs.toArray}->IntsAre vs ns->ns.length<=n->(∀i∈ns,intBits i<=1048576)->s₁.gens= #[]->
   abw (aaJ l.prog w) callerA (.call (.ref fa) ⟨[.ref a],[]⟩) (fun r s'=>r=.ok (.ret (.bool true))/\OldK s₁.heap s'.heap/\s'.os=s₁.os/\ac0 s'.gens) s₁):
  WalkO q loose XP YP l.row.toRowW d [] (fun f vs=>PySem.call f vs):=by
 intro w s₀ s₁ mg mb G Y fa o pm cd doc dV kV ho hd sR hD XH hg args vals as Qf hlay hrd hwl hlo
 obtain rfl:dV=.none:=Dflts.none hD hdf
 obtain rfl:kV=.none:=Dflts.noKw hD
 obtain ⟨a,vs,ns,rfl,rfl,Ur,hints,hlen⟩:=Att.GJ hn Qf hwl
 have hb:∀i∈ns,intBits i<=1048576:=fun i hi=>GN (layW_cons hlay).1 hi
 refine enter_call (codeAny_mono (call w s₀ s₁ mg mb fa o pm cd doc a vs ns G Y ho (fd_plain hd) sR XH Ur hints hlen hb hg) fun r s' hq=>?_)
 obtain ⟨rfl,h2,h3,h4⟩:=hq
 exact ⟨.inl ⟨.bool true,.bool true,[],rfl,fun _=>rfl,.bool true,Att.GK l _,fun _=>⟨List.Pairwise.nil,fun _ hm=>(nomatch hm)⟩⟩,h2,h3,h4⟩
end TyAtt
namespace Ty
open PySem PySem.Spec PyProof.Rows L2
open Builtin.Int (intBits)
structure Fn (P:aaP)(w:World)(K:Frag)(mg:θ)(base:Heap)(CX:me)(k:Nat)(x:Str)(ps:ς)(sp:Sp):Prop where
 ex:∃(f:aaz)(fd:FuncData),dm P w K mg base CX k f fd ps sp/\Binds K fd ps []/\mg x=some (.ref f)/\keepIn K (.ref f)=true
structure Def (K:Frag)(mg:θ)(x:Str)(st:Stmt)(ps:ς):Prop where
 ex:∃(f:aaz)(dV oc:Value)(od:Κ)(kV doc pm:Value)(an:Κ)(bZ ct:Value)(sL:Ξ),
  K.lookup f=some ⟨oc,od,.func (fnOf x x (au st) (aq st) (ae st) dV kV doc pm an bZ ct),sL⟩/\codeIn K bZ x=true/\keepIn K (.ref f)=true/\
  Binds K (fnOf x x (au st) (aq st) (ae st) dV kV doc pm an bZ ct) ps []/\mg x=some (.ref f)
theorem Def.of {K:Frag}{st:Stmt}(F:qG K x x st f fd)(b:Binds K fd ps [])(m:mg x=some (.ref f)):Def K mg x st ps:=by
 obtain ⟨oc,od,kV,doc,pm,an,bZ,ct,sL,rfl,lk,sR⟩:=F.ex
 exact ⟨f,.none,oc,od,kV,doc,pm,an,bZ,ct,sL,lk,sR,F.kp,b,m⟩
section
variable {P:aaP}{w:World}{K:Frag}{mg:θ}{base:Heap}{CX:me}
theorem Def.ok {st:Stmt}(D:Def K mg x st ps)(S:av N ps (ae st))(len:∀vs H Q E,sp vs H Q E->vs.length=ps.length)
  (gN:∀(f:aaz)(bZ:Value)(A:aaT)(outer:List Env)(s:aaH)(H:Hp)(vs:η)(Q:VK)(E:XK),cy k (A.deeper (abN x (ae st) s.heap.objs.size f bZ))->sp vs H Q E->
   ∃t,PSs (jr CX P w K mg base N x (ae st) f bZ A outer s H E).xl (aq st) t/\t {nx:=fun _ H'=>Q .cS H',rt:=Q} (start N vs) H):Fn P w K mg base CX (k+1) x ps sp:=by
 obtain ⟨f,dV,oc,od,kV,doc,pm,an,bZ,ct,sL,lk,sR,kp,b,m⟩:=D.ex
 refine ⟨f,_,DG lk sR S len fun A outer s H vs Q E hr zH=>?_,b,m,kp⟩
 obtain ⟨t,h,q⟩:=gN f bZ A outer s H vs Q E hr zH
 exact ⟨t,h.xl,q⟩
theorem _root_.L2.qG.okG {st:Stmt}(F:qG K x x st f fd)(S:av N ps (ae st))(len:∀vs H Q E,sp vs H Q E->vs.length=ps.length)
  (gN:∀(bZ:Value)(A:aaT)(outer:List Env)(s:aaH)(H:Hp)(vs:η)(Q:VK)(E:XK),cy k (A.deeper (abN x (ae st) s.heap.objs.size f bZ))->sp vs H Q E->
   ∃t,PSs (jr CX P w K mg base N x (ae st) f bZ A outer s H E).xl (aq st) t/\t {nx:=fun _ H'=>Q .cS H',rt:=Q} (start N vs) H):dm P w K mg base CX (k+1) f fd ps sp:=by
 obtain ⟨oc,od,kV,doc,pm,an,bZ,ct,sL,rfl,lk,sR⟩:=F.ex
 refine DG lk sR S len fun A outer s H vs Q E hr zH=>?_
 obtain ⟨t,h,q⟩:=gN bZ A outer s H vs Q E hr zH
 exact ⟨t,h.xl,q⟩
def pH (CX:me):Prop:=∀outer H s e s',CX outer H s E0 e s' ->False
theorem jE {X:Cx}(h:pH CX):Passes CX X.xl E0:=fun _ _ _ _ _ _ _ q=>(h _ _ _ _ _ q).elim
section
variable {X:Cx}{k:Nat}{ps:ς}{sp:Sp}{E:XK}{x:Str}{p pos:Pos}{e:Expr}{es:Ε}{t:TA}
theorem iM (F:Fn X.prog X.w X.K X.mg X.base CX k x ps sp)(hr:cy k X.A)(hx:Passes CX X E)(ha:PA X (e::es) t)(hg:Gl X x:=by rfl)(xC:(x==("__debug__":Str))=false:=by decide)
  (he:aaO (e::es) X.env=(false,aaV e X.env)::aaO es X.env:=by rfl) (pF:(abj pos (aaO es X.env)).any (·.1)=false:=by rfl):PE X (.Call (.Name x p) (e::es) [] pos) (DF sp [] E t):=by
 obtain ⟨f,fd,G,b,m,kp⟩:=F.ex
 exact Qa G hr hg m kp b .nil hx ha xC he pF
end
end
def LX (K:Frag):Sp:=fun vs H Q _=>∃(a:aaz)(ns:ξ),vs=[.ref a]/\aR K H a (ns.map V.int)/\ns.length<=63/\(∀i∈ns,intBits i<=1048576)/\∀H',Q (.bl true) H'
theorem walk {l:PySem.W.OpenLaw}{loose:ς}{K:Params->Frag}{CX:World->me}
  (hn:l.most=some 63) (hdf:d.params.defaults=[]) (hi:importsNone q=true) (hr:cy k callerA)
  (hY:∀(w:World)(h:Heap),YP w h->(K w.params).In h) (hm:∀w,pH (CX w))
  (F:∀(w:World)(mg:θ)(fa:aaz)(h:Heap),(K w.params).In h->h.Ns aaN mg->mg d.name=some (.ref fa)->
   ∃fd:FuncData,(∀(s:aaH)(u:Value),BindsTo s fd ⟨[u],[]⟩ [(x,u)])/\
    ∀base:Heap,(K w.params).In base->base.Ns aaN mg->dm l.prog w (K w.params) mg base (CX w) k fa fd [x] (LX (K w.params))):
  PySem.W.WalkO q loose XP YP l.row.toRowW d [] (fun f vs=>PySem.call f vs):=by
 refine TyAtt.xP hn hdf fun w s₀ s₁ mg mb fa o pm cd doc a vs ns G Y ho hd sR XH Ur hints hlen hb hg=>?_
 have KX:=hY w _ Y
 obtain ⟨fd,hbd,hF⟩:=F w mg fa _ KX G.T.g XH
 exact LS KX G.T.g G.T.b G.T.builtins G.T.nolimit (G.T.seer hi) hg Ur hints (aav hlen (by decide)) hr hF hbd (fun H hO hS=>⟨a,ns,rfl,hS,hlen,hb,fun _=>rfl⟩) fun H e s'=>hm w [] H s₁ e s'
end Ty
set_option maxHeartbeats 4000000
namespace Ty
open PySem PySem.Spec PyProof.Rows
end Ty
set_option maxHeartbeats 4000000
namespace Ty
open PySem PySem.Spec PyProof.Rows L2
def DictAt (h:Heap)(a:aaz)(dx:Κ):Prop:=∃o,h.get? a=some o/\o.dict=dx
def aT (P:aaP)(w:World):me:=fun outer H s E e s'=>∃(a:aaz)(cls a0:Value)(dx:Κ)(H':Hp)(B:Heap),
 e=.ref a/\Heap.FlyingW B outer a cls a0 s'.heap/\DictAt s'.heap a dx/\Un (CU outer) [] H H' s.heap s'.heap/\kA P w H' s'.heap/\s'.os=s.os/\ac0 s'.gens/\
 (∀b o,s.heap.get? b=some o->b∉CU outer->∃o',B.get? b=some o')/\(∀b u,H' b=some u->∃o,B.get? b=some o)/\E cls dx H'
theorem aT.AH :pH (aT P w):=fun _ _ _ _ _ h=>by obtain ⟨_,_,_,_,_,_,_,_,_,_,_,_,_,_,_,z⟩:=h;exact z
section
variable {P:aaP}{w:World}{K:Frag}{mg:θ}{base:Heap}{N:ς}{qual:Str}{scope:Scope}{f:aaz}{bZ:Value}{A:aaT}{outer:List Env}{s0:aaH}{H0:Hp}{E:XK}
abbrev cxr (P:aaP)(w:World)(K:Frag)(mg:θ)(base:Heap)(N:ς)(qual:Str)(scope:Scope)(f:aaz)(bZ:Value)(A:aaT)(outer:List Env)(s0:aaH)(H0:Hp)(E:XK):Cx:=jr (aT P w) P w K mg base N qual scope f bZ A outer s0 H0 E
end
section
variable {X:Cx}{pins:ε}{σ:L2.St}{H H':Hp}{s:aaH}
def XP (X:Cx)(pins:ε)(σ:L2.St)(E:XK)(e:Value)(s':aaH):Prop:=∃H s,Inv X pins σ H s/\aT X.prog X.w X.stack H s E e s'
end
end Ty
set_option maxHeartbeats 4000000
namespace TyExc
open PySem PySem.W PySem.Calls PyProof.Rows Builtin Builtin.ObjectAttr Builtin.Getset_descriptor
section
variable {prog:aaP}{w:World}{A:aaT}{E:δ}{K:Frag}{h:Heap}{g:Array GenState}{d:Drawn}{t:Nat}{os:OsState}{a C:aaz}{o:Obj}
end
end TyExc
set_option maxHeartbeats 4000000
namespace Ty
open PySem PySem.Spec PyProof.Rows L2
section
variable {X:Cx}
end
end Ty
set_option maxHeartbeats 4000000
namespace TyExc
open PySem PySem.W PySem.Calls PyProof.Rows Builtin Builtin.ObjectAttr Builtin.Getset_descriptor
section
variable {prog:aaP}{w:World}{A:aaT}{E:δ}{K:Frag}{h:Heap}{g:Array GenState}{d:Drawn}{t:Nat}{os:OsState}{a C:aaz}{o:Obj}{od:Option Obj}{name:Str}{v:Value}
end
end TyExc
set_option maxHeartbeats 4000000
namespace TyExc
open PySem PySem.W PySem.Calls PyProof.Rows Builtin Builtin.ObjectAttr
section
variable {prog:aaP}{w:World}{A:aaT}{E:δ}{K:Frag}{s:aaH}{x C:aaz}{ox:Obj}{od:Option Obj}{name:Str}{v:Value}{cd:ClassData}
end
end TyExc
set_option maxHeartbeats 400000
namespace TyExc
open PySem PySem.W PySem.Calls PyProof.Rows Builtin
section
variable {prog:aaP}{w:World}{A:aaT}{K:Frag}{h:Heap}{g:Array GenState}{d:Drawn}{t:Nat}{os:OsState}{e C:aaz}{oe:Obj}{vs:Ν}{args:ρ}{E:δ}
end
end TyExc
set_option maxHeartbeats 400000
namespace TyExc
open PySem PySem.W PySem.Calls PyProof.Rows Builtin
section
variable {prog:aaP}{w:World}{A:aaT}{K:Frag}{h:Heap}{g:Array GenState}{d:Drawn}{t:Nat}{os:OsState}{nm q:Str}{C N f:aaz}{bs bm bmB:ρ}{aeQ:Bool}{sn:ς}{sub:ρ}{ab:Bool}{col:Option Bool}{dd:Κ}{k0 k1 k2 k3 k5:Option Value}{B newId aeR:String}{rest:ρ}{E:δ}
end
end TyExc
set_option maxHeartbeats 400000
namespace TyExc
open PySem PySem.W PySem.Calls PyProof.Rows Builtin
section
variable {M:Model}{A:aaT}{E:δ}{env:Env}{nm q:Str}{C N:aaz}{bs bm:ρ}{aeQ:Bool}{sn:ς}{sub:ρ}{ab:Bool}{col:Option Bool}{dd:Κ}{k0 k1 k2 k3 k5:Option Value}{newId:String}{s:aaH}{x:Sem Value}{Q:Flow->aaH->Prop}
end
end TyExc
set_option maxHeartbeats 400000
namespace TyExc
open PySem PySem.W
end TyExc
namespace Ty
open PySem PySem.Spec PyProof.Rows L2
section
variable {P:aaP}{w:World}{H:Hp}{h:Heap}{C a:aaz}{dx:Κ}
end
section
variable {X:Cx}
end
end Ty
set_option maxHeartbeats 1000000
namespace Ty
open PySem PySem.Spec PyProof.Rows L2
section
variable {P:aaP}{w:World}{K:Frag}{mg:θ}{base:Heap}{N:ς}{qual:Str}{scope:Scope}{f:aaz}{bZ:Value}{A:aaT}{outer:List Env}{s0:aaH}{H0:Hp}{E:XK}
end
section
variable {prog:aaP}{w:World}{A:aaT}{R:Υ}{s:aaH}
theorem vh {ifs:Ε}(I:Nat->aaH->Prop)
  (turn:∀n s,I n s->aaE (aaJ prog w) A (abL it) (fun r s₁=>match r with
   | none=>R (.ok .next) s₁
   | some v=>aaE (aaJ prog w) A (ahg target it v) (fun _ s₁' =>aaE (aaJ prog w) A (assign target env v) (fun _ s₂=>
     aaE (aaJ prog w) A (forIn ifs true fun c r=>if r=true then do let ok <- isTrue c env (aaV c env);pure (ForInStep.yield ok) else pure (ForInStep.yield r)) (fun ok s₃=>
      if ok=true then aaE (aaJ prog w) A (aaV elt env) (fun x s₄=>
       aaE (aaJ prog w) A (call (.builtin "list.append") [acc,x]) (fun _ s₅=>∃m,m<n/\I m s₅) (fun _ _=>False) s₄) (fun _ _=>False) s₃
      else ∃m,m<n/\I m s₃) (fun _ _=>False) s₂) (fun _ _=>False) s₁') (fun _ _=>False) s₁) (fun _ _=>False) s)
  (n:Nat) (h:I n s):
  abw (aaJ prog w) A (.compLoop (.ListComp elt [⟨target,iter,ifs,0⟩] scope pos) 0 it acc env) R s:=by
 refine codeAny_loop rfl I (fun n s hI=>?_) n h
 show aaE _ A ((compTurn (.ListComp elt [⟨target,iter,ifs,0⟩] scope pos) 0 it acc env).onRaise (fun x=>do noteFrame x env;theTreesLotGoes x)) _ _ s
 refine wpAny_noted ?_
 rw [compTurn_list]
 refine aay (wpAny_standAt (aay (aa3 (turn n s hI) (fun r s₁ h₁=>?_) fun _ _ h'=>h'.elim)))
 cases r with
 | none=>exact aaF h₁
 | some v=>
  refine aay (aa3 h₁ (fun _ s₁' h₁' =>?_) fun _ _ h'=>h'.elim)
  refine aay (aa3 h₁' (fun _ s₂ h₂=>aay (aa3 h₂ (fun ok s₃ h₃=>?_) fun _ _ h'=>h'.elim)) fun _ _ h'=>h'.elim)
  cases ok with
  | false=>exact aaF ⟨rfl,h₃⟩
  | true=>
   exact aay (aay (aa3 h₃ (fun x s₄ h₄=>aay (aa3 h₄ (fun _ s₅ h₅=>aaF (aaF ⟨rfl,h₅⟩)) fun _ _ h'=>h'.elim)) fun _ _ h'=>h'.elim))
end
def ba (env:Env)(fr:ς):List (Str×aaz):=fr.filterMap fun n=>(env.cells.lookup n).map fun c=>(n,c)
theorem lookup_mem {α:Type}{c:α}:∀{l:List (Str×α)},l.lookup x=some c->(x,c)∈l
 | [],h=>by simp at h
 | (y,d)::r,h=>by
  rw [amK] at h
  cases e:x==y with
  | true=>
   rw [e] at h
   have e1:x=y:=by simpa using e
   cases h
   rw [e1]
   exact adk
  | false=>
   rw [e] at h
   exact aaw _ (lookup_mem h)
theorem GO (h:(x,c)∈ba env fr):env.cells.lookup x=some c:=by
 obtain ⟨n,_,e⟩:=agh.mp h
 cases q:env.cells.lookup n with
 | none=>rw [q] at e;cases e
 | some d=>
  rw [q] at e
  have e':(n,d)=(x,c):=ady e
  cases e'
  exact q
theorem gH (h:(ba env fr).lookup x=some c):env.cells.lookup x=some c:=GO (lookup_mem h)
theorem nj (q:env.cells.lookup x=some c):∀{fr:ς},x∈fr->(ba env fr).lookup x=some c
 | [],h=>nomatch h
 | y::r,h=>by
  unfold ba
  rw [afI]
  by_cases e:x=y
  ·subst e
   rw [q]
   simp
  ·have hr:x∈r:=by
    rcases adD.mp h with z|z
    ·exact aaM z e
    ·exact z
   have ih:=nj q hr
   cases z:env.cells.lookup y with
   | none=>exact ih
   | some d=>
    show aeO x ((y,d)::_)=_
    rw [amK]
    have ne:(x==y)=false:=by simpa using e
    rw [ne]
    exact ih
def iB (env:Env):List Str->Prop
 | []=>True
 | y::r=>(env.kindOf y=some .cell\/env.kindOf y=some .free)/\iB env r
theorem iB.at :∀{fr:ς},iB env fr->x∈fr->env.kindOf x=some .cell\/env.kindOf x=some .free
 | [],_,h=>nomatch h
 | y::r,a,h=>by
  rcases adD.mp h with z|z
  ·rw [z]
   exact a.1
  ·exact iB.at a.2 z
section
variable {X:Cx}
def xm (X:Cx)(NB:ς)(scope:Scope)(fn:Str->Bool)(cl:List (Str×aaz))(C:aaz)(s:aaH)(H:Hp)(fp:υ):Cx:=
 {prog:=X.prog,w:=X.w,K:=X.K,mg:=X.mg,base:=X.base,A:=X.A,N:=NB,s₀:=s,H₀:=H,env:=compEnvC scope cl C X.env,outer:=X.stack,stack:=X.stack,ex:=fp,fn:=fn,calm:=X.calm,pn:=[],xe:=fun _ _=>False}
abbrev qc (X:Cx)(NB:ς)(scope:Scope)(cl:List (Str×aaz))(C:aaz)(s:aaH)(H:Hp)(fp:υ):Cx:=xm X NB scope (fun _=>false) cl C s H fp
structure Qi (X:Cx)(scope:Scope)(ow:aaz->List (Str×aaz))(fn:Str->Bool)(fr:ς)(caps:List Nat):Prop where
 Qj:closureFor scope X.env=pure (ba X.env fr)
 kind:scope.kind=.function
 names:∀y∈scope.names,y.2=.local->scope.names.lookup y.1=some .local
 free:∀y∈scope.names,y.2=.free->y.1∈fr
 caps:caps.map (fun i=>X.N[i]?)=fr.map some
 out:iB X.env fr
 inn:iB (compEnvC scope [] 0 X.env) fr
 new:∀{s:aaH} {Q:Env->aaH->Prop} {E:δ},(∀h',h'.Ns s.heap.objs.size (fun _=>none)->(∀b o,s.heap.get? b=some o->h'.get? b=some o)->(∀x c,(ow s.heap.objs.size).lookup x=some c->h'.IsCell c none)->
   Q (newEnv scope s.heap.objs.size X.env.globals (ow s.heap.objs.size++ba X.env fr) X.env.qual none .none (some X.env) builtinsNs) {s with heap:=h',toks:=s.toks+([]:List (Str×Value)).length})->
  aaE (aaJ X.prog X.w) X.A (newFunctionEnv scope X.env.globals (ba X.env fr) [] X.env.qual none .none (some X.env)) Q E s
 ge:∀C x c,(ow C).lookup x=some c->C<c
 one:∀C x z c,(ow C).lookup x=some c->(ow C).lookup z=some c->x=z
 fn1:∀C x,fn x=true->(ow C).lookup x≠none
 only:∀z∈scope.names,z.2=.cell->fn z.1=true
 ny:∀C,∀x∈fr,(ow C).lookup x=none
theorem uu {o cl:List (Str×aaz)}(h:(o++cl).lookup x=some c):o.lookup x=some c\/(o.lookup x=none/\cl.lookup x=some c):=by
 rw [agp] at h
 cases e:o.lookup x with
 | none=>rw [e] at h;exact .inr ⟨rfl,h⟩
 | some d=>rw [e] at h;exact .inl h
structure vi (X:Cx)(scope:Scope)(fr:ς)(caps:List Nat):Prop where
 Qj:closureFor scope X.env=pure (ba X.env fr)
 cell:∀y∈scope.names,y.2≠.cell
 kind:scope.kind=.function
 names:∀y∈scope.names,y.2=.local->scope.names.lookup y.1=some .local
 free:∀y∈scope.names,y.2=.free->y.1∈fr
 caps:caps.map (fun i=>X.N[i]?)=fr.map some
 out:iB X.env fr
 inn:iB (compEnvC scope [] 0 X.env) fr
def PF (X:Cx)(ifs:Ε)(t:TT):Prop:=
 ∀(pins:ε)(s:aaH)(σ:L2.St)(H:Hp)(Q:Bool->Hp->Prop),Inv X pins σ H s->t σ H Q->
  aaE (aaJ X.prog X.w) X.A (forIn ifs true fun c r=>if r=true then do let ok <- isTrue c X.env (aaV c X.env);pure (ForInStep.yield ok) else pure (ForInStep.yield r)) (TP X pins σ Q) X.xe s
def ki:TT:=fun _ H Q=>Q true H
theorem qJ:PF X [] ki:=fun _ _ _ H _ I h=>wpAny_tests_nil ⟨H,I,h⟩
theorem Us (h:PT X c t):PF X [c] t:=fun pins s σ H Q I q=>wpAny_tests_one (h pins s σ H Q I q)
def sB (k:Nat)(caps:List Nat)(σ:L2.St):L2.St:=adt k none++caps.map fun i=>(σ[i]?).getD none
def nq (D:aaz)(g:TG)(tt:TT)(te:TE)(J:It)(σ0:L2.St)(H1:Hp)(Q:VK):Prop:=∃W:Nat->Nat->L2.St->List V->Hp->Prop,
 (∃m,W 0 m σ0 [] (upd H1 D (.lst [])))/\∀i m σ2 ys H2,W i m σ2 ys H2->(J.stop i H2/\Q (.ref D) H2)\/(J.go i H2/\∀x H3,J.CZ i H2 x H3->g x σ2 H3 fun σ4 H4=>tt σ4 H4 fun b H5=>
  if b=true then te σ4 H5 fun v H6=>H6 D=some (.lst ys)/\ys.length<aaD/\∃m',m'<m/\W (i+1) m' σ4 (ys++[v]) (upd H6 D (.lst (ys++[v]))) else ∃m',m'<m/\W (i+1) m' σ4 ys H5)
def oE (k:Nat)(caps:List Nat)(wi:TI)(g:TG)(tt:TT)(te:TE):TE:=fun σ H Q=>wi σ H fun J H1=>∀D,H1 D=none->nq D g tt te J (sB k caps σ) H1 Q
theorem Ut (h:(sB k caps σ)[i]?=some (some v)):k<=i/\∃j,caps[i-k]?=some j/\σ[j]?=some (some v):=by
 unfold sB at h
 by_cases c:i<k
 ·rw [adq (by simpa using c),adT,aaC c] at h
  cases h
 ·rw [adv (by simpa using agG c),adP,Wp] at h
  refine ⟨agG c,?_⟩
  cases e:caps[i-k]? with
  | none=>rw [e] at h;cases h
  | some j=>
   rw [e] at h
   refine ⟨j,rfl,?_⟩
   have h':(σ[j]?).getD none=some v:=ady h
   cases z:σ[j]? with
   | none=>rw [z] at h';cases h'
   | some o=>
    rw [z] at h'
    exact aaQ some h'
theorem qK {σ:L2.St}
    {RR:Value->aaz->Result->aaH->Prop} {E:δ} (hc:X.calm=true) (B:Qi X scope ow fn fr caps)
  (hg:∀C s H fp,PG (xm X (tn++fr) scope fn (ow C++ba X.env fr) C s H fp) target g) (ht:∀C s H fp,PF (xm X (tn++fr) scope fn (ow C++ba X.env fr) C s H fp) ifs tt) (he:∀C s H fp,PE (xm X (tn++fr) scope fn (ow C++ba X.env fr) C s H fp) elt te)
  (I2:Inv X pins σ H2 s2) (T:Turn X.prog X.w X.K target J fp it S4) (SM:S4 0 s2.heap) (f2:∀b∈fp,m7 X pins H2 b) (q:∀D,H2 D=none->nq D g tt te J (sB tn.length caps σ) H2 Q)
  (fin:∀D C H' s' m,Inv X pins σ H' s' ->s'.heap.Ns C m->m7 X pins H' C->Q (.ref D) H' ->RR (.ref D) C (.ok .next) s'):
  aaE (aaJ X.prog X.w) X.A (newList []) (fun acc s₃=>aaE (aaJ X.prog X.w) X.A (newFunctionEnv scope X.env.globals (ba X.env fr) [] X.env.qual none .none (some X.env)) (fun XI s₄=>
   abw (aaJ X.prog X.w) X.A (.compStart (.ListComp elt [⟨target,iter,ifs,0⟩] scope pos) 0 (.ref it) acc {XI with scope:=relabel scope X.env}) (RR acc XI.locals) s₄) E s₃) E s2:=by
 refine abE (B.new (fun h₁ Uu hk₁ hc₁=>?_))
 have I3:Inv X pins σ (upd H2 s2.heap.objs.size (.lst [])) {s2 with heap:=s2.heap.push {cls:=.type "list",data:=.seq ([]:List Value).toArray}}:=I2.Ul (t':=s2.toks) (its:=[]) .nil (adS _)
 obtain ⟨W,⟨m0,w0⟩,turn⟩:=q s2.heap.objs.size (I2.bH.fresh (aa_ _))
 generalize hH3:upd H2 s2.heap.objs.size (.lst [])=H3 at I3 w0
 have f3:∀b∈fp,m7 X pins H3 b:=fun b hb=>by
  obtain ⟨a0,a1⟩:=f2 b hb
  refine ⟨?_,a1⟩
  obtain ⟨o,e,_⟩:=T.obj _ _ SM b hb
  rw [<-hH3,aj (adK (aaI e))]
  exact a0
 generalize hD:s2.heap.objs.size=D at*
 generalize hs3:({s2 with heap:=s2.heap.push {cls:=.type "list",data:=.seq ([]:List Value).toArray}}:aaH)=s3 at*
 have e3:s3.heap=s2.heap.push {cls:=.type "list",data:=.seq ([]:List Value).toArray}:=by rw [<-hs3]
 have Wn:S4 0 s3.heap:=T.keep _ _ _ SM fun b _ o e=>by rw [e3];exact aaB _ e
 have kept:∀b o,s3.heap.get? b=some o->h₁.get? b=some o:=fun b o e=>hk₁ b o e
 generalize hC:s3.heap.objs.size=C at*
 have XJ:s3.heap.objs.size<=C:=agJ hC
 have I4:Inv X pins σ H3 {s3 with heap:=h₁,toks:=s3.toks+([]:List (Str×Value)).length}:=I3.kept kept
 have fpC:∀b∈fp,b≠C:=fun b hb z=>by
  obtain ⟨o,e,_⟩:=T.obj _ _ Wn b hb
  exact aaM z (adK (adB (aaI e) XJ))
 have nst:∀b∈fp,b∉CU X.stack:=fun b hb z=>(adD.mp (I3.zO b z)).elim (f3 b hb).2.1 (f3 b hb).2.2.1
 have old:∀x c,(ba X.env fr).lookup x=some c->c<C:=fun x c e=>by
  obtain ⟨v,ic⟩:=I3.cell x c (gH e)
  rw [<-hC]
  exact ic.lt
 have aeT:∀x z c,(ow C++ba X.env fr).lookup x=some c->(ow C++ba X.env fr).lookup z=some c->x=z:=fun x z c e1 e2=>by
  rcases uu e1 with b1|⟨_,b1⟩<;>rcases uu e2 with b2|⟨_,b2⟩
  ·exact B.one _ _ _ _ b1 b2
  ·exact aaM (old z c b2) (Nat.lt_asymm (B.ge _ _ _ b1))
  ·exact aaM (old x c b1) (Nat.lt_asymm (B.ge _ _ _ b2))
  ·exact I3.ok.inj x z c (gH b1) (gH b2)
 have aeU:∀x c,fn x=true->(ow C++ba X.env fr).lookup x=some c->s3.heap.objs.size<=c:=fun x c hx e=>by
  rcases uu e with b1|⟨a1,b1⟩
  ·exact aav (agJ hC) (ad' (B.ge _ _ _ b1))
  ·exact aaM a1 (B.fn1 C x hx)
 have nfp:∀b∈fp,∀x c,(ow C++ba X.env fr).lookup x=some c->c≠b:=fun b hb x c e=>by
  rcases uu e with b1|⟨a1,b1⟩
  ·obtain ⟨o,eo,_⟩:=T.obj _ _ Wn b hb
   have:=aaI eo
   rw [hC] at this
   exact adO (adK (agR this (B.ge _ _ _ b1)))
  ·exact (f3 b hb).2.2.2.2.1 x c (gH b1)
 have XM:∀{x:Str} {c:aaz},x∈fr->(ba X.env fr).lookup x=some c->(ow C++ba X.env fr).lookup x=some c:=fun {x c} hx e=>by
  rw [agp,B.ny C x hx]
  exact e
 have okB:(xm X (tn++fr) scope fn (ow C++ba X.env fr) C s3 H3 fp).Ok:=by
  refine ⟨I3.ok.mod,B.kind,I3.ok.glob,I3.ok.blt,XJ,aeT,fun x hx=>?_,aeU,I3.ok.hd,I3.ok.frames,.inl rfl,
   fun b hb=>⟨fpC b hb,fun x c e=>nfp b hb x c e⟩,I3.bs,aav I3.ok.PJ I3.sz,fun b o e hb=>?_,nst,I3.stack,I3.CV⟩
  ·have hm:∃k,(x,k)∈scope.names/\k≠.local/\(k=.cell\/k=.free):=by
    have:∃k',(relabel scope X.env).names.lookup x=some k'/\(k'=.cell\/k'=.free):=by
     rcases hx with z|z
     ·exact ⟨_,z,.inl rfl⟩
     ·exact ⟨_,z,.inr rfl⟩
    obtain ⟨k',e',h'⟩:=this
    obtain ⟨⟨n,k⟩,hn,en⟩:=aat.mp (lookup_mem e')
    dsimp only at en
    by_cases cc:(k==NameKind.free && X.env.scope.kind==.function && X.env.kindOf n==some .cell)=true
    ·rw [aaC cc] at en
     cases en
     have kf:k=.free:=by
      rw [ae7,ae7] at cc
      simpa using cc.1.1
     exact ⟨k,hn,(by intro z;rw [kf] at z;cases z),.inr kf⟩
    ·rw [aaA cc] at en
     cases en
     exact ⟨k',hn,fun z'=>by rcases h' with y|y<;>(rw [y] at z';cases z'),h'⟩
   obtain ⟨k,hk,_,h2⟩:=hm
   rcases h2 with z|z
   ·cases e:(ow C).lookup x with
    | none=>exact aaM e (B.fn1 C x (B.only _ hk z))
    | some c=>exact ⟨c,by show aeO x (ow C++_)=_;rw [agp,e];rfl⟩
   ·have hf:=B.free _ hk z
    obtain ⟨c,ec⟩:=I3.ok.has x (B.out.at hf)
    exact ⟨c,XM hf (nj ec hf)⟩
  ·obtain ⟨_,_,_,h1,_⟩:=f3 b hb
   rcases h1 with z|z
   ·exact I3.ok.Lp b o e z
   ·exact aeg _ (adB (adB (aaI e) I3.ok.PJ) z)
 have IB:Inv (xm X (tn++fr) scope fn (ow C++ba X.env fr) C s3 H3 fp) [] (sB tn.length caps σ) H3 {s3 with heap:=h₁,toks:=s3.toks+([]:List (Str×Value)).length}:=by
  refine ⟨okB,rfl,I3.bare,Un.kept kept,⟨_,Uu,fun i x v e1 e2 _=>?_⟩,fun x c e=>(uu e).elim (fun z=>⟨none,hc₁ x c z⟩) (fun z=>I4.cell x c (gH z.2)),?_,fun x c e=>(uu e).elim (fun z=>I3.bH.fresh (aav XJ (ad' (B.ge _ _ _ z)))) (fun z=>I3.iI x c (gH z.2)),fun p hp=>(nomatch hp),I3.bH.kept kept,?_⟩
  ·obtain ⟨hk,j,ej,es⟩:=Ut e2
   have GP :fr[i-tn.length]?=some x:=by
    have z:(tn++fr)[i]?=some x:=e1
    rw [adv hk] at z
    exact z
   have hx:x∈fr:=aam GP
   have eN:X.N[j]?=some x:=by
    have z:=aaQ (fun l:List (Option Str)=>l[i-tn.length]?) B.caps
    simp only [Wp,ej,GP,afp] at z
    exact ady z
   have ko:=B.out.at hx
   obtain ⟨m,hn,hl⟩:=I4.loc
   obtain ⟨u,r,lk⟩:=hl j x v eN es (by rcases ko with z|z;exact .inr (.inl z);exact .inr (.inr z))
   refine ⟨u,r,?_⟩
   rcases lk with ⟨k1,_⟩|⟨_,c,ec,ic⟩
   ·rcases ko with z|z<;>(rw [z] at k1;cases k1)
   ·exact .inr ⟨B.inn.at hx,c,XM hx (nj ec hx),ic⟩
  ·exact I3.bH.fresh XJ
  ·have:=aaQ aeV B.caps
   simp only [be] at this
   show (sB tn.length caps σ).length=(tn++fr).length
   unfold sB
   simp [this]
 have LY:∀{H':Hp},(∀b∈fp,H' b=none)->∀b∈fp,m7 (xm X (tn++fr) scope fn (ow C++ba X.env fr) C s3 H3 fp) [] H' b:=fun hn b hb=>
  ⟨hn b hb,fpC b hb,nst b hb,.inl hb,nfp b hb,fun p hp=>(nomatch hp)⟩
 have st4:S4 0 h₁:=T.keep _ _ _ Wn fun b _ o e=>kept b o e
 have loop:abw (aaJ X.prog X.w) X.A (.compLoop (.ListComp elt [⟨target,iter,ifs,0⟩] scope pos) 0 (.ref it) (.ref D) (compEnvC scope (ow C++ba X.env fr) C X.env)) (RR (.ref D) C) {s3 with heap:=h₁,toks:=s3.toks+([]:List (Str×Value)).length}:=by
  refine vh (fun n s'=>∃i σ' ys H',Inv (xm X (tn++fr) scope fn (ow C++ba X.env fr) C s3 H3 fp) [] σ' H' s'/\S4 i s'.heap/\(∀b∈fp,H' b=none)/\W i n σ' ys H') ?_ m0 ⟨0,_,[],H3,IB,st4,fun b hb=>(f3 b hb).1,w0⟩
  rintro n s5 ⟨i,σ5,ys,H5,I5,Wo,SN,w5⟩
  rcases turn i n σ5 ys H5 w5 with ⟨stop,qn⟩|⟨go,step⟩
  ·refine aa3 (T.done (xm X (tn++fr) scope fn (ow C++ba X.env fr) C s3 H3 fp) rfl rfl rfl hc i [] s5 σ5 H5 (fun _ _=>False) I5 (LY SN) Wo stop) (fun r s6 ⟨hr,I6⟩=>?_) fun _ _ z=>z
   subst hr
   obtain ⟨m,hn,_⟩:=I6.loc
   have J6:Inv X pins σ H5 s6:=I3.W_ (ch:=fp) I6.os I6.base I6.bH I6.bare fun b hb=>⟨(f3 b hb).2.2.2.1,(f3 b hb).2.1,(f3 b hb).2.2.2.2.1,(f3 b hb).2.2.2.2.2⟩
   exact fin D C H5 s6 m J6 hn (I3.m8 XJ I6.free) qn
  ·refine aa3 (T.item (xm X (tn++fr) scope fn (ow C++ba X.env fr) C s3 H3 fp) rfl rfl rfl hc i [] s5 σ5 H5 (fun _ _=>False) I5 (LY SN) Wo go) (fun r s6 ⟨u,hr,h6⟩=>?_) fun _ _ z=>z
   subst hr
   refine aa3 h6 (fun _ s7 ⟨x,H7,I7,r7,y7,st7,fr7⟩=>?_) fun _ _ z=>z
   have I7':=I7.pinned (LY fr7) (T.obj _ _ st7)
   have held:∀{σ' :L2.St} {H':Hp} {s':aaH},Inv (xm X (tn++fr) scope fn (ow C++ba X.env fr) C s3 H3 fp) ([]++qz fp s7.heap) σ' H' s' ->S4 (i+1) s'.heap/\∀b∈fp,H' b=none:=fun {σ' H' s'} I'=>by
    refine ⟨T.keep _ _ _ st7 fun b hb o e=>(I'.pin (b,o) (adI _ (adI _ (i6 hb e)))).1,fun b hb=>?_⟩
    obtain ⟨o,e,d⟩:=T.obj _ _ st7 b hb
    exact (I'.pin (b,o) (adI _ (adI _ (i6 hb e)))).2.1
   refine aa3 (hg C s3 H3 fp _ s7 σ5 H7 x u _ I7' r7 (step x H7 y7)) (fun _ s8 ⟨σ8,H8,I8,q8⟩=>?_) fun _ _ z=>z
   refine aa3 (ht C s3 H3 fp _ s8 σ8 H8 _ I8 q8) (fun ok s9 ⟨H9,I9,q9⟩=>?_) fun _ _ z=>z
   cases ok with
   | false=>
    rw [aaA adx] at q9
    obtain ⟨m',hm,w9⟩:=q9
    rw [aaA adx]
    obtain ⟨a,b⟩:=held I9
    exact ⟨m',hm,i+1,σ8,ys,H9,I9.jz,a,b,w9⟩
   | true=>
    rw [aaC rfl] at q9
    rw [aaC rfl]
    refine aa3 (he C s3 H3 fp _ s9 σ8 H9 _ I9 q9) (fun v vj ⟨y9,OF,I10,r10,hDD,hl,m',hm,w10⟩=>?_) fun _ _ z=>z
    refine aa3 (fN (X:=xm X (tn++fr) scope fn (ow C++ba X.env fr) C s3 H3 fp) _ vj σ8 OF (.ref D) [y9] (.ref D) [v] (fun _ H'=>W (i+1) m' σ8 (ys++[y9]) H') I10 rfl (.cons r10 .nil) ⟨D,ys,y9,rfl,rfl,hDD,hl,w10⟩) (fun _ zI ⟨z,LZ,I11,_,q11⟩=>?_) fun _ _ z=>z
    obtain ⟨a,b⟩:=held I11
    exact ⟨m',hm,i+1,σ8,ys++[y9],LZ,I11.jz,a,b,q11⟩
 exact codeAny_compStart_list loop (T.self X.A 0 _ _ _ st4 loop)
theorem L6 (hc:X.calm=true)(B:Qi X scope ow fn fr caps)(hi:PI X target iter wi)
  (hg:∀C s H fp,PG (xm X (tn++fr) scope fn (ow C++ba X.env fr) C s H fp) target g) (ht:∀C s H fp,PF (xm X (tn++fr) scope fn (ow C++ba X.env fr) C s H fp) ifs tt) (he:∀C s H fp,PE (xm X (tn++fr) scope fn (ow C++ba X.env fr) C s H fp) elt te)
  (hs:∀x,abe iter X.env x=pure x:=by intro _;rfl):PE X (.ListComp elt [⟨target,iter,ifs,0⟩] scope pos) (oE tn.length caps wi g tt te):=by
 intro pins s σ H Q I h
 rw [eval_ListComp]
 refine wpAny_comprehension_free (use:=none) rfl hs B.Qj B.kind B.names (cI (hi pins s σ H _ I h) fun v s1 h1=>cI h1 fun itv s2 h2=>?_)
 obtain ⟨it,fp,S4,J,H2,rfl,I2,T,SM,f2,q⟩:=h2
 refine qK (Q:=Q) (RR:=fun acc C=>compPost (aaJ X.prog X.w) X.A X.xe none (EP X pins σ Q) acc C) hc B hg ht he I2 T SM f2 q ?_
 intro D C H' s' m I' hn fc qq
 obtain ⟨g0,g1,g2,g3,g4,g5⟩:=fc
 exact ⟨m,hn,fun h' S5 =>⟨.ref D,H',I'.turned (t':=s'.toks) (fun b o hb e=>(S5.2 b hb).trans e) g0 g1 g3 g4 g5,rfl,qq⟩⟩
theorem L7 {sZ:Pos}(hN:X.N.Nodup)(Uv:X.N[i]?=some y)(hx:Loc X.env.scope y)
  (hc:X.calm=true) (B:Qi X scope ow fn fr caps) (hi:PI X target iter wi)
  (hg:∀C s H fp,PG (xm X (tn++fr) scope fn (ow C++ba X.env fr) C s H fp) target g) (ht:∀C s H fp,PF (xm X (tn++fr) scope fn (ow C++ba X.env fr) C s H fp) ifs tt) (he:∀C s H fp,PE (xm X (tn++fr) scope fn (ow C++ba X.env fr) C s H fp) elt te)
  (KJ:acn (.ListComp elt [⟨target,iter,ifs,0⟩] scope pos) (some (.Name y py)) sZ.line X.env=pure true:=by rfl)
  (hs:∀x,abe iter X.env x=pure x:=by intro _;rfl) (hf:X.fn y=true\/X.env.scope.names.lookup y=some .local:=by first|exact .inl rfl|exact .inr rfl|assumption):
  PS X (.Assign [.Name y py] (.ListComp elt [⟨target,iter,ifs,0⟩] scope pos) sZ) (zR (oE tn.length caps wi g tt te) (cV i)):=by
 intro pins s σ H D I h
 rw [exec_Assign_Name_used _ _ _ _ KJ]
 refine aay (wpAny_standAt (aay ?_))
 show aaE _ X.A (do let _ <- comprehension (.ListComp elt [⟨target,iter,ifs,0⟩] scope pos) scope X.env _ (newList []) false (aaV iter X.env) (some (assign (.Name y py) X.env))) _ _ s
 refine aay (aa3 (wpAny_comprehension_free (use:=some (assign (.Name y py) X.env)) (Q:=fun _ s'=>SP X pins D .next s') rfl hs B.Qj B.kind B.names
  (cI (hi pins s σ H _ I h) fun v s1 h1=>cI h1 fun itv s2 h2=>?_)) (fun _ s' hq=>aaF (aaF hq)) fun _ _ e=>e)
 obtain ⟨it,fp,S4,J,H2,rfl,I2,T,SM,f2,q⟩:=h2
 refine qK (Q:=fun v H1=>cV i v σ H1 D.nx) (RR:=fun acc C=>compPost (aaJ X.prog X.w) X.A X.xe (some (assign (.Name y py) X.env)) (fun _ s'=>SP X pins D .next s') acc C) hc B hg ht he I2 T SM f2 q ?_
 intro DD C H' s' m I' hn fc qq
 obtain ⟨g0,g1,g2,g3,g4,g5⟩:=fc
 show aaE _ X.A (assign (.Name y py) X.env (.ref DD)) _ _ _
 refine wpAny_assign_Name (uf I' hN Uv hx (v:=.ref DD) (u:=.ref DD) rfl (fun Xr I'' ⟨a,sb,ha⟩=>?_) hf)
 have hCa:C≠a:=by
  rcases ha with z|z
  ·rw [z]
   exact g1
  ·exact fun e=>g4 y a z e.symm
 exact ⟨m,hn.sameBut sb hCa,fun h' S5 =>⟨_,H',I''.turned (t':=Xr.toks) (fun b o hb e=>(S5.2 b hb).trans e) g0 g1 g3 g4 g5,qq⟩⟩
theorem vi.g {caps:List Nat}(B:vi X scope fr caps):Qi X scope (fun _=>[]) (fun _=>false) fr caps:=
 ⟨B.Qj,B.kind,B.names,B.free,B.caps,B.out,B.inn,fun hQ=>wpAny_newFunctionEnv B.cell (by intro y hy;simp at hy) (fun h₁ Uu aeW=>hQ h₁ Uu (fun b o e=>(aeW.2 b (adK (aaI e))).trans (aaB _ e)) fun _ _ z=>(nomatch z)) B.kind,
  fun _ _ _ z=>(nomatch z),fun _ _ _ _ z=>(nomatch z),fun _ _ z=>(nomatch z),fun z hz e=>aaM e (B.cell z hz),fun _ _ _=>rfl⟩
theorem DQ (hc:X.calm=true)(B:vi X scope fr caps)(hi:PI X target iter wi)
  (hg:∀C s H fp,PG (qc X (tn++fr) scope (ba X.env fr) C s H fp) target g) (ht:∀C s H fp,PF (qc X (tn++fr) scope (ba X.env fr) C s H fp) ifs tt) (he:∀C s H fp,PE (qc X (tn++fr) scope (ba X.env fr) C s H fp) elt te)
  (hs:∀x,abe iter X.env x=pure x:=by intro _;rfl):PE X (.ListComp elt [⟨target,iter,ifs,0⟩] scope pos) (oE tn.length caps wi g tt te):=
 L6 hc B.g hi hg ht he hs
theorem DR {sZ:Pos}(hN:X.N.Nodup)(Uv:X.N[i]?=some y)(hx:Loc X.env.scope y)
  (hc:X.calm=true) (B:vi X scope fr caps) (hi:PI X target iter wi)
  (hg:∀C s H fp,PG (qc X (tn++fr) scope (ba X.env fr) C s H fp) target g) (ht:∀C s H fp,PF (qc X (tn++fr) scope (ba X.env fr) C s H fp) ifs tt) (he:∀C s H fp,PE (qc X (tn++fr) scope (ba X.env fr) C s H fp) elt te)
  (KJ:acn (.ListComp elt [⟨target,iter,ifs,0⟩] scope pos) (some (.Name y py)) sZ.line X.env=pure true:=by rfl)
  (hs:∀x,abe iter X.env x=pure x:=by intro _;rfl) (hf:X.fn y=true\/X.env.scope.names.lookup y=some .local:=by first|exact .inl rfl|exact .inr rfl|assumption):
  PS X (.Assign [.Name y py] (.ListComp elt [⟨target,iter,ifs,0⟩] scope pos) sZ) (zR (oE tn.length caps wi g tt te) (cV i)):=
 L7 hN Uv hx hc B.g hi hg ht he KJ hs hf
end
section
variable {D:aaz}{te:TE}{cap:L2.St}{H1:Hp}{Q:VK}
theorem vk (n:Nat)(xs:Nat->V)(Pv:Nat->List V->Hp->Prop)(h0:Pv 0 [] (upd H1 D (.lst [])))
  (go:∀i ys H,i<n->Pv i ys H->J.go i H/\∀x H',J.CZ i H x H' ->H'=H/\x=xs i) (stop:∀ys H,Pv n ys H->J.stop n H)
  (hs:∀i ys H (R:VK),i<n->Pv i ys H->H D=some (.lst ys)->(∀v H6,H6 D=some (.lst ys)->ys.length<aaD->Pv (i+1) (ys++[v]) (upd H6 D (.lst (ys++[v])))->R v H6)->te (some (xs i)::cap) H R)
  (hd:∀ys H,Pv n ys H->H D=some (.lst ys)->Q (.ref D) H):nq D (cV 0) ki te J (none::cap) H1 Q:=by
 refine ⟨fun i m σ ys H=>m=n-i/\i<=n/\(∃o,σ=o::cap)/\Pv i ys H/\H D=some (.lst ys),⟨n,by simp,adS _,⟨none,rfl⟩,h0,ah⟩,?_⟩
 rintro i m σ ys H ⟨rfl,hi,⟨o,rfl⟩,p,hD⟩
 by_cases kN:i<n
 ·obtain ⟨g1,g2⟩:=go i ys H kN p
  refine .inr ⟨g1,fun x H' y=>?_⟩
  obtain ⟨e1,e2⟩:=g2 x H' y
  subst e1 e2
  unfold cV ki
  dsimp only
  rw [aaC rfl]
  exact hs i ys _ _ kN p hD fun v H6 a b c=>⟨a,b,n-(i+1),by omega,rfl,by omega,⟨_,rfl⟩,c,ah⟩
 ·have e:i=n:=by omega
  subst e
  exact .inl ⟨stop ys H p,hd ys H p hD⟩
end
section
variable {X:Cx}{tg:Expr}
end
section
variable {prog:aaP}{w:World}{A:aaT}{E:δ}
end
structure XN (K:Frag)(C:aaz):Prop where
 makes:abo K C=true
 init:aaR K (.ref C) "__init__"=some (some (.builtin "object.__init__"))
 kp:keepIn K (.ref C)=true
def XO (C:aaz):TE:=fun _ H Q=>∀x dx,H x=none->H dx=none->dx≠x->Q (.ref x) (upd (upd H dx (.own x)) x (.ins C dx []))
section
variable {X:Cx}
theorem Qk {σ:L2.St}(M:XN X.K C)(I:Inv X pins σ H s)(h:XO C σ H Q):aaE (aaJ X.prog X.w) X.A (call (.ref C) []) (EP X pins σ Q) X.xe s:=by
 have hq:=h (s.heap.objs.size+1) s.heap.objs.size (I.bH.fresh (amQ _)) (I.bH.fresh (aa_ _)) (adK (adY _))
 have I2:=Inv.made (C:=C) I
 have Y:=PySem.W.makes_of (M:=aaJ X.prog X.w) I.kK M.makes
 refine wpAny_call (F' I.kK M.makes M.init (fun self=>PySem.W.Looks.of_pure (PySem.W.oi_bind self)) ?_)
 have ho:((s.heap.push aaZ).push (aa2 C s.heap.objs.size)).get? (s.heap.objs.size+1)=some (aa2 C s.heap.objs.size):=by
  have:=aaL (s.heap.push aaZ) (o:=aa2 C s.heap.objs.size) rfl
  rwa [abb] at this
 have t1:PySem.W.Looks (aaJ X.prog X.w) ((s.heap.push aaZ).push (aa2 C s.heap.objs.size)) (typeOf (.ref (s.heap.objs.size+1))) (.ref C):=(PySem.W.Looks.ld ho).andThen .now
 have t2:PySem.W.Looks (aaJ X.prog X.w) ((s.heap.push aaZ).push (aa2 C s.heap.objs.size)) (isInstance (.ref (s.heap.objs.size+1)) (.type "object")) true:=
  t1.andThen (Y.top.keeps fun b o e=>aaB _ (aaB _ e))
 refine codeAny_call_builtin PySem.W.oi_plain PySem.W.entry_oi (@PySem.W.check_slot (aaJ X.prog X.w) _ _ _ "object.__init__" "object" "__init__" (.ref (s.heap.objs.size+1)) [] [] _ PySem.W.oi_kind PySem.W.oi_split t2 (PySem.W.oi_args (.ref (s.heap.objs.size+1))) ?_)
 rw [PySem.W.oi_run]
 exact aaF (And.intro rfl ⟨V.ref (s.heap.objs.size+1),_,I2,rfl,hq⟩)
theorem Uw (M:XN X.K C)(hg:Gl X x)(hm:X.mg x=some (.ref C))(xC:(x==("__debug__":Str))=false:=by decide):PE X (.Call (.Name x p) [] [] pos) (XO C):=by
 intro pins s σ H Q I h
 refine aby (l_ I hg hm ?_ xC)
 exact PySem.W.callWith_K0 I.kK M.kp (Qk M I h)
end
structure bJ (P:aaP)(w:World)(K:Frag)(mg:θ)(base:Heap)(CX:me)(k:Nat)(C:aaz)(m:Str)(ps:ς)(sp:Sp):Prop where
 ex:∃(f:aaz)(fd:FuncData),xB K C/\Meth K C m f/\dm P w K mg base CX k f fd ps sp/\Binds K fd ps []
theorem bJ.mono {K:Frag}(M:bJ P w K mg base CX j C m ps sp)(h:j<=k):bJ P w K mg base CX k C m ps sp:=by
 obtain ⟨f,fd,a,b,c,d⟩:=M.ex
 exact ⟨f,fd,a,b,c.mono h,d⟩
section
variable {X:Cx}{CX:me}{k:Nat}{E:XK}{m:Str}{pos apos:Pos}{e o:Expr}{es:Ε}{ta:TE}{t:TA}
inductive S6 (P:aaP)(w:World)(K:Frag)(mg:θ)(base:Heap)(CX:me)(k:Nat)(m:Str)(E:XK)(t:TA)(σ:L2.St)(Q:VK)(x:V)(H1:Hp):Prop
|mk (a C dx fs ps sp:_)(_:x=.ref a)(_:H1 a=some (.ins C dx fs))(_:fs.lookup m=none)(_:bJ P w K mg base CX k C m ps sp)(_:t σ H1 fun vs H2=>sp (x::vs) H2 Q E)
def XQ (P:aaP)(w:World)(K:Frag)(mg:θ)(base:Heap)(CX:me)(k:Nat)(m:Str)(E:XK)(ta:TE)(t:TA):TE:=fun σ H Q=>ta σ H fun x H1=>S6 P w K mg base CX k m E t σ Q x H1
theorem dR (he:PE X o ta)(hr:cy k X.A)(hx:Passes CX X E)
  (ht:aaV (.Call (.Attribute o m apos) [] [] pos) X.env=(do
   let ov <- aaV o X.env
   standAt apos.atName
   let (f,first) <- holding [ov] (getMethod ov m pl)
   callWith pos f first (abj pos (aaO [] X.env)) (backToKw pos (ahr [] X.env))):=by rfl):
  PE X (.Call (.Attribute o m apos) [] [] pos) (XQ X.prog X.w X.K X.mg X.base CX k m E ta jq):=by
 intro pins s σ H Q I h
 refine PySem.W.methodCall_KW (pl:=pl) (cI (he pins s σ H _ I h) fun u s1 ⟨x,H1,I1,rx,a,C,dx,fs,ps,sp,ex,ea,l,M,q⟩=>?_) ht
 subst ex
 obtain rfl:u=Value.ref a:=rx
 obtain ⟨f,fd,c,hm,F,hb⟩:=M.ex
 refine kR I1 ea c hm l ?_
 exact PySem.W.callWith_K0 (first:=[.ref a]) I1.kK hm.kp (u6 (us:=[.ref a]) (vs:=[.ref a]) (dvs:=[]) F hr hb .nil hx I1 (.cons rfl .nil) q)
theorem fB {pl:Sem Bool}(he:PE X o ta)(hr:cy k X.A)(hx:Passes CX X E)(ha:PA X (e::es) t)
  (PY:aaO (e::es) X.env=(false,aaV e X.env)::aaO es X.env:=by rfl) (pF:(abj pos (aaO es X.env)).any (·.1)=false:=by rfl)
  (ht:aaV (.Call (.Attribute o m apos) (e::es) [] pos) X.env=(do
   let ov <- aaV o X.env
   standAt apos.atName
   let (f,first) <- holding [ov] (getMethod ov m pl)
   callWith pos f first (abj pos (aaO (e::es) X.env)) (backToKw pos (ahr [] X.env))):=by rfl):
  PE X (.Call (.Attribute o m apos) (e::es) [] pos) (XQ X.prog X.w X.K X.mg X.base CX k m E ta t):=by
 intro pins s σ H Q I h
 refine PySem.W.methodCall_KW (pl:=pl) (cI (he pins s σ H _ I h) fun u s1 ⟨x,H1,I1,rx,a,C,dx,fs,ps,sp,ex,ea,l,M,q⟩=>?_) ht
 subst ex
 obtain rfl:u=Value.ref a:=rx
 obtain ⟨f,fd,c,hm,F,hb⟩:=M.ex
 refine kR I1 ea c hm l ?_
 refine acR (first:=[.ref a]) (h₀:=X.base) I.ok.mod.Wm hm.kp (cI (ha pos pins s1 σ H1 _ I1 q) fun us s2 ⟨vs,H2,I2,r,q2⟩=>⟨I2.kK,?_⟩) PY pF
 refine u6 (us:=.ref a::us) (vs:=.ref a::vs) (dvs:=[]) F hr hb .nil hx I2 (.cons rfl r) ?_
 rw [afl]
 exact q2
end
theorem XR (h:pH CX)(e:X.xe=fun _ _=>False):Passes CX X E0:=fun _ _ _ _ _ _ _ q=>(h _ _ _ _ _ q).elim
section
variable {σ:L2.St}{H:Hp}{Q:VK}{QB:Bool->Hp->Prop}{QA:List V->Hp->Prop}{D:Ends}{t u:TS}{ta tb te:TE}{tc td:TT}{t1:TA}
end
section
variable {X:Cx}
inductive XS (x:V)(lo:Option Int)(hi:Option Int)(H:Hp)(Q:VK):Prop
|mk (z:_)(_:x=.str z)(_:z.length<=aaD)(_:Q (.str (Txt.slice z lo hi)) H)
theorem Ux:SlR X XS:=by
 intro pins s σ H x v vl vu lo hi sl Q I rx hs pl pu h
 obtain ⟨z,rfl,hz,q⟩:=h
 obtain ⟨t,rfl⟩:=rx
 refine ⟨"str",_,F.slot_str_getitem.lookup,typeIs_str _ _ _,?_⟩
 cases pl<;>cases pu
 ·exact abK (l:=none) (u:=none) (st:=none) hs rfl (ahj ⟨aav (Txt.slice_le z _ _) hz,fun t' k=>⟨.str _,H,I.tok k,⟨t',rfl⟩,q⟩⟩)
 ·rename_i j uj
  exact abK (l:=none) (u:=some (j,uj)) (st:=none) hs rfl (ahj ⟨aav (Txt.slice_le z _ _) hz,fun t' k=>⟨.str _,H,I.tok k,⟨t',rfl⟩,q⟩⟩)
 ·rename_i i ui
  exact abK (l:=some (i,ui)) (u:=none) (st:=none) hs rfl (ahj ⟨aav (Txt.slice_le z _ _) hz,fun t' k=>⟨.str _,H,I.tok k,⟨t',rfl⟩,q⟩⟩)
 ·rename_i i ui j uj
  exact abK (l:=some (i,ui)) (u:=some (j,uj)) (st:=none) hs rfl (ahj ⟨aav (Txt.slice_le z _ _) hz,fun t' k=>⟨.str _,H,I.tok k,⟨t',rfl⟩,q⟩⟩)
inductive S7 (x:V)(y:V)(H:Hp)(Q:VK):Prop
|mk (z n:_)(_:x=.str z)(_:y=.int n)(_:MulOk z n)(_:Q (.str (Txt.mul z n)) H)
theorem qd:kc X (abv .Mult) S7:=by
 intro pins s σ H x y v u Q I rx ry h
 obtain ⟨z,n,rfl,rfl,ok,q⟩:=h
 obtain ⟨t,rfl⟩:=rx
 obtain ⟨t',rfl⟩:=ry
 exact SB.mul ok fun t' k=>⟨.str _,H,I.tok k,⟨t',rfl⟩,q⟩
theorem all_range (bs:List Bool):(adG bs.length).all (fun i=>(bs[i]?).getD true)=bs.all id:=by
 induction bs with
 | nil=>rfl
 | cons b r ih=>
  rw [adJ,agL,af2,amv,af2,<-ih]
  rfl
inductive XT (K:Frag)(xs:η)(H:Hp)(Q:VK):Prop
|mk (p:aaz)(bs:List Bool)(_:xs=[.ref p])(_:aR K H p (bs.map V.bl))(_:Q (.bl (bs.all id)) H)
theorem uv (hc:X.calm=true):iL X (.builtin "all") (XT X.K):=by
 intro pins s σ H xs us Q I r h
 obtain ⟨p,bs,rfl,hq,q⟩:=h
 obtain ⟨u,rfl,r1⟩:=vals1 r
 cases r1
 obtain ⟨its,rv,pl,hz⟩:=I.list hq
 refine call_all_walk (ag8 pl.isList ?_)
 have KN:p≠s.heap.objs.size:=by obtain ⟨o,ho,_⟩:=pl.isList;exact adK (aaI ho)
 have I1:Inv X pins σ H {s with heap:=s.heap.push {cls:=.type "list_iterator",data:=.fields #[.ref p,.int 0 0]}}:=I.kept (t':=s.toks) fun b o e=>aaB _ e
 obtain ⟨f0,f1,f2,f3,f4,f5⟩:=I.m8 (H':=H) (aa_ s.heap.objs.size) (I.bH.fresh (aa_ _))
 have hl:its.length=bs.length:=by rw [<-rv.length,be]
 refine ⟨s.heap.objs.size,_,_,_,_,_,fun i=>(bs[i]?).getD true,rfl,Walks.list (A:=X.A.in1) (I.ok.hd hc) s.heap.objs.size p KN its.toArray,⟨⟨_,aaL _ rfl,rfl,rfl⟩,pl.isList.at fun o e=>aaB _ e⟩,?_,fun h' tk kk=>?_⟩
 ·intro i v s' Q' E' hv m6
  have Ug :its[i]?=some v:=by simpa using hv
  have hi:i<bs.length:=by rw [<-hl];exact (ir.mp Ug).1
  have eb:(bs.map V.bl)[i]?=some (.bl bs[i]):=by rw [Wp,gE hi];rfl
  obtain ⟨u,eu,ru⟩:=rv.get eb
  rw [Ug] at eu
  cases eu
  cases ru
  dsimp only at m6
  rw [gE hi] at m6
  exact abD m6
 ·refine ⟨.bl (bs.all id),H,I1.turned (t':=tk) (it:=s.heap.objs.size) (fun b o hb e=>kk b o (by simpa using hb) e) f0 f1 f3 f4 f5,?_,q⟩
  show _=_
  rw [<-all_range bs,adC,hl]
end
end Ty
set_option maxHeartbeats 4000000
namespace Ty
open PySem PySem.Spec PyProof.Rows L2 PySem.NumText
def dg (m:Nat):List Nat:=(Nat.toDigits 10 m).map Char.toNat
def tx (n:Int):Str:=aa6 (toString n)
def XU:Str:=aa6 "/"
def nt (q:Int×Int):Str:=if q.2=1 then tx q.1 else tx q.1++XU++tx q.2
end Ty
set_option maxHeartbeats 4000000
namespace Ty
open PySem PySem.Spec PyProof.Rows L2 PySem.NumText
section
variable {X:Cx}
end
def isStar:Expr->Bool
 | .Starred .. =>true
 | _=>false
theorem GQ {es:Ε}(h:isStar e=false):aaO (e::es) env=(false,aaV e env)::aaO es env:=by
 cases e<;>first|rfl|(cases h;done)
theorem sM (ha:PE X e te)(hr:PA X es t)(h:isStar e=false:=by rfl):PA X (e::es) (oB te t):=P_ ha hr (GQ h)
end Ty
set_option maxHeartbeats 4000000
namespace Ty
open PySem PySem.Spec PyProof.Rows L2
section
variable {D:aaz}{te:TE}{cap:L2.St}{H1:Hp}{Q:VK}
def bS (D:aaz)(H H':Hp):Prop:=∀b o,b≠D->H b=some o->H' b=some o
theorem bS.of (s:ao H H'):bS D H H':=fun b o _ e=>s b o e
theorem bS.upd :bS D H (upd H D o):=fun b o' n e=>by rw [aj n];exact e
theorem L8 (n:Nat)(xs:Nat->V)(Rel:Nat->V->Hp->Prop)(nD:H1 D=none)(hn:n<aaD)
  (go:∀i H,i<n->ao H1 H->J.go i H/\∀x H',J.CZ i H x H' ->H'=H/\x=xs i) (stop:∀H,ao H1 H->J.stop n H)
  (hR:∀i v H H' ys,H D=some (.lst ys)->bS D H H' ->Rel i v H->Rel i v H')
  (he:∀i H (R:VK),i<n->ao H1 H->(∀v H6,ao H H6->Rel i v H6->R v H6)->te (some (xs i)::cap) H R)
  (hd:∀ys H,ys.length=n->(∀i v,ys[i]?=some v->Rel i v H)->ao H1 H->H D=some (.lst ys)->Q (.ref D) H):
  nq D (cV 0) ki te J (none::cap) H1 Q:=by
 refine vk n xs (fun i ys H=>ys.length=i/\(∀i v,ys[i]?=some v->Rel i v H)/\ao H1 H) ⟨rfl,fun i v e=>by simp at e,fun b o e=>by rw [aj (ak e nD)];exact e⟩ ?_ ?_ ?_ ?_
 ·rintro i ys H hi ⟨_,_,s⟩
  exact go i H hi s
 ·rintro ys H ⟨_,_,s⟩
  exact stop H s
 ·rintro i ys H R hi ⟨l,r,s⟩ hD k
  refine he i H R hi s fun v H6 s6 rv=>k v H6 (s6 _ _ hD) (by omega) ⟨by simp [l],fun j u e=>?_,fun b o e=>?_⟩
  ·by_cases c:j<ys.length
   ·rw [adq c] at e
    have ru:=hR j u H H6 ys hD (bS.of s6) (r j u e)
    exact hR j u H6 _ ys (s6 _ _ hD) bS.upd ru
   ·rw [adv (by omega)] at e
    have ej:j=i:=by
     by_cases z:j-ys.length=0
     ·omega
     ·rw [aax (by simp;omega)] at e
      cases e
    subst ej
    have:v=u:=by
     rw [show j-ys.length=0 by omega] at e
     exact ady e
    subst this
    exact hR j v H6 _ ys (s6 _ _ hD) bS.upd rv
  ·rw [aj (ak e nD)]
   exact s6 _ _ (s _ _ e)
 ·rintro ys H ⟨l,r,s⟩ hD
  exact hd ys H l r s hD
theorem dB {K:Frag}(Rel:Nat->V->Hp->Prop)(nD:H1 D=none)(hn:xs.length<aaD)(hS:∀H,ao H1 H->aR K H a xs)
  (hR:∀i v H H' ys,H D=some (.lst ys)->bS D H H' ->Rel i v H->Rel i v H')
  (he:∀i x H (R:VK),xs[i]?=some x->ao H1 H->(∀v H6,ao H H6->Rel i v H6->R v H6)->te (some x::cap) H R)
  (hd:∀ys H,ys.length=xs.length->(∀i v,ys[i]?=some v->Rel i v H)->ao H1 H->H D=some (.lst ys)->Q (.ref D) H):
  nq D (cV 0) ki te (PZ K a) (none::cap) H1 Q:=by
 refine L8 xs.length (fun i=>(xs[i]?).getD .cS) Rel nD hn (fun i H hi s=>⟨⟨xs,xs[i],hS H s,gE hi⟩,fun x H' y=>⟨y.1,?_⟩⟩) (fun H s=>⟨xs,hS H s,aa_ _⟩) hR (fun i H R hi s k=>?_) hd
 ·rw [y.2 xs (hS H s)];rfl
 ·have e:xs[i]?=some xs[i]:=gE hi
  have k':=he i _ H R e s k
  rw [<-(show (xs[i]?).getD .cS=xs[i] by rw [e];rfl)] at k'
  exact k'
end
section
variable {X:Cx}{pins:ε}{σ:L2.St}{H:Hp}{s:aaH}{h':Heap}
theorem Inv.mm {fp:υ}(I:Inv X pins σ H s)(k:∀b o,b∉fp->s.heap.get? b=some o->h'.get? b=some o)(hf:∀b∈fp,m7 X pins H b):Inv X pins σ H {s with heap:=h',toks:=t'}:=by
 have SE:∀b u,H b=some u->b∉fp:=fun b u e z=>by rw [(hf b z).1] at e;cases e
 refine I.step (g':=s.gens) (d':=s.drawn) (ch:=fp) (fun b hb=>?_) (fun b o _ _ hc e _=>k b o hc e) (fun b o _ _ hc e _=>⟨o.slots,k b o hc e⟩) (fun _ _ _ _ n=>n)
  (fun b o hc e=>⟨o,k b o hc e⟩) (fun _ _ e=>e) (fun _ _ _ e=>e) (fun b ps e=>⟨#[],by rw [e];simp⟩) (fun m hm=>?_) (fun b u e=>?_) I.bare
 ·obtain ⟨f0,f1,f2,f3,f4,f5⟩:=hf b hb
  exact ⟨f3,f1,f4,f5⟩
 ·obtain ⟨o,es,ep,ho,r⟩:=hm
  exact ⟨o,es,ep,k _ o (fun z=>(hf _ z).2.1 rfl) ho,r⟩
 ·refine (I.bH b u e).uV (fun c v hc q=>k c v ?_ q) (fun _ q=>q) fun _ _ q=>q
  rcases hc with z|z
  ·rw [z];exact SE b u e
  ·exact SE c _ z
theorem Inv.qe {fp:υ}{T:aaz}{xs:η}{its:ρ}(I:Inv X pins σ H s)(k:∀b o,b∉fp->s.heap.get? b=some o->h'.get? b=some o)(hf:∀b∈fp,m7 X pins H b)(hT:s.heap.objs.size<=T)
  (hz:xs.length<=aaD) (rv:Vals xs its) (ht:IsTup h' T its.toArray):Inv X pins σ (upd H T (.tup xs)) {s with heap:=h',toks:=t'}:=by
 have hn:=I.bH.fresh hT
 have SE:∀b u,H b=some u->b∉fp:=fun b u e z=>by rw [(hf b z).1] at e;cases e
 have ne:∀b o,s.heap.get? b=some o->b≠T:=fun b o e=>adK (adB (aaI e) hT)
 refine I.step (g':=s.gens) (d':=s.drawn) (ch:=fp) (fun b hb=>?_) (fun b o _ _ hc e _=>k b o hc e) (fun b o _ _ hc e _=>⟨o.slots,k b o hc e⟩) (fun b o _ e n=>by rw [aj (ne b o e)];exact n)
  (fun b o hc e=>⟨o,k b o hc e⟩) (fun b ys e=>by rw [aj (ak e hn)];exact e) (fun b o u e=>by rw [aj (ak e hn)];exact e) (fun b ps e=>⟨#[],by rw [aj (ak e hn),e];simp⟩) (fun m hm=>?_) (fun b u e=>?_) I.bare
 ·obtain ⟨f0,f1,f2,f3,f4,f5⟩:=hf b hb
  exact ⟨f3,f1,f4,f5⟩
 ·obtain ⟨o,es,ep,ho,r⟩:=hm
  exact ⟨o,es,ep,k _ o (fun z=>(hf _ z).2.1 rfl) ho,r⟩
 ·by_cases hb:b=T
  ·subst hb
   rw [ah] at e
   cases e
   exact ⟨hz,its,rv,ht⟩
  ·rw [aj hb] at e
   refine (I.bH b u e).uV (fun c v hc q=>k c v ?_ q) (fun c q=>by rw [aj (ak q hn)];exact q) fun c ys q=>by rw [aj (ak q hn)];exact q
   rcases hc with z|z
   ·rw [z];exact SE b u e
   ·exact SE c _ z
end
def Uy (K:Frag)(a b:aaz):It:=
 ⟨fun i H=>∃xs ys x y,aR K H a xs/\aR K H b ys/\xs[i]?=some x/\ys[i]?=some y,
  fun i H v H'=>∃p x y,(∀xs,aR K H a xs->xs[i]?=some x)/\(∀ys,aR K H b ys->ys[i]?=some y)/\v=.ref p/\H p=none/\H'=upd H p (.tup [x,y]),
  fun i H=>∃xs ys,aR K H a xs/\aR K H b ys/\(xs.length<=i\/ys.length<=i)⟩
theorem L9 {K:Frag}{es:Ε}(a b z TI TO i1 i2:aaz)(D:ZipApart z TI TO i1 i2 a b):
  Turn P w K (.Tuple es k pos) (Uy K a b) [z,TI,TO,i1,i2] z (fun i h=>abO h z TI TO .none/\aa9 h TI (.ref i1) (.ref i2)/\(∃x y,aa9 h TO x y)/\h.IsListIter i1 a i/\h.IsListIter i2 b i) where
 mem:=by simp
 obj:=fun i h st c hc=>by
  obtain ⟨hz,gm,⟨x,y,jW⟩,⟨o1,e1,c1,d1⟩,⟨o2,e2,c2,d2⟩⟩:=st
  have pE :c=z\/c=TI\/c=TO\/c=i1\/c=i2:=by simpa using hc
  rcases pE with e|e|e|e|e<;>subst e
  ·exact ⟨_,hz,fun v z=>by cases z⟩
  ·exact ⟨_,gm,fun v z=>by cases z⟩
  ·exact ⟨_,jW,fun v z=>by cases z⟩
  ·exact ⟨_,e1,fun v z=>by rw [d1] at z;cases z⟩
  ·exact ⟨_,e2,fun v z=>by rw [d2] at z;cases z⟩
 keep:=fun i h h' st k=>by
  obtain ⟨hz,gm,⟨x,y,jW⟩,h1,h2⟩:=st
  exact ⟨k z (by simp) _ hz,k TI (by simp) _ gm,⟨x,y,k TO (by simp) _ jW⟩,h1.at fun o e=>k i1 (by simp) o e,h2.at fun o e=>k i2 (by simp) o e⟩
 item:=by
  intro X hP hw hK hc i pins s σ H E I hf st hg
  subst hP hw hK
  obtain ⟨hz,gm,⟨x0,y0,jW⟩,h1,h2⟩:=st
  obtain ⟨xs,ys,x,y,qx,qy,ex,ey⟩:=hg
  obtain ⟨its,rv,p,_⟩:=I.list qx
  obtain ⟨Uz,sW,p',_⟩:=I.list qy
  obtain ⟨u,hu,ru⟩:=rv.get ex
  obtain ⟨v,hv,rv'⟩:=sW.get ey
  refine wpAny_pyNext_zip_item D hz gm jW h1 h2 p.isList p'.isList (x:=u) (y:=v) (by simpa using hu) (by simpa using hv) fun h' a1 a2 a3 a4 a5 a6 a7=>?_
  refine ⟨_,rfl,wpAny_letOwnedTupleGo_zip (s:={s with heap:=h'}) a1 fun DS b1 sb=>?_⟩
  have nz:∀c,c≠z->∀o,h'.get? c=some o->DS.get? c=some o:=fun c hc o e=>(sb.2 c hc).trans e
  have kk:∀b o,b∉[z,TI,TO,i1,i2]->s.heap.get? b=some o->DS.get? b=some o:=fun b o hb e=>by
   have fC :b≠z/\b≠TI/\b≠TO/\b≠i1/\b≠i2:=by simpa using hb
   exact nz b fC.1 o (a7 b o fC.1 fC.2.2.1 fC.2.2.2.1 fC.2.2.2.2 e)
  have sz:∀c o,s.heap.get? c=some o->s.heap.objs.size≠c:=fun c o e=>afa (aaI e)
  have tz:s.heap.objs.size≠z:=sz _ _ hz
  have hn:=I.bH.fresh (aa_ s.heap.objs.size)
  have I2:Inv X pins σ (upd H s.heap.objs.size (.tup [x,y])) {s with heap:=DS,toks:=s.toks}:=
   Inv.qe I kk hf (aa_ _) (by show 2<=aaD;decide) (its:=[u,v]) (.cons ru (.cons rv' .nil)) ⟨_,nz _ tz _ a5,rfl,_,rfl⟩
  refine ⟨.ref s.heap.objs.size,_,I2,rfl,⟨s.heap.objs.size,x,y,fun xs' q=>by rw [I.iJ q qx];exact ex,fun ys' q=>by rw [I.iJ q qy];exact ey,rfl,hn,rfl⟩,⟨b1,nz _ D.TIz _ (a7 _ _ D.TIz D.TITO D.TIi1 D.TIi2 gm),⟨_,_,nz _ D.TOz _ a2⟩,a3.at fun o e=>nz _ D.i1z o e,a4.at fun o e=>nz _ D.i2z o e⟩,fun b hb=>?_⟩
  have ob:∃o,s.heap.get? b=some o:=by
   obtain ⟨o1,e1,_⟩:=h1
   obtain ⟨o2,e2,_⟩:=h2
   have pE :b=z\/b=TI\/b=TO\/b=i1\/b=i2:=by simpa using hb
   rcases pE with e|e|e|e|e<;>subst e
   ·exact ⟨_,hz⟩
   ·exact ⟨_,gm⟩
   ·exact ⟨_,jW⟩
   ·exact ⟨_,e1⟩
   ·exact ⟨_,e2⟩
  obtain ⟨o,e⟩:=ob
  rw [aj (adO (sz _ _ e))]
  exact (hf b hb).1
 done:=by
  intro X hP hw hK hc i pins s σ H E I hf st hg
  subst hP hw hK
  obtain ⟨hz,gm,⟨x0,y0,jW⟩,h1,h2⟩:=st
  obtain ⟨xs,ys,qx,qy,ee⟩:=hg
  obtain ⟨its,rv,p,_⟩:=I.list qx
  obtain ⟨Uz,sW,p',_⟩:=I.list qy
  have l1:=rv.length
  have l2:=sW.length
  refine wpAny_pyNext_zip_end (I.ok.hd hc) D hz gm jW h1 h2 p.isList p'.isList ?_ fun h' kk=>⟨rfl,Inv.mm I (fun b o hb e=>?_) hf⟩
  ·rcases ee with e|e
   ·exact .inl (by simp;omega)
   ·exact .inr (by simp;omega)
  ·have fC :b≠z/\b≠TI/\b≠TO/\b≠i1/\b≠i2:=by simpa using hb
   exact kk b o fC.1 fC.2.2.1 fC.2.2.2.1 fC.2.2.2.2 e
 self:=fun _ _ _ _ _ st h=>acr st.1 h
theorem boot_zip:aaY "zip"=some (.type "zip"):=by decide+kernel
section
variable {X:Cx}
inductive S8 (K:Frag)(R:(It->Hp->Prop))(vs:η)(H1:Hp):Prop
|mk (a b:_)(_:vs=[.ref a,.ref b])(_:(∃xs,aR K H1 a xs))(_:(∃ys,aR K H1 b ys))(_:R (Uy K a b) H1)
def aeY (K:Frag)(ta:TA):TI:=fun σ H R=>ta σ H fun vs H1=>S8 K R vs H1
theorem vm {p pos:Pos}{es:Ε}{k:Nat}{u4:Pos}(hg:Gl X "zip")(hm:X.mg "zip"=none)(ha:PA X [e1,e2] ta)(hs:aaO [e1,e2] X.env=[(false,aaV e1 X.env),(false,aaV e2 X.env)]:=by rfl)(DE:aaO [e2] X.env=[(false,aaV e2 X.env)]:=by rfl):
  PI X (.Tuple es k u4) (.Call (.Name "zip" p) [e1,e2] [] pos) (aeY X.K ta):=by
 intro pins s σ H R I h
 refine Call_ (i5 I hg hm boot_zip (aa7 (cI (ha pos pins s σ H _ I h) fun us s1 ⟨vs,H1,I1,r1,q1⟩=>?_) (by rw [hs,DE]) (by rw [DE];rfl)))
 obtain ⟨a,b,e,⟨xs,hx⟩,⟨ys,hy⟩,q⟩:=q1
 subst e
 cases r1 with
 | cons r rr=>
  cases rr with
  | cons r' rr=>
   cases rr
   cases r
   cases r'
   obtain ⟨its,rv,pl,_⟩:=I1.list hx
   obtain ⟨Uz,sW,pl',_⟩:=I1.list hy
   have lt1:a<s1.heap.objs.size:=by obtain ⟨o,ho,_⟩:=pl.isList;exact aaI ho
   have XW:b<s1.heap.objs.size:=by obtain ⟨o,ho,_⟩:=pl'.isList;exact aaI ho
   refine call_zip_2 pl.isList pl'.isList fun h' hz gm jW xQ UA hsz hk=>acr (s:={s1 with heap:=h'}) hz ?_
   refine ⟨s1.heap.objs.size+4,[s1.heap.objs.size+4,s1.heap.objs.size+2,s1.heap.objs.size+3,s1.heap.objs.size,s1.heap.objs.size+1],_,_,H1,rfl,I1.kept (t':=s1.toks) hk,L9 a b _ _ _ _ _ ?_,⟨hz,gm,⟨_,_,jW⟩,xQ,UA⟩,fun c hc=>?_,q⟩
   ·constructor<;>(intro z;simp only [aaz] at*;omega)
   ·have pE :s1.heap.objs.size<=c:=by
     have:c=s1.heap.objs.size+4\/c=s1.heap.objs.size+2\/c=s1.heap.objs.size+3\/c=s1.heap.objs.size\/c=s1.heap.objs.size+1:=by simpa using hc
     simp only [aaz] at*
     omega
    exact I1.m8 pE (I1.bH.fresh pE)
inductive L_ (K:Frag)(xs:η)(H:Hp)(Q:VK):Prop
|mk (p:aaz)(ys:η)(_:xs=[.ref p])(_:aR K H p ys)(_:∀l,H l=none->Q (.ref l) (upd H l (.lst ys)))
theorem qL:iL X (.type "list") (L_ X.K):=by
 intro pins s σ H xs us Q I r h
 obtain ⟨p,ys,rfl,hq,q⟩:=h
 obtain ⟨u,rfl,r1⟩:=vals1 r
 cases r1
 obtain ⟨its,rv,⟨o,n,e,c,d1,d⟩,hz⟩:=I.list hq
 have hlen:=rv.length
 refine call_list_seq p (.inl rfl) e c d (fun h' c' hk hl=>?_) (by simp;omega)
 have hn:=I.bH.fresh (aa_ s.heap.objs.size)
 have I2:Inv X pins σ (upd H s.heap.objs.size (.lst ys)) {s with heap:=h',toks:=s.toks}:=I.laid (t':=s.toks) hk (aa_ _) ⟨hz,its,c',rv,hl⟩
 exact ⟨.ref _,_,I2,rfl,q _ hn⟩
end
section
variable {X:Cx}{K:Frag}
theorem dS (h:X.K=K):SW X (LM K):=by subst h;exact nh
theorem qM (h:X.K=K):SW X (Qd K):=by subst h;exact aQ
theorem vn {k:Nat}{pos:Pos}(hK:X.K=K)(hc:X.calm=true)(h:Xf X es t)
  (hn:(acp es X.env).length=n:=by rfl) (PY:(acp es X.env).findIdx? (·.1)=none:=by rfl):PG X (.Tuple es k pos) (Ls K n t):=by subst hK;exact fM hc h hn PY
end
section
variable {D:aaz}{te:TE}{cap:L2.St}{H1:Hp}{Q:VK}
theorem xR {K:Frag}(Rel:Nat->V->Hp->Prop)(nD:H1 D=none)(hn:xs.length<aaD)(hl:ys.length=xs.length)(hX:∀H,ao H1 H->aR K H a xs)(hY:∀H,ao H1 H->aR K H b ys)
  (hR:∀i v H H' ys,H D=some (.lst ys)->bS D H H' ->Rel i v H->Rel i v H')
  (he:∀i x y H (R:VK),xs[i]?=some x->ys[i]?=some y->ao H1 H->(∀v H6,ao H H6->Rel i v H6->R v H6)->te (some x::some y::cap) H R)
  (hd:∀zs H,zs.length=xs.length->(∀i v,zs[i]?=some v->Rel i v H)->ao H1 H->H D=some (.lst zs)->Q (.ref D) H):
  nq D (Ls K 2 (xx (cV 0) (xx (cV 1) Ua))) ki te (Uy K a b) (none::none::cap) H1 Q:=by
 refine ⟨fun i m σ zs H=>m=xs.length-i/\i<=xs.length/\(∃o o',σ=o::o'::cap)/\(zs.length=i/\(∀i v,zs[i]?=some v->Rel i v H)/\ao H1 H)/\H D=some (.lst zs),⟨xs.length,by simp,adS _,⟨none,none,rfl⟩,⟨rfl,fun i v e=>by simp at e,fun b o e=>by rw [aj (ak e nD)];exact e⟩,ah⟩,?_⟩
 rintro i m σ zs H ⟨rfl,hi,⟨o,o',rfl⟩,⟨l,r,s⟩,hD⟩
 by_cases kN:i<xs.length
 ·have e1:xs[i]?=some xs[i]:=gE kN
  have e2:ys[i]?=some (ys[i]'(by omega)):=gE (by omega)
  refine .inr ⟨⟨xs,ys,_,_,hX H s,hY H s,e1,e2⟩,fun v H' y=>?_⟩
  obtain ⟨p,x,y,q1,q2,rfl,np,rfl⟩:=y
  have e1:=q1 xs (hX H s)
  have e2:=q2 ys (hY H s)
  have sp:ao H (upd H p (.tup [x,y])):=fun b o e=>by rw [aj (ak e np)];exact e
  refine ⟨p,_,rfl,bM.of ah,rfl,_,_,rfl,_,_,rfl,rfl,?_⟩
  unfold ki
  dsimp only
  rw [aaC rfl]
  refine he i x y _ _ e1 e2 (fun b o e=>sp _ _ (s _ _ e)) fun v H6 s6 rv=>⟨s6 _ _ (sp _ _ hD),by omega,xs.length-(i+1),by omega,rfl,by omega,⟨_,_,rfl⟩,⟨by simp [l],fun j u e=>?_,fun b o e=>?_⟩,ah⟩
  ·by_cases c:j<zs.length
   ·rw [adq c] at e
    have ru:=hR j u H H6 zs hD (bS.of fun b o q=>s6 _ _ (sp _ _ q)) (r j u e)
    exact hR j u H6 _ zs (s6 _ _ (sp _ _ hD)) bS.upd ru
   ·rw [adv (by omega)] at e
    have ej:j=i:=by
     by_cases z:j-zs.length=0
     ·omega
     ·rw [aax (by simp;omega)] at e
      cases e
    subst ej
    have:v=u:=by
     rw [show j-zs.length=0 by omega] at e
     exact ady e
    subst this
    exact hR j v H6 _ zs (s6 _ _ (sp _ _ hD)) bS.upd rv
  ·rw [aj (ak e nD)]
   exact s6 _ _ (sp _ _ (s _ _ e))
 ·have e:i=xs.length:=by omega
  subst e
  exact .inl ⟨⟨xs,ys,hX H s,hY H s,.inl (aa_ _)⟩,hd zs H l r s hD⟩
end
open Builtin.Int (intBits)
def vl (q:Int×Int):Rat:=(q.1:Rat) / (q.2:Rat)
structure Sm (T B:Nat)(q:Int×Int):Prop where
 pos:0<q.2
 low:ad1 q.1 q.2=1
 top:q.1.natAbs<=2^T
 bot:q.2.natAbs<=2^B
theorem cQ {b:Int}(h:b≠0):(b:Rat)≠0:=by simpa using h
theorem lh (h:b≠0):vl (low t b)=(t:Rat) / (b:Rat):=by
 have c:=GL (t:=t) h
 have p:=jV (t:=t) h
 have h1:=cQ h
 have h2:=cQ (b:=(low t b).2) (by omega)
 have c':((low t b).1:Rat)*b=t*(low t b).2:=by exact_mod_cast c
 unfold vl
 grind
theorem xS {t b u c:Int}(hb:b≠0)(hc:c≠0)(h:(t:Rat) / b=(u:Rat) / c):t*c=u*b:=by
 have h1:=cQ hb
 have h2:=cQ hc
 have:(t:Rat)*c=u*b:=by grind
 exact_mod_cast this
theorem UB (hq:0<q.2)(hr:0<r.2)(gq:ad1 q.1 q.2=1)(gr:ad1 r.1 r.2=1)(h:vl q=vl r):q=r:=by
 have c:=xS (t:=q.1) (b:=q.2) (u:=r.1) (c:=r.2) (by omega) (by omega) h
 have e:=sY (t:=q.1) (b:=q.2) (u:=r.1) (c:=r.2) (by omega) (by omega) c
 rw [mi hq gq,mi hr gr] at e
 exact al_ (aaQ anB e) (aaQ anC e)
theorem GU {b d:Int}(hd:d≠0)(h:d ∣ b):((b.fdiv d:Int):Rat)=(b:Rat) / d:=by
 have e:=cK hd h
 have h1:=cQ hd
 have:(b:Rat)=d*(b.fdiv d:Int):=by exact_mod_cast e
 grind
def g9 (xs ys:ο):Rat:=(ad4 (fun a b=>vl a*vl b) xs ys).sum
theorem GV {xs ys:ο}:g9 (x::xs) (y::ys)=vl x*vl y+g9 xs ys:=by simp [g9]
def oF (ts:ξ)(qs:ο)(b:Int):Prop:=ts.length=qs.length/\∀(i:Nat)(t:Int)(q:Int×Int),ts[i]?=some t->qs[i]?=some q->(t:Rat)=vl q*b
theorem oF.tail {ts:ξ}{qs:ο}(h:oF (t::ts) (q::qs) b):oF ts qs b:=⟨by simpa using h.1,fun i t' q' e1 e2=>h.2 (i+1) t' q' (by simpa using e1) (by simpa using e2)⟩
theorem vo {a b:Int}(h1:a.natAbs<=2^m)(h2:b.natAbs<=2^n):(a*b).natAbs<=2^(m+n):=by
 rw [aeu,af8]
 exact aek h1 h2
theorem UC {a b:Int}(h1:a.natAbs<=2^m)(h2:b.natAbs<=2^m):(a+b).natAbs<=2^(m+1):=by
 have:=ae2 a b
 rw [afz]
 omega
theorem qN {a:Int}(h:a.natAbs<=2^m)(hm:m<=n):a.natAbs<=2^n:=aav h (adF (by decide) hm)
theorem jX (h:a.natAbs<=2^m)(hm:m<n):intBits a<=n:=intBits_le_iff.mpr (ac_ h (af9 (by decide) hm))
theorem qf (h1:a.natAbs<=2^m)(h2:b.natAbs<=2^n)(hm:m<30000000)(hn:n<30000000):oC a b:=⟨aav (jX h1 hm) (by decide),aav (jX h2 hn) (by decide)⟩
theorem Sm.up (h:Sm T B q)(hT:T<=T')(hB:B<=B'):Sm T' B' q:=⟨h.pos,h.low,qN h.top hT,qN h.bot hB⟩
theorem Ma {b d:Int}(hb:0<b)(hd:0<d):0<b.fdiv (gz b d)*d/\b ∣ b.fdiv (gz b d)*d/\d ∣ b.fdiv (gz b d)*d/\(b.fdiv (gz b d)*d).natAbs<=b.natAbs*d.natAbs:=by
 have gp:=vd (t:=b) (b:=d) (by omega)
 have g1:gz b d ∣ b:=ae8 ..
 have g2:gz b d ∣ d:=aeX ..
 have e1:=cK (g:=gz b d) (by omega) g1
 have e2:=cK (g:=gz b d) (by omega) g2
 generalize gz b d=g at*
 have p1:0<b.fdiv g:=by
  rcases afU (b.fdiv g) 0 with z|z|z
  ·exfalso
   have:=agr gp z
   omega
  ·rw [z] at e1;omega
  ·exact z
 refine ⟨aex p1 hd,⟨d.fdiv g,?_⟩,⟨b.fdiv g,ae1 ..⟩,?_⟩
 ·have:b.fdiv g*d=b.fdiv g*(g*d.fdiv g):=by rw [<-e2]
  rw [this]
  have h3:b*d.fdiv g=g*b.fdiv g*d.fdiv g:=by rw [<-e1]
  rw [h3]
  rw [<-af7,ae1 (b.fdiv g) g]
 ·rw [aeu]
  exact adz _ (by
   have:=eh (g:=g) (a:=b.fdiv g) (by omega)
   rw [<-e1] at this
   exact this)
theorem GX {b:Int}(hq:0<q.2)(h:q.2 ∣ b):((q.1*b.fdiv q.2:Int):Rat)=vl q*b:=by
 have e:=GU (b:=b) (d:=q.2) (by omega) h
 have:((q.1*b.fdiv q.2:Int):Rat)=q.1*((b.fdiv q.2:Int):Rat):=by push_cast;rfl
 rw [this,e]
 unfold vl
 grind
theorem iN {b d:Int}(hd:d≠0)(h:d ∣ b):(b.fdiv d).natAbs<=b.natAbs:=by
 have:=eh (g:=d) (a:=b.fdiv d) hd
 rw [<-cK hd h] at this
 exact this
section
variable {D:aaz}{te:TE}{cap:L2.St}{H1:Hp}{Q:VK}
theorem GY (n:Nat)(xs:Nat->V)(Rel:Nat->V->Hp->Prop)(nD:H1 D=none)(hn:n<aaD)
  (go:∀i H,i<n->ao H1 H->J.go i H/\∀x H',J.CZ i H x H' ->H'=H/\x=xs i) (stop:∀H,ao H1 H->J.stop n H)
  (hR:∀i v H H' ys,H D=some (.lst ys)->bS D H H' ->Rel i v H->Rel i v H')
  (he:∀i H (R:VK),i<n->ao H1 H->(∃ys,H D=some (.lst ys))->(∀v H6,ao H H6->Rel i v H6->R v H6)->te (some (xs i)::cap) H R)
  (hd:∀ys H,ys.length=n->(∀i v,ys[i]?=some v->Rel i v H)->ao H1 H->H D=some (.lst ys)->Q (.ref D) H):
  nq D (cV 0) ki te J (none::cap) H1 Q:=by
 refine vk n xs (fun i ys H=>ys.length=i/\(∀i v,ys[i]?=some v->Rel i v H)/\ao H1 H) ⟨rfl,fun i v e=>by simp at e,fun b o e=>by rw [aj (ak e nD)];exact e⟩ ?_ ?_ ?_ ?_
 ·rintro i ys H hi ⟨_,_,s⟩
  exact go i H hi s
 ·rintro ys H ⟨_,_,s⟩
  exact stop H s
 ·rintro i ys H R hi ⟨l,r,s⟩ hD k
  refine he i H R hi s ⟨_,hD⟩ fun v H6 s6 rv=>k v H6 (s6 _ _ hD) (by omega) ⟨by simp [l],fun j u e=>?_,fun b o e=>?_⟩
  ·by_cases c:j<ys.length
   ·rw [adq c] at e
    have ru:=hR j u H H6 ys hD (bS.of s6) (r j u e)
    exact hR j u H6 _ ys (s6 _ _ hD) bS.upd ru
   ·rw [adv (by omega)] at e
    have ej:j=i:=by
     by_cases z:j-ys.length=0
     ·omega
     ·rw [aax (by simp;omega)] at e
      cases e
    subst ej
    have:v=u:=by
     rw [show j-ys.length=0 by omega] at e
     exact ady e
    subst this
    exact hR j v H6 _ ys (s6 _ _ hD) bS.upd rv
  ·rw [aj (ak e nD)]
   exact s6 _ _ (s _ _ e)
 ·rintro ys H ⟨l,r,s⟩ hD
  exact hd ys H l r s hD
theorem qO {K:Frag}(Rel:Nat->V->Hp->Prop)(nD:H1 D=none)(hn:xs.length<aaD)(hS:∀H,ao H1 H->aR K H a xs)
  (hR:∀i v H H' ys,H D=some (.lst ys)->bS D H H' ->Rel i v H->Rel i v H')
  (he:∀i x H (R:VK),xs[i]?=some x->ao H1 H->(∃ys,H D=some (.lst ys))->(∀v H6,ao H H6->Rel i v H6->R v H6)->te (some x::cap) H R)
  (hd:∀ys H,ys.length=xs.length->(∀i v,ys[i]?=some v->Rel i v H)->ao H1 H->H D=some (.lst ys)->Q (.ref D) H):
  nq D (cV 0) ki te (PZ K a) (none::cap) H1 Q:=by
 refine GY xs.length (fun i=>(xs[i]?).getD .cS) Rel nD hn (fun i H hi s=>⟨⟨xs,xs[i],hS H s,gE hi⟩,fun x H' y=>⟨y.1,?_⟩⟩) (fun H s=>⟨xs,hS H s,aa_ _⟩) hR (fun i H R hi s dd k=>?_) hd
 ·rw [y.2 xs (hS H s)];rfl
 ·have e:xs[i]?=some xs[i]:=gE hi
  have k':=he i _ H R e s dd k
  rw [<-(show (xs[i]?).getD .cS=xs[i] by rw [e];rfl)] at k'
  exact k'
end
section
variable {X:Cx}
end
end Ty
namespace L2
open PySem PySem.Spec PyProof.Rows
section
variable {κ:Type}[DecidableEq κ]
def bF (kvs:List (κ×V))(k:κ):Option V:=(kvs.find? fun kv=>decide (kv.1=k)).map (·.2)
def putK (kvs:List (κ×V))(k:κ)(v:V):List (κ×V):=
 if (kvs.any fun kv=>decide (kv.1=k))=true then kvs.map (fun kv=>if kv.1=k then (kv.1,v) else kv) else kvs++[(k,v)]
theorem bT {k:κ}(e:p.1=k):bF (p::r) k=some p.2:=by simp [bF,afq,e]
theorem bD {k:κ}(e:¬ p.1=k):bF (p::r) k=bF r k:=by simp [bF,afq,e]
theorem iO (k:κ):∀kvs:List (κ×V),(kvs.any fun kv=>decide (kv.1=k))=(bF kvs k).isSome
 | []=>rfl
 | p::r=>by
  rw [afK]
  by_cases e:p.1=k
  ·simp only [bT e,aaS e,Bool.true_or,Option.isSome_some]
  ·rw [bD e,aa0 e,Bool.false_or];exact iO k r
theorem xT (k j:κ)(y:V):∀kvs:List (κ×V),bF (kvs.map fun kv=>if kv.1=k then (kv.1,y) else kv) j=(bF kvs j).map fun x=>if j=k then y else x
 | []=>rfl
 | p::r=>by
  have ih:=xT k j y r
  rw [aau]
  by_cases h:p.1=k
  ·rw [aaC h]
   by_cases e:p.1=j
   ·rw [bT (p:=(p.1,y)) e,bT e,afp,aaC (e.symm.trans h)]
   ·rw [bD (p:=(p.1,y)) e,bD e,ih]
  ·rw [aaA h]
   by_cases e:p.1=j
   ·rw [bT (p:=p) e,bT e,afp,aaA (fun z=>h (e.trans z))]
   ·rw [bD (p:=p) e,bD e,ih]
theorem uw (k j:κ)(y:V):∀kvs:List (κ×V),bF kvs k=none->bF (kvs++[(k,y)]) j=if j=k then some y else bF kvs j
 | [],_=>by
  by_cases e:k=j
  ·rw [aaC e.symm];exact bT (p:=(k,y)) e
  ·rw [aaA (fun z=>e z.symm)];exact bD (p:=(k,y)) e
 | p::r,hn=>by
  rw [afD]
  have hk:¬ p.1=k:=fun z=>by rw [bT z] at hn;cases hn
  rw [bD hk] at hn
  have ih:=uw k j y r hn
  by_cases e:p.1=j
  ·rw [bT e,bT e,aaA (fun z=>hk (e.trans z))]
  ·rw [bD e,bD e,ih]
theorem jF (kvs:List (κ×V))(k j:κ)(y:V):bF (putK kvs k y) j=if j=k then some y else bF kvs j:=by
 unfold putK
 by_cases a:(kvs.any fun kv=>decide (kv.1=k))=true
 ·rw [aaC a,xT]
  rw [iO] at a
  by_cases e:j=k
  ·obtain ⟨x,hx⟩:=agB.mp a
   rw [aaC e,e,hx,afp,aaC rfl]
  ·rw [aaA e]
   cases bF kvs j with
   | none=>rfl
   | some x=>rw [afp,aaA e]
 ·rw [aaA a]
  refine uw k j y kvs ?_
  rw [iO] at a
  cases q:bF kvs k with
  | none=>rfl
  | some x=>rw [q] at a;exact (a rfl).elim
theorem g_ (kvs:List (κ×V))(k:κ)(v:V):(putK kvs k v).length<=kvs.length+1:=by
 unfold putK
 split
 ·rw [be];omega
 ·rw [adl,adJ,ag5];omega
theorem dw {k:κ}(v:V)(h:bF kvs k=none):putK kvs k v=kvs++[(k,v)]:=by
 unfold putK
 rw [iO,h]
 exact aaA (by decide)
theorem jo.iP {o:ω}(r:jo o u):o.isSome=u.isSome:=by
 cases o with
 | none=>cases u with
  | none=>rfl
  | some _=>exact (show False from r).elim
 | some _=>cases u with
  | none=>exact (show False from r).elim
  | some _=>rfl
theorem jo.getD {o:ω}(r:jo o u)(rd:RelV d d'):RelV (o.getD d) (u.getD d'):=by
 cases o with
 | none=>cases u with
  | none=>exact rd
  | some _=>exact (show False from r).elim
 | some _=>cases u with
  | none=>exact (show False from r).elim
  | some _=>exact r
theorem KV.val (r:KV kvs vs)(k:κ):jo (bF kvs k) (valueAt vs k):=by
 unfold KV at r
 induction r with
 | nil=>exact True.intro
 | @cons p q ps qs h t ih=>
  obtain ⟨h1,h2⟩:=h
  by_cases e:p.1=k
  ·have e':q.1=k:=h1.symm.trans e
   have b:valueAt (q::qs) k=some q.2:=by simp [valueAt,afq,e']
   rw [bT e,b];exact h2
  ·have e':¬ q.1=k:=fun z=>e (h1.trans z)
   have b:valueAt (q::qs) k=valueAt qs k:=by simp [valueAt,afq,e']
   rw [bD e,b];exact ih
theorem KV.any (r:KV kvs vs)(k:κ):(kvs.any fun kv=>decide (kv.1=k))=vs.any fun kv=>decide (kv.1=k):=by
 unfold KV at r
 induction r with
 | nil=>rfl
 | cons h t ih=>rw [afK,afK,ih,h.1]
theorem KV.UD (r:KV kvs vs)(k:κ)(ry:RelV y u):
  KV (kvs.map fun kv=>if kv.1=k then (kv.1,y) else kv) (vs.map fun kv=>if kv.1=k then (kv.1,u) else kv):=by
 unfold KV at r ⊢
 induction r with
 | nil=>exact .nil
 | @cons p q ps qs h t ih=>
  rw [aau,aau]
  refine .cons ?_ ih
  obtain ⟨h1,h2⟩:=h
  by_cases e:p.1=k
  ·rw [aaC e,aaC (h1.symm.trans e)];exact ⟨h1,ry⟩
  ·rw [aaA e,aaA (fun z=>e (h1.trans z))];exact ⟨h1,h2⟩
theorem KV.put (r:KV kvs vs)(k:κ)(ry:RelV y u):KV (putK kvs k y) (stored vs k u):=by
 unfold putK stored
 rw [r.any k]
 by_cases e:(vs.any fun kv=>decide (kv.1=k))=true
 ·rw [aaC e,aaC e];exact r.UD k ry
 ·rw [aaA e,aaA e];exact ahb r ⟨rfl,ry⟩
theorem KV.length {vs:List (κ×Value)}(r:KV kvs vs):kvs.length=vs.length:=aaK r
end
theorem oG (r:RelV (kV k) u):(bC P w).is k u=true:=by
 cases k with
 | inl i=>obtain ⟨t,e⟩:=(show ∃t,u=Value.int i t from r);subst e;exact xt P w i t
 | inr x=>obtain ⟨t,e⟩:=(show ∃t,u=Value.str x t from r);subst e;exact xu P w x t
theorem uz :∀{ks:List Key} {us:ρ},Vals (ks.map kV) us->ItemsAre (bC P w) ks us
 | [],_,r=>by rw [adM] at r;cases r;exact .nil
 | k::ks,_,r=>by
  rw [aau] at r
  cases r with
  | cons h t=>exact .cons (oG h) (uz t)
abbrev KT (H:Hp):List (List Key×V)->List (List Key×aaz×Value)->Prop:=Paired fun p q=>p.1=q.1/\H q.2.1=some (.tup (p.1.map kV))/\RelV p.2 q.2.2
theorem KT.val {kvs:Ρ}{xs:Φ}(r:KT H kvs xs)(k:List Key):jo (bF kvs k) ((atKey xs k).map (·.2)):=by
 induction r with
 | nil=>exact True.intro
 | @cons p q ps qs h t ih=>
  obtain ⟨h1,_,h2⟩:=h
  by_cases e:p.1=k
  ·have e':q.1=k:=h1.symm.trans e
   have b:atKey (q::qs) k=some q.2:=by simp [atKey,afq,e']
   rw [bT e,b];exact h2
  ·have e':¬ q.1=k:=fun z=>e (h1.trans z)
   have b:atKey (q::qs) k=atKey qs k:=by simp [atKey,afq,e']
   rw [bD e,b];exact ih
theorem KT.UD {kvs:Ρ}{xs:Φ}(r:KT H kvs xs)(k:List Key)(ry:RelV y u):
  KT H (kvs.map fun kv=>if kv.1=k then (kv.1,y) else kv) (xs.map (putAt k u)):=by
 induction r with
 | nil=>exact .nil
 | @cons p q ps qs h t ih=>
  rw [aau,aau]
  refine .cons ?_ ih
  obtain ⟨h1,h2,h3⟩:=h
  unfold putAt
  by_cases e:p.1=k
  ·rw [aaC e,aaC (h1.symm.trans e)];exact ⟨h1,h2,ry⟩
  ·rw [aaA e,aaA (fun z=>e (h1.trans z))];exact ⟨h1,h2,h3⟩
theorem KT.put {kvs:Ρ}{xs:Φ}(r:KT H kvs xs)(k:List Key)(hb:H b=some (.tup (k.map kV)))(ry:RelV y u):
  KT H (putK kvs k y) (storedH xs k b u):=by
 have e:(kvs.any fun kv=>decide (kv.1=k))=(atKey xs k).isSome:=by
  rw [iO,(r.val k).iP,agv]
 unfold putK storedH
 rw [e]
 by_cases q:(atKey xs k).isSome=true
 ·rw [aaC q,aaC q];exact r.UD k ry
 ·rw [aaA q,aaA q];exact ahb r ⟨rfl,hb,ry⟩
theorem KT.keeps {kvs:Ρ}{xs:Φ}(r:KT H kvs xs)(ht:∀b ys,H b=some (.tup ys)->H' b=some (.tup ys)):KT H' kvs xs:=
 Paired.cF r fun _ _ z=>⟨z.1,ht _ _ z.2.1,z.2.2⟩
section
variable {P:aaP}{w:World}{H:Hp}{h:Heap}{a:aaz}
theorem S9 (ok:kA P w H h)(e:Rd H a u):cT P w H h a u:=e.ok ok
theorem mq (ok:kA P w H h)(e:Rd H a (.dK kvs)):kvs.length<=aaD/\(a==abf)=false/\∃vs,KV kvs vs/\h.DictOf (bC P w) a vs:=
 show cT P w H h a (.dK kvs) from S9 ok e
theorem oH (ok:kA P w H h)(e:H a=some (.dK kvs)):kvs.length<=aaD/\(a==abf)=false/\∃vs,KV kvs vs/\h.DictOf (bC P w) a vs:=mq ok (.inl e)
theorem nA (ok:kA P w H h)(e:H a=some (.tup (ks.map kV))):(tupleKind (bC P w)).is h ks a:=by
 obtain ⟨_,its,r,o,h1,h2,n,h3⟩:=(show cT P w H h a (.tup (ks.map kV)) from ok a _ e)
 exact ⟨o,its.toArray,n,h1,h2,h3,by simpa using uz r⟩
theorem qP (ok:kA P w H h)(e:Rd H a (.dT kvs)):kvs.length<=aaD/\(a==abf)=false/\
  ∃xs,KT H kvs xs/\h.DictOfH (tupleKind (bC P w)) a xs:=by
 obtain ⟨z,y,xs,r,o,es,ep,h1,h2,h3,h4,h5⟩:=(show cT P w H h a (.dT kvs) from S9 ok e)
 refine ⟨z,y,xs,r,o,es,ep,h1,h2,h3,h4,fun x hx=>?_,h5⟩
 have all:∀{l:Ρ} {m:Φ},KT H l m->∀x∈m,(tupleKind (bC P w)).is h x.1 x.2.1:=by
  intro l m q
  induction q with
  | nil=>intro x hx;exact nomatch hx
  | @cons p q ps qs hq t ih=>
   intro x hx
   rcases adD.mp hx with e|hx
   ·subst e
    exact nA ok (by rw [<-hq.1];exact hq.2.1)
   ·exact ih x hx
 exact all r x hx
theorem XX (ok:kA P w H h)(e:H a=some (.dT kvs)):kvs.length<=aaD/\(a==abf)=false/\
  ∃xs,KT H kvs xs/\h.DictOfH (tupleKind (bC P w)) a xs:=qP ok (.inl e)
end
def cG (H:Hp)(a:aaz)(y:V)(r:ω):Prop:=
 (∃kvs k,Rd H a (.dK kvs)/\y=kV k/\r=bF kvs k)\/∃kvs k b,Rd H a (.dT kvs)/\y=.ref b/\H b=some (.tup (k.map kV))/\r=bF kvs k
def gP (H:Hp)(a:aaz)(y v:V)(H':Hp):Prop:=
 (∃kvs k,H a=some (.dK kvs)/\y=kV k/\kvs.length<aaD/\H'=upd H a (.dK (putK kvs k v)))\/
 ∃kvs k b,H a=some (.dT kvs)/\y=.ref b/\H b=some (.tup (k.map kV))/\kvs.length<aaD/\H'=upd H a (.dT (putK kvs k v))
theorem cG.k {kvs:γ}{k:Key}(e:H a=some (.dK kvs)):cG H a (kV k) (bF kvs k):=.inl ⟨kvs,k,.inl e,rfl,rfl⟩
theorem gP.k {kvs:γ}{k:Key}(e:H a=some (.dK kvs))(hl:kvs.length<aaD):gP H a (kV k) v (upd H a (.dK (putK kvs k v))):=.inl ⟨kvs,k,e,rfl,hl,rfl⟩
section
variable {X:Cx}{pins:ε}{σ:St}{H:Hp}{s:aaH}{a:aaz}{y v:V}{u r:Value}{o:ω}{A:aaT}{E:δ}
theorem Inv.big (I:Inv X pins σ H s):abf<s.heap.objs.size:=by
 have h:aaN<s.heap.objs.size:=(I.mod.glob.keeps I.bk).lt
 exact agR (by decide) h
theorem GZ {Q:δ}(hu:A.units+1<abG)(I:Inv X pins σ H s)(g:cG H a y (some v))(ry:RelV y u)(h:∀w' s',Inv X pins σ H s' ->RelV v w' ->Q w' s'):
  aaE (aaJ X.prog X.w) A (getItem (.ref a) u) Q E s:=by
 rcases g with ⟨kvs,k,e,ey,l⟩|⟨kvs,k,b,e,ey,eb,l⟩
 ·subst ey
  obtain ⟨z,hd,vs,rel,dd⟩:=mq I.bH e
  obtain ⟨w',hw,sW⟩:=jo.some_of (v:=v) (o:=valueAt vs k) (by rw [l];exact rel.val k)
  exact wpAny_getItem_of (oG ry) dd.mapOf hw (h w' _ (I.tok _) sW)
 ·subst ey
  cases (show u=Value.ref b from ry)
  obtain ⟨z,hd,xs,rel,dd⟩:=qP I.bH e
  obtain ⟨w',hw,sW⟩:=jo.some_of (v:=v) (o:=(atKey xs k).map (·.2)) (by rw [l];exact rel.val k)
  obtain ⟨p,hp,XY⟩:=ab_.mp hw
  refine wpAny_getItem_heap (abP hu) (nA I.bH eb) dd hp ?_
  rw [XY]
  exact h w' _ (I.tok _) sW
theorem aeZ {Q:δ}(hu:A.units+1<abG)(I:Inv X pins σ H s)(g:cG H a y o)(ry:RelV y u)(h:∀s',Inv X pins σ H s' ->Q (.bool o.isSome) s'):
  aaE (aaJ X.prog X.w) A (aba .In u (.ref a)) Q E s:=by
 rcases g with ⟨kvs,k,e,ey,l⟩|⟨kvs,k,b,e,ey,eb,l⟩
 ·subst ey
  obtain ⟨z,hd,vs,rel,dd⟩:=mq I.bH e
  refine wpAny_in_of (oG ry) hd dd.mapOf ?_
  rw [<-(rel.val k).iP,<-l]
  exact h _ (I.tok _)
 ·subst ey
  cases (show u=Value.ref b from ry)
  obtain ⟨z,hd,xs,rel,dd⟩:=qP I.bH e
  refine wpAny_in_heap (abP hu) (nA I.bH eb) hd dd ?_
  have q:=(rel.val k).iP
  rw [agv] at q
  rw [<-q,<-l]
  exact h _ (I.tok _)
theorem Ql {Q:δ}(hu:A.units+1<abG)(I:Inv X pins σ H s)(g:cG H a y o)(ry:RelV y u)(h:∀s',Inv X pins σ H s' ->Q (.bool (!o.isSome)) s'):
  aaE (aaJ X.prog X.w) A (aba .NotIn u (.ref a)) Q E s:=by
 rcases g with ⟨kvs,k,e,ey,l⟩|⟨kvs,k,b,e,ey,eb,l⟩
 ·subst ey
  obtain ⟨z,hd,vs,rel,dd⟩:=mq I.bH e
  refine wpAny_notIn_of (oG ry) hd dd.mapOf ?_
  rw [<-(rel.val k).iP,<-l]
  exact h _ (I.tok _)
 ·subst ey
  cases (show u=Value.ref b from ry)
  obtain ⟨z,hd,xs,rel,dd⟩:=qP I.bH e
  refine wpAny_notIn_heap (abP hu) (nA I.bH eb) hd dd ?_
  have q:=(rel.val k).iP
  rw [agv] at q
  rw [<-q,<-l]
  exact h _ (I.tok _)
theorem qg (I:Inv X pins σ H s)(mu:W0 (H a))(hs:abl a s.heap h')(he:∃q,h'.get? a=some q)(new:cT X.prog X.w (upd H a ob) h' a ob):
  Inv X pins σ (upd H a ob) {s with heap:=h',toks:=t'}:=
 I.write (x:=a) (e:=a) mu (.inl rfl) (fun b q hb z=>(hs.2 b hb).trans z) he new
theorem AI {kvs:γ}(z:kvs.length<=aaD)(hd:(a==abf)=false)(rel:KV kvs vs)(dd:h'.DictOf (bC P w) a vs):
  cT P w H' h' a (.dK kvs):=⟨z,hd,vs,rel,dd⟩
theorem G_ (hu:A.units+1<abG)(I:Inv X pins σ H s)(g:gP H a y v H')(ry:RelV y u)(rv:RelV v r)(h:∀s',Inv X pins σ H' s' ->Q () s'):
  aaE (aaJ X.prog X.w) A (setItem (.ref a) u r) Q E s:=by
 rcases g with ⟨kvs,k,e,ey,l,eH⟩|⟨kvs,k,b,e,ey,eb,l,eH⟩
 ·subst ey eH
  obtain ⟨z,hd,vs,rel,dd⟩:=oH I.bH e
  have hz:vs.length<=aaD:=by rw [<-rel.length];exact z
  have hl:(putK kvs k v).length<=aaD:=by have:=g_ kvs k v;omega
  refine wpAny_setItem_pairs (hsz:=hz) (oG ry) dd fun h' UE hs=>h _ ?_
  have he:∃q,h'.get? a=some q:=let ⟨q,_,_,hq,_⟩:=UE;⟨q,hq⟩
  exact qg I (by rw [e];exact True.intro) hs he (AI hl hd (rel.put k rv) UE)
 ·subst ey eH
  cases (show u=Value.ref b from ry)
  obtain ⟨z,hd,xs,rel,dd⟩:=XX I.bH e
  have hz:xs.length<=aaD:=by rw [<-aaK rel];exact z
  have hl:(putK kvs k v).length<=aaD:=by have:=g_ kvs k v;omega
  refine wpAny_setItem_heap (hsz:=hz) (abP hu) (nA I.bH eb) dd fun h' UE hs=>h _ ?_
  obtain ⟨q,es,ep,hq,h2,h3,h4,_,h5⟩:=UE
  refine qg I (by rw [e];exact True.intro) hs ⟨q,hq⟩ ⟨hl,hd,_,(rel.put k eb rv).keeps fun c ys ec=>?_,q,es,ep,hq,h2,h3,h4,h5⟩
  rw [aj (WZ ec e (fun z=>nomatch z))]
  exact ec
end
section
variable {X:Cx}{pins:ε}{σ:St}{H:Hp}{s:aaH}{a:aaz}{kvs:γ}{k:Key}{u:Value}{A:aaT}{E:δ}
theorem XZ {Q:δ}(I:Inv X pins σ H s)(e:Rd H a (.dK kvs))(h:∀t s',Inv X pins σ H s' ->Q (.int kvs.length t) s'):aaE (aaJ X.prog X.w) A (call (.builtin "len") [.ref a]) Q E s:=by
 obtain ⟨z,hd,vs,rel,dd⟩:=mq I.bH e
 refine call_len_dict hd dd (by rw [<-rel.length];rw [sizeLine_eq] at z;omega) ?_
 rw [<-rel.length]
 exact h _ _ (I.tok _)
end
def X0 (i:Expr):Prop:=∀ov iv,subscripted i false ov iv=operate [ov,iv] (getItem ov iv)
theorem Qm {E:δ}{T id:String}{Q:δ}
  (hl:typeLookup (.type T) "__getitem__"=pure (some (.builtin id))) (hs:X0 slice)
  (h:aaE (aaJ prog w) A (aaV value env) (fun o s₁=>aaE (aaJ prog w) A (aaV slice env) (fun i s₂=>s₂.TypeIs o T/\aaE (aaJ prog w) A (getItem o i) Q E s₂) E s₁) E s):
  aaE (aaJ prog w) A (aaV (.Subscript value slice pos) env) Q E s:=by
 refine Subscript_ (aa3 h (fun o s₁ h₁=>aa3 h₁ (fun i s₂ h₂=>?_) fun _ _ x=>x) fun _ _ x=>x)
 obtain ⟨hT,h₂⟩:=h₂
 unfold subscriptTail
 refine aay ?_
 rw [getitemInPython_of_ne hT.not_modules]
 refine aay (wpAny_specialOf hT hl ?_)
 have fin:aaE (aaJ prog w) A (subscripted slice false o i) (fun r s₃=>aaE (aaJ prog w) A (letTemporaryGo value o r >>=fun _=>pure r) Q E s₃) E s₂:=by
  rw [hs o i]
  exact wpAny_operating (aa3 h₂ (fun r s₃ h₃=>aay (wpAny_letTemporaryGo (aaF h₃))) fun _ _ x=>x)
 first
  | exact aaF (aay fin)
  | exact aay (aaF (aay fin))
  | exact aay fin
theorem xU {σ:St}(I:Inv X pins σ H s)(g:cG H a y o):s.TypeIs (.ref a) "dict":=by
 rcases g with ⟨kvs,k,e,_,_⟩|⟨kvs,k,b,e,_,_,_⟩
 ·obtain ⟨_,_,vs,_,dd⟩:=mq I.bH e
  exact dd.typeIs
 ·obtain ⟨_,_,xs,_,dd⟩:=qP I.bH e
  exact dd.typeIs
inductive Mb (Q:VK)(x:V)(y:V)(H2:Hp):Prop
|mk (a v:_)(_:x=.ref a)(_:cG H2 a y (some v))(_:Q v H2)
def X1 (td ty:TE):TE:=fun σ H Q=>td σ H fun x H1=>ty σ H1 fun y H2=>Mb Q x y H2
inductive S_ (Q:VK)(y:V)(x:V)(H2:Hp):Prop
|mk (a o:_)(_:x=.ref a)(_:cG H2 a y o)(_:Q (.bl o.isSome) H2)
def ae0 (ty td:TE):TE:=fun σ H Q=>ty σ H fun y H1=>td σ H1 fun x H2=>S_ Q y x H2
inductive xV (Q:VK)(y:V)(x:V)(H2:Hp):Prop
|mk (a o:_)(_:x=.ref a)(_:cG H2 a y o)(_:Q (.bl (!o.isSome)) H2)
def Qn (ty td:TE):TE:=fun σ H Q=>ty σ H fun y H1=>td σ H1 fun x H2=>xV Q y x H2
inductive Mc (D:Ends)(σ:L2.St)(v:V)(x:V)(y:V)(H3:Hp):Prop
|mk (a H4:_)(_:x=.ref a)(_:gP H3 a y v H4)(_:D.nx σ H4)
def X2 (td ty tv:TE):TS:=fun D σ H=>tv σ H fun v H1=>td σ H1 fun x H2=>ty σ H2 fun y H3=>Mc D σ v x y H3
section
variable {X:Cx}{o i e value:Expr}{pos pos' u4:Pos}{td ty tv:TE}
theorem b6 (hu:X.A.units+1<abG)(ho:PE X o td)(hi:PE X i ty)(hs:X0 i):PE X (.Subscript o i pos) (X1 td ty):=by
 intro pins s σ H Q I h
 refine Qm PySem.F.slot_dict_getitem.lookup hs (cI (ho pins s σ H _ I h) fun u s1 ⟨x,H1,I1,rx,q1⟩=>cI (hi pins s1 σ H1 _ I1 q1) fun iv s2 ⟨y,H2,I2,ry,a,v,ex,g,q2⟩=>?_)
 subst ex
 obtain rfl:u=Value.ref a:=rx
 exact ⟨xU I2 g,GZ hu I2 g ry fun w' s3 I3 sW =>⟨v,H2,I3,sW,q2⟩⟩
theorem Md (hu:X.A.units+1<abG)(hi:PE X i ty)(ho:PE X o td):PC X .In i o (ae0 ty td):=by
 intro pins s σ H Q I h
 refine cI (hi pins s σ H _ I h) fun iv s1 ⟨y,H1,I1,ry,q1⟩=>cI (ho pins s1 σ H1 _ I1 q1) fun u s2 ⟨x,H2,I2,rx,a,ov,ex,g,q2⟩=>?_
 subst ex
 obtain rfl:u=Value.ref a:=rx
 exact aeZ hu I2 g ry fun s3 I3=>⟨.bl ov.isSome,H2,I3,rfl,q2⟩
theorem uB (hu:X.A.units+1<abG)(hi:PE X i ty)(ho:PE X o td):PC X .NotIn i o (Qn ty td):=by
 intro pins s σ H Q I h
 refine cI (hi pins s σ H _ I h) fun iv s1 ⟨y,H1,I1,ry,q1⟩=>cI (ho pins s1 σ H1 _ I1 q1) fun u s2 ⟨x,H2,I2,rx,a,ov,ex,g,q2⟩=>?_
 subst ex
 obtain rfl:u=Value.ref a:=rx
 exact Ql hu I2 g ry fun s3 I3=>⟨.bl (!ov.isSome),H2,I3,rfl,q2⟩
theorem cE (hu:X.A.units+1<abG)(ho:PE X o td)(hi:PE X i ty)(hv:PE X value tv)(hs:acn value (some (.Subscript o i pos')) pos.line X.env=pure false):
  PS X (.Assign [.Subscript o i pos'] value pos) (X2 td ty tv):=by
 intro pins s σ H D I h
 refine wpAny_Assign_Subscript (cI (hv pins s σ H _ I h) fun r s1 ⟨v,H1,I1,rv,q1⟩=>cI (ho pins s1 σ H1 _ I1 q1) fun u s2 ⟨x,H2,I2,rx,q2⟩=>cI (hi pins s2 σ H2 _ I2 q2) fun iv s3 ⟨y,H3,I3,ry,a,H4,ex,g,q3⟩=>?_) hs
 subst ex
 obtain rfl:u=Value.ref a:=rx
 exact G_ hu I3 g ry rv fun s4 I4=>⟨σ,H4,I4,q3⟩
end
theorem xW (h:Heap)(hb:abf<h.objs.size):cT P w H (h.push {cls:=.type "dict",data:=.dict #[]}) h.objs.size (.dK []):=
 ⟨adS _,beq_eq_false_iff_ne.mpr (adO (adK hb)),[],.nil,Heap.DictOf.new h⟩
def UG:TE:=fun _ H Q=>∀p,H p=none->Q (.ref p) (upd H p (.dK []))
section
variable {X:Cx}{pos:Pos}
theorem cL:PE X (.Dict [] [] pos) UG:=fun pins s σ H Q I h=>
 wpAny_Dict_empty ⟨.ref s.heap.objs.size,_,I.laid (a:=s.heap.objs.size) (o:=.dK []) (t':=s.toks) (fun _ _ q=>aaB _ q) (aa_ _) (xW s.heap I.big),rfl,h _ (I.bH.fresh (aa_ _))⟩
end
def AJ:List (TE×TE)->St->Hp->(List (V×V)->Hp->Prop)->Prop
 | [],_,H,Q=>Q [] H
 | (tk,tv)::r,σ,H,Q=>tk σ H fun x H1=>tv σ H1 fun y H2=>AJ r σ H2 fun ps H3=>Q ((x,y)::ps) H3
abbrev VV:List (V×V)->List (Value×Value)->Prop:=Paired fun p q=>RelV p.1 q.1/\RelV p.2 q.2
def PPs (X:Cx)(pos:Pos)(keys:List (Option Expr))(values:Ε)(Qo:List (TE×TE)):Prop:=
 ∀(pins:ε)(s:aaH)(σ:St)(H:Hp)(Q:List (V×V)->Hp->Prop),Inv X pins σ H s->AJ Qo σ H Q->
  aaE (aaJ X.prog X.w) X.A (evalPairs (pairTrees keys values X.env pos)) (fun vs s'=>∃ps H',Inv X pins σ H' s'/\VV ps vs/\Q ps H') X.xe s
theorem DT :PPs X pos [] [] []:=fun pins s σ H Q I h=>pairTrees_nil_walk ⟨[],H,I,.nil,h⟩
theorem qQ (hk:PE X k tk)(hv:PE X v tv)(hr:PPs X pos ks vs Qo):
  PPs X pos (some k::ks) (v::vs) ((tk,tv)::Qo):=fun pins s σ H Q I h=>
 pairTrees_cons_walk (cI (hk pins s σ H _ I h) fun u s1 ⟨x,H1,I1,rx,q1⟩=>cI (hv pins s1 σ H1 _ I1 q1) fun w2 s2 ⟨y,H2,I2,ry,q2⟩=>
  cI (hr pins s2 σ H2 _ I2 q2) fun ws s3 ⟨ps,H3,I3,rel,q3⟩=>⟨(x,y)::ps,H3,I3,.cons ⟨rx,ry⟩ rel,q3⟩)
def df (kvs more:γ):List (Key×V):=more.foldl (fun acc kv=>putK acc kv.1 kv.2) kvs
theorem KV.merge:∀{more:γ} {rs:List (Key×Value)} {kvs:γ} {vs:List (Key×Value)},KV more rs->KV kvs vs->KV (df kvs more) (merged vs rs):=by
 intro more rs kvs vs r
 unfold KV at r
 induction r generalizing kvs vs with
 | nil=>intro q;exact q
 | @cons p q ps qs h t ih=>
  intro r0
  have e:KV (putK kvs p.1 p.2) (stored vs q.1 q.2):=by
   have:=r0.put p.1 h.2
   rw [<-h.1];exact this
  exact ih e
theorem iC:∀(more kvs:γ),(df kvs more).length<=kvs.length+more.length
 | [],kvs=>by show kvs.length<=kvs.length+0;omega
 | p::r,kvs=>by
  have h1:=iC r (putK kvs p.1 p.2)
  have h2:=g_ kvs p.1 p.2
  show (df (putK kvs p.1 p.2) r).length<=_
  rw [adJ];omega
theorem qR :∀{kvs:γ} {ws:List (Value×Value)},VV (kvs.map fun kv=>(kV kv.1,kv.2)) ws->∃rs,Carries (bC P w) ws rs/\KV kvs rs
 | [],_,r=>by rw [adM] at r;cases r;exact ⟨[],True.intro,.nil⟩
 | p::kvs,_,r=>by
  rw [aau] at r
  cases r with
  | @cons a b as bs h t=>
   obtain ⟨rs,c,q⟩:=qR (P:=P) (w:=w) t
   obtain ⟨b1,b2⟩:=b
   exact ⟨(p.1,b2)::rs,⟨oG h.1,rfl,c⟩,.cons ⟨rfl,h.2⟩ q⟩
def X3 (Qo:List (TE×TE)):TE:=fun σ H Q=>∀p,H p=none->AJ Qo σ (upd H p (.dK [])) fun ps H2=>H2 p=some (.dK [])/\∃kvs:List (Key×V),ps=kvs.map (fun kv=>(kV kv.1,kv.2))/\kvs.length<=15/\Q (.ref p) (upd H2 p (.dK (df [] kvs)))
theorem DU (h:PPs X pos keys values Qo)(LR:keys.all (·.isSome)=true)(hl:keys.length=values.length)(h0:keys≠[])
  (h15:keys.length<=15):PE X (.Dict keys values pos) (X3 Qo):=by
 intro pins s σ H Q I q
 have hn:=I.bH.fresh (aa_ s.heap.objs.size)
 have I1:=I.laid (a:=s.heap.objs.size) (o:=.dK []) (h':=s.heap.push {cls:=.type "dict",data:=.dict #[]}) (t':=s.toks) (fun _ _ q=>aaB _ q) (aa_ _) (xW s.heap I.big)
 refine wpAny_Dict_walk (knd:=bC X.prog X.w) LR hl h0 h15 (cI (h pins _ σ _ _ I1 (q _ hn)) fun ws s2 ⟨ps,H2,I2,rel,e,kvs,ep,lk,q2⟩=>?_)
 subst ep
 obtain ⟨rs,c,rk⟩:=qR (P:=X.prog) (w:=X.w) rel
 obtain ⟨z,hd,vs0,r0,dd⟩:=oH I2.bH e
 cases r0
 refine ⟨rs,c,dd,fun h' UE hs=>⟨.ref s.heap.objs.size,_,?_,rfl,q2⟩⟩
 have hz:(df [] kvs).length<=aaD:=by
  have h1:=iC kvs []
  rw [ag5] at h1
  rw [sizeLine_eq];omega
 have he:∃q,h'.get? s.heap.objs.size=some q:=let ⟨q,_,_,hq,_⟩:=UE;⟨q,hq⟩
 exact qg I2 (by rw [e];exact True.intro) hs he (AI hz hd (rk.merge .nil) UE)
structure M2 (X:Cx)(o:Expr)(m:Str)(apos:Pos)(e f:Expr)(gj:Pos):Prop where
 base:acF o m X.env (aaV o X.env)=aaV o X.env
 few:((abj gj (aaO [e,f] X.env)).all (fun x=> !x.1) && (backToKw gj (ahr [] X.env)).all (fun x=>x.1.isSome)
  && decide (([e,f]:List Expr).length+([]:List Keyword).length+(if ([]:List Keyword).isEmpty then 0 else 1)<30))=true
 line:(apos.endLine==gj.line)=true
 trees:abj gj (aaO [e,f] X.env)=[(false,aaV e X.env),(false,aaV f X.env)]
def IsD (H:Hp)(a:aaz):Prop:=(∃kvs,Rd H a (.dK kvs))\/∃kvs,Rd H a (.dT kvs)
theorem Me {σ:St}(I:Inv X pins σ H s)(d:IsD H a):
  s.TypeIs (.ref a) "dict"/\(∀b,Value.ref a=.ref b->∃ob,s.heap.get? b=some ob/\ob.dict=none)/\(a==abf)=false:=by
 rcases d with ⟨kvs,e⟩|⟨kvs,e⟩
 ·obtain ⟨_,hd,vs,_,dd⟩:=mq I.bH e
  refine ⟨dd.typeIs,fun b q=>?_,hd⟩
  cases q
  obtain ⟨ob,_,_,h1,h2,_⟩:=dd
  exact ⟨ob,h1,h2.2.1⟩
 ·obtain ⟨_,hd,xs,_,dd⟩:=qP I.bH e
  refine ⟨dd.typeIs,fun b q=>?_,hd⟩
  cases q
  obtain ⟨ob,_,_,h1,h2,_⟩:=dd
  exact ⟨ob,h1,h2.2.1⟩
section
variable {X:Cx}{pins:ε}{σ:St}{H:Hp}{s:aaH}{a:aaz}{y d:V}{u r:Value}{o:ω}{A:aaT}{E:δ}
theorem UH {Q:δ}(hu:A.units+1<abG)(I:Inv X pins σ H s)(g:cG H a y o)(ry:RelV y u)(rd:RelV d r)(h:∀w' s',Inv X pins σ H s' ->RelV (o.getD d) w' ->Q w' s'):
  aaE (aaJ X.prog X.w) A (call (.builtin "dict.get") [.ref a,u,r]) Q E s:=by
 rcases g with ⟨kvs,k,e,ey,l⟩|⟨kvs,k,b,e,ey,eb,l⟩
 ·subst ey
  obtain ⟨z,hd,vs,rel,dd⟩:=mq I.bH e
  refine call_meetsIn PySem.F.slot_dict_get dd.typeIs PySem.F.entry_dict_get (PySem.F.args_dict_get_3 _ _ _) (meets_dict_get_default (bC X.prog X.w) a (oG ry) hd r) ⟨_,dd.mapOf,h _ _ (I.tok _) ?_⟩
  rw [l]
  exact (rel.val k).getD rd
 ·subst ey
  cases (show u=Value.ref b from ry)
  obtain ⟨z,hd,xs,rel,dd⟩:=qP I.bH e
  refine call_meetsIn PySem.F.slot_dict_get dd.typeIs PySem.F.entry_dict_get (PySem.F.args_dict_get_3 _ _ _) (meetsH_dict_get_default (tupleKind (bC X.prog X.w)) a b hd r) ⟨abP hu,k,xs,nA I.bH eb,dd,h _ _ (I.tok _) ?_⟩
  rw [l]
  exact (rel.val k).getD rd
end
def UI (td ty tx:TE):TE:=fun σ H Q=>td σ H fun x H1=>∃a,x=.ref a/\IsD H1 a/\ty σ H1 fun y H2=>tx σ H2 fun z H3=>∃o,cG H3 a y o/\Q (o.getD z) H3
section
variable {X:Cx}{o e f:Expr}{apos gj:Pos}{td ty tx:TE}
theorem iQ (hu:X.A.units+1<abG)(ho:PE X o td)(he:PE X e ty)(hf:PE X f tx)(m:M2 X o "get" apos e f gj):PE X (.Call (.Attribute o "get" apos) [e,f] [] gj) (UI td ty tx):=by
 intro pins s σ H Q I h
 refine wpAny_Call_method m.base m.few m.line PySem.F.plainAttrs_dict PySem.F.slot_dict_get PySem.F.type_dict_get (cI (ho pins s σ H _ I h) fun u s1 ⟨x,H1,I1,rx,a,ex,d,q1⟩=>?_)
 subst ex
 obtain rfl:u=Value.ref a:=rx
 obtain ⟨t1,t2,_⟩:=Me I1 d
 refine ⟨t1,t2,?_⟩
 rw [m.trees]
 refine acb rfl (Calls.evalArgs_plain (abM (cI (he pins s1 σ H1 _ I1 q1) fun iv s2 ⟨y,H2,I2,ry,q2⟩=>
  abM (cI (hf pins s2 σ H2 _ I2 q2) fun fv s3 ⟨z,H3,I3,rz,ov,g,q3⟩=>Calls.spliced_nil ?_))))
 exact UH hu I3 g ry rz fun w' s4 I4 sW =>⟨_,H3,I4,sW,q3⟩
end
section
variable {X:Cx}{pins:ε}{σ:St}{H:Hp}{s:aaH}{a:aaz}{kvs:γ}{A:aaT}{E:δ}
end
section
variable {X:Cx}{pins:ε}{σ:St}{H:Hp}{s:aaH}{a:aaz}{y:V}{u:Value}{A:aaT}{E:δ}
end
end L2
set_option maxHeartbeats 4000000
namespace Ty
open PySem PySem.Spec PyProof.Rows L2
section
variable {X:Cx}
theorem Qp {σ:L2.St}(I:Inv X pins σ H s):s.heap.NoSeer:=I.ok.mod.seer.keeps I.bk
theorem cy.py (r:cy k A)(h:32<=k):A.depth+Builtin.pylongFrames<ahn:=by
 have:=r.dp
 have:Builtin.pylongFrames=100:=rfl
 omega
theorem gQ (ht:X.prog.given.tree=none)(hd:X.A.depth+Builtin.pylongFrames<ahn)(PY:X.stack=env::l)(h1:env.scope.isGenerator=false)(h2:env.scope.isCoroutine=false)(h3:env.builtins=builtinsNs)(h4:env.globals=aaN):
  kc X (abv .FloorDiv) (rI Uq fun i j=>.int (i.fdiv j)):=by
 intro pins s σ H x y v u Q I rx ry h
 obtain ⟨i,j,rfl,rfl,hc,q⟩:=h
 obtain ⟨t,rfl⟩:=rx
 obtain ⟨t',rfl⟩:=ry
 exact floordiv_int hc ⟨.int _,H,I.tok _,⟨_,rfl⟩,q⟩ (.inr (PylongRoom.of I.nolimit hd (SeerAt.of (Qp I) ht (by rw [I.ok.frames,PY]) h1 h2 h3 h4)))
end
section
variable {prog:aaP}{w:World}{A:aaT}{E:δ}{s:aaH}{KK:Type}[DecidableEq KK]{knd:KeyKind prog w KK}
theorem G' (hm:s.heap.DictOf knd d kvs)(h:Q false s):aaE (aaJ prog w) A (Builtin.List.listLengthHint (.ref d)) Q E s:=by
 unfold Builtin.List.listLengthHint
 refine aay (wpAny_specialOf (name:=aa6 "__len__") hm.typeIs F.slot_dict_len.lookup ?_)
 generalize hid:("dict.__len__":String)=id0
 wp_delta
 rw [show splitId id0=some ("dict","__len__") from by subst hid;decide+kernel]
 subst hid
 refine aay (wpAny_isInstance (T:="dict") (b:=true) hm.typeIs (by rw [isSubtype_type];kernel_rfl) ?_)
 refine wpAny_ite_split (fun hab=>aaM hab (by decide)) (fun _=>?_)
 refine wpAny_ite_split (fun _=>?_) (fun hab=>aaM (by decide+kernel) hab)
 refine aay (wpAny_typeOf (T:="dict") hm.typeIs ?_)
 exact aaF h
theorem xX {R:Υ}(hh:A.handled=none)(hd:(d==abf)=false)(hm:s.heap.DictAt knd d kvs ep)(hlen:kvs.length<=aaD)(S:aaz)(res:Value)(c₀:Nat)(hS:s.heap.get? S=some {cls:=.type "list",data:=.seq #[] c₀})
  (hR:∀h' tk jG c',(∀b o,b≠S->s.heap.get? b=some o->h'.get? b=some o)->h'.get? S=some {cls:=.type "list",dict:=none,data:=.seq jG c',slots:= #[]}->
   ItemsOf (fun i v=>∃k x,kvs[i]?=some (k,x)/\knd.is k v=true) jG kvs.length->R (.ok (.ret res)) {s with heap:=h',toks:=tk}):
  aaE (aaJ prog w) A.in1 (abz (.ref S) (.ref d) res)
   (fun fin s'=>match fin with | .done f=>R (.ok f) s' | .again c'=>c'.quiet=true/\abw (aaJ prog w) A c' R s') (fun e s'=>R (.error e) s') s:=by
 obtain ⟨od,es,Ws,sR,jH,hk0,hp0,hn0⟩:=id hm
 have hT:s.TypeIs (.ref d) "dict":=hm.dictOf.typeIs
 have Wt:S≠d:=fun e=>by
  rw [e] at hS
  rw [hS] at Ws
  cases Ws
  cases jH
 have hdI:d≠s.heap.objs.size:=adK (aaI Ws)
 have hSI:S≠s.heap.objs.size:=adK (aaI hS)
 have hSf:S∉[s.heap.objs.size,d]:=fun hm=>by
  rcases adD.mp hm with z|z
  ·exact hSI z
  ·exact Wt (adi.mp z)
 have W:=(Walks.dictKeys (knd:=knd) (A:=A.in1) hh s.heap.objs.size d hdI kvs ep).toS
 unfold abz
 refine aay (wpAny_typeOf (T:="dict") hT ?_)
 have h1:Builtin.List.listSameRef (.ref S) (.ref d)=false:=by simp [Builtin.List.listSameRef,Wt]
 have h2:(Value.type "dict"==Value.type "list")=false:=by decide
 have h3:(Value.type "dict"==Value.type "tuple")=false:=by decide
 simp only [h1,h2,h3,anf,aeP,if_false]
 refine aay (wpAny_pyIter_dict hd hm ?_)
 have Wu:(s.heap.push {cls:=.type "dict_keyiterator",data:=.fields #[.ref d,.int 0 0,.int kvs.length 0,.int ep 0]}).DictAt knd d kvs ep:=hm.at' fun o e=>aaB _ e
 refine aay (abi (G' (knd:=knd) Wu.dictOf ?_))
 have X4:=aaB {cls:=.type "dict_keyiterator",data:=.fields #[.ref d,.int 0 0,.int kvs.length 0,.int ep 0]} hS
 have it₁:(s.heap.push {cls:=.type "dict_keyiterator",data:=.fields #[.ref d,.int 0 0,.int kvs.length 0,.int ep 0]}).IsKeyIter s.heap.objs.size d 0 kvs.length ep:=⟨_,aaL _ rfl,rfl,rfl⟩
 have key:∀(h:Heap)(c₁ tk:Nat),h.IsKeyIter s.heap.objs.size d 0 kvs.length ep->h.DictAt knd d kvs ep->(∀b o,b≠S->s.heap.get? b=some o->h.get? b=some o)->
   h.get? S=some {cls:=.type "list",data:=.seq #[] c₁}->abw (aaJ prog w) A (.builtin "list.extend.loop" ⟨[.ref S,.ref s.heap.objs.size,res],[]⟩) R {s with heap:=h,toks:=tk}:=by
  intro h c₁ tk hit hdm hk X4
  refine codeAny_extend_loopS W hlen S hSf res kvs.length 0 _ #[] c₁ rfl (adS _) ⟨hit,hdm⟩ X4 (ItemsOf.nil _) fun s' jG c' hm' UJ xY=>?_
  rw [Moved.eq_with hm']
  refine hR s'.heap s'.toks jG c' (fun b o hb e=>hm'.heap b o (fun HE=>?_) (hk b o hb e)) UJ xY
  rcases adD.mp HE with e'|HE
  ·exact hb e'
  ·exact aaM (aaI e) (by rw [adi.mp HE];exact aeg _)
 refine wpAny_ite_split (fun _=>?_) (fun _=>aaF ⟨ahc F.plain_extend_loop _,key _ c₀ _ it₁ Wu (fun b o _ e=>aaB _ e) X4⟩)
 refine aay (wpAny_rule ?_)
 refine aay ?_
 show aaE _ _ (updateSeq S (·.push .none) >>=fun _=>updateSeq S (·.pop)) _ _ _
 refine aay (ahk X4 rfl ?_)
 have hS₂:=abC (abH (·.push Value.none)) X4 rfl
 refine ahk (hz:=by seq_fits) hS₂ rfl ?_
 have hS₃:=abC (abH (·.pop)) hS₂ rfl
 refine aaF ⟨ahc F.plain_extend_loop _,key _ _ _ (it₁.at fun o e=>?_) (Wu.at' fun o e=>?_) (fun b o hb e=>?_) hS₃⟩
 ·exact (aa5 _ _ hSI).trans ((aa5 _ _ hSI).trans e)
 ·exact (aa5 _ _ Wt).trans ((aa5 _ _ Wt).trans e)
 ·exact (aa5 _ _ (adO hb)).trans ((aa5 _ _ (adO hb)).trans (aaB _ e))
theorem qS {R:Υ}(hh:A.handled=none)(hd:(d==abf)=false)(hm:s.heap.DictAt knd d kvs ep)(hlen:kvs.length<=aaD)(S:aaz)(hS:s.heap.get? S=some {cls:=.type "list",data:=.seq #[]})
  (hR:∀h' tk jG c',(∀b o,b≠S->s.heap.get? b=some o->h'.get? b=some o)->h'.get? S=some {cls:=.type "list",dict:=none,data:=.seq jG c',slots:= #[]}->
   ItemsOf (fun i v=>∃k x,kvs[i]?=some (k,x)/\knd.is k v=true) jG kvs.length->R (.ok (.ret .none)) {s with heap:=h',toks:=tk}):
  aaE (aaJ prog w) A.in1 (Builtin.«list.__init__» ⟨[.ref S,.ref d],[]⟩)
   (fun fin s'=>match fin with | .done f=>R (.ok f) s' | .again c'=>c'.quiet=true/\abw (aaJ prog w) A c' R s') (fun e s'=>R (.error e) s') s:=by
 obtain ⟨od,es,Ws,sR,jH,hk0,hp0,hn0⟩:=id hm
 have Wt:S≠d:=fun e=>by
  rw [e] at hS
  rw [hS] at Ws
  cases Ws
  cases jH
 show aaE _ _ (do let old <- Builtin.List.listItems (.ref S);Builtin.List.listUpdate (.ref S) (fun _=> #[]);letGo old.toList.reverse;abz (.ref S) (.ref d) .none) _ _ s
 refine aay ?_
 unfold Builtin.List.listItems
 refine aay (abn hS rfl (aaF ?_))
 show aaE _ _ (updateSeq S (fun _=> #[]) >>=fun _=>letGo (#[]:Array Value).toList.reverse >>=fun _=>abz (.ref S) (.ref d) .none) _ _ s
 refine aay (ahk hS rfl ?_)
 have hS₂:=abC (abH (fun _=>(#[]:Array Value))) hS rfl
 have oth:∀b o,b≠S->s.heap.get? b=some o->(s.heap.update S (abH (fun _=>(#[]:Array Value)))).get? b=some o:=
  fun b o hb e=>(aa5 _ _ (adO hb)).trans e
 refine aay (wpAny_letGo ?_)
 refine xX hh hd (hm.at' fun o e=>oth d o (adO Wt) e) hlen S .none _ hS₂ fun h' tk jG c' hk UJ xY=>?_
 exact hR h' tk jG c' (fun b o hb e=>hk b o hb (oth b o hb e)) UJ xY
theorem qT {Q:δ}(hh:A.handled=none)(hd:(d==abf)=false)(hm:s.heap.DictAt knd d kvs ep)(hlen:kvs.length<=aaD)
  (hQ:∀h' tk jG c',(∀b o,s.heap.get? b=some o->h'.get? b=some o)->
   h'.get? s.heap.objs.size=some {cls:=.type "list",dict:=none,data:=.seq jG c',slots:= #[]}->ItemsOf (fun i v=>∃k x,kvs[i]?=some (k,x)/\knd.is k v=true) jG kvs.length->Q (.ref s.heap.objs.size) {s with heap:=h',toks:=tk}):
  aaE (aaJ prog w) A (call (.type "list") [.ref d]) Q E s:=by
 refine callType_codes (Q₁:=fun obj s₁=>obj=.ref s.heap.objs.size/\s₁={s with heap:=s.heap.push {cls:=.type "list",data:=.seq #[]}}) F.called_list (F.typeCall_list_1 _) F.entry_list_init
  (code_list_new _ ⟨rfl,rfl⟩) fun obj s₁ h₁=>?_
 obtain ⟨rfl,rfl⟩:=h₁
 have hS:(s.heap.push {cls:=.type "list",data:=.seq #[]}).get? s.heap.objs.size=some {cls:=.type "list",data:=.seq #[]}:=aaL _ rfl
 refine ⟨⟨_,hS,rfl⟩,F.args_list_init_2 _ _,qS (A:=A.in1) hh hd (hm.at' fun o e=>aaB _ e) hlen _ hS fun h' tk jG c' hk UJ xY=>?_⟩
 exact ⟨rfl,hQ h' tk jG c' (fun b o e=>hk b o (adK (aaI e)) (aaB _ e)) UJ xY⟩
end
theorem aE :∀{l₁:List α} {l₂:List β} {i:Nat} {a:α},Paired F l₁ l₂->l₁[i]?=some a->∃b,l₂[i]?=some b/\F a b
 | _,_,_,_,.nil,h=>by simp at h
 | _,_,0,_,.cons r _,h=>by
  cases h
  exact ⟨_,rfl,r⟩
 | _,_,i+1,_,.cons _ t,h=>by
  obtain ⟨b,e,f⟩:=aE (i:=i) t (by simpa using h)
  exact ⟨b,by simpa using e,f⟩
theorem iR :∀{l₁:List α} {l₂:List β},l₁.length=l₂.length->(∀(i:Nat)(a:α)(b:β),l₁[i]?=some a->l₂[i]?=some b->F a b)->Paired F l₁ l₂
 | [],[],_,_=>.nil
 | a::l₁,b::l₂,h,f=>.cons (f 0 a b rfl rfl) (iR (by simpa using h) fun i a b e1 e2=>f (i+1) a b (by simpa using e1) (by simpa using e2))
 | [],_::_,h,_=>by simp at h
 | _::_,[],h,_=>by simp at h
theorem vp (h:(bC P w).is k u=true):RelV (kV k) u:=by
 rcases cv h with ⟨i,t,rfl,rfl⟩|⟨x,t,rfl,rfl⟩
 ·exact ⟨t,rfl⟩
 ·exact ⟨t,rfl⟩
section
variable {X:Cx}
inductive Mf (xs:η)(H:Hp)(Q:VK):Prop
|mk (p:aaz)(kvs:γ)(_:xs=[.ref p])(_:Rd H p (.dK kvs))(_:∀l,H l=none->Q (.ref l) (upd H l (.lst (kvs.map fun kv=>kV kv.1))))
theorem fO (hc:X.calm=true):iL X (.type "list") Mf:=by
 intro pins s σ H xs us Q I r h
 obtain ⟨p,kvs,rfl,hq,q⟩:=h
 obtain ⟨u,rfl,r1⟩:=vals1 r
 cases r1
 obtain ⟨z,hd,vs,rel,o,es,ep,ho,hx,jH,hk,hp,hn⟩:=mq I.bH hq
 have hl:=rel.length
 refine qT (knd:=bC X.prog X.w) (I.ok.hd hc) hd ⟨o,es,ho,hx,jH,hk,hp,hn⟩ (by omega) fun h' tk jG c' kk hS xY=>?_
 have hn':=I.bH.fresh (aa_ s.heap.objs.size)
 have rv:Vals (kvs.map fun kv=>kV kv.1) jG.toList:=iR (by have:=xY.1;simp;omega) fun i a b e1 e2=>by
  rw [Wp] at e1
  obtain ⟨kv,ek,rfl⟩:=ab_.mp e1
  obtain ⟨q',eq,e3,_⟩:=aE rel ek
  obtain ⟨k,x,e4,e5⟩:=xY.2 i b (by simpa using e2)
  rw [eq] at e4
  cases e4
  rw [e3]
  exact vp e5
 have I2:Inv X pins σ (upd H s.heap.objs.size (.lst (kvs.map fun kv=>kV kv.1))) {s with heap:=h',toks:=tk}:=I.laid (t':=tk) kk (aa_ _) ⟨by rw [be];exact z,jG.toList,c',rv,by simpa using hS⟩
 exact ⟨.ref _,_,I2,rfl,q _ hn'⟩
theorem Inv.freeze {σ:L2.St}(I:Inv X pins σ H s)(e:H d=some (.dK kvs))(ho:s.heap.get? d=some o):Inv X pins σ (upd H d (.fq o (.dK kvs))) s:=by
 have nx:∀b u,H b=some u->b≠d->upd H d (.fq o (.dK kvs)) b=some u:=fun b u q n=>by rw [aj n];exact q
 refine I.step (g':=s.gens) (t':=s.toks) (d':=s.drawn) (ch:=[]) (fun _ z=>nomatch z) (fun b o _ _ _ e _=>e) (fun b o _ _ _ e _=>⟨o.slots,e⟩) (fun b o _ _ n=>by rw [aj (fun z=>by rw [z,e] at n;cases n)];exact n) (fun b o _ e=>⟨o,e⟩)
  (fun b xs q=>nx b _ q fun z=>by rw [z,e] at q;cases q) (fun b o' u q=>nx b _ q fun z=>by rw [z,e] at q;cases q) (fun b ps q=>⟨#[],by rw [nx b _ q fun z=>by rw [z,e] at q;cases q];simp⟩) (fun m hm=>hm) (fun b u q=>?_) I.bare
 by_cases hb:b=d
 ·subst hb
  rw [ah] at q
  cases q
  exact ⟨ho,I.bH b _ e⟩
 ·rw [aj hb] at q
  exact (I.bH b u q).uV (fun _ _ _ k=>k) (fun c k=>nx c _ k fun z=>by rw [z,e] at k;cases k) fun c xs k=>nx c _ k fun z=>by rw [z,e] at k;cases k
def X5 (d:aaz)(o:Obj)(kvs:γ):It:=
 ⟨fun i H=>H d=some (.fq o (.dK kvs))/\i<kvs.length,
  fun i H v H'=>∃p k x,kvs[i]?=some (k,x)/\v=.ref p/\H p=none/\H'=upd H p (.tup [kV k,x]),
  fun i H=>H d=some (.fq o (.dK kvs))/\kvs.length<=i⟩
theorem nC (ok:kA P w H h)(e:H d=some (.fq o (.dK kvs)))(he:o.data=.dict S' ep):
  (d==abf)=false/\∃vs,KV kvs vs/\h.DictAt (bC P w) d vs ep/\kvs.length<=aaD:=by
 obtain ⟨h1,z,hd,vs,rel,o',es,CW,ho,hx,jH,hk,hp,hn⟩:=ok d _ e
 rw [h1] at ho
 cases ho
 rw [he] at jH
 cases jH
 exact ⟨hd,vs,rel,⟨o,S',h1,hx,he,hk,hp,hn⟩,z⟩
theorem nE:entryFor table "dict_itemiterator.__iter__"=some Builtin.«dict_keyiterator.__iter__»:=
 entryFor_alias (id':="dict_keyiterator.__iter__") (by kernel_rfl) (by first|rfl|decide+kernel|(unfold String.splitOn;simp+decide [String.splitOnAux])) (by decide+kernel) (by kernel_rfl)
theorem AK {E:δ}{Q:δ}(st:IsItemIter s.heap it d i n ep ok ov)(h:Q (.ref it) s):aaE (aaJ P w) A (pyIter (.ref it)) Q E s:=by
 have hT:s.TypeIs (.ref it) "dict_itemiterator":=⟨_,st,rfl⟩
 refine wpAny_pyIter_slot hT F.slot_dict_itemiterator_iter (abx F.slot_dict_itemiterator_iter hT nE ?_ (F.args_dict_itemiterator_iter_1 _))
 show aaE _ _ (ret (.ref it)) _ _ s
 exact aaF ⟨_,rfl,"dict_itemiterator",_,hT,F.slot_dict_itemiterator_next.lookup,h⟩
theorem AL {K:Frag}{es:Ε}(d it:aaz)(o:Obj)(kvs:γ)(he:o.data=.dict S' ep)(KN:it≠d):
  Turn P w K (.Tuple es k pos) (X5 d o kvs) [it] it (fun i h=>∃ok ov,IsItemIter h it d i kvs.length ep ok ov) where
 mem:=by simp
 obj:=fun i h st b hb=>by
  have e:b=it:=by simpa using hb
  subst e
  obtain ⟨ok,ov,st⟩:=st
  exact ⟨_,st,fun v z=>by cases z⟩
 keep:=fun i h h' st k=>by
  obtain ⟨ok,ov,st⟩:=st
  exact ⟨ok,ov,k it (by simp) _ st⟩
 item:=by
  intro X hP hw hK hc i pins s σ H E I hf st hg
  subst hP hw hK
  obtain ⟨ok,ov,st⟩:=st
  obtain ⟨fz,hi⟩:=hg
  obtain ⟨hd,vs,rel,da,_⟩:=nC I.bH fz he
  have ek:kvs[i]?=some kvs[i]:=gE hi
  obtain ⟨⟨k',u⟩,ev,e1,ru⟩:=aE rel ek
  have lv:=rel.length
  rw [lv] at st
  refine wpAny_pyNext_items_item st da ev fun key h' LG out tup sz kk=>?_
  refine ⟨_,rfl,wpAny_letOwnedTupleGo_items (s:={s with heap:=h'}) out fun DS ae4 sb=>?_⟩
  have hsz:∀c o,s.heap.get? c=some o->s.heap.objs.size≠c:=fun c o e=>afa (aaI e)
  have tz:s.heap.objs.size≠it:=hsz _ _ st
  have nz:∀c,c≠it->∀o,h'.get? c=some o->DS.get? c=some o:=fun c hc o e=>(sb.2 c hc).trans e
  have hn:=I.bH.fresh (aa_ s.heap.objs.size)
  have GP :kvs[i].1=k':=e1
  have I2:Inv X pins σ (upd H s.heap.objs.size (.tup [kV kvs[i].1,kvs[i].2])) {s with heap:=DS,toks:=s.toks}:=
   Inv.qe I (fun b o hb e=>nz b (by simpa using hb) o (kk b o (by simpa using hb) e)) hf (aa_ _) (by show 2<=aaD;decide) (its:=[key,u]) (.cons (by rw [GP];exact vp LG) (.cons ru .nil)) ⟨_,nz _ tz _ tup,rfl,_,rfl⟩
  refine ⟨.ref s.heap.objs.size,_,I2,rfl,⟨s.heap.objs.size,kvs[i].1,kvs[i].2,ek,rfl,hn,rfl⟩,⟨_,_,by rw [lv];exact ae4⟩,fun b hb=>?_⟩
  have eb:b=it:=by simpa using hb
  rw [aj (by rw [eb];exact adO tz)]
  exact (hf b hb).1
 done:=by
  intro X hP hw hK hc i pins s σ H E I hf st hg
  subst hP hw hK
  obtain ⟨ok,ov,st⟩:=st
  obtain ⟨fz,hi⟩:=hg
  obtain ⟨hd,vs,rel,da,_⟩:=nC I.bH fz he
  have lv:=rel.length
  rw [lv] at st
  obtain ⟨f0,f1,f2,f3,f4,f5⟩:=hf it (by simp)
  exact wpAny_pyNext_items_end (I.ok.hd hc) st da (aax (by omega)) fun h' eb=>⟨rfl,I.turned (t':=s.toks) (fun b o hb e=>eb b o hb e) f0 f1 f3 f4 f5⟩
 self:=fun _ _ _ _ _ st h=>by
  obtain ⟨ok,ov,st⟩:=st
  exact AK st h
inductive DV (R:(It->Hp->Prop))(x:V)(H1:Hp):Prop
|mk (d kvs:_)(_:x=.ref d)(_:H1 d=some (.dK kvs))(_:∀o,R (X5 d o kvs) (upd H1 d (.fq o (.dK kvs))))
def UK (te:TE):TI:=fun σ H R=>te σ H fun x H1=>DV R x H1
theorem mw {apos gj:Pos}{es:Ε}{k:Nat}{u4:Pos}(ho:PE X e te)(xI:acF e "items" X.env (aaV e X.env)=aaV e X.env:=by rfl)(xJ:(apos.endLine==gj.line)=true:=by rfl):
  PI X (.Tuple es k u4) (.Call (.Attribute e "items" apos) [] [] gj) (UK te):=by
 intro pins s σ H R I h
 refine wpAny_Call_method0_late xI xJ (cI (ho pins s σ H _ I h) fun v s1 ⟨x,H1,I1,r1,q1⟩=>?_)
 obtain ⟨d,kvs,rfl,e,q⟩:=q1
 cases r1
 obtain ⟨z,hd,vs,rel,o,X6,ep,OG,hx,jH,hk,hp,hn⟩:=oH I1.bH e
 obtain ⟨h1,h2⟩:=LP (T:="dict") I1 (show RelV (.ref d) (.ref d) from rfl) (.inr (.inr (.inl ⟨rfl,.inl ⟨kvs,e⟩⟩)))
 have da:s1.heap.DictAt (bC X.prog X.w) d vs ep:=⟨o,X6,OG,hx,jH,hk,hp,hn⟩
 have lv:=rel.length
 refine ⟨"dict","dict.items",F.plainAttrs_dict,F.slot_dict_items,F.type_dict_items,h1,h2,acb rfl (PySem.evalArgs_none ?_)⟩
 refine call_meetsIn F.slot_dict_items h1 F.entry_dict_items (F.args_dict_items_1 _) (meets_dict_items (bC X.prog X.w) d hd) ⟨⟨vs,da.dictOf⟩,?_⟩
 have I2:=Inv.freeze I1 e OG
 have da2:(s1.heap.push {cls:=.type "dict_items",data:=.fields #[.ref d]}).DictAt (bC X.prog X.w) d vs ep:=da.at' fun o e=>aaB _ e
 show aaE (aaJ X.prog X.w) X.A (pyIter (.ref s1.heap.objs.size)) _ _ _
 refine wpAny_pyIter_items (s:={s1 with heap:=s1.heap.push {cls:=.type "dict_items",data:=.fields #[.ref d]}}) ⟨_,aaL _ rfl,rfl,rfl⟩ da2 ?_
 have sz:(s1.heap.push {cls:=.type "dict_items",data:=.fields #[.ref d]}).objs.size=s1.heap.objs.size+1:=abb ..
 have ne:(s1.heap.push {cls:=.type "dict_items",data:=.fields #[.ref d]}).objs.size≠d:=by
  rw [sz]
  exact adO (adK (afv (aaI OG)))
 have I3:Inv X pins σ (upd H1 d (.fq o (.dK kvs))) {s1 with heap:=(s1.heap.push {cls:=.type "dict_items",data:=.fields #[.ref d]}).push {cls:=.type "dict_itemiterator",data:=.fields #[.none,.bool false,.ref d,.int 0 0,.int vs.length 0,.int ep 0,.none,.none]}}:=I2.kept (t':=s1.toks) fun b o e=>aaB _ (aaB _ e)
 refine ⟨_,[_],_,_,_,rfl,I3,AL d _ o kvs jH ne,⟨_,_,by rw [lv];exact aaL _ rfl⟩,fun b hb=>?_,q o⟩
 have eb:b=(s1.heap.push {cls:=.type "dict_items",data:=.fields #[.ref d]}).objs.size:=by simpa using hb
 have le:s1.heap.objs.size<=b:=by rw [eb,sz];exact amQ _
 exact I2.m8 le (I2.bH.fresh le)
end
end Ty
set_option maxHeartbeats 4000000
namespace Ty
def ev:List Int->(Nat->Rat)->Rat
 | [],_=>0
 | a::r,z=>(a:Rat)*z 0+ev r (fun i=>z (i+1))
theorem Mg:∀(l:ξ)(z y:Nat->Rat),ev l (fun i=>z i+y i)=ev l z+ev l y
 | [],_,_=>by simp [ev];grind
 | a::r,z,y=>by
  simp only [ev]
  rw [Mg r (fun i=>z (i+1)) (fun i=>y (i+1))]
  grind
theorem vq:∀(l:ξ)(z:Nat->Rat),(∀j,((l.getD j 0:Int):Rat)*z j=0)->ev l z=0
 | [],_,_=>rfl
 | a::r,z,h=>by
  have h0:=h 0
  have ih:=vq r (fun i=>z (i+1)) (fun j=>by simpa using h (j+1))
  simp only [ev]
  rw [ih]
  simp at h0
  grind
theorem vt:∀(l:ξ)(z:Nat->Rat)(p:Nat),(∀j,j≠p->((l.getD j 0:Int):Rat)*z j=0)->ev l z=((l.getD p 0:Int):Rat)*z p
 | [],_,_,_=>by simp [ev]
 | a::r,z,0,h=>by
  have ih:=vq r (fun i=>z (i+1)) (fun j=>by simpa using h (j+1) (by omega))
  simp only [ev]
  rw [ih]
  simp
  grind
 | a::r,z,p+1,h=>by
  have h0:=h 0 (by omega)
  have ih:=vt r (fun i=>z (i+1)) p (fun j hj=>by simpa using h (j+1) (by omega))
  simp only [ev]
  rw [ih]
  simp at h0
  simp
  grind
theorem Mh :∀{new line lead:ξ},new.length=line.length->lead.length=line.length->(∀j,s*new.getD j 0=t*line.getD j 0-u*lead.getD j 0)->∀z:Nat->Rat,(s:Rat)*ev new z=t*ev line z-u*ev lead z
 | [],[],[],_,_,_,z=>by simp [ev];grind
 | a::new,b::line,c::lead,h1,h2,h,z=>by
  have h0:=h 0
  have ih:=Mh (by simpa using h1) (by simpa using h2) (fun j=>by simpa using h (j+1)) (fun i=>z (i+1))
  simp at h0
  have h0':(s:Rat)*a=t*b-u*c:=by exact_mod_cast h0
  simp only [ev]
  grind
 | [],_::_,_,h,_,_,_=>by simp at h
 | _::_,[],_,h,_,_,_=>by simp at h
 | _,[],_::_,_,h,_,_=>by simp at h
 | _,_::_,[],_,h,_,_=>by simp at h
def fD:List Rat->List (List Int)->Nat->Rat
 | c::y,o::os,j=>c*((o.getD j 0:Int):Rat)+fD y os j
 | _,_,_=>0
theorem xZ (hs:s≠0)(j:Nat):∀(os:ζ)(y1 y2:Μ),y1.length=os.length->y2.length=os.length->s*fD (ad4 (fun a b=>(t*a-u*b) / s) y1 y2) os j=t*fD y1 os j-u*fD y2 os j
 | [],[],[],_,_=>by simp [fD];grind
 | o::os,a::y1,b::y2,h1,h2=>by
  have ih:=xZ (t:=t) (u:=u) hs j os y1 y2 (by simpa using h1) (by simpa using h2)
  simp only [agV,fD]
  grind
 | [],_::_,_,h,_=>by simp at h
 | [],[],_::_,_,h=>by simp at h
 | _::_,[],_,h,_=>by simp at h
 | _::_,_::_,[],_,h=>by simp at h
theorem uC (j:Nat):∀(os:ζ),fD (adt os.length 0) os j=0
 | []=>rfl
 | o::os=>by
  simp only [adJ,aeN,fD]
  rw [uC j os]
  grind
def nH (os:ζ)(l:ξ):Prop:=∃y:List Rat,y.length=os.length/\∀j,((l.getD j 0:Int):Rat)=fD y os j
theorem x4:∀{os:ζ} {l:ξ},l∈os->nH os l
 | o::os,l,h=>by
  rcases adD.mp h with z|z
  ·subst z
   refine ⟨1::adt os.length 0,by simp,fun j=>?_⟩
   simp only [fD]
   rw [uC]
   grind
  ·obtain ⟨y,hl,hy⟩:=x4 z
   refine ⟨0::y,by simp [hl],fun j=>?_⟩
   simp only [fD]
   rw [<-hy j]
   grind
theorem Mi (hs:s≠0)(h:∀j,s*new.getD j 0=t*line.getD j 0-u*lead.getD j 0)(h1:nH os line)(h2:nH os lead):nH os new:=by
 obtain ⟨y1,l1,e1⟩:=h1
 obtain ⟨y2,l2,e2⟩:=h2
 have S5 :=cQ hs
 refine ⟨ad4 (fun a b=>((t:Rat)*a-u*b) / s) y1 y2,by simp [l1,l2],fun j=>?_⟩
 have k:=xZ (t:=(t:Rat)) (u:=(u:Rat)) S5 j os y1 y2 l1 l2
 rw [<-e1 j,<-e2 j] at k
 have h':(s:Rat)*(new.getD j 0:Int)=t*(line.getD j 0:Int)-u*(lead.getD j 0:Int):=by exact_mod_cast h j
 rw [<-h'] at k
 grind
def oI (y:Μ):Nat->Rat:=fun i=>if i<y.length then y.getD i 0 else -1
theorem AM (j:Nat)(c:Int):∀(os:ζ)(y:Μ),y.length=os.length->ev (os.map (fun o=>o.getD j 0)++[c]) (oI y)=fD y os j-c
 | [],[],_=>by simp [ev,oI,fD];grind
 | o::os,a::y,h=>by
  have ih:=AM j c os y (by simpa using h)
  have ez:(fun i=>oI (a::y) (i+1))=oI y:=by
   funext i
   simp [oI]
  simp only [aau,afD,ev,fD]
  rw [ez,ih]
  simp [oI]
  grind
 | [],_::_,h=>by simp at h
 | _::_,[],h=>by simp at h
theorem qU (k:Rat)(j:Nat):∀(os:ζ)(y:Μ),fD (y.map (fun a=>a*k)) os j=fD y os j*k
 | [],_=>by cases ‹List Rat› <;> simp [fD]<;>grind
 | _::_,[]=>by simp [fD]
 | o::os,a::y=>by
  simp only [aau,fD]
  rw [qU k j os y]
  grind
structure sN (line lead new:ξ)(c:Nat):Prop where
 len:new.length=line.length
 Mj:new.getD c 0=0
 OH:∃s t u:Int,s≠0/\t≠0/\∀j,s*new.getD j 0=t*line.getD j 0-u*lead.getD j 0
theorem sN.zero (h:sN line lead new c)(h1:line.getD j 0=0)(h2:lead.getD j 0=0):new.getD j 0=0:=by
 obtain ⟨s,t,u,hs,_,e⟩:=h.OH
 have:=e j
 rw [h1,h2,afV,afV,Int.sub_self] at this
 rcases ag6.mp this with z|z
 ·exact aaM z hs
 ·exact z
theorem sN.at (h:sN line lead new c)(h2:lead.getD j 0=0)(h1:line.getD j 0≠0):new.getD j 0≠0:=by
 obtain ⟨s,t,u,hs,ht,e⟩:=h.OH
 have:=e j
 rw [h2] at this
 intro z
 rw [z,afV,afV,Int.sub_zero] at this
 rcases ag6.mp this.symm with y|y
 ·exact ht y
 ·exact h1 y
theorem sN.comb (h:sN line lead new c)(h1:nH os line)(h2:nH os lead):nH os new:=by
 obtain ⟨s,t,u,hs,ht,e⟩:=h.OH
 exact Mi hs e h1 h2
theorem sN.ev (h:sN line lead new c)(hl:lead.length=line.length)(h2:Ty.ev lead z=0):Ty.ev new z=0 ↔ Ty.ev line z=0:=by
 obtain ⟨s,t,u,hs,ht,e⟩:=h.OH
 have k:=Mh h.len hl e z
 rw [h2] at k
 have S5 :=cQ hs
 have ht':=cQ ht
 constructor
 ·intro w
  rw [w] at k
  grind
 ·intro w
  rw [w] at k
  grind
end Ty
set_option maxHeartbeats 4000000
namespace Ty
open PySem PySem.Spec PyProof.Rows L2
def X7 (K:Frag)(a:aaz):It:=
 ⟨fun i H=>∃xs x,aR K H a xs/\xs[i]?=some x,
  fun i H v H'=>∃p x,(∀xs,aR K H a xs->xs[i]?=some x)/\v=.ref p/\H p=none/\H'=upd H p (.tup [.int (i:Int),x]),
  fun i H=>∃xs,aR K H a xs/\xs.length<=i⟩
theorem HF {K:Frag}{es:Ε}(a e it:aaz)(KN:e≠it):
  Turn P w K (.Tuple es k pos) (X7 K a) [e,it] e (fun i h=>(∃old,IsEnum h e it ((i:Nat):Int) old)/\h.IsListIter it a i) where
 mem:=by simp
 obj:=fun i h st c hc=>by
  obtain ⟨⟨old,he⟩,⟨o1,e1,c1,d1⟩⟩:=st
  have pE :c=e\/c=it:=by simpa using hc
  rcases pE with z|z<;>subst z
  ·exact ⟨_,he,fun v z=>by cases z⟩
  ·exact ⟨_,e1,fun v z=>by rw [d1] at z;cases z⟩
 keep:=fun i h h' st k=>by
  obtain ⟨⟨old,he⟩,h1⟩:=st
  exact ⟨⟨old,k e (by simp) _ he⟩,h1.at fun o e=>k it (by simp) o e⟩
 item:=by
  intro X hP hw hK hc i pins s σ H E I hf st hg
  subst hP hw hK
  obtain ⟨⟨old,he⟩,h1⟩:=st
  obtain ⟨xs,x,qx,ex⟩:=hg
  obtain ⟨its,rv,p,_⟩:=I.list qx
  obtain ⟨u,hu,ru⟩:=rv.get ex
  refine wpAny_pyNext_enum_item he h1 p.isList (x:=u) (by simpa using hu) KN fun h' a1 a2 a3 a4 a5=>?_
  refine ⟨_,rfl,wpAny_letOwnedTupleGo_enum (s:={s with heap:=h',toks:=s.toks+1}) a1 fun DS b1 sb=>?_⟩
  have nz:∀c,c≠e->∀o,h'.get? c=some o->DS.get? c=some o:=fun c hc o q=>(sb.2 c hc).trans q
  have kk:∀b o,b∉[e,it]->s.heap.get? b=some o->DS.get? b=some o:=fun b o hb q=>by
   have fC :b≠e/\b≠it:=by simpa using hb
   exact nz b fC.1 o (a5 b o fC.1 fC.2 q)
  have sz:∀c o,s.heap.get? c=some o->s.heap.objs.size≠c:=fun c o q=>afa (aaI q)
  have tz:s.heap.objs.size≠e:=sz _ _ he
  have hn:=I.bH.fresh (aa_ s.heap.objs.size)
  have I2:Inv X pins σ (upd H s.heap.objs.size (.tup [.int (i:Int),x])) {s with heap:=DS,toks:=s.toks+1}:=
   Inv.qe I kk hf (aa_ _) (by show 2<=aaD;decide) (its:=[.int i s.toks,u]) (.cons ⟨_,rfl⟩ (.cons ru .nil)) ⟨_,nz _ tz _ a3,rfl,_,rfl⟩
  refine ⟨.ref s.heap.objs.size,_,I2,rfl,⟨s.heap.objs.size,x,fun xs' q=>by rw [I.iJ q qx];exact ex,rfl,hn,rfl⟩,⟨⟨_,by exact b1⟩,a2.at fun o q=>nz _ (adO KN) o q⟩,fun b hb=>?_⟩
  have ob:∃o,s.heap.get? b=some o:=by
   obtain ⟨o1,e1,_⟩:=h1
   have pE :b=e\/b=it:=by simpa using hb
   rcases pE with z|z<;>subst z
   ·exact ⟨_,he⟩
   ·exact ⟨_,e1⟩
  obtain ⟨o,q⟩:=ob
  rw [aj (adO (sz _ _ q))]
  exact (hf b hb).1
 done:=by
  intro X hP hw hK hc i pins s σ H E I hf st hg
  subst hP hw hK
  obtain ⟨⟨old,he⟩,h1⟩:=st
  obtain ⟨xs,qx,ee⟩:=hg
  obtain ⟨its,rv,p,_⟩:=I.list qx
  have l1:=rv.length
  refine wpAny_pyNext_enum_end (I.ok.hd hc) he h1 p.isList (by simp;omega) fun h' kk=>⟨rfl,Inv.mm I (fun b o hb q=>?_) hf⟩
  have fC :b≠e/\b≠it:=by simpa using hb
  exact kk b o fC.2 q
 self:=fun _ _ _ _ _ st h=>by
  obtain ⟨⟨old,he⟩,_⟩:=st
  exact wpAny_pyIter_enum he h
theorem boot_enumerate:aaY "enumerate"=some (.type "enumerate"):=by decide+kernel
section
variable {X:Cx}
inductive Ml (K:Frag)(R:(It->Hp->Prop))(vs:η)(H1:Hp):Prop
|mk (a:_)(_:vs=[.ref a])(_:(∃xs,aR K H1 a xs))(_:R (X7 K a) H1)
def X8 (K:Frag)(ta:TA):TI:=fun σ H R=>ta σ H fun vs H1=>Ml K R vs H1
theorem DW {es:Ε}(hg:Gl X "enumerate")(hm:X.mg "enumerate"=none)(ha:PA X [e1] ta)(hs:aaO [e1] X.env=[(false,aaV e1 X.env)]:=by rfl):
  PI X (.Tuple es k u4) (.Call (.Name "enumerate" p) [e1] [] pos) (X8 X.K ta):=by
 intro pins s σ H R I h
 refine Call_ (i5 I hg hm boot_enumerate (aa7 (cI (ha pos pins s σ H _ I h) fun us s1 ⟨vs,H1,I1,r1,q1⟩=>?_) hs rfl))
 obtain ⟨a,e,⟨xs,hx⟩,q⟩:=q1
 subst e
 cases r1 with
 | cons r rr=>
  cases rr
  cases r
  obtain ⟨its,rv,pl,_⟩:=I1.list hx
  refine call_enumerate_list pl.isList fun h' hE hI hsz hk=>wpAny_pyIter_enum (s:={s1 with heap:=h'}) hE ?_
  refine ⟨s1.heap.objs.size+1,[s1.heap.objs.size+1,s1.heap.objs.size],_,_,H1,rfl,I1.kept (t':=s1.toks) hk,HF a _ _ (Nat.succ_ne_self _),⟨⟨_,hE⟩,hI⟩,fun c hc=>?_,q⟩
  have pE :s1.heap.objs.size<=c:=by
   have:c=s1.heap.objs.size+1\/c=s1.heap.objs.size:=by simpa using hc
   simp only [aaz] at*
   omega
  exact I1.m8 pE (I1.bH.fresh pE)
theorem any_range (bs:List Bool):(adG bs.length).any (fun i=>(bs[i]?).getD true)=bs.any id:=by
 rw [afk,afF,afF]
 constructor
 ·rintro ⟨i,hi,h⟩
  have X9 :i<bs.length:=ad9.mp hi
  rw [gE X9] at h
  exact ⟨bs[i],ad3 X9,h⟩
 ·rintro ⟨b,hb,h⟩
  obtain ⟨i,hi⟩:=adj hb
  exact ⟨i,ad9.mpr (ir.mp hi).1,by rw [hi];exact h⟩
inductive X_ (K:Frag)(xs:η)(H:Hp)(Q:VK):Prop
|mk (p:aaz)(bs:List Bool)(_:xs=[.ref p])(_:aR K H p (bs.map V.bl))(_:Q (.bl (bs.any id)) H)
theorem HG (hc:X.calm=true):iL X (.builtin "any") (X_ X.K):=by
 intro pins s σ H xs us Q I r h
 obtain ⟨p,bs,rfl,hq,q⟩:=h
 obtain ⟨u,rfl,r1⟩:=vals1 r
 cases r1
 obtain ⟨its,rv,pl,hz⟩:=I.list hq
 refine call_any_walk (ag8 pl.isList ?_)
 have KN:p≠s.heap.objs.size:=by obtain ⟨o,ho,_⟩:=pl.isList;exact adK (aaI ho)
 have I1:Inv X pins σ H {s with heap:=s.heap.push {cls:=.type "list_iterator",data:=.fields #[.ref p,.int 0 0]}}:=I.kept (t':=s.toks) fun b o e=>aaB _ e
 obtain ⟨f0,f1,f2,f3,f4,f5⟩:=I.m8 (H':=H) (aa_ s.heap.objs.size) (I.bH.fresh (aa_ _))
 have hl:its.length=bs.length:=by rw [<-rv.length,be]
 refine ⟨s.heap.objs.size,_,_,_,_,_,fun i=>(bs[i]?).getD true,rfl,Walks.list (A:=X.A.in1) (I.ok.hd hc) s.heap.objs.size p KN its.toArray,⟨⟨_,aaL _ rfl,rfl,rfl⟩,pl.isList.at fun o e=>aaB _ e⟩,?_,fun h' tk kk=>?_⟩
 ·intro i v s' Q' E' hv m6
  have Ug :its[i]?=some v:=by simpa using hv
  have hi:i<bs.length:=by rw [<-hl];exact (ir.mp Ug).1
  have eb:(bs.map V.bl)[i]?=some (.bl bs[i]):=by rw [Wp,gE hi];rfl
  obtain ⟨u,eu,ru⟩:=rv.get eb
  rw [Ug] at eu
  cases eu
  cases ru
  dsimp only at m6
  rw [gE hi] at m6
  exact abD m6
 ·refine ⟨.bl (bs.any id),H,I1.turned (t':=tk) (it:=s.heap.objs.size) (fun b o hb e=>kk b o (by simpa using hb) e) f0 f1 f3 f4 f5,?_,q⟩
  show _=_
  rw [<-any_range bs,adC,hl]
theorem X':aaY "any"=some (.builtin "any"):=by decide+kernel
end
theorem x5 {K:Frag}{g:TG}{tb:TS}{D:Ends}(Pv:Nat->L2.St->Hp->Prop)(h0:Pv 0 σ H)(hl:∀i σ H,i<=xs.length->Pv i σ H->aR K H a xs)
  (hs:∀i x σ H p,xs[i]?=some x->Pv i σ H->H p=none->g (.ref p) σ (upd H p (.tup [.int (i:Int),x])) fun σ2 H2=>tb {D with nx:=Pv (i+1),ct:=Pv (i+1),bk:=D.nx} σ2 H2) (hd:∀σ H,Pv xs.length σ H->D.nx σ H):
  ∃W:Nat->Nat->L2.St->Hp->Prop,(∃m,W 0 m σ H)/\∀i m σ H,W i m σ H->
   ((X7 K a).stop i H/\D.nx σ H)\/((X7 K a).go i H/\∃N:L2.St->Hp->Prop,(∀σ' H',N σ' H' ->∃m',m'<m/\W (i+1) m' σ' H')/\∀x H',(X7 K a).CZ i H x H' ->g x σ H' fun σ2 H2=>tb {D with nx:=N,ct:=N,bk:=D.nx} σ2 H2):=by
 refine ⟨fun i m σ H=>m=xs.length-i/\i<=xs.length/\Pv i σ H,⟨xs.length,by simp,adS _,h0⟩,?_⟩
 rintro i m σ H ⟨rfl,hi,p⟩
 have q:=hl i σ H hi p
 by_cases kN:i<xs.length
 ·have e:xs[i]?=some xs[i]:=gE kN
  refine .inr ⟨⟨xs,_,q,e⟩,Pv (i+1),fun σ' H' z=>⟨xs.length-(i+1),by omega,rfl,by omega,z⟩,fun x H' y=>?_⟩
  obtain ⟨pp,x',y1,rfl,np,rfl⟩:=y
  exact hs i x' σ H pp (y1 xs q) p np
 ·have e:i=xs.length:=by omega
  subst e
  exact .inl ⟨⟨xs,q,aa_ _⟩,hd σ H p⟩
theorem jY {g:TG}{tb:TS}{D:Ends}(Pv:Nat->L2.St->Hp->Prop)(h0:Pv 0 σ H)(hl:∀i σ H,i<=kvs.length->Pv i σ H->H d=some (.fq o (.dK kvs)))
  (hs:∀i k x σ H p,kvs[i]?=some (k,x)->Pv i σ H->H p=none->g (.ref p) σ (upd H p (.tup [kV k,x])) fun σ2 H2=>tb {D with nx:=Pv (i+1),ct:=Pv (i+1),bk:=D.nx} σ2 H2) (hd:∀σ H,Pv kvs.length σ H->D.nx σ H):
  ∃W:Nat->Nat->L2.St->Hp->Prop,(∃m,W 0 m σ H)/\∀i m σ H,W i m σ H->
   ((X5 d o kvs).stop i H/\D.nx σ H)\/((X5 d o kvs).go i H/\∃N:L2.St->Hp->Prop,(∀σ' H',N σ' H' ->∃m',m'<m/\W (i+1) m' σ' H')/\∀x H',(X5 d o kvs).CZ i H x H' ->g x σ H' fun σ2 H2=>tb {D with nx:=N,ct:=N,bk:=D.nx} σ2 H2):=by
 refine ⟨fun i m σ H=>m=kvs.length-i/\i<=kvs.length/\Pv i σ H,⟨kvs.length,by simp,adS _,h0⟩,?_⟩
 rintro i m σ H ⟨rfl,hi,p⟩
 have q:=hl i σ H hi p
 by_cases kN:i<kvs.length
 ·refine .inr ⟨⟨q,kN⟩,Pv (i+1),fun σ' H' z=>⟨kvs.length-(i+1),by omega,rfl,by omega,z⟩,fun x H' y=>?_⟩
  obtain ⟨pp,k,x',y1,rfl,np,rfl⟩:=y
  exact hs i k x' σ H pp y1 p np
 ·have e:i=kvs.length:=by omega
  subst e
  exact .inl ⟨⟨q,aa_ _⟩,hd σ H p⟩
open Builtin.Int (intBits)
section
variable {X:Cx}
def Mm (i j:Int):Prop:=intBits i+intBits j<=134217728
theorem hW:kc X (abv .Mult) (rI Mm fun i j=>.int (i*j)):=
 Xk fun _ _ _ _ _ _ _ hc q=>mul_int q (IntMulOk.of_le (aa_ _) (aa_ _) hc)
theorem f_ (h1:a.natAbs<=2^m)(h2:b.natAbs<=2^n)(h:m+n<=134000000):Mm a b:=by
 have x1:=jX h1 (adY m)
 have x2:=jX h2 (adY n)
 unfold Mm
 omega
inductive Ta (K:Frag)(xs:η)(H:Hp)(Q:VK):Prop
|mk (p ys:_)(_:xs=[.ref p,.ty "tuple"])(_:bM K H p ys)(_:Q (.bl true) H)
theorem HH:iL X (.builtin "isinstance") (Ta X.K):=by
 intro pins s σ H xs us Q I r h
 obtain ⟨p,ys,rfl,hq,q⟩:=h
 obtain ⟨u,w,rfl,r1,r2⟩:=vals2 r
 obtain rfl:=DO (c:=.ty "tuple") rfl r2
 cases r1
 obtain ⟨its,rv,⟨o,h1,h2,_⟩,_⟩:=I.tuple hq
 have e:aa4 X.K (.type "tuple") (Uo (.ty "tuple"))=some true:=by unfold aa4;rw [aaC (by decide)]
 exact aa8 PySem.W.kitx_tuple I.kK ⟨o,h1,h2⟩ e (fun z=>nomatch z) fun tk=>⟨.bl true,H,I.tok tk,rfl,q⟩
end
theorem ao.ck {K:Frag}(e:ao H H')(h:bM K H a xs):bM K H' a xs:=by
 rcases h with (h|⟨o,h⟩)|h
 ·exact .inl (.inl (e _ _ h))
 ·exact .inl (.inr ⟨o,e _ _ h⟩)
 ·exact .inr h
section
variable {D:aaz}{te:TE}{cap:L2.St}{H1:Hp}{Q:VK}
theorem HI {K:Frag}(Rel:Nat->V->Hp->Prop)(nD:H1 D=none)(hn:xs.length<aaD)(hl:ys.length=xs.length)(hX:∀H,ao H1 H->aR K H a xs)(hY:∀H,ao H1 H->aR K H b ys)
  (hR:∀i v H H' ys,H D=some (.lst ys)->bS D H H' ->Rel i v H->Rel i v H')
  (he:∀i x y H (R:VK),xs[i]?=some x->ys[i]?=some y->ao H1 H->(∃ys,H D=some (.lst ys))->(∀v H6,ao H H6->Rel i v H6->R v H6)->te (some x::some y::cap) H R)
  (hd:∀zs H,zs.length=xs.length->(∀i v,zs[i]?=some v->Rel i v H)->ao H1 H->H D=some (.lst zs)->Q (.ref D) H):
  nq D (Ls K 2 (xx (cV 0) (xx (cV 1) Ua))) ki te (Uy K a b) (none::none::cap) H1 Q:=by
 refine ⟨fun i m σ zs H=>m=xs.length-i/\i<=xs.length/\(∃o o',σ=o::o'::cap)/\(zs.length=i/\(∀i v,zs[i]?=some v->Rel i v H)/\ao H1 H)/\H D=some (.lst zs),⟨xs.length,by simp,adS _,⟨none,none,rfl⟩,⟨rfl,fun i v e=>by simp at e,fun b o e=>by rw [aj (ak e nD)];exact e⟩,ah⟩,?_⟩
 rintro i m σ zs H ⟨rfl,hi,⟨o,o',rfl⟩,⟨l,r,s⟩,hD⟩
 by_cases kN:i<xs.length
 ·have e1:xs[i]?=some xs[i]:=gE kN
  have e2:ys[i]?=some (ys[i]'(by omega)):=gE (by omega)
  refine .inr ⟨⟨xs,ys,_,_,hX H s,hY H s,e1,e2⟩,fun v H' y=>?_⟩
  obtain ⟨p,x,y,q1,q2,rfl,np,rfl⟩:=y
  have e1:=q1 xs (hX H s)
  have e2:=q2 ys (hY H s)
  have sp:ao H (upd H p (.tup [x,y])):=fun b o e=>by rw [aj (ak e np)];exact e
  refine ⟨p,_,rfl,bM.of ah,rfl,_,_,rfl,_,_,rfl,rfl,?_⟩
  unfold ki
  dsimp only
  rw [aaC rfl]
  refine he i x y _ _ e1 e2 (fun b o e=>sp _ _ (s _ _ e)) ⟨zs,sp _ _ hD⟩ fun v H6 s6 rv=>⟨s6 _ _ (sp _ _ hD),by omega,xs.length-(i+1),by omega,rfl,by omega,⟨_,_,rfl⟩,⟨by simp [l],fun j u e=>?_,fun b o e=>?_⟩,ah⟩
  ·by_cases c:j<zs.length
   ·rw [adq c] at e
    have ru:=hR j u H H6 zs hD (bS.of fun b o q=>s6 _ _ (sp _ _ q)) (r j u e)
    exact hR j u H6 _ zs (s6 _ _ (sp _ _ hD)) bS.upd ru
   ·rw [adv (by omega)] at e
    have ej:j=i:=by
     by_cases z:j-zs.length=0
     ·omega
     ·rw [aax (by simp;omega)] at e
      cases e
    subst ej
    have:v=u:=by
     rw [show j-zs.length=0 by omega] at e
     exact ady e
    subst this
    exact hR j v H6 _ zs (s6 _ _ (sp _ _ hD)) bS.upd rv
  ·rw [aj (ak e nD)]
   exact s6 _ _ (sp _ _ (s _ _ e))
 ·have e:i=xs.length:=by omega
  subst e
  exact .inl ⟨⟨xs,ys,hX H s,hY H s,.inl (aa_ _)⟩,hd zs H l r s hD⟩
end
def iS (K:Frag)(H:Hp)(v:V)(q:Int×Int):Prop:=∃p,v=.ref p/\bM K H p [.int q.1,.int q.2]
theorem iS.same {K:Frag}(h:iS K H v q)(s:ao H H'):iS K H' v q:=by
 obtain ⟨p,e,k⟩:=h
 exact ⟨p,e,Ty.ao.ck s k⟩
def cH (K:Frag)(H:Hp)(us:η)(qs:ο):Prop:=us.length=qs.length/\∀(i:Nat)(u:V)(q:Int×Int),us[i]?=some u->qs[i]?=some q->iS K H u q
theorem cH.same {K:Frag}(h:cH K H us qs)(s:ao H H'):cH K H' us qs:=⟨h.1,fun i u q e1 e2=>(h.2 i u q e1 e2).same s⟩
theorem cH.at {K:Frag}(h:cH K H us qs){i:Nat}(e:us[i]?=some u):∃q,qs[i]?=some q/\iS K H u q:=by
 have hi:i<us.length:=(ir.mp e).1
 have hl:=h.1
 have e2:qs[i]?=some (qs[i]'(by omega)):=gE (by omega)
 exact ⟨_,e2,h.2 i u _ e e2⟩
theorem cH.set {K:Frag}(h:cH K H us qs)(n:iS K H v q):cH K H (us.set j v) (qs.set j q):=by
 refine ⟨by simp [h.1],fun i u q' e1 e2=>?_⟩
 rw [ad8] at e1 e2
 by_cases c:j=i
 ·subst c
  rw [aaC rfl] at e1 e2
  have l:=h.1
  by_cases hj:j<us.length
  ·rw [aaC hj] at e1
   rw [aaC (by omega)] at e2
   cases e1
   cases e2
   exact n
  ·rw [aaA hj] at e1
   cases e1
 ·rw [aaA c] at e1 e2
  exact h.2 i u q' e1 e2
def ae5 (K:Frag)(H:Hp)(a:aaz)(qs:ο):Prop:=∃us,aR K H a us/\cH K H us qs
def sumTo:Nat->(Nat->Rat)->Rat
 | 0,_=>0
 | n+1,f=>f 0+sumTo n (fun i=>f (i+1))
theorem uD:∀(n:Nat)(f g:Nat->Rat),sumTo n (fun i=>f i+g i)=sumTo n f+sumTo n g
 | 0,_,_=>by simp [sumTo];grind
 | n+1,f,g=>by
  simp only [sumTo]
  rw [uD n (fun i=>f (i+1)) (fun i=>g (i+1))]
  grind
theorem uE (c:Rat):∀(n:Nat)(f:Nat->Rat),sumTo n (fun i=>c*f i)=c*sumTo n f
 | 0,_=>by simp [sumTo]
 | n+1,f=>by
  simp only [sumTo]
  rw [uE c n (fun i=>f (i+1))]
  grind
theorem i8:∀(n:Nat)(f:Nat->Rat),(∀i,f i=0)->sumTo n f=0
 | 0,_,_=>rfl
 | n+1,f,h=>by
  simp only [sumTo]
  rw [h 0,i8 n (fun i=>f (i+1)) (fun i=>h (i+1))]
  grind
theorem qV:∀(n:Nat)(l:ξ)(z:Nat->Rat),l.length<=n->ev l z=sumTo n (fun j=>((l.getD j 0:Int):Rat)*z j)
 | n,[],z,_=>by
  rw [i8 n _ (fun i=>by simp)]
  rfl
 | 0,_::_,_,h=>by simp at h
 | n+1,a::r,z,h=>by
  simp only [ev,sumTo]
  rw [qV n r (fun i=>z (i+1)) (by simpa using h)]
  simp
theorem DX (n:Nat)(z:Nat->Rat):∀(y:Μ)(os:ζ),(∀o∈os,o.length<=n)->(∀o∈os,ev o z=0)->sumTo n (fun j=>fD y os j*z j)=0
 | c::y,o::os,h1,h2=>by
  have ih:=DX n z y os (fun x hx=>h1 x (aaw _ hx)) (fun x hx=>h2 x (aaw _ hx))
  have e:=h2 o adk
  rw [qV n o z (h1 o adk)] at e
  have k:(fun j=>fD (c::y) (o::os) j*z j)=fun j=>c*(((o.getD j 0:Int):Rat)*z j)+fD y os j*z j:=by
   funext j
   simp only [fD]
   grind
  rw [k,uD,uE,e,ih]
  grind
 | [],os,_,_=>i8 n _ (fun j=>by cases os<;>simp [fD])
 | _::_,[],_,_=>i8 n _ (fun j=>by simp [fD])
theorem Qq {os:ζ}(h:nH os l)(hl:l.length<=n)(ho:∀o∈os,o.length<=n)(hz:∀o∈os,ev o z=0):ev l z=0:=by
 obtain ⟨y,_,e⟩:=h
 rw [qV n l z hl,<-DX n z y os ho hz]
 congr 1
 funext j
 rw [e j]
theorem x6:∀{ts:ξ} {qs xs:ο} {d:Int×Int} {b:Int},oF ts (qs++[d]) b->xs.length=qs.length->ev ts (oI (xs.map vl))=(g9 qs xs-vl d)*b
 | [],qs,xs,d,b,h,_=>by have:=h.1;simp at this
 | t::ts,[],[],d,b,h,_=>by
  have e:=h.2 0 t d rfl rfl
  have l:=h.1
  have:ts=[]:=by simpa using l
  subst this
  simp [ev,oI,g9]
  rw [e]
  grind
 | t::ts,q::qs,x::xs,d,b,h,hl=>by
  have e:=h.2 0 t q rfl rfl
  have ih:=x6 (ts:=ts) (qs:=qs) (xs:=xs) (d:=d) (b:=b) h.tail (by simpa using hl)
  have ez:(fun i=>oI ((x::xs).map vl) (i+1))=oI (xs.map vl):=by
   funext i
   simp [oI]
  simp only [ev]
  rw [ez,ih,e]
  have e0:oI ((x::xs).map vl) 0=vl x:=by simp [oI]
  have ed:g9 (q::qs) (x::xs)=vl q*vl x+g9 qs xs:=by simp [g9]
  rw [e0,ed]
  grind
 | _::_,[],_::_,_,_,_,hl=>by simp at hl
 | _::_,_::_,[],_,_,_,hl=>by simp at hl
section
variable {X:Cx}
end
section
variable {D:aaz}{te:TE}{cap:L2.St}{H1:Hp}{Q:VK}
end
section
variable {X:Cx}
inductive Tb (xs:η)(H:Hp)(Q:VK):Prop
|mk (p:aaz)(kvs:γ)(_:xs=[.ref p])(_:Rd H p (.dK kvs))(_:Q (.int (kvs.length:Int)) H)
theorem nJ:iL X (.builtin "len") Tb:=by
 intro pins s σ H xs us Q I r h
 obtain ⟨p,kvs,rfl,hq,q⟩:=h
 obtain ⟨u,rfl,r1⟩:=vals1 r
 cases r1
 exact XZ I hq fun t s' I'=>⟨.int _,H,I',⟨t,rfl⟩,q⟩
end
section
variable {D:aaz}{te:TE}{cap:L2.St}{H1:Hp}{Q:VK}
end
section
variable {X:Cx}
theorem Inv.Ya {σ:L2.St}(I:Inv X pins σ H s)(e:H d=some (.fq o u))(n:∀o' u',X.H₀ d≠some (.fq o' u'))(nt:∀xs,u≠.tup xs):Inv X pins σ (upd H d u) s:=by
 have nx:∀b u',H b=some u' ->b≠d->upd H d u b=some u':=fun b u q n=>by rw [aj n];exact q
 have nn:∀b,H b=none->upd H d u b=none:=fun b q=>by rw [aj (fun z=>by rw [z,e] at q;cases q)];exact q
 refine ⟨I.ok,I.os,I.bare,⟨I.base.keep,I.base.slot,fun b ob q z hx=>nn b (I.base.free b ob q z hx),I.base.there,fun b xs q=>?_,fun b ob u' q=>?_,fun b ps q=>?_⟩,I.loc,I.cell,nn _ I.free,fun x c q=>nn _ (I.iI x c q),fun p hp=>?_,?_,I.len⟩
 ·have z:=I.base.uW b xs q
  exact nx b _ z fun y=>by rw [y,e] at z;cases z
 ·have z:=I.base.sQ b ob u' q
  exact nx b _ z fun y=>by rw [y] at q;exact n _ _ q
 ·obtain ⟨m,z⟩:=I.base.uX b ps q
  exact ⟨m,nx b _ z fun y=>by rw [y,e] at z;cases z⟩
 ·obtain ⟨a1,a2,a3⟩:=I.pin p hp
  exact ⟨a1,nn _ a2,a3⟩
 ·have st:∀{b u'},cT X.prog X.w H s.heap b u' ->cT X.prog X.w (upd H d u) s.heap b u':=fun {b u'} k=>k.uV (fun _ _ _ z=>z) (fun c z=>nx c _ z fun y=>by rw [y,e] at z;cases z) fun c xs z=>nx c _ z fun y=>by rw [y,e] at z;cases z
  intro b u' q
  by_cases hb:b=d
  ·subst hb
   rw [ah] at q
   cases q
   exact st (I.bH b _ e).2
  ·rw [aj hb] at q
   exact st (I.bH b u' q)
def Yb (H0:Hp)(t:TS):TS:=fun D σ H=>t {D with nx:=fun σ' H'=>∃d o kvs,H' d=some (.fq o (.dK kvs))/\(∀o' u',H0 d≠some (.fq o' u'))/\D.nx σ' (upd H' d (.dK kvs))} σ H
theorem jZ {st:Stmt}(h:PS X st t):PS X st (Yb X.H₀ t):=by
 intro pins s σ H D I q
 refine aa3 (h pins s σ H _ I q) (fun f s' z=>?_) fun _ _ z=>z
 cases f with
 | next=>
  obtain ⟨σ',H',I',d,o,kvs,e,n,k⟩:=z
  exact ⟨σ',_,Inv.Ya I' e n (fun _ z=>nomatch z),k⟩
 | brk=>exact z
 | cont=>exact z
 | ret u=>exact z
def Yc (d:aaz)(o:Obj)(kvs:γ):It:=
 ⟨fun i H=>H d=some (.fq o (.dK kvs))/\i<kvs.length,
  fun i H v H'=>H'=H/\∃k x,kvs[i]?=some (k,x)/\v=kV k,
  fun i H=>H d=some (.fq o (.dK kvs))/\kvs.length<=i⟩
theorem HJ {K:Frag}(d it:aaz)(o:Obj)(kvs:γ)(he:o.data=.dict S' ep):
  Turn P w K tg (Yc d o kvs) [it] it (fun i h=>h.IsKeyIter it d i kvs.length ep) where
 mem:=by simp
 obj:=fun i h st b hb=>by
  have e:b=it:=by simpa using hb
  subst e
  obtain ⟨o,e,c,d⟩:=st
  exact ⟨o,e,fun v z=>by rw [d] at z;cases z⟩
 keep:=fun i h h' st k=>st.at fun o e=>k it (by simp) o e
 item:=by
  intro X hP hw hK hc i pins s σ H E I hf st hg
  subst hP hw hK
  obtain ⟨fz,hi⟩:=hg
  obtain ⟨hd,vs,rel,da,_⟩:=nC I.bH fz he
  have ek:kvs[i]?=some kvs[i]:=gE hi
  obtain ⟨⟨k',u⟩,ev,e1,ru⟩:=aE rel ek
  have lv:=rel.length
  rw [lv] at st
  obtain ⟨f0,f1,f2,f3,f4,f5⟩:=hf it (by simp)
  refine wpAny_pyNext_dict_item st da ev fun key h' LG C' sb=>?_
  have I1:Inv X pins σ H {s with heap:=h'}:=I.turned (t':=s.toks) (fun b o hb e=>(sb.2 b hb).trans e) f0 f1 f3 f4 f5
  rw [<-lv] at C'
  obtain ⟨o',e',c',d'⟩:=id C'
  have GP :kvs[i].1=k':=e1
  exact ⟨key,rfl,C_ (s:={s with heap:=h'}) e' c' d' (by decide) ⟨kV kvs[i].1,H,I1,by rw [GP];exact vp LG,⟨rfl,kvs[i].1,kvs[i].2,ek,rfl⟩,C',fun b hb=>(hf b hb).1⟩⟩
 done:=by
  intro X hP hw hK hc i pins s σ H E I hf st hg
  subst hP hw hK
  obtain ⟨fz,hi⟩:=hg
  obtain ⟨hd,vs,rel,da,_⟩:=nC I.bH fz he
  have lv:=rel.length
  rw [lv] at st
  obtain ⟨f0,f1,f2,f3,f4,f5⟩:=hf it (by simp)
  exact wpAny_pyNext_dict_end (I.ok.hd hc) st da (aax (by omega)) fun h' eb=>⟨rfl,I.turned (t':=s.toks) (fun b o hb e=>eb b o hb e) f0 f1 f3 f4 f5⟩
 self:=fun _ _ _ _ _ st h=>wpAny_pyIter_keyiter st h
inductive Mn (R:(It->Hp->Prop))(x:V)(H1:Hp):Prop
|mk (d kvs:_)(_:x=.ref d)(_:H1 d=some (.dK kvs))(_:∀o,R (Yc d o kvs) (upd H1 d (.fq o (.dK kvs))))
def Yd (te:TE):TI:=fun σ H R=>te σ H fun x H1=>Mn R x H1
theorem DY (ho:PE X e te):PI X tg e (Yd te):=by
 intro pins s σ H R I h
 refine cI (ho pins s σ H _ I h) fun v s1 ⟨x,H1,I1,r1,q1⟩=>?_
 obtain ⟨d,kvs,rfl,e,q⟩:=q1
 cases r1
 obtain ⟨z,hd,vs,rel,o,X6,ep,OG,hx,jH,hk,hp,hn⟩:=oH I1.bH e
 have da:s1.heap.DictAt (bC X.prog X.w) d vs ep:=⟨o,X6,OG,hx,jH,hk,hp,hn⟩
 have lv:=rel.length
 have I2:=Inv.freeze I1 e OG
 refine wpAny_pyIter_dict hd da ?_
 have I3:Inv X pins σ (upd H1 d (.fq o (.dK kvs))) {s1 with heap:=s1.heap.push {cls:=.type "dict_keyiterator",data:=.fields #[.ref d,.int 0 0,.int vs.length 0,.int ep 0]}}:=I2.kept (t':=s1.toks) fun b o e=>aaB _ e
 refine ⟨s1.heap.objs.size,[s1.heap.objs.size],_,_,_,rfl,I3,HJ d _ o kvs jH,(show Heap.IsKeyIter _ _ d 0 kvs.length ep from ⟨_,aaL _ rfl,rfl,by rw [lv];rfl⟩),fun b hb=>?_,q o⟩
 have eb:b=s1.heap.objs.size:=by simpa using hb
 have le:s1.heap.objs.size<=b:=by rw [eb];exact aa_ _
 exact I2.m8 le (I2.bH.fresh le)
theorem x8 {g:TG}{tb:TS}{D:Ends}(Pv:Nat->L2.St->Hp->Prop)(h0:Pv 0 σ H)(hl:∀i σ H,i<=kvs.length->Pv i σ H->H d=some (.fq o (.dK kvs)))
  (hs:∀i k x σ H,kvs[i]?=some (k,x)->Pv i σ H->g (kV k) σ H fun σ2 H2=>tb {D with nx:=Pv (i+1),ct:=Pv (i+1),bk:=D.nx} σ2 H2) (hd:∀σ H,Pv kvs.length σ H->D.nx σ H):
  ∃W:Nat->Nat->L2.St->Hp->Prop,(∃m,W 0 m σ H)/\∀i m σ H,W i m σ H->
   ((Yc d o kvs).stop i H/\D.nx σ H)\/((Yc d o kvs).go i H/\∃N:L2.St->Hp->Prop,(∀σ' H',N σ' H' ->∃m',m'<m/\W (i+1) m' σ' H')/\∀x H',(Yc d o kvs).CZ i H x H' ->g x σ H' fun σ2 H2=>tb {D with nx:=N,ct:=N,bk:=D.nx} σ2 H2):=by
 refine ⟨fun i m σ H=>m=kvs.length-i/\i<=kvs.length/\Pv i σ H,⟨kvs.length,by simp,adS _,h0⟩,?_⟩
 rintro i m σ H ⟨rfl,hi,p⟩
 have q:=hl i σ H hi p
 by_cases kN:i<kvs.length
 ·refine .inr ⟨⟨q,kN⟩,Pv (i+1),fun σ' H' z=>⟨kvs.length-(i+1),by omega,rfl,by omega,z⟩,fun x H' y=>?_⟩
  obtain ⟨rfl,k,x',ek,rfl⟩:=y
  exact hs i k x' σ _ ek p
 ·have e:i=kvs.length:=by omega
  subst e
  exact .inl ⟨⟨q,aa_ _⟩,hd σ H p⟩
end
section
variable {prog:aaP}{w:World}{KK:Type}[DecidableEq KK]{knd:KeyKind prog w KK}{A:aaT}{E:δ}{s:aaH}
open MeetsSeq MeetsSeq2 MeetsSeq3 SeqRoads2 in
open MeetsSeq MeetsSeq2 MeetsSeq3 SeqRoads2 in
end
section
variable {X:Cx}
end
structure UL (K:Frag)(x qual:Str)(st:Stmt)(f:aaz)(fd:FuncData):Prop where
 ex:∃(dV oc:Value)(od:Κ)(kV doc pm:Value)(an:Κ)(bZ ct:Value)(sL:Ξ),
  fd=fnOf x qual (au st) (aq st) (ae st) dV kV doc pm an bZ ct/\K.lookup f=some ⟨oc,od,.func fd,sL⟩/\codeIn K bZ qual=true
 kp:keepIn K (.ref f)=true
section
variable {P:aaP}{w:World}{K:Frag}{mg:θ}{base:Heap}{CX:me}
theorem Qr {st:Stmt}{od an:Κ}{sL:Ξ}{kV doc pm bZ ct:Value}(l:K.lookup f=some ⟨oc,od,.func (fnOf x qual (au st) (aq st) (ae st) dV kV doc pm an bZ ct),sL⟩)
  (c:codeIn K bZ qual=true) (k:keepIn K (.ref f)=true):UL K x qual st f (fnOf x qual (au st) (aq st) (ae st) dV kV doc pm an bZ ct):=⟨⟨dV,oc,od,kV,doc,pm,an,bZ,ct,sL,rfl,l,c⟩,k⟩
theorem DZ {st:Stmt}(F:qG K name qual st f fd)(S:av N ps (ae st))(len:∀vs H Q E,sp vs H Q E->vs.length=ps.length)
  (gN:∀(bZ:Value)(A:aaT)(outer:List Env)(s:aaH)(H:Hp)(vs:η)(Q:VK)(E:XK),cy k (A.deeper (abN qual (ae st) s.heap.objs.size f bZ))->sp vs H Q E->
   ∃t,PSs (cxr P w K mg base N qual (ae st) f bZ A outer s H E).xl (aq st) t/\t {nx:=fun _ H'=>Q .cS H',rt:=Q} (start N vs) H):dm P w K mg base (aT P w) (k+1) f fd ps sp:=by
 obtain ⟨oc,od,kV,doc,pm,an,bZ,ct,sL,rfl,lk,sR⟩:=F.ex
 exact DG lk sR S len fun A outer s H vs Q E hr zH=>by
  obtain ⟨t,h,q⟩:=gN bZ A outer s H vs Q E hr zH
  exact ⟨t,h.xl,q⟩
theorem Mp {st:Stmt}(F:UL K name qual st f fd)(S:av N ps (ae st))(len:∀vs H Q E,sp vs H Q E->vs.length=ps.length)
  (gN:∀(bZ:Value)(A:aaT)(outer:List Env)(s:aaH)(H:Hp)(vs:η)(Q:VK)(E:XK),cy k (A.deeper (abN qual (ae st) s.heap.objs.size f bZ))->sp vs H Q E->
   ∃t,PSs (cxr P w K mg base N qual (ae st) f bZ A outer s H E).xl (aq st) t/\t {nx:=fun _ H'=>Q .cS H',rt:=Q} (start N vs) H):dm P w K mg base (aT P w) (k+1) f fd ps sp:=by
 obtain ⟨dV,oc,od,kV,doc,pm,an,bZ,ct,sL,rfl,lk,sR⟩:=F.ex
 exact DG lk sR S len fun A outer s H vs Q E hr zH=>by
  obtain ⟨t,h,q⟩:=gN bZ A outer s H vs Q E hr zH
  exact ⟨t,h.xl,q⟩
end
structure AN (P:aaP)(w:World)(K:Frag)(mg:θ)(base:Heap)(CX:me)(k:Nat)(C:aaz)(m:Str)(ps:ς)(ds:ρ)(sp:Sp):Prop where
 ex:∃(f:aaz)(fd:FuncData),xB K C/\Meth K C m f/\dm P w K mg base CX k f fd ps sp/\Binds K fd ps ds
section
variable {X:Cx}{CX:me}{k:Nat}{E:XK}{m:Str}{pos apos:Pos}{e o:Expr}{es:Ε}{ta:TE}{t:TA}
inductive Mq (P:aaP)(w:World)(K:Frag)(mg:θ)(base:Heap)(CX:me)(k:Nat)(m:Str)(E:XK)(t:TA)(σ:L2.St)(Q:VK)(x:V)(H1:Hp):Prop
|mk (a C dx fs ps sp:_)(_:x=.ref a)(_:H1 a=some (.ins C dx fs))(_:fs.lookup m=none)(_:AN P w K mg base CX k C m ps [.none] sp)(_:t σ H1 fun vs H2=>sp (x::vs++[.cS]) H2 Q E)
def Ye (P:aaP)(w:World)(K:Frag)(mg:θ)(base:Heap)(CX:me)(k:Nat)(m:Str)(E:XK)(ta:TE)(t:TA):TE:=fun σ H Q=>ta σ H fun x H1=>Mq P w K mg base CX k m E t σ Q x H1
theorem Qs {pl:Sem Bool}(he:PE X o ta)(hr:cy k X.A)(hx:Passes CX X E)(ha:PA X (e::es) t)
  (PY:aaO (e::es) X.env=(false,aaV e X.env)::aaO es X.env:=by rfl) (pF:(abj pos (aaO es X.env)).any (·.1)=false:=by rfl)
  (ht:aaV (.Call (.Attribute o m apos) (e::es) [] pos) X.env=(do
   let ov <- aaV o X.env
   standAt apos.atName
   let (f,first) <- holding [ov] (getMethod ov m pl)
   callWith pos f first (abj pos (aaO (e::es) X.env)) (backToKw pos (ahr [] X.env))):=by rfl):
  PE X (.Call (.Attribute o m apos) (e::es) [] pos) (Ye X.prog X.w X.K X.mg X.base CX k m E ta t):=by
 intro pins s σ H Q I h
 refine PySem.W.methodCall_KW (pl:=pl) (cI (he pins s σ H _ I h) fun u s1 ⟨x,H1,I1,rx,a,C,dx,fs,ps,sp,ex,ea,l,M,q⟩=>?_) ht
 subst ex
 obtain rfl:u=Value.ref a:=rx
 obtain ⟨f,fd,c,hm,F,hb⟩:=M.ex
 refine kR I1 ea c hm l ?_
 refine acR (first:=[.ref a]) (h₀:=X.base) I.ok.mod.Wm hm.kp (cI (ha pos pins s1 σ H1 _ I1 q) fun us s2 ⟨vs,H2,I2,r,q2⟩=>⟨I2.kK,?_⟩) PY pF
 exact u6 (us:=.ref a::us) (vs:=.ref a::vs) (dvs:=[.cS]) F hr hb (.cons rfl .nil) hx I2 (.cons rfl r) q2
end
theorem x9 {κ:Type}[DecidableEq κ]{k:κ}{v:V}:∀{kvs:List (κ×V)},bF kvs k=some v->(k,v)∈kvs
 | p::r,h=>by
  by_cases e:p.1=k
  ·rw [bT e] at h
   cases h
   subst e
   exact adk ..
  ·rw [bD e] at h
   exact aaw _ (x9 h)
theorem bP {κ:Type}[DecidableEq κ]{k:κ}:∀{kvs:List (κ×V)},k∉kvs.map (·.1)->bF kvs k=none
 | [],_=>rfl
 | p::r,h=>by
  rw [aau,adD,not_or] at h
  rw [bD (fun e=>h.1 e.symm)]
  exact bP h.2
theorem nK {κ:Type}[DecidableEq κ]{k:κ}:∀{kvs:List (κ×V)},k∈kvs.map (·.1)->∃v,bF kvs k=some v
 | p::r,h=>by
  by_cases e:p.1=k
  ·exact ⟨_,bT e⟩
  ·rw [bD e]
   rw [aau,adD] at h
   rcases h with h|h
   ·exact aaM h.symm e
   ·exact nK h
theorem HK {κ:Type}[DecidableEq κ]{kvs:List (κ×V)}{k:κ}{v:V}(P:κ->Prop)(h:∀kv∈kvs,P kv.1)(hk:P k):∀kv∈putK kvs k v,P kv.1:=by
 unfold putK
 split
 ·intro kv m
  obtain ⟨a,ha,e⟩:=aat.mp m
  have:=h a ha
  by_cases z:a.1=k
  ·rw [aaC z] at e;rw [<-e];exact this
  ·rw [aaA z] at e;rw [<-e];exact this
 ·intro kv m
  rcases ado.mp m with m|m
  ·exact h kv m
  ·rw [adi] at m
   rw [m]
   exact hk
def xo (K:Frag)(H:Hp)(kvs:γ)(F:χ):Prop:=
 ∀nm,(bF kvs (.inr nm)=none/\F nm=none)\/∃v q,bF kvs (.inr nm)=some v/\F nm=some q/\iS K H v q
theorem xo.same {K:Frag}(h:xo K H kvs F)(s:ao H H'):xo K H' kvs F:=fun nm=>by
 rcases h nm with h|⟨v,q,h1,h2,h3⟩
 ·exact .inl h
 ·exact .inr ⟨v,q,h1,h2,h3.same s⟩
theorem xo.put {K:Frag}(h:xo K H kvs F)(n:iS K H v q):xo K H (putK kvs (.inr x) v) (fun nm=>if nm=x then some q else F nm):=fun nm=>by
 rw [jF]
 by_cases e:nm=x
 ·subst e
  exact .inr ⟨v,q,by rw [aaC rfl],by show (if nm=nm then some q else F nm)=some q;rw [aaC rfl],n⟩
 ·have e':(adR nm:Key)≠.inr x:=fun z=>e (adZ z)
  show (_/\(if nm=x then some q else F nm)=none)\/∃v' q',_/\(if nm=x then some q else F nm)=some q'/\_
  rw [aaA e',aaA e]
  exact h nm
theorem xo.AO {K:Frag}(h:xo K H kvs G)(n:iS K H v q):iS K H ((bF kvs (.inr x)).getD v) ((G x).getD q):=by
 rcases h x with ⟨h1,h2⟩|⟨u,q',h1,h2,h3⟩
 ·rw [h1,h2]
  exact n
 ·rw [h1,h2]
  exact h3
structure Mr (K:Frag)(C:aaz):Prop where
 cls:xB K C
 pl:gM K C "pin_places"
 wy:gM K C "pin_ways"
 br:gM K C "bar_ends"
abbrev frF (pP pW pB:aaz):List (Str×V):=[("pin_places",.ref pP),("pin_ways",.ref pW),("bar_ends",.ref pB)]
abbrev Pt:=(Int×Int)×(Int×Int)
abbrev _root_.Ι:=List (Str×Pt)
abbrev fL (p:Pt):List Da:=[.t [.v (.int p.1.1),.v (.int p.1.2)],.t [.v (.int p.2.1),.v (.int p.2.2)]]
def bo (H H':Hp):Prop:=∀b xs,Rd H b (.tup xs)->Rd H' b (.tup xs)
theorem bo.of (s:ao H H'):bo H H':=fun b xs e=>by
 rcases e with e|⟨o,e⟩
 ·exact .inl (s _ _ e)
 ·exact .inr ⟨o,s _ _ e⟩
theorem bo.trans (a:bo H H1)(b:bo H1 H2):bo H H2:=fun c xs e=>b c xs (a c xs e)
theorem bo.dict (e:H d=some (.dK kvs)):bo H (upd H d o):=fun b xs r=>by
 rcases r with r|⟨o,r⟩
 ·exact .inl (by rw [aj (fun z=>by rw [z,e] at r;cases r)];exact r)
 ·exact .inr ⟨o,by rw [aj (fun z=>by rw [z,e] at r;cases r)];exact r⟩
theorem bo.list (e:H d=some (.lst xs)):bo H (upd H d o):=fun b xs r=>by
 rcases r with r|⟨o,r⟩
 ·exact .inl (by rw [aj (fun z=>by rw [z,e] at r;cases r)];exact r)
 ·exact .inr ⟨o,by rw [aj (fun z=>by rw [z,e] at r;cases r)];exact r⟩
theorem bo.ck {K:Frag}(s:bo H H')(q:bM K H p xs):bM K H' p xs:=by
 rcases q with q|q
 ·exact .inl (s _ _ q)
 ·exact .inr q
theorem iS.aK {K:Frag}(h:iS K H v q)(s:bo H H'):iS K H' v q:=by
 obtain ⟨p,e,k⟩:=h
 exact ⟨p,e,s.ck k⟩
theorem xo.aK {K:Frag}(h:xo K H kvs F)(s:bo H H'):xo K H' kvs F:=fun nm=>by
 rcases h nm with h|⟨v,q,h1,h2,h3⟩
 ·exact .inl h
 ·exact .inr ⟨v,q,h1,h2,h3.aK s⟩
def Spot (K:Frag)(H:Hp)(v:V)(p:Pt):Prop:=∃a u1 u2,v=.ref a/\bM K H a [u1,u2]/\iS K H u1 p.1/\iS K H u2 p.2
theorem Spot.aK {K:Frag}(h:Spot K H v p)(s:bo H H'):Spot K H' v p:=by
 obtain ⟨a,u1,u2,e,h1,h2,h3⟩:=h
 exact ⟨a,u1,u2,e,s.ck h1,h2.aK s,h3.aK s⟩
theorem j0 {K:Frag}(h:iS K H v q):Is K H (.t [.v (.int q.1),.v (.int q.2)]) v:=by
 obtain ⟨p,rfl,e⟩:=h
 unfold Is
 refine ⟨p,_,rfl,e,?_⟩
 unfold ke
 refine ⟨by unfold Is;exact ⟨rfl,rfl⟩,?_⟩
 unfold ke
 refine ⟨by unfold Is;exact ⟨rfl,rfl⟩,?_⟩
 unfold ke
 trivial
theorem Spot.is {K:Frag}(h:Spot K H v p):Is K H (.t (fL p)) v:=by
 obtain ⟨a,u1,u2,rfl,h1,h2,h3⟩:=h
 unfold Is
 refine ⟨a,_,rfl,h1,?_⟩
 unfold ke
 refine ⟨j0 h2,?_⟩
 unfold ke
 refine ⟨j0 h3,?_⟩
 unfold ke
 trivial
theorem x_ (p q:Pt):dq (fL p) (fL q)=decide (p=q):=by
 have e:dq (fL p) (fL q)=((p.1.1==q.1.1 && (p.1.2==q.1.2 && true)) && ((p.2.1==q.2.1 && (p.2.2==q.2.2 && true)) && true)):=by
  simp only [fL,dq,js,ni]
 rw [e]
 obtain ⟨⟨a,b⟩,c,d⟩:=p
 obtain ⟨⟨a',b'⟩,c',d'⟩:=q
 by_cases h:a=a' <;> by_cases h1:b=b' <;> by_cases h2:c=c' <;> by_cases h3:d=d' <;> simp [h,h1,h2,h3,Prod.mk.injEq]
theorem oJ (p q:Pt):fu (fL p) (fL q)=true:=by simp [fL,fu,alike]
theorem uF (p:Pt):k_ (fL p)<=60:=by simp [fL,k_,dep]
structure gI (K:Frag)(H:Hp)(C a dx pP pW pB:aaz)(ps:Ι)(bs:Β)(kP kW kB:γ):Prop where
 obj:H a=some (.ins C dx (frF pP pW pB))
 pl:H pP=some (.dK kP)
 wy:H pW=some (.dK kW)
 br:H pB=some (.dK kB)
 ne1:pP≠pW
 ne2:pP≠pB
 ne3:pW≠pB
 rp:Paired (fun (p:Str×Pt) (kv:Key×V)=>kv.1=.inr p.1/\Spot K H kv.2 p.2) ps kP
 rb:Paired (fun (b:Str×Str×Str) (kv:Key×V)=>kv.1=.inr b.1/\∃p,kv.2=.ref p/\Rd H p (.tup [.str b.2.1,.str b.2.2])) bs kB
section
variable {K:Frag}{H H':Hp}{C a dx pP pW pB:aaz}{ps:Ι}{bs:Β}{kP kW kB:γ}
theorem h_ {R:(Str×α)->(Key×V)->Prop}:∀{l:List (Str×α)} {kvs:γ},Paired (fun b kv=>kv.1=.inr b.1/\R b kv) l kvs->kvs.map (·.1)=l.map (fun b=>(adR b.1:Key))
 | _,_,.nil=>rfl
 | _,_,.cons h t=>by rw [aau,aau,h.1,h_ t]
theorem ia {l:ς}:(adR x:Key)∈l.map (fun b=>(adR b:Key)) ↔ x∈l:=by
 constructor
 ·intro h
  obtain ⟨y,hy,e⟩:=aat.mp h
  exact adZ e▸hy
 ·exact fun h=>aat.mpr ⟨x,h,rfl⟩
theorem gI.Ms (R:gI K H C a dx pP pW pB ps bs kP kW kB)(s:bo H H')(h1:H' a=H a)(h2:H' pP=H pP)(h3:H' pW=H pW)(h4:H' pB=H pB):gI K H' C a dx pP pW pB ps bs kP kW kB:=
 ⟨h1.trans R.obj,h2.trans R.pl,h3.trans R.wy,h4.trans R.br,R.ne1,R.ne2,R.ne3,Paired.cF R.rp fun _ _ h=>⟨h.1,h.2.aK s⟩,Paired.cF R.rb fun _ _ h=>⟨h.1,by obtain ⟨p,e,k⟩:=h.2;exact ⟨p,e,s _ _ k⟩⟩⟩
theorem gI.same (R:gI K H C a dx pP pW pB ps bs kP kW kB)(s:ao H H'):gI K H' C a dx pP pW pB ps bs kP kW kB:=
 R.Ms (.of s) ((s _ _ R.obj).trans R.obj.symm) ((s _ _ R.pl).trans R.pl.symm) ((s _ _ R.wy).trans R.wy.symm) ((s _ _ R.br).trans R.br.symm)
theorem gI.oK (R:gI K H C a dx pP pW pB ps bs kP kW kB):kB.map (·.1)=(bs.map (·.1)).map (fun b=>(adR b:Key)):=by
 rw [h_ R.rb,adu]
 rfl
theorem gI.D_ (R:gI K H C a dx pP pW pB ps bs kP kW kB):kP.map (·.1)=(ps.map (·.1)).map (fun b=>(adR b:Key)):=by
 rw [h_ R.rp,adu]
 rfl
theorem gI.bar (R:gI K H C a dx pP pW pB ps bs kP kW kB)(x:Str):(bF kB (.inr x)).isSome=decide (x∈bs.map (·.1)):=by
 by_cases h:x∈bs.map (·.1)
 ·obtain ⟨v,e⟩:=nK (kvs:=kB) (k:=.inr x) (by rw [R.oK];exact ia.mpr h)
  rw [e,aaS h]
  rfl
 ·rw [bP (by rw [R.oK];exact fun z=>h (ia.mp z)),aa0 h]
  rfl
theorem gI.pin (R:gI K H C a dx pP pW pB ps bs kP kW kB)(x:Str):(bF kP (.inr x)).isSome=decide (x∈ps.map (·.1)):=by
 by_cases h:x∈ps.map (·.1)
 ·obtain ⟨v,e⟩:=nK (kvs:=kP) (k:=.inr x) (by rw [R.D_];exact ia.mpr h)
  rw [e,aaS h]
  rfl
 ·rw [bP (by rw [R.D_];exact fun z=>h (ia.mp z)),aa0 h]
  rfl
theorem gI.ab (R:gI K H C a dx pP pW pB ps bs kP kW kB):a≠pP/\a≠pW/\a≠pB:=
 ⟨fun z=>(by have h:=R.obj;rw [z,R.pl] at h;cases h),fun z=>(by have h:=R.obj;rw [z,R.wy] at h;cases h),fun z=>(by have h:=R.obj;rw [z,R.br] at h;cases h)⟩
theorem gI.UM (R:gI K H C a dx pP pW pB ps bs kP kW kB)(ht:Rd H t (.tup [.str one,.str other])):
  gI K (upd H pB (.dK (kB++[(.inr x,.ref t)]))) C a dx pP pW pB ps (bs++[(x,one,other)]) kP kW (kB++[(.inr x,.ref t)]):=by
 have s:bo H (upd H pB (.dK (kB++[(.inr x,.ref t)]))):=.dict R.br
 exact ⟨by rw [aj R.ab.2.2];exact R.obj,by rw [aj R.ne2];exact R.pl,by rw [aj R.ne3];exact R.wy,ah,R.ne1,R.ne2,R.ne3,Paired.cF R.rp fun _ _ h=>⟨h.1,h.2.aK s⟩,
  ahb (Paired.cF R.rb fun _ _ h=>⟨h.1,by obtain ⟨p,e,k⟩:=h.2;exact ⟨p,e,s _ _ k⟩⟩) ⟨rfl,t,rfl,s _ _ ht⟩⟩
theorem eV :∀{l:List α} {m:List β},Paired R l m->Paired (fun b a=>R a b) m l
 | _,_,.nil=>.nil
 | _,_,.cons h t=>.cons h (eV t)
theorem gI.UN (R:gI K H C a dx pP pW pB ps bs kP kW kB)(ht:Spot K H (.ref t) p):
  gI K (upd H pP (.dK (kP++[(.inr x,.ref t)]))) C a dx pP pW pB (ps++[(x,p)]) bs (kP++[(.inr x,.ref t)]) kW kB:=by
 have s:bo H (upd H pP (.dK (kP++[(.inr x,.ref t)]))):=.dict R.pl
 exact ⟨by rw [aj R.ab.1];exact R.obj,ah,by rw [aj (adO R.ne1)];exact R.wy,by rw [aj (adO R.ne2)];exact R.br,R.ne1,R.ne2,R.ne3,
  ahb (Paired.cF R.rp fun _ _ h=>⟨h.1,h.2.aK s⟩) ⟨rfl,ht.aK s⟩,Paired.cF R.rb fun _ _ h=>⟨h.1,by obtain ⟨p,e,k⟩:=h.2;exact ⟨p,e,s _ _ k⟩⟩⟩
theorem gI.D' (R:gI K H C a dx pP pW pB ps bs kP kW kB)(ya :γ):gI K (upd H pW (.dK ya)) C a dx pP pW pB ps bs kP ya kB:=by
 have s:bo H (upd H pW (.dK ya)):=.dict R.wy
 exact ⟨by rw [aj R.ab.2.1];exact R.obj,by rw [aj R.ne1];exact R.pl,ah,by rw [aj (adO R.ne3)];exact R.br,R.ne1,R.ne2,R.ne3,
  Paired.cF R.rp fun _ _ h=>⟨h.1,h.2.aK s⟩,Paired.cF R.rb fun _ _ h=>⟨h.1,by obtain ⟨p,e,k⟩:=h.2;exact ⟨p,e,s _ _ k⟩⟩⟩
theorem uG (xs:ς):(xs.map V.str).all jB=true:=by
 rw [amv,List.all_eq_true]
 exact fun _ _=>rfl
theorem qW :∀(xs:ς),Wr (.str x) (xs.map V.str)=decide (x∈xs)
 | []=>rfl
 | y::ys=>by
  have ih:=qW (x:=x) ys
  unfold Wr at ih ⊢
  rw [aau,afK,ih]
  by_cases e:y=x
  ·subst e
   simp [ni]
  ·have e':¬ x=y:=fun z=>e z.symm
   simp [ni,e,e']
end
open Builtin.Int (intBits)
def qr (r:Rat):Int×Int:=(r.num,(r.den:Int))
theorem cA (r:Rat):0<(qr r).2:=by
 have:=r.den_pos
 show (0:Int)<(r.den:Int)
 omega
theorem nN (r:Rat):ad1 (qr r).1 (qr r).2=1:=by
 have:=r.reduced
 show ad1 r.num (r.den:Int)=1
 unfold ad1
 simpa [Nat.Coprime] using this
theorem dy (r:Rat):vl (qr r)=r:=by
 show (r.num:Rat) / ((r.den:Int):Rat)=r
 rw [<-amw]
 exact amo r
theorem uH (h:0<q.2)(g:ad1 q.1 q.2=1):q=qr (vl q):=UB h (cA _) g (nN _) (dy _).symm
theorem fP (h:b≠0):low t b=qr ((t:Rat) / (b:Rat)):=by
 rw [<-lh h]
 exact uH (jV h) (qa h)
theorem lj (h:qr a=qr b):a=b:=by
 rw [<-dy a,<-dy b,h]
theorem nO (i:Int):qr (i:Rat)=(i,1):=by
 have e:(i,(1:Int))=qr (vl (i,1)):=uH (by show (0:Int)<1;decide) (by show ad1 i 1=1;simp)
 have v:vl (i,(1:Int))=(i:Rat):=by
  unfold vl
  show (i:Rat) / ((1:Int):Rat)=i
  have:((1:Int):Rat)=1:=by rfl
  rw [this]
  grind
 rw [e,v]
theorem AQ (r:Rat):qr (-r)=(-(qr r).1,(qr r).2):=by
 have e:((-(qr r).1,(qr r).2):Int×Int)=qr (vl (-(qr r).1,(qr r).2)):=uH (cA r) (by
  have:=nN r
  show ad1 (-(qr r).1) (qr r).2=1
  rw [Int.neg_gcd]
  exact this)
 have v:vl (-(qr r).1,(qr r).2)= -r:=by
  have h:=dy r
  unfold vl at h ⊢
  push_cast
  rw [<-h]
  grind
 rw [e,v]
theorem yb :((qr r).2:Rat)≠0:=cQ (adE (cA r))
theorem Mt (a b:Rat):low ((qr a).1*(qr b).2+(qr b).1*(qr a).2) ((qr a).2*(qr b).2)=qr (a+b):=by
 have ha:=cA a
 have hb:=cA b
 rw [fP (adE (aex ha hb))]
 have e1:=dy a
 have e2:=dy b
 have z1:=yb (r:=a)
 have z2:=yb (r:=b)
 unfold vl at e1 e2
 congr 1
 push_cast
 grind
theorem Mu (a b:Rat):low ((qr a).1*(qr b).2-(qr b).1*(qr a).2) ((qr a).2*(qr b).2)=qr (a-b):=by
 have ha:=cA a
 have hb:=cA b
 rw [fP (adE (aex ha hb))]
 have e1:=dy a
 have e2:=dy b
 have z1:=yb (r:=a)
 have z2:=yb (r:=b)
 unfold vl at e1 e2
 congr 1
 push_cast
 grind
theorem Mv (a b:Rat):low ((qr a).1*(qr b).1) ((qr a).2*(qr b).2)=qr (a*b):=by
 have ha:=cA a
 have hb:=cA b
 rw [fP (adE (aex ha hb))]
 have e1:=dy a
 have e2:=dy b
 have z1:=yb (r:=a)
 have z2:=yb (r:=b)
 unfold vl at e1 e2
 congr 1
 push_cast
 grind
structure Sz (k:Nat)(r:Rat):Prop where
 top:intBits (qr r).1<=k
 bot:intBits (qr r).2<=k
theorem Sz.up (h:Sz k r)(kl:k<=l):Sz l r:=⟨aav h.top kl,aav h.bot kl⟩
theorem HL (ha:intBits a<=k)(hb:intBits b<=k):intBits (a+b)<=k+1:=by
 rw [aho] at ha hb ⊢
 have:=ae2 a b
 rw [afz]
 omega
theorem HM (ha:intBits a<=k)(hb:intBits b<=k):intBits (a-b)<=k+1:=by
 rw [aho] at ha hb ⊢
 have:=Int.natAbs_sub_le a b
 rw [afz]
 omega
theorem vv (hb:b≠0)(h1:intBits t<=k)(h2:intBits b<=k):Sz k ((t:Rat) / (b:Rat)):=by
 rw [<-lh hb]
 have e:=uH (jV (t:=t) hb) (qa hb)
 exact ⟨by rw [<-e];exact acu (kY hb) h1,by rw [<-e];exact acu (kZ hb) h2⟩
theorem Mw (hb:b≠0)(e:low t b=qr r)(h1:intBits t<=k)(h2:intBits b<=k):Sz k r:=by
 have z:=fP (t:=t) hb
 rw [z] at e
 have:=lj e
 rw [<-this]
 exact vv hb h1 h2
theorem Sz.add (ha:Sz k a)(hb:Sz l b):Sz (k+l+1) (a+b):=
 Mw (adE (aex (cA a) (cA b))) (Mt a b) (HL (aa1 ha.top hb.bot) (by rw [agf];exact aa1 hb.top ha.bot)) (agw (aa1 ha.bot hb.bot))
theorem Sz.sub (ha:Sz k a)(hb:Sz l b):Sz (k+l+1) (a-b):=
 Mw (adE (aex (cA a) (cA b))) (Mu a b) (HM (aa1 ha.top hb.bot) (by rw [agf];exact aa1 hb.top ha.bot)) (agw (aa1 ha.bot hb.bot))
theorem Sz.mul (ha:Sz k a)(hb:Sz l b):Sz (k+l) (a*b):=
 Mw (adE (aex (cA a) (cA b))) (Mv a b) (aa1 ha.top hb.top) (aa1 ha.bot hb.bot)
theorem Sz.neg (ha:Sz k a):Sz k (-a):=by
 refine ⟨?_,?_⟩
 ·rw [AQ]
  have:=ha.top
  rw [aho] at this ⊢
  show (-(qr a).1).natAbs<2^k
  rw [ak_]
  exact this
 ·rw [AQ]
  exact ha.bot
theorem qX {i:Int}(h:i.natAbs<2^k)(hk:1<=k):Sz k (i:Rat):=by
 refine ⟨?_,?_⟩
 ·rw [nO]
  exact intBits_le_iff.mpr h
 ·rw [nO]
  refine intBits_le_iff.mpr ?_
  show 1<2^k
  exact Nat.one_lt_two_pow (by omega)
def cZ (K:Frag)(H:Hp)(v:V)(r:Rat):Prop:=iS K H v (qr r)
def gu (K:Frag)(H:Hp)(v:V)(p:Rat×Rat):Prop:=∃a u1 u2,v=.ref a/\bM K H a [u1,u2]/\cZ K H u1 p.1/\cZ K H u2 p.2
section
variable {K:Frag}{H H':Hp}{v:V}{r:Rat}{p:Rat×Rat}
theorem cZ.aK (h:cZ K H v r)(s:bo H H'):cZ K H' v r:=iS.aK h s
theorem cZ.same (h:cZ K H v r)(s:ao H H'):cZ K H' v r:=iS.same h s
theorem gu.aK (h:gu K H v p)(s:bo H H'):gu K H' v p:=by
 obtain ⟨a,u1,u2,e,h1,h2,h3⟩:=h
 exact ⟨a,u1,u2,e,s.ck h1,h2.aK s,h3.aK s⟩
theorem gu.same (h:gu K H v p)(s:ao H H'):gu K H' v p:=h.aK (.of s)
abbrev yc (p:Rat×Rat):Pt:=(qr p.1,qr p.2)
theorem gu.Yf (h:gu K H v p):Spot K H v (yc p):=h
def kj (K:Frag)(H:Hp)(us:η)(ps:Λ):Prop:=Paired (gu K H) us ps
theorem kj.aK (h:kj K H us ps)(s:bo H H'):kj K H' us ps:=Paired.cF h fun _ _ z=>z.aK s
theorem kj.same (h:kj K H us ps)(s:ao H H'):kj K H' us ps:=h.aK (.of s)
end
section
variable {X:Cx}
theorem EA {σ:L2.St}(I:Inv X pins σ H s)(h1:gu X.K H v p)(h2:gu X.K H v q):p=q:=by
 obtain ⟨a,u1,u2,rfl,t1,⟨b1,rfl,n1⟩,b2,rfl,n2⟩:=h1
 obtain ⟨a',w1,w2,e,t2,⟨c1,rfl,m1⟩,c2,rfl,m2⟩:=h2
 cases e
 cases I.iK t1 t2
 have e1:=I.iK n1 m1
 have e2:=I.iK n2 m2
 simp only [List.cons.injEq,V.int.injEq,and_true] at e1 e2
 exact al_ (lj (al_ e1.1 e1.2)) (lj (al_ e2.1 e2.2))
def Yg (K:Frag)(neg:Bool):R2:=fun x y H Q=>∃p l us ps,y=.ref l/\aR K H l us/\gu K H x p/\kj K H us ps/\Q (.bl (if neg then !decide (p∈ps) else decide (p∈ps))) H
theorem Yh {σ:L2.St}{its:ρ}(I:Inv X pins σ H s)(hu:A.units+60<abG)(hx:gu X.K H x p)(rx:RelV x v)(hp:kj X.K H us ps)(rv:Vals us its):
  ∃e:Value->Bool,(∀y,y∈its.toArray->SeqAt.EqAt A s y v (e y))/\its.toArray.any e=decide (p∈ps):=by
 have key:∀(j:Nat)(y:Value),its[j]?=some y->∃u q,us[j]?=some u/\ps[j]?=some q/\RelV u y/\gu X.K H u q:=fun j y ey=>by
  obtain ⟨u,eu,ru⟩:=aE (eV rv) ey
  obtain ⟨q,eq,hq⟩:=aE hp eu
  exact ⟨u,q,eu,eq,ru,hq⟩
 refine ⟨fun y=> @decide (∃u q,RelV u y/\gu X.K H u q/\q=p) (aeb _),fun y hy=>?_,?_⟩
 ·obtain ⟨j,hj,ey⟩:=ad0.mp (by simpa using hy:y∈its)
  obtain ⟨u,q,eu,eq,ru,hq⟩:=key j y (by rw [gE hj,ey])
  have z:=DL (A:=A) I (.t (fL (yc q))) (.t (fL (yc p))) u x y v hq.Yf.is hx.Yf.is (by unfold alike;exact oJ _ _) ru rx (by have:=uF (yc q);unfold dep;simp only [fL,k_,dep] at this ⊢;omega)
  have e:js (.t (fL (yc q))) (.t (fL (yc p)))= @decide (∃u q,RelV u y/\gu X.K H u q/\q=p) (aeb _):=by
   unfold js
   rw [x_]
   by_cases c:q=p
   ·subst c
    rw [aaS rfl]
    symm
    exact @aaS _ (aeb _) ⟨u,q,ru,hq,rfl⟩
   ·rw [aa0 (fun z=>c (al_ (lj (aaQ anB z)) (lj (aaQ anC z))))]
    symm
    refine @aa0 _ (aeb _) fun ⟨u',q',ru',m6,e'⟩=>?_
    obtain ⟨a,_,_,rfl,_⟩:=id hq
    obtain ⟨a',_,_,rfl,_⟩:=id m6
    have r1:y=Value.ref a:=ru
    have r2:y=Value.ref a':=ru'
    rw [r1] at r2
    cases r2
    exact c ((EA I hq m6).trans e')
  rw [e] at z
  exact z
 ·rw [afk,decide_eq_true_iff]
  simp only [List.any_toArray,afF]
  constructor
  ·rintro ⟨y,hy,ey⟩
   obtain ⟨j,hj,ej⟩:=ad0.mp hy
   obtain ⟨u,q,eu,eq,ru,hq⟩:=key j y (by rw [gE hj,ej])
   obtain ⟨u',q',ru',m6,e'⟩:= @aaU _ (aeb _) ey
   obtain ⟨a,_,_,rfl,_⟩:=id hq
   obtain ⟨a',_,_,rfl,_⟩:=id m6
   have r1:y=Value.ref a:=ru
   have r2:y=Value.ref a':=ru'
   rw [r1] at r2
   cases r2
   rw [<-e',<-EA I hq m6]
   exact aam eq
  ·intro hm
   obtain ⟨j,hj,ej⟩:=ad0.mp hm
   have lu:us.length=ps.length:=aaK hp
   have li:us.length=its.length:=rv.length
   have Yi :j<its.length:=by omega
   refine ⟨its[j],ad3 Yi,?_⟩
   obtain ⟨u,q,eu,eq,ru,hq⟩:=key j its[j] (gE Yi)
   rw [gE hj,ej] at eq
   cases eq
   exact @aaS _ (aeb _) ⟨u,p,ru,hq,rfl⟩
theorem Qt (hu:X.A.units+64<abG):kc X (aba .In) (Yg X.K false):=by
 intro pins s σ H x y v u Q I rx ry h
 obtain ⟨p,l,us,ps,rfl,hq,hx,hp,q⟩:=h
 cases ry
 obtain ⟨its,rv,pl,hz⟩:=I.list hq
 obtain ⟨e,he,ea⟩:=Yh (A:=X.A.in1) I (by rw [in1_units];omega) hx rx hp rv
 refine SeqAt.in_listAt e pl.isList he ⟨.bl _,H,I,rfl,?_⟩
 rw [ea]
 exact q
end
theorem i9 {R:(Str×α)->(Key×V)->Prop}:∀{l:List (Str×α)} {kvs:γ},Paired (fun b kv=>kv.1=.inr b.1/\R b kv) l kvs->(l.map (·.1)).Nodup->(x,y)∈l->∃v,bF kvs (.inr x)=some v/\R (x,y) (.inr x,v):=fun {l kvs} p nd m=>by
 induction p with
 | nil=>cases m
 | cons h t ih=>
  rw [aau,adQ] at nd
  rcases adD.mp m with e|m
  ·subst e
   refine ⟨_,bT h.1,?_⟩
   have h2:=h.2
   rw [<-h.1]
   exact h2
  ·obtain ⟨v,e,r⟩:=ih nd.2 m
   refine ⟨v,?_,r⟩
   rw [bD (fun z=>?_)]
   ·exact e
   ·rw [h.1] at z
    exact nd.1 (adZ z▸aat.mpr ⟨_,m,rfl⟩)
def zJ (K:Frag)(H:Hp)(pw:Τ)(kW:γ):Prop:=
 Paired (fun (p:Str×List (Rat×Rat)) (kv:Key×V)=>kv.1=.inr p.1/\∃l us,kv.2=.ref l/\H l=some (.lst us)/\kj K H us p.2) pw kW
theorem zJ.same {K:Frag}(h:zJ K H pw kW)(s:ao H H'):zJ K H' pw kW:=
 Paired.cF h fun _ _ z=>⟨z.1,by obtain ⟨l,us,e1,e2,e3⟩:=z.2;exact ⟨l,us,e1,s _ _ e2,e3.same s⟩⟩
theorem zJ.dict {K:Frag}(h:zJ K H pw kW)(e:H d=some (.dK kvs)):zJ K (upd H d o) pw kW:=
 Paired.cF h fun _ _ z=>⟨z.1,by
  obtain ⟨l,us,e1,e2,e3⟩:=z.2
  exact ⟨l,us,e1,by rw [aj (fun q=>by rw [q,e] at e2;cases e2)];exact e2,e3.aK (.dict e)⟩⟩
theorem zJ.keys {K:Frag}(h:zJ K H pw kW):kW.map (·.1)=(pw.map (·.1)).map (fun b=>(adR b:Key)):=by
 rw [h_ h,adu]
 rfl
theorem gI.ends {K:Frag}(R:gI K H C a dx pP pW pB ps bs kP kW kB)(nd:(bs.map (·.1)).Nodup)(m:(x,one,other)∈bs):
  ∃p,bF kB (.inr x)=some (.ref p)/\Rd H p (.tup [.str one,.str other]):=by
 obtain ⟨v,e,p,ep,r⟩:=i9 R.rb nd m
 have CW :v=.ref p:=ep
 exact ⟨p,by rw [e,CW],r⟩
theorem gI.place {K:Frag}(R:gI K H C a dx pP pW pB ps bs kP kW kB)(nd:(ps.map (·.1)).Nodup)(m:(x,p)∈ps):
  ∃v,bF kP (.inr x)=some v/\Spot K H v p:=i9 R.rp nd m
end Ty
namespace Ty
open PySem PySem.Spec PyProof.Rows L2
structure aD where
 nm:Str
 sp:Rat×Rat
 ws:List (Rat×Rat)
abbrev _root_.ν:=List aD
structure aV where
 nm:Str
 one:aD
 other:aD
abbrev _root_.τ:=List aV
inductive vw (K:Frag)(H:Hp)(C a:aaz)(pins:ν)(bars:τ):Prop
|mk (dx pP pW pB:aaz)(kP kW kB:γ)(_:gI K H C a dx pP pW pB (pins.map fun p=>(p.nm,yc p.sp)) (bars.map fun b=>(b.nm,b.one.nm,b.other.nm)) kP kW kB)(_:zJ K H (pins.map fun p=>(p.nm,p.ws)) kW)
theorem vw.ex {K:Frag}(h:vw K H C a pins bars):vw K H C a pins bars:=h
structure eC (pins:ν)(bars:τ):Prop where
 np:(pins.map (·.nm)).Nodup
 nb:(bars.map (·.nm)).Nodup
 ends:∀b∈bars,b.one∈pins/\b.other∈pins/\b.one.nm≠b.other.nm
 sz:∀p∈pins,Sz 24 p.sp.1/\Sz 24 p.sp.2/\∀w∈p.ws,Sz 22 w.1/\Sz 22 w.2
 lp:pins.length<=9
 lb:bars.length<=14
 lw:∀p∈pins,p.ws.length<=2
theorem vw.same {K:Frag}(h:vw K H C a pins bars)(s:ao H H'):vw K H' C a pins bars:=by
 obtain ⟨dx,pP,pW,pB,kP,kW,kB,R,W⟩:=h.ex
 exact ⟨dx,pP,pW,pB,kP,kW,kB,R.same s,W.same s⟩
def My (K:Frag)(H:Hp)(kvs:γ)(F:ι):Prop:=
 ∀nm,(bF kvs (.inr nm)=none/\F nm=none)\/∃v p,bF kvs (.inr nm)=some v/\F nm=some p/\gu K H v p
section
variable {K:Frag}{H H':Hp}{kvs:γ}
theorem My.same (h:My K H kvs F)(s:ao H H'):My K H' kvs F:=fun nm=>by
 rcases h nm with h|⟨v,q,h1,h2,h3⟩
 ·exact .inl h
 ·exact .inr ⟨v,q,h1,h2,h3.same s⟩
theorem My.AO (h:My K H kvs F)(n:gu K H v q):gu K H ((bF kvs (.inr x)).getD v) ((F x).getD q):=by
 rcases h x with ⟨h1,h2⟩|⟨u,q',h1,h2,h3⟩
 ·rw [h1,h2]
  exact n
 ·rw [h1,h2]
  exact h3
end
end Ty
namespace Ty
open PySem PySem.Spec PyProof.Rows L2
theorem Qu {K:Frag}{g:TG}{tb:TS}{D:Ends}(Pv:Nat->L2.St->Hp->Prop)(h0:Pv 0 σ H)(hl:∀i σ H,Pv i σ H->aR K H a xs/\aR K H b ys)
  (hs:∀i x y σ H p,xs[i]?=some x->ys[i]?=some y->Pv i σ H->H p=none->g (.ref p) σ (upd H p (.tup [x,y])) fun σ2 H2=>tb {D with nx:=Pv (i+1),ct:=Pv (i+1),bk:=D.nx} σ2 H2) (hd:∀σ H,Pv (min xs.length ys.length) σ H->D.nx σ H):
  ∃W:Nat->Nat->L2.St->Hp->Prop,(∃m,W 0 m σ H)/\∀i m σ H,W i m σ H->
   ((Uy K a b).stop i H/\D.nx σ H)\/((Uy K a b).go i H/\∃N:L2.St->Hp->Prop,(∀σ' H',N σ' H' ->∃m',m'<m/\W (i+1) m' σ' H')/\∀x H',(Uy K a b).CZ i H x H' ->g x σ H' fun σ2 H2=>tb {D with nx:=N,ct:=N,bk:=D.nx} σ2 H2):=by
 refine ⟨fun i m σ H=>m=min xs.length ys.length-i/\i<=min xs.length ys.length/\Pv i σ H,⟨min xs.length ys.length,by simp,adS _,h0⟩,?_⟩
 rintro i m σ H ⟨rfl,hi,p⟩
 obtain ⟨q1,q2⟩:=hl i σ H p
 by_cases kN:i<min xs.length ys.length
 ·have l1:i<xs.length:=by omega
  have l2:i<ys.length:=by omega
  refine .inr ⟨⟨xs,ys,xs[i],ys[i],q1,q2,gE l1,gE l2⟩,Pv (i+1),fun σ' H' z=>⟨min xs.length ys.length-(i+1),by omega,rfl,by omega,z⟩,fun v H' y=>?_⟩
  obtain ⟨c,x,y,e1,e2,rfl,nc,rfl⟩:=y
  exact hs i x y σ H c (e1 xs q1) (e2 ys q2) p nc
 ·have e:i=min xs.length ys.length:=by omega
  subst e
  exact .inl ⟨⟨xs,ys,q1,q2,by omega⟩,hd σ H p⟩
end Ty
namespace Ty
open PySem PySem.Spec PyProof.Rows L2
theorem UO {α:Type}{nm:α->Str}{l:List α}(nd:(l.map nm).Nodup){b b':α}(h:b∈l)(h':b' ∈l)(e:nm b=nm b'):b=b':=by
 obtain ⟨i,hi,ei⟩:=ad0.mp h
 obtain ⟨j,hj,ej⟩:=ad0.mp h'
 have q1:(l.map nm)[i]?=some (nm b):=by rw [Wp,gE hi,ei];rfl
 have q2:(l.map nm)[j]?=some (nm b):=by rw [Wp,gE hj,ej,e];rfl
 have ij:=(aeC (by rw [be];exact hi) nd).mp (q1.trans q2.symm)
 subst ij
 rw [<-ei,<-ej]
theorem gS {α:Type}{nm:α->Str}{l:List α}(nd:(l.map nm).Nodup){b b':α}(h:l[i]?=some b)(m:b' ∈l.take i):nm b'≠nm b:=fun e=>by
 have il:=(ir.mp h).1
 obtain ⟨j,hj,ej⟩:=ad0.mp m
 rw [afW] at ej
 rw [adm] at hj
 have q1:(l.map nm)[j]?=some (nm b):=by rw [Wp,gE (by omega),ej,<-e];rfl
 have q2:(l.map nm)[i]?=some (nm b):=by rw [Wp,h];rfl
 have:=(aeC (by rw [be];omega) nd).mp (q1.trans q2.symm)
 omega
theorem take_snoc {α:Type}{l:List α}{b:α}(h:l[i]?=some b):l.take (i+1)=l.take i++[b]:=by rw [adU,h];rfl
end Ty
namespace Ty
open PySem PySem.Spec PyProof.Rows L2
theorem nQ (s:ao H H')(n:H' p=none):H p=none:=by
 cases e:H p with
 | none=>rfl
 | some o=>rw [s _ _ e] at n;cases n
end Ty
namespace Ty
open PySem PySem.Spec PyProof.Rows L2
section
variable {X:Cx}
end
section
variable {D:aaz}{te:TE}{cap:L2.St}{H1:Hp}{Q:VK}
end
abbrev gT (h:Heap)(z TI TO:aaz)(f0:Value)(fb:Bool):Prop:=
 h.get? z=some {cls:=.type "zip",dict:=none,data:=.fields #[f0,.bool fb,.bool false,.ref TI,.ref TO],slots:= #[]}
section
variable {prog:aaP}{w:World}{A:aaT}{E:δ}{s:aaH}
theorem yd (h:s.heap.get? a=some o)(q:Q (some o) s):aaE (aaJ prog w) A (loadIfAlive a) Q E s:=fun Γ p _=>by
 show Sem.wp _ _ (.loadIfAlive a .pure) _ _ _ _
 rw [Sem.wp_loadIfAlive,h]
 exact q
theorem ye {z TI TO T:aaz}(hz:gT s.heap z TI TO (abk T) fb)(hT:s.heap.get? T=some o)
  (hQ:∀h',gT h' z TI TO (abk T) true->abl z s.heap h' ->Q false {s with heap:=h'}):aaE (aaJ prog w) A (aaW (.ref z)) Q E s:=by
 unfold aaW
 refine aay (abd hz rfl (x:=abk T) rfl ?_)
 show aaE _ _ (loadIfAlive ((T:Int)).toNat >>=_) _ _ _
 refine aay (yd (o:=o) (by simpa using hT) ?_)
 simp only [Option.isNone_some,aeP,if_false]
 refine aay (abd hz rfl (x:=.bool fb) rfl ?_)
 cases fb with
 | true=>
  show aaE _ _ (if (Value.bool true !=Value.bool true)=true then _ else _) _ _ _
  rw [aaA (by decide)]
  exact aaF (hQ s.heap hz ⟨rfl,fun _ _=>rfl⟩)
 | false=>
  show aaE _ _ (if (Value.bool false !=Value.bool true)=true then _ else _) _ _ _
  rw [aaC (by decide)]
  refine aay (abA hz (by simp) fun h' hz' S5 =>aaF (hQ h' hz' S5))
theorem HN {z TI TO T i1 i2 l1 l2:aaz}{xs ys:Ν}{Q:δ}(D:ZipApart z TI TO i1 i2 l1 l2)
  (hz:gT s.heap z TI TO (abk T) fb) (hT:s.heap.get? T=some o) (gm:aa9 s.heap TI (.ref i1) (.ref i2))
  (h1:s.heap.IsListIter i1 l1 k1) (h2:s.heap.IsListIter i2 l2 k2) (EB:s.heap.IsList l1 xs) (AF:s.heap.IsList l2 ys) (hx:xs[k1]?=some x) (hy:ys[k2]?=some y)
  (hQ:∀h',gT h' z TI TO (abk T) true->h'.IsListIter i1 l1 (k1+1)->h'.IsListIter i2 l2 (k2+1)->aa9 h' s.heap.objs.size x y->h'.objs.size=s.heap.objs.size+1->
   (∀c o,c≠z->c≠i1->c≠i2->s.heap.get? c=some o->h'.get? c=some o)->Q (.ref s.heap.objs.size) {s with heap:=h'}):
  aaE (aaJ prog w) A (Builtin.«zip.__next__» ⟨[.ref z],[]⟩) (fun fin s'=>∃v,fin=.done (.ret v)/\Q v s') E s:=by
 show aaE _ _ (field (.ref z) 2 >>=_) _ _ _
 refine aay (abd hz rfl (x:=.bool false) rfl ?_)
 show aaE _ _ (field (.ref z) 3 >>=_) _ _ _
 refine aay (abd hz rfl (x:=.ref TI) rfl ?_)
 refine aay (abn gm rfl ?_)
 show aaE _ _ (aaW (.ref z) >>=_) _ _ _
 refine aay (ye hz hT fun h₁ hz₁ AR=>?_)
 simp only [aeP,if_false]
 refine aay ?_
 show aaE _ _ (forIn [Value.ref i1,Value.ref i2].toArray _ _) _ _ _
 rw [amq]
 simp only [af',agq]
 refine aay (aay (abi ?_))
 show aaE _ _ (aaX (.ref i1) >>=_) _ _ _
 refine aay (acg (h1.extBut AR.extBut D.i1z) (EB.extBut AR.extBut D.l1z) hx fun h₂ h1₂ Mz=>aaF ?_)
 refine aaF ?_
 refine aay (aay (abi ?_))
 show aaE _ _ (aaX (.ref i2) >>=_) _ _ _
 refine aay (acg ((h2.extBut AR.extBut D.i2z).extBut Mz.extBut D.i12.symm) ((AF.extBut AR.extBut D.l2z).extBut Mz.extBut D.l2i1) hy fun h₄ h2₄ Wv=>aaF ?_)
 refine aaF (aaF ?_)
 refine aay (wpAny_newTuple (hsz:=(by show 2<=aaD;decide)) ?_)
 have hsz:h₄.objs.size=s.heap.objs.size:=by rw [Wv.1,Mz.1,AR.1]
 refine aaF ⟨_,rfl,?_⟩
 have hz₄:gT h₄ z TI TO (abk T) true:=Wv.extBut _ _ D.i2z.symm (Mz.extBut _ _ D.i1z.symm hz₁)
 show Q (.ref h₄.objs.size) _
 rw [hsz]
 refine hQ _ (aaB _ hz₄) ((h1₂.extBut Wv.extBut D.i12).at fun o e=>aaB _ e) (h2₄.at fun o e=>aaB _ e) ?_ (by rw [abb,hsz]) fun c o c1 c3 c4 e=>aaB _ (Wv.extBut _ _ c4 (Mz.extBut _ _ c3 (AR.extBut _ _ c1 e)))
 show (h₄.push _).get? _=_
 rw [<-hsz]
 exact aaL _ rfl
theorem MA {z TI TO T i1 i2 l1 l2:aaz}{xs ys:Ν}(hh:A.handled=none)(D:ZipApart z TI TO i1 i2 l1 l2)
  (hz:gT s.heap z TI TO (abk T) fb) (hT:s.heap.get? T=some o) (gm:aa9 s.heap TI (.ref i1) (.ref i2))
  (h1:s.heap.IsListIter i1 l1 k1) (h2:s.heap.IsListIter i2 l2 k2) (EB:s.heap.IsList l1 xs) (AF:s.heap.IsList l2 ys) (HP:xs[k1]?=none\/ys[k2]?=none)
  (hE:∀h' e,(∀c o,c≠z->c≠i1->c≠i2->s.heap.get? c=some o->h'.get? c=some o)->(∃o,h'.get? e=some o/\o.cls=.type "StopIteration")->E (.ref e) {s with heap:=h'}):
  aaE (aaJ prog w) A (Builtin.«zip.__next__» ⟨[.ref z],[]⟩) Q E s:=by
 show aaE _ _ (field (.ref z) 2 >>=_) _ _ _
 refine aay (abd hz rfl (x:=.bool false) rfl ?_)
 show aaE _ _ (field (.ref z) 3 >>=_) _ _ _
 refine aay (abd hz rfl (x:=.ref TI) rfl ?_)
 refine aay (abn gm rfl ?_)
 show aaE _ _ (aaW (.ref z) >>=_) _ _ _
 refine aay (ye hz hT fun h₁ hz₁ AR=>?_)
 simp only [aeP,if_false]
 refine aay ?_
 show aaE _ _ (forIn [Value.ref i1,Value.ref i2].toArray _ _) _ _ _
 rw [amq]
 simp only [af',agq]
 refine aay (aay (abi ?_))
 show aaE _ _ (aaX (.ref i1) >>=_) _ _ _
 cases hx:xs[k1]? with
 | none=>
  refine aay (wpAny_nextOf_list_end hh (h1.extBut AR.extBut D.i1z) (EB.extBut AR.extBut D.l1z) hx fun h₂ e Mz he=>?_)
  exact hE h₂ e (fun c o c1 c3 _ x=>Mz _ _ c3 (AR.extBut _ _ c1 x)) he
 | some x=>
  have hy:ys[k2]?=none:=by rcases HP with h|h;rw [hx] at h;cases h;exact h
  refine aay (acg (h1.extBut AR.extBut D.i1z) (EB.extBut AR.extBut D.l1z) hx fun h₂ h1₂ Mz=>aaF ?_)
  refine aaF ?_
  refine aay (aay (abi ?_))
  show aaE _ _ (aaX (.ref i2) >>=_) _ _ _
  refine aay (wpAny_nextOf_list_end hh ((h2.extBut AR.extBut D.i2z).extBut Mz.extBut D.i12.symm) ((AF.extBut AR.extBut D.l2z).extBut Mz.extBut D.l2i1) hy fun h₄ e Wv he=>?_)
  exact hE h₄ e (fun c o c1 c3 c4 x=>Wv _ _ c4 (Mz.extBut _ _ c3 (AR.extBut _ _ c1 x))) he
theorem AS {z TI TO T i1 i2 l1 l2:aaz}{xs ys:Ν}{Q:Ο}(D:ZipApart z TI TO i1 i2 l1 l2)
  (hz:gT s.heap z TI TO (abk T) fb) (hT:s.heap.get? T=some o) (gm:aa9 s.heap TI (.ref i1) (.ref i2))
  (h1:s.heap.IsListIter i1 l1 k1) (h2:s.heap.IsListIter i2 l2 k2) (EB:s.heap.IsList l1 xs) (AF:s.heap.IsList l2 ys) (hx:xs[k1]?=some x) (hy:ys[k2]?=some y)
  (hQ:∀h',gT h' z TI TO (abk T) true->h'.IsListIter i1 l1 (k1+1)->h'.IsListIter i2 l2 (k2+1)->aa9 h' s.heap.objs.size x y->h'.objs.size=s.heap.objs.size+1->
   (∀c o,c≠z->c≠i1->c≠i2->s.heap.get? c=some o->h'.get? c=some o)->Q (some (.ref s.heap.objs.size)) {s with heap:=h'}):
  aaE (aaJ prog w) A (abL (.ref z)) Q E s:=by
 have Yj :s.TypeIs (.ref z) "zip":=⟨_,hz,rfl⟩
 unfold abL
 exact aay (wpAny_attempt (wpAny_callSpecial?_slot (name:=aa6 "__next__") Yj abq
  (abx abq Yj ahd
   (HN D hz hT gm h1 h2 EB AF hx hy fun h' a1 a3 a4 a5 a6 a7=>aaF (hQ h' a1 a3 a4 a5 a6 a7)) (ag9 _))))
theorem HQ {z TI TO T i1 i2 l1 l2:aaz}{xs ys:Ν}{Q:Ο}(hh:A.handled=none)(D:ZipApart z TI TO i1 i2 l1 l2)
  (hz:gT s.heap z TI TO (abk T) fb) (hT:s.heap.get? T=some o) (gm:aa9 s.heap TI (.ref i1) (.ref i2))
  (h1:s.heap.IsListIter i1 l1 k1) (h2:s.heap.IsListIter i2 l2 k2) (EB:s.heap.IsList l1 xs) (AF:s.heap.IsList l2 ys) (HP:xs[k1]?=none\/ys[k2]?=none)
  (hQ:∀h',(∀c o,c≠z->c≠i1->c≠i2->s.heap.get? c=some o->h'.get? c=some o)->Q none {s with heap:=h'}):aaE (aaJ prog w) A (abL (.ref z)) Q E s:=by
 have Yj :s.TypeIs (.ref z) "zip":=⟨_,hz,rfl⟩
 unfold abL
 refine aay (wpAny_attempt (wpAny_callSpecial?_slot (name:=aa6 "__next__") Yj abq
  (abx abq Yj ahd (MA hh D hz hT gm h1 h2 EB AF HP fun h' e hk he=>?_) (ag9 _))))
 obtain ⟨o,ho,hc⟩:=he
 refine aay (wpAny_isInstance (T:="StopIteration") (b:=true) ⟨o,ho,hc⟩ isSubtype_stop ?_)
 exact aaF (hQ _ hk)
end
def OI (h:Heap)(z TI TO i1 i2 a b S:aaz)(i:Nat):Prop:=(gT h z TI TO .none false\/∃(T:aaz)(o:Obj)(fb:Bool),gT h z TI TO (abk T) fb/\h.get? T=some o/\T≠z/\T≠TO/\T≠i1/\T≠i2/\T≠S)/\aa9 h TI (.ref i1) (.ref i2)/\(∃x y,aa9 h TO x y)/\h.IsListIter i1 a i/\h.IsListIter i2 b i
section
variable {prog:aaP}{w:World}{A:aaT}{E:δ}{s:aaH}{z TI TO i1 i2 a b S:aaz}{i:Nat}
theorem OI.frame (st:OI h z TI TO i1 i2 a b S i)(k:∀c o,c≠S->h.get? c=some o->h'.get? c=some o)(nz:z≠S)(n1:TI≠S)(n2:TO≠S)(n3:i1≠S)(n4:i2≠S):OI h' z TI TO i1 i2 a b S i:=by
 obtain ⟨hz,gm,⟨x,y,jW⟩,h1,h2⟩:=st
 refine ⟨?_,k _ _ n1 gm,⟨x,y,k _ _ n2 jW⟩,h1.at fun o e=>k _ o n3 e,h2.at fun o e=>k _ o n4 e⟩
 rcases hz with hz|⟨T,o,fb,hz,hT,t1,t2,t3,t4,t5⟩
 ·exact .inl (k _ _ nz hz)
 ·exact .inr ⟨T,o,fb,k _ _ nz hz,k _ _ t5 hT,t1,t2,t3,t4,t5⟩
theorem OI.item {xs ys:Ν}{Q:Ο}(D:ZipApart z TI TO i1 i2 a b)(st:OI s.heap z TI TO i1 i2 a b S i)(hS:s.heap.get? S=some oS)
  (EB:s.heap.IsList a xs) (AF:s.heap.IsList b ys) (hx:xs[i]?=some x) (hy:ys[i]?=some y)
  (hQ:∀h',OI h' z TI TO i1 i2 a b S (i+1)->aa9 h' s.heap.objs.size x y->(∀c o,c∉[z,TI,TO,i1,i2]->s.heap.get? c=some o->h'.get? c=some o)->Q (some (.ref s.heap.objs.size)) {s with heap:=h'}):
  aaE (aaJ prog w) A (abL (.ref z)) Q E s:=by
 obtain ⟨hz,gm,⟨x0,y0,jW⟩,h1,h2⟩:=st
 have lt:∀{c o},s.heap.get? c=some o->s.heap.objs.size≠c:=fun e=>afa (aaI e)
 have e1:∃o,s.heap.get? i1=some o:=by obtain ⟨o,e,_⟩:=h1;exact ⟨o,e⟩
 have e2:∃o,s.heap.get? i2=some o:=by obtain ⟨o,e,_⟩:=h2;exact ⟨o,e⟩
 obtain ⟨o1,e1⟩:=e1
 obtain ⟨o2,e2⟩:=e2
 have Yk:∀{c:aaz},c∉[z,TI,TO,i1,i2]->c≠z/\c≠TI/\c≠TO/\c≠i1/\c≠i2:=fun h=>by simpa using h
 rcases hz with hz|⟨T,o,fb,hz,hT,t1,t2,t3,t4,t5⟩
 ·refine wpAny_pyNext_zip_item D hz gm jW h1 h2 EB AF hx hy fun h' a1 a2 a3 a4 a5 a6 a7=>?_
  refine hQ h' ⟨.inr ⟨_,_,false,a1,a5,lt hz,lt jW,lt e1,lt e2,lt hS⟩,a7 _ _ D.TIz D.TITO D.TIi1 D.TIi2 gm,⟨_,_,a2⟩,a3,a4⟩ a5 fun c o hc e=>?_
  obtain ⟨c1,c2,c3,c4,c5⟩:=Yk hc
  exact a7 c o c1 c3 c4 c5 e
 ·refine AS D hz hT gm h1 h2 EB AF hx hy fun h' a1 a3 a4 a5 a6 a7=>?_
  refine hQ h' ⟨.inr ⟨T,o,true,a1,a7 _ _ t1 t3 t4 hT,t1,t2,t3,t4,t5⟩,a7 _ _ D.TIz D.TIi1 D.TIi2 gm,⟨_,_,a7 _ _ D.TOz D.TOi1 D.TOi2 jW⟩,a3,a4⟩ a5 fun c o hc e=>?_
  obtain ⟨c1,c2,c3,c4,c5⟩:=Yk hc
  exact a7 c o c1 c4 c5 e
theorem OI.fin {xs ys:Ν}{Q:Ο}(hh:A.handled=none)(D:ZipApart z TI TO i1 i2 a b)(st:OI s.heap z TI TO i1 i2 a b S i)
  (EB:s.heap.IsList a xs) (AF:s.heap.IsList b ys) (HP:xs[i]?=none\/ys[i]?=none)
  (hQ:∀h',(∀c o,c∉[z,TI,TO,i1,i2]->s.heap.get? c=some o->h'.get? c=some o)->Q none {s with heap:=h'}):aaE (aaJ prog w) A (abL (.ref z)) Q E s:=by
 obtain ⟨hz,gm,⟨x0,y0,jW⟩,h1,h2⟩:=st
 have Yk:∀{c:aaz},c∉[z,TI,TO,i1,i2]->c≠z/\c≠TI/\c≠TO/\c≠i1/\c≠i2:=fun h=>by simpa using h
 rcases hz with hz|⟨T,o,fb,hz,hT,t1,t2,t3,t4,t5⟩
 ·refine wpAny_pyNext_zip_end hh D hz gm jW h1 h2 EB AF HP fun h' kk=>hQ h' fun c o hc e=>?_
  obtain ⟨c1,c2,c3,c4,c5⟩:=Yk hc
  exact kk c o c1 c3 c4 c5 e
 ·refine HQ hh D hz hT gm h1 h2 EB AF HP fun h' kk=>hQ h' fun c o hc e=>?_
  obtain ⟨c1,c2,c3,c4,c5⟩:=Yk hc
  exact kk c o c1 c4 c5 e
end
end Ty
namespace Ty
open PySem PySem.Spec PyProof.Rows L2
section
variable {X:Cx}{pins:ε}{σ:L2.St}
theorem HR (h:H p=none)(o:HO):ao H (upd H p o):=fun b u q=>by rw [aj (ak q h)];exact q
end
section
variable {X:Cx}
section
variable {k:Nat}{m:Str}{pos apos:Pos}{e o:Expr}{es:Ε}{ta:TE}{t:TA}
end
end
section
variable {P:aaP}{w:World}{K:Frag}{mg:θ}{base:Heap}
end
theorem Qv (l:aaz)(its:Ν)(n:Nat)(b:aaz)(fJ:Ν)(n2:Nat)(d:Κ)(sl:Ξ)(hs0:¬(!its.isEmpty && abp (its.size+fJ.size))=true)(hs1:its.size<=aaD)(DE:its.size+fJ.size<=aaD+1):
  Meets (Builtin.«list.extend» ⟨[.ref l,.ref b],[]⟩) (fun _ R s=>s.heap.get? l=some {cls:=.type "list",dict:=none,data:=.seq its n,slots:= #[]}/\s.heap.get? b=some {cls:=.type "tuple",dict:=d,data:=.seq fJ n2,slots:=sl}/\
   R (.ok (.ret Value.none)) {s with heap:=s.heap.update l (abH fun x=>x++fJ),toks:=s.toks}):=
 .of_wp fun prog w A R s h=>by
  obtain ⟨hp,g,dd,tk,os⟩:=s
  obtain ⟨hl,hb,h⟩:=h
  have f1:=AutoSeq1.idx_int
  have f2:=AutoSeq1.sub_tuple_tuple
  have f3:=AutoSeq1.sub_list_list
  have f4:=AutoSeq1.sub_tuple_list
  have f5:=AutoSeq1.sub_list_tuple
  have hz':(its++fJ).size<=aaD+1:=by rw [Array.size_append];exact DE
  wp_walk using (ahk hl rfl (hz:=hs1) (_hz':=hz')),wpAny_loadPart' hl,wpAny_loadPart' hb
  exact ⟨_,rfl,h⟩
section
variable {X:Cx}
def Yl (K:Frag):V->List V->Hp->VK->Prop:=fun x vs H Q=>∃l b xs zs,x=.ref l/\vs=[.ref b]/\H l=some (.lst xs)/\bM K H b zs/\xs.length+zs.length<=1000/\Q .cS (upd H l (.lst (xs++zs)))
theorem Qw:MtR X "list.extend" (Yl X.K):=by
 intro pins s σ H x vs v us Q I rx rv h
 obtain ⟨l,b,xs,zs,rfl,rfl,hH,hB,hz,q⟩:=h
 cases rx
 obtain ⟨u,rfl,ru⟩:=rv.one
 cases ru
 obtain ⟨z,its,n,r,hl,e⟩:=I.qF hH
 obtain ⟨fJ,r2,tp,z2⟩:=I.tuple hB
 have AF:=r2.length
 have big:(1000:Nat)<=aaD:=by decide
 have hsz:its.toArray.size+fJ.toArray.size<=aaD:=by rw [adC,adC];omega
 have LQ:¬ (!its.toArray.isEmpty && abp (its.toArray.size+fJ.toArray.size))=true:=by
  rw [xK hsz,agm]
  exact adx
 obtain ⟨⟨c,d,dt,sl⟩,e2,hc,n2,hd⟩:=tp
 obtain rfl:c=Value.type "tuple":=hc
 obtain rfl:dt=_:=hd
 refine call_meets F.slot_list_extend ⟨_,e,rfl⟩ F.entry_list_extend (F.args_list_extend_2 _ _)
  (Qv l its.toArray n b fJ.toArray n2 d sl LQ (by rw [adC];omega) (by omega)) ⟨e,e2,?_⟩
 refine ⟨.cS,_,I.Xx (its':=its++fJ) hH e (by simp) (r.append r2) ?_,rfl,q⟩
 rw [adl]
 omega
end
theorem vx:typeLookup (.type "zip") "__getattr__"=pure none:=by rw [typeLookup_type,builtinLookup_eq_fast];kernel_rfl
theorem HU:typeLookup (.type "zip") "keys"=pure none:=by rw [typeLookup_type,builtinLookup_eq_fast];kernel_rfl
theorem AU:entryFor table "zip.__getattribute__"=some Builtin.«object.__getattribute__»:=
 entryFor_alias (id':="object.__getattribute__") (by kernel_rfl) (by decide+kernel) (by decide+kernel) (by kernel_rfl)
theorem oM:entryFor table "dict.update.loop"=some Builtin.«dict.update.loop»:=entryFor_of_tree (by kernel_rfl)
theorem ib:plainId "dict.update.loop"=true:=by decide+kernel
theorem MD (a:aaz)(vs:Ν)(u:Tok):
  Meets (Builtin.«object.__getattribute__» ⟨[.ref a,.str "keys" u],[]⟩) (fun A R s=>s.heap.get? a=some {cls:=.type "zip",dict:=none,data:=.fields vs,slots:= #[]}/\raisesAttr (.ref a) "keys" A R s):=
 Meets.of_wp fun prog w A R s hs=>by
  obtain ⟨hp,g,d,tk,os⟩:=s
  obtain ⟨hx,hs⟩:=hs
  have hT:(⟨hp,g,d,tk,os⟩:aaH).TypeIs (.ref a) "zip":=⟨_,hx,rfl⟩
  have hm:=HU
  unfold Builtin.«object.__getattribute__»
  repeat (any_goals (first|(assumption)|wp_step))
  exact wpAny_raiseAttrError hs.1 hs.2 (attrMsg_fits (by decide+kernel) (by decide+kernel))
section
variable {prog:aaP}{w:World}{A:aaT}{E:δ}{s:aaH}
theorem yf {vs:Ν}{Q:Ο}(hx:s.heap.get? z=some {cls:=.type "zip",dict:=none,data:=.fields vs,slots:= #[]})(hA:A.handled=none)
  (h:∀h' tk,(∀b o,s.heap.get? b=some o->h'.get? b=some o)->Q none {s with heap:=h',toks:=tk}):aaE (aaJ prog w) A (getAttr? (.ref z) "keys") Q E s:=by
 obtain ⟨hp,g,d,tk,os⟩:=s
 have hT:∀tk',(⟨hp,g,d,tk',os⟩:aaH).TypeIs (.ref z) "zip":=fun _=>⟨_,hx,rfl⟩
 have f1:=sub_AttributeError
 have f3:=F.slot_zip_getattribute.lookup
 have f4:=F.slot_zip_getattribute.bind (.ref z)
 have f5:=vx
 unfold getAttr? getAttrBy? getAttrBy
 repeat (any_goals (first|(assumption)|exact hT _|((with_reducible show aaE _ _ (call (Value.builtin "zip.__getattribute__") _ _) _ _ _);refine call_meets F.slot_zip_getattribute (hT _) AU (F.args_zip_getattribute_2 _ _) (MD z vs _) ⟨hx,hA,fun h' tk' e OD =>?_⟩)|wp_step))
 obtain ⟨t',u',he⟩:=OD.there
 show aaE _ _ (getattributeRaised _ _ _ _ _ _ _) _ _ _
 unfold getattributeRaised
 repeat (any_goals (first|(assumption)|wp_step))
 exact h _ _ OD.keeps
theorem s_ {z TI TO:aaz}{Q:δ}(hA:A.in1.in1.handled=none)(hz:abO s.heap z TI TO f0)
  (hL:∀(h':Heap)(tk:Nat)(R:Υ),(∀b o,s.heap.get? b=some o->h'.get? b=some o)->h'.get? s.heap.objs.size=some {cls:=.type "dict",data:=.dict #[]}->
   (∀s',Q (.ref s.heap.objs.size) s' ->R (.ok (.ret .none)) s')->abw (aaJ prog w) A.in1 (.builtin "dict.update.loop" ⟨[.ref s.heap.objs.size,.ref z,abk 0,.none],[]⟩) R {s with heap:=h',toks:=tk}):
  aaE (aaJ prog w) A (call (.type "dict") [.ref z]) Q E s:=by
 refine callType_codes (Q₁:=fun obj s₁=>obj=.ref s.heap.objs.size/\s₁={s with heap:=s.heap.push {cls:=.type "dict",data:=.dict #[]}}) F.kt_called_dict (F.kt_typeCall_dict_1 _) F.entry_dict_init (kt_code_dict_new _ ⟨rfl,rfl⟩) ?_
 rintro obj s₁ ⟨rfl,rfl⟩
 have hS:(s.heap.push {cls:=.type "dict",data:=.dict #[]}).get? s.heap.objs.size=some {cls:=.type "dict",data:=.dict #[]}:=aaL _ rfl
 have k0:∀b o,s.heap.get? b=some o->(s.heap.push {cls:=.type "dict",data:=.dict #[]}).get? b=some o:=fun b o e=>aaB _ e
 generalize hN:s.heap.objs.size=S at hS hL ⊢
 generalize s.heap.push {cls:=.type "dict",data:=.dict #[]}=hp at hS k0 ⊢
 have Ym:hp.get? z=_:=k0 _ _ hz
 have hTS:Shared.TypeIs {s with heap:=hp} (.ref S) "dict":=⟨_,hS,rfl⟩
 have hT:Shared.TypeIs {s with heap:=hp} (.ref z) "zip":=⟨_,Ym,rfl⟩
 refine ⟨hTS,F.args_dict_init_2 _ _,?_⟩
 unfold Builtin.«dict.__init__»
 refine aay ?_
 unfold Builtin.Dict.selfAndRest
 refine aay (wpAny_notOrdered_dict hTS ?_)
 refine aaF ?_
 show aaE _ _ (Builtin.Dict.updateFrom "dict.__init__" S (.ref z) [] .none) _ _ _
 unfold Builtin.Dict.updateFrom
 refine aay (wpAny_typeOf hT ?_)
 rw [aaC (by decide)]
 refine aay (yf (s:={s with heap:=hp}) Ym hA fun h' tk k1=>?_)
 rw [aaC (by rfl)]
 refine aay (wpAny_rule ?_)
 have hz3:abO h' z TI TO f0:=k1 _ _ Ym
 refine aay (acr (s:={s with heap:=h',toks:=tk}) hz3 ?_)
 exact aaF ⟨ahc ib _,hL _ _ _ (fun b o e=>k1 _ _ (k0 _ _ e)) (k1 _ _ hS) fun s' hq=>⟨rfl,hq⟩⟩
end
section
variable {X:Cx}{pins:ε}{σ:L2.St}
theorem yg (kvs more:γ)(kv:Key×V):df kvs (more++[kv])=putK (df kvs more) kv.1 kv.2:=by
 unfold df
 rw [amx]
 rfl
theorem UP {z TI TO i1 i2 a b S:aaz}{R:Υ}{ks:List Key}(hh:A'.in1.handled=none)(D:ZipApart z TI TO i1 i2 a b)(na:a≠S)(nb:b≠S)(hk1:ks.length<=1000):
  ∀(k i:Nat)(s:aaH)(H:Hp),min ks.length ys.length-i=k->i<=min ks.length ys.length->Inv X pins σ H s->(∀c∈[z,TI,TO,i1,i2],m7 X pins H c)->OI s.heap z TI TO i1 i2 a b S i->
  H a=some (.lst (ks.map kV))->H b=some (.lst ys)->H S=some (.dK (df [] ((ks.zip ys).take i)))->bS S H0 H->
  (∀s' H',Inv X pins σ H' s' ->bS S H0 H' ->H' S=some (.dK (df [] (ks.zip ys)))->R (.ok (.ret .none)) s')->
  abw (aaJ X.prog X.w) A' (.builtin "dict.update.loop" ⟨[.ref S,.ref z,abk (i:Int),.none],[]⟩) R s:=by
 have aw3:(ks.zip ys).length=min ks.length ys.length:=amV
 intro k
 induction k with
 | zero=>
  intro i s H hk hi I hf st ha hb hS hks hR
  refine codeAny_builtin oM ?_
  rw [Around.under_plainId ib _]
  show aaE _ A'.in1 (abL (.ref z) >>=_) _ _ s
  obtain ⟨z1,its,n1,r1,l1,e1⟩:=I.qF ha
  obtain ⟨z2,Uz,n2,r2,l2,e2⟩:=I.qF hb
  rw [be] at l1
  refine aay (st.fin hh D ⟨_,e1,rfl,_,rfl⟩ ⟨_,e2,rfl,_,rfl⟩ ?_ fun h' kk=>?_)
  ·by_cases c:ks.length<=i
   ·exact .inl (by simp;omega)
   ·exact .inr (by simp;omega)
  ·rw [adN (by omega)] at hS
   exact aay (aaF (aaF (hR _ H (Inv.mm (t':=s.toks) I kk hf) hks hS)))
 | succ k ih=>
  intro i s H hk hi I hf st ha hb hS hks hR
  refine codeAny_builtin oM ?_
  rw [Around.under_plainId ib _]
  show aaE _ A'.in1 (abL (.ref z) >>=_) _ _ s
  obtain ⟨z1,its,n1,r1,l1,e1⟩:=I.qF ha
  obtain ⟨z2,Uz,n2,r2,l2,e2⟩:=I.qF hb
  have lx:i<ks.length:=by omega
  have ly:i<ys.length:=by omega
  obtain ⟨u,hu,ru⟩:=r1.get (i:=i) (x:=kV ks[i]) (by rw [Wp,gE lx];rfl)
  obtain ⟨v,hv,rv⟩:=r2.get (i:=i) (x:=ys[i]) (gE ly)
  obtain ⟨zS0,aw4,vs0,ae9,dd0⟩:=oH I.bH hS
  obtain ⟨oS,_,_,eS,_⟩:=id dd0
  refine aay (st.item D eS ⟨_,e1,rfl,_,rfl⟩ ⟨_,e2,rfl,_,rfl⟩ (x:=u) (y:=v) (by simpa using hu) (by simpa using hv) fun h' C' ht kk=>?_)
  have Ww:∀c∈[z,TI,TO,i1,i2],c≠S:=fun c hc e=>by
   have:=(hf c hc).1
   rw [e,hS] at this
   cases this
  have I2:Inv X pins σ H {s with heap:=h',toks:=s.toks}:=Inv.mm (t':=s.toks) I kk hf
  obtain ⟨zS,hdS,vs,rel,dd⟩:=oH I2.bH hS
  have hT:Shared.TypeIs {s with heap:=h',toks:=s.toks} (.ref s.heap.objs.size) "tuple":=⟨_,ht,rfl⟩
  refine aay (abi ?_)
  refine aay (wpAny_tryCatch ?_)
  unfold Builtin.Dict.pairItems
  refine aay (wpAny_typeOf hT ?_)
  rw [aaC (by decide)]
  refine aay (abn ht rfl (aaF ?_))
  show aaE _ A'.in1 (holding [u,v] (dictSet S u v)) _ _ _
  refine abi ?_
  have hlen:vs.length<=aaD:=by rw [<-rel.length];exact zS
  refine wpAny_dictSet_pairs (hsz:=hlen) (oG ru) dd fun h2 dd2 sb=>?_
  have he:∃q,h2.get? S=some q:=let ⟨q,_,_,hq,_⟩:=dd2;⟨q,hq⟩
  have etk:(ks.zip ys).take (i+1)=(ks.zip ys).take i++[(ks[i],ys[i])]:=by
   rw [adU]
   have:(ks.zip ys)[i]?=some (ks[i],ys[i]):=by rw [afH];exact ⟨gE lx,gE ly⟩
   rw [this]
   rfl
  have Yn:df [] ((ks.zip ys).take (i+1))=putK (df [] ((ks.zip ys).take i)) ks[i] ys[i]:=by rw [etk,yg]
  have hl:(putK (df [] ((ks.zip ys).take i)) ks[i] ys[i]).length<=aaD:=by
   rw [<-Yn]
   have h1:=iC ((ks.zip ys).take (i+1)) []
   rw [adm,ag5] at h1
   exact aav (show (df [] ((ks.zip ys).take (i+1))).length<=1000 by omega) (by decide)
  have I3:Inv X pins σ (upd H S (.dK (putK (df [] ((ks.zip ys).take i)) ks[i] ys[i]))) {s with heap:=h2,toks:=s.toks+1}:=qg (s:={s with heap:=h',toks:=s.toks}) (t':=s.toks+1) I2 (by rw [hS];exact True.intro) sb he (AI hl hdS (rel.put ks[i] rv) dd2)
  have kS:∀c o,c≠S->h'.get? c=some o->h2.get? c=some o:=fun c o n e=>(sb.2 c n).trans e
  refine aaF ⟨ahc ib _,?_⟩
  have nn:∀{c:aaz} {o:HO},H c=some o->c≠S->(upd H S (.dK (putK (df [] ((ks.zip ys).take i)) ks[i] ys[i]))) c=some o:=fun {c o} e n=>by rw [aj n];exact e
  refine ih (i+1) _ _ (by omega) (by omega) I3 (fun c hc=>?_) (C'.frame kS (Ww z (by simp)) (Ww TI (by simp)) (Ww TO (by simp)) (Ww i1 (by simp)) (Ww i2 (by simp))) (nn ha na) (nn hb nb) (by rw [Yn,ah]) (fun c o n e=>nn (hks c o n e) n) hR
  obtain ⟨f0,f1,f2,f3,f4,f5⟩:=hf c hc
  exact ⟨by rw [aj (Ww c hc)];exact f0,f1,f2,f3,f4,f5⟩
def UQ (ta:TA):TE:=fun σ H Q=>ta σ H fun vs H1=>∃(a b:aaz)(ks:List Key)(ys:η),vs=[.ref a,.ref b]/\H1 a=some (.lst (ks.map kV))/\H1 b=some (.lst ys)/\ks.length<=1000/\
 ∀(l:aaz)(H':Hp),ao H1 H' ->H1 l=none->H' l=some (.dK (df [] (ks.zip ys)))->Q (.ref l) H'
theorem boot_dict:aaY "dict"=some (.type "dict"):=by decide+kernel
theorem MF {p pos p' pos':Pos}(hc:X.calm=true)(hgl:Gl X "dict")(hml:X.mg "dict"=none)(hg:Gl X "zip")(hm:X.mg "zip"=none)(ha:PA X [e1,e2] ta)(hs:aaO [e1,e2] X.env=[(false,aaV e1 X.env),(false,aaV e2 X.env)]:=by rfl)(DE:aaO [e2] X.env=[(false,aaV e2 X.env)]:=by rfl)
  (hs3:aaO [(.Call (.Name "zip" p) [e1,e2] [] pos:Expr)] X.env=[(false,aaV (.Call (.Name "zip" p) [e1,e2] [] pos) X.env)]:=by rfl):
  PE X (.Call (.Name "dict" p') [.Call (.Name "zip" p) [e1,e2] [] pos] [] pos') (UQ ta):=by
 intro pins s σ H Q I h
 refine Call_ (i5 I hgl hml boot_dict (aa7 ?_ hs3 rfl))
 rw [hs3]
 show aaE _ _ (spliced ((false,aaV (.Call (.Name "zip" p) [e1,e2] [] pos) X.env)::[])) _ _ s
 refine abM ?_
 refine Call_ (i5 I hg hm boot_zip (aa7 (cI (ha pos pins s σ H _ I h) fun us s1 ⟨vs,H1,I1,r1,q1⟩=>?_) (by rw [hs,DE]) (by rw [DE];rfl)))
 obtain ⟨a,b,ks,ys,e,hx,hy,hkl,q⟩:=q1
 subst e
 cases r1 with
 | cons r rr=>
  cases rr with
  | cons r' rr=>
   cases rr
   cases r
   cases r'
   obtain ⟨z1,its,n1,r1,l1,e1⟩:=I1.qF hx
   obtain ⟨z2,Uz,n2,r2,l2,e2⟩:=I1.qF hy
   have lt1:a<s1.heap.objs.size:=aaI e1
   have XW:b<s1.heap.objs.size:=aaI e2
   refine call_zip_2 ⟨_,e1,rfl,_,rfl⟩ ⟨_,e2,rfl,_,rfl⟩ fun h' hz gm jW xQ UA hsz hk=>Calls.spliced_nil ?_
   have I2:Inv X pins σ H1 {s1 with heap:=h',toks:=s1.toks}:=I1.kept (t':=s1.toks) hk
   have hS:=I2.bH.fresh (aa_ h'.objs.size)
   refine s_ (s:={s1 with heap:=h'}) (I1.ok.hd hc) hz fun h2 tk R k2 Yo hR=>?_
   have lt':aaN<h'.objs.size:=(I2.mod.glob.keeps I2.bk).lt
   have ns:(h'.objs.size==abf)=false:=beq_eq_false_iff_ne.mpr (adO (adK (agR (by decide) lt')))
   have I3:Inv X pins σ (upd H1 h'.objs.size (.dK [])) {s1 with heap:=h2,toks:=tk}:=I2.laid (t':=tk) k2 (aa_ _) ⟨adS _,ns,[],.nil,_,_,_,Yo,⟨rfl,rfl,rfl⟩,rfl,fun _ he=>by simp at he,Pairs.nil,amg⟩
   have st:OI h2 (s1.heap.objs.size+4) (s1.heap.objs.size+2) (s1.heap.objs.size+3) s1.heap.objs.size (s1.heap.objs.size+1) a b h'.objs.size 0:=
    ⟨.inl (k2 _ _ hz),k2 _ _ gm,⟨_,_,k2 _ _ jW⟩,xQ.at fun o e=>k2 _ o e,UA.at fun o e=>k2 _ o e⟩
   have na:a≠h'.objs.size:=ak hx hS
   have nb:b≠h'.objs.size:=ak hy hS
   have EC:=HR hS (.dK [])
   refine UP (A':=X.A.in1) (H0:=H1) (ks:=ks) (ys:=ys) (I1.ok.hd hc) ?_ na nb hkl (min ks.length ys.length) 0 _ _ (by omega) (adS _) I3 (fun c' pE =>?_) st (EC _ _ hx) (EC _ _ hy) ah (fun b' o n e=>EC _ _ e) fun s' H' I' ks' UJ =>hR s' ⟨.ref h'.objs.size,H',I',rfl,q _ H' (fun b' o e=>ks' b' o (ak e hS) e) hS UJ⟩
   ·constructor<;>(intro z;simp only [aaz] at*;omega)
   ·have hc2:c'=s1.heap.objs.size+4\/c'=s1.heap.objs.size+2\/c'=s1.heap.objs.size+3\/c'=s1.heap.objs.size\/c'=s1.heap.objs.size+1:=by simpa using pE
    have hb:s1.heap.objs.size<=c':=by
     simp only [aaz] at*
     omega
    have hb2:c'≠h'.objs.size:=by
     rw [hsz]
     simp only [aaz] at*
     omega
    refine I1.m8 hb ?_
    rw [aj hb2]
    exact I1.bH.fresh hb
end
theorem cH.snoc {K:Frag}(h:cH K H us qs)(n:iS K H v q):cH K H (us++[v]) (qs++[q]):=by
 refine ⟨by simp [h.1],fun i u q' e1 e2=>?_⟩
 have l:=h.1
 by_cases c:i<us.length
 ·rw [adq c] at e1
  rw [adq (by omega)] at e2
  exact h.2 i u q' e1 e2
 ·rw [adv (by omega)] at e1 e2
  by_cases z:i-us.length=0
  ·rw [z] at e1
   rw [show i-qs.length=0 by omega] at e2
   cases e1
   cases e2
   exact n
  ·rw [aax (by simp;omega)] at e1
   cases e1
theorem cH.aK {K:Frag}(h:cH K H us qs)(s:bo H H'):cH K H' us qs:=⟨h.1,fun i u q e1 e2=>(h.2 i u q e1 e2).aK s⟩
variable {X:Cx}
section
variable {X:Cx}{pins:ε}{σ:L2.St}{H:Hp}{s:aaH}
end
section
variable {X:Cx}{o e:Expr}{es:Ε}{to:TE}{t:TA}{name:Str}{apos gj:Pos}{T id:String}{r:Ψ}
end
section
variable {X:Cx}
end
section
variable {D:aaz}{te:TE}{cap:L2.St}{H1:Hp}{Q:VK}
end
theorem bo.ks (h0:H D=some (.lst ys))(ks:bS D H H'):bo H H':=fun b xs r=>by
 rcases r with r|⟨o',r⟩
 ·exact .inl (ks _ _ (fun e=>by rw [e,h0] at r;cases r) r)
 ·exact .inr ⟨o',ks _ _ (fun e=>by rw [e,h0] at r;cases r) r⟩
section
variable {X:Cx}{K:Frag}
inductive Yp (K:Frag)(x:V)(y:V)(H:Hp)(Q:VK):Prop
|mk (p xs i v:_)(_:x=.ref p)(_:y=.int i)(_:aR K H p xs\/bM K H p xs)(_:i0 xs i=some v)(_:Q v H)
theorem ED:SW X (Yp X.K):=by
 intro value slice pins s σ H x y v u Q I rx ry h hs
 obtain ⟨p,xs,i,z,e1,e2,hq,he,q⟩:=h
 rcases hq with hq|hq
 ·exact aQ value slice pins s σ H x y v u Q I rx ry ⟨p,xs,i,z,e1,e2,hq,he,q⟩ hs
 ·exact nh value slice pins s σ H x y v u Q I rx ry ⟨p,xs,i,z,e1,e2,hq,he,q⟩ hs
end
section
variable {D:aaz}{te:TE}{cap:L2.St}{H1:Hp}{Q:VK}
theorem qY {K:Frag}(J:List V->Hp->Prop)(nD:H1 D=none)(hn:xs.length<aaD)(hS:∀H,ao H1 H->aR K H a xs)(h0:J [] (upd H1 D (.lst [])))
  (he:∀(i:Nat) x ys H (R:VK),xs[i]?=some x->ys.length=i->J ys H->ao H1 H->H D=some (.lst ys)->(∀v H6,ao H H6->J (ys++[v]) (upd H6 D (.lst (ys++[v])))->R v H6)->te (some x::cap) H R)
  (hd:∀ys H,ys.length=xs.length->J ys H->ao H1 H->H D=some (.lst ys)->Q (.ref D) H):
  nq D (cV 0) ki te (PZ K a) (none::cap) H1 Q:=by
 refine vk xs.length (fun i=>(xs[i]?).getD .cS) (fun i ys H=>ys.length=i/\J ys H/\ao H1 H) ⟨rfl,h0,fun b o e=>by rw [aj (ak e nD)];exact e⟩ ?_ ?_ ?_ ?_
 ·rintro i ys H hi ⟨_,_,s⟩
  exact ⟨⟨xs,xs[i],hS H s,gE hi⟩,fun x H' y=>⟨y.1,by rw [y.2 xs (hS H s)];rfl⟩⟩
 ·rintro ys H ⟨_,_,s⟩
  exact ⟨xs,hS H s,aa_ _⟩
 ·rintro i ys H R hi ⟨l,j,s⟩ hD k
  have e:xs[i]?=some xs[i]:=gE hi
  have k':=he i _ ys H R e l j s hD fun v H6 s6 jv=>k v H6 (s6 _ _ hD) (by omega) ⟨by simp [l],jv,fun b o e=>by rw [aj (ak e nD)];exact s6 _ _ (s _ _ e)⟩
  rw [<-(show (xs[i]?).getD .cS=xs[i] by rw [e];rfl)] at k'
  exact k'
 ·rintro ys H ⟨l,j,s⟩ hD
  exact hd ys H l j s hD
end
end Ty
set_option maxHeartbeats 4000000
namespace Ty
theorem uI {α:Type}[DecidableEq α]:∀{l m:List α},l.Nodup->(∀x∈l,x∈m)->l.length<=m.length
 | [],_,_,_=>adS _
 | x::l,m,h,k=>by
  obtain ⟨h1,h2⟩:=adQ.mp h
  have hx:=k x adk
  have:=uI (l:=l) (m:=m.erase x) h2 fun y hy=>(List.mem_erase_of_ne (fun z:y=x=>h1 (by rw [<-z];exact hy))).mpr (k y (aaw _ hy))
  rw [List.length_erase_of_mem hx] at this
  have p:=List.length_pos_of_mem hx
  show l.length+1<=m.length
  omega
def box (B:Nat):Nat->List (List Int)
 | 0=>[[]]
 | n+1=>(box B n).flatMap fun y=>(adG (B+1)).map fun (a:Nat)=>(a:Int)::y
theorem EE {α:Type}(c:Nat):∀l:List α,(l.map fun _=>c).sum=l.length*c
 | []=>by simp
 | _::l=>by
  rw [aau,adw,EE c l,adJ,aec]
  omega
theorem vy (B:Nat):∀n,(box B n).length=(B+1)^n
 | 0=>rfl
 | n+1=>by
  have ih:=vy B n
  unfold box
  rw [List.length_flatMap]
  have:((box B n).map fun y=>((adG (B+1)).map fun (a:Nat)=>(a:Int)::y).length)=(box B n).map fun _=>B+1:=adp fun y _=>by rw [be,adV]
  rw [this,EE,ih,afz]
theorem uJ (B:Nat):∀n,(box B n).Nodup
 | 0=>by simp [box]
 | n+1=>by
  have ih:=uJ B n
  unfold box
  unfold am6 at ih ⊢
  rw [List.pairwise_flatMap]
  refine ⟨fun y _=>?_,ih.imp fun {y1 y2} ne x hx z hz e=>?_⟩
  ·rw [agx]
   exact amL.imp fun {a b} ne e=>ne (by injection e with e _;exact Int.ofNat.inj e)
  ·obtain ⟨a,_,rfl⟩:=aat.mp hx
   obtain ⟨b,_,rfl⟩:=aat.mp hz
   injection e with _ e
   exact ne e
theorem j6 :∀{n:Nat} {y:ξ},y∈box B n ↔ y.length=n/\∀a∈y,0<=a/\a<=(B:Int)
 | 0,y=>by
  unfold box
  rw [adi]
  constructor
  ·intro e
   rw [e]
   exact ⟨rfl,fun a h=>nomatch h⟩
  ·intro h
   exact ae_.mp h.1
 | n+1,y=>by
  unfold box
  rw [aee]
  constructor
  ·rintro ⟨z,hz,hy⟩
   obtain ⟨a,ha,rfl⟩:=aat.mp hy
   obtain ⟨h1,h2⟩:=(j6 (n:=n)).mp hz
   have:=ad9.mp ha
   refine ⟨by simp [h1],fun b hb=>?_⟩
   rcases adD.mp hb with e|e
   ·rw [e]
    omega
   ·exact h2 b e
  ·rintro ⟨h1,h2⟩
   match y,h1 with
   | a::z,h1=>
    have ha:=h2 a adk
    refine ⟨z,(j6 (n:=n)).mpr ⟨by simpa using h1,fun b hb=>h2 b (aaw _ hb)⟩,aat.mpr ⟨a.toNat,ad9.mpr (show a.toNat<B+1 by omega),?_⟩⟩
    rw [show ((a.toNat:Nat):Int)=a by omega]
def iT:List Int->List Int->Int
 | a::e,b::y=>a*b+iT e y
 | _,_=>0
theorem yh:∀(e:ξ) {y z:ξ},y.length=z.length->iT e (ad4 (fun a b=>a-b) y z)=iT e y-iT e z
 | [],y,z,h=>by simp [iT]
 | a::e,[],[],h=>by simp [iT]
 | a::e,b::y,c::z,h=>by
  have ih:=yh e (y:=y) (z:=z) (by simpa using h)
  rw [agV]
  simp only [iT]
  rw [ih,Int.mul_sub]
  omega
theorem EF :∀{e y:ξ},(∀a∈e,a.natAbs<=A)->(∀b∈y,b.natAbs<=B)->(iT e y).natAbs<=e.length*(A*B)
 | [],y,_,_=>by simp [iT]
 | a::e,[],_,_=>by simp [iT]
 | a::e,b::y,h1,h2=>by
  have ih:=EF (e:=e) (y:=y) (fun x hx=>h1 x (aaw _ hx)) fun x hx=>h2 x (aaw _ hx)
  simp only [iT]
  have m:(a*b).natAbs<=A*B:=by
   rw [aeu]
   exact aek (h1 a adk) (h2 b adk)
  have t:=ae2 (a*b) (iT e y)
  rw [adJ,aec,amh]
  omega
theorem MG {eqs:ζ}(hn:eqs.length<n)(hA:1<=A)(he:∀e∈eqs,e.length=n/\∀a∈e,a.natAbs<=A):∃z:List Int,z.length=n/\(∃a∈z,a≠0)/\(∀a∈z,a.natAbs<=(2*n*A)^eqs.length)/\∀e∈eqs,iT e z=0:=by
 generalize hC:2*n*A=C
 generalize hB:C^eqs.length=B
 have c1:1<=C:=by
  rw [<-hC]
  exact aek (show 1<=2*n by omega) hA
 generalize hM:n*(A*B)=M
 have key:¬ ∀y∈box B n,∀z∈box B n,(eqs.map fun e=>iT e y+(M:Int))=(eqs.map fun e=>iT e z+(M:Int))->y=z:=by
  intro inj
  have nd:((box B n).map fun y=>eqs.map fun e=>iT e y+(M:Int)).Nodup:=by
   unfold am6
   rw [agx]
   refine agD (fun {y z} hy hz ne e=>ne (inj y hy z hz e)) (uJ B n)
  have le:=uI nd (m:=box (2*M) eqs.length) fun x hx=>by
   obtain ⟨y,hy,rfl⟩:=aat.mp hx
   obtain ⟨ly,by'⟩:=j6.mp hy
   refine j6.mpr ⟨by simp,fun a ha=>?_⟩
   obtain ⟨e,hee,rfl⟩:=aat.mp ha
   have b1:=EF (A:=A) (B:=B) (he e hee).2 (y:=y) fun b hb=>by
    have:=by' b hb
    omega
   rw [(he e hee).1,hM] at b1
   omega
  rw [be,vy,vy] at le
  have e1:2*M+1<=C*(B+1):=by
   have e3:2*M=C*B:=by rw [<-hM,<-hC,<-Nat.mul_assoc,<-Nat.mul_assoc]
   rw [e3,Nat.mul_add]
   omega
  have e2:(2*M+1)^eqs.length<=B*(B+1)^eqs.length:=by
   have:=age e1 eqs.length
   rw [Nat.mul_pow,hB] at this
   exact this
  have e4:(B+1)^(eqs.length+1)<=(B+1)^n:=adF (by omega) hn
  have e5:B*(B+1)^eqs.length<(B+1)^(eqs.length+1):=by
   rw [afz,agg ((B+1)^eqs.length)]
   exact Nat.mul_lt_mul_of_pos_right (adY B) (Nat.pow_pos (by omega))
  omega
 obtain ⟨y,k1⟩:=ami.mp key
 obtain ⟨hy,k2⟩:=agy.mp k1
 obtain ⟨z,k3⟩:=ami.mp k2
 obtain ⟨hz,k4⟩:=agy.mp k3
 obtain ⟨ee,ne⟩:=agy.mp k4
 obtain ⟨ly,by'⟩:=j6.mp hy
 obtain ⟨lz,bz⟩:=j6.mp hz
 have hl:y.length=z.length:=by omega
 refine ⟨ad4 (fun a b=>a-b) y z,by rw [List.length_zipWith];omega,?_,?_,fun e hee=>?_⟩
 ·apply ad6
  intro h
  refine ne (List.ext_getElem hl fun i h1 h2=>?_)
  have h':∀a∈ad4 (fun a b=>a-b) y z,a=0:=fun a ha=>ad6 fun q=>h ⟨a,ha,q⟩
  have m:y[i]-z[i]∈ad4 (fun a b=>a-b) y z:=by
   refine aam (i:=i) ?_
   rw [aeS,gE h1,gE h2]
  have:=h' _ m
  omega
 ·intro a ha
  obtain ⟨i,ei⟩:=adj ha
  rw [aeS] at ei
  have hi:i<y.length:=by
   apply ad6
   intro q
   rw [aax (by omega)] at ei
   cases ei
  rw [gE hi,gE (show i<z.length by omega)] at ei
  have ea:y[i]-z[i]=a:=ady ei
  have q1:=by' _ (ad3 hi)
  have q2:=bz _ (ad3 (show i<z.length by omega))
  omega
 ·rw [yh e hl]
  obtain ⟨i,ei⟩:=adj hee
  have e1:=aaQ (fun l:List Int=>l[i]?) ee
  simp only [Wp,ei,afp,Option.some.injEq] at e1
  omega
def col (l:ξ)(j:Nat):Rat:=((l.getD j 0:Int):Rat)
inductive c_ (A:ζ):(Nat->Rat)->Prop
 | zero:c_ A (fun _=>0)
 | put {f:Nat->Rat} (c:Rat) {a:ξ} (h:a∈A) (hf:c_ A f):c_ A (fun j=>f j+c*col a j)
theorem c_.congr (h:c_ A f)(e:∀j,f j=g j):c_ A g:=(funext e:f=g)▸h
theorem c_.add (hf:c_ A f)(hg:c_ A g):c_ A (fun j=>f j+g j):=by
 induction hg with
 | zero=>exact hf.congr fun j=>by grind
 | put c h _ ih=>exact (c_.put c h ih).congr fun j=>by grind
theorem c_.mul (k:Rat)(hf:c_ A f):c_ A (fun j=>k*f j):=by
 induction hf with
 | zero=>exact c_.zero.congr fun j=>by grind
 | put c h _ ih=>exact (c_.put (k*c) h ih).congr fun j=>by grind
theorem c_.mem (h:a∈A):c_ A (col a):=(c_.put 1 h c_.zero).congr fun j=>by grind
theorem c_.trans (hf:c_ A f)(h:∀a∈A,c_ B (col a)):c_ B f:=by
 induction hf with
 | zero=>exact c_.zero
 | put c ha _ ih=>exact ih.add ((h _ ha).mul c)
theorem c_.mono (hf:c_ A f)(h:∀a∈A,a∈B):c_ B f:=hf.trans fun a ha=>c_.mem (h a ha)
theorem c_.first {l:ξ}{A:ζ}(hf:c_ (l::A) f):∃a:Rat,c_ A (fun j=>f j-a*col l j):=by
 induction hf with
 | zero=>exact ⟨0,c_.zero.congr fun j=>by grind⟩
 | put c h _ ih=>
  obtain ⟨a,ha⟩:=ih
  rcases adD.mp h with e|e
  ·subst e
   exact ⟨a+c,ha.congr fun j=>by grind⟩
  ·exact ⟨a,(c_.put c e ha).congr fun j=>by grind⟩
theorem c_.last (hf:c_ (A++[l]) f):∃a:Rat,c_ A (fun j=>f j-a*col l j):=c_.first (hf.mono fun a ha=>by
 rcases ado.mp ha with z|z
 ·exact aaw _ z
 ·rw [adi.mp z]
  exact adk)
theorem c_.van (hf:c_ A f)(h:∀a∈A,col a c=0):f c=0:=by
 induction hf with
 | zero=>rfl
 | put k ha _ ih=>
  dsimp only
  rw [ih,h _ ha]
  grind
structure KO (nd:π):Prop where
 nn:(nd.map (·.1)).Nodup
 here:∀x∈nd,x.2.getD x.1 0≠0
 off:∀x∈nd,∀y∈nd,x.1≠y.1->x.2.getD y.1 0=0
theorem KO.zero:∀{nd:π} {f:Nat->Rat},KO nd->c_ (nd.map (·.2)) f->(∀x∈nd,f x.1=0)->∀j,f j=0
 | [],f,_,hf,_=>fun j=>by
  have:∀{g:Nat->Rat},c_ [] g->g j=0:=fun {g} h=>h.van fun a ha=>nomatch ha
  exact this hf
 | x::r,f,P,hf,hz=>by
  obtain ⟨a,ha⟩:=c_.first hf
  have nn:=adQ.mp P.nn
  have v:f x.1-a*col x.2 x.1=0:=ha.van (c:=x.1) fun b hb=>by
   obtain ⟨y,hy,rfl⟩:=aat.mp hb
   unfold col
   rw [P.off y (aaw _ hy) x adk (fun z=>nn.1 (by show x.1∈_;rw [<-z];exact aat.mpr ⟨y,hy,rfl⟩))]
   rfl
  rw [hz x adk] at v
  have KN:col x.2 x.1≠0:=cQ (P.here x adk)
  have a0:a=0:=by grind
  subst a0
  have P':KO r:=⟨nn.2,fun y hy=>P.here y (aaw _ hy),fun y hy z hz=>P.off y (aaw _ hy) z (aaw _ hz)⟩
  exact KO.zero P' (ha.congr (g:=f) fun j=>by grind) fun y hy=>hz y (aaw _ hy)
theorem KO.one (P:KO nd)(hf:c_ (nd.map (·.2)) f)(hx:x∈nd)(hz:∀y∈nd,y.1≠x.1->f y.1=0):∃a:Rat,∀j,f j=a*col x.2 j:=by
 have KN:col x.2 x.1≠0:=cQ (P.here x hx)
 refine ⟨f x.1 / col x.2 x.1,fun j=>?_⟩
 have g:c_ (nd.map (·.2)) fun j=>f j+ -(f x.1 / col x.2 x.1)*col x.2 j:=c_.put _ (aat.mpr ⟨x,hx,rfl⟩) hf
 have:=P.zero g (fun y hy=>by
  by_cases c:y.1=x.1
  ·rw [c]
   grind
  ·rw [hz y hy c]
   have:col x.2 y.1=0:=by
    unfold col
    rw [P.off x hx y hy (adO c)]
    rfl
   rw [this]
   grind) j
 grind
def kC:List Int->List (List Int)->Nat->Int
 | z::zs,a::A,j=>z*a.getD j 0+kC zs A j
 | _,_,_=>0
theorem my:∀(zs:ξ)(A:ζ),c_ A (fun j=>((kC zs A j:Int):Rat))
 | [],A=>c_.zero.congr fun j=>by simp [kC]
 | _::_,[]=>c_.zero.congr fun j=>by simp [kC]
 | z::zs,a::A=>by
  have ih:=(my zs A).mono (B:=a::A) fun b hb=>aaw _ hb
  refine (c_.put (z:Rat) (adk) ih).congr fun j=>?_
  simp only [kC,col]
  push_cast
  grind
theorem vA (c:Nat):∀(zs:ξ)(A:ζ),iT (A.map fun a=>a.getD c 0) zs=kC zs A c
 | [],A=>by cases A<;>simp [kC,iT]
 | _::_,[]=>by simp [kC,iT]
 | z::zs,a::A=>by
  simp only [aau,iT,kC]
  rw [vA c zs A,ae1]
theorem AV (j:Nat):∀{zs:ξ} {A:ζ},(∀z∈zs,z.natAbs<=Z)->(∀a∈A,(a.getD j 0).natAbs<=E)->(kC zs A j).natAbs<=A.length*(Z*E)
 | [],A,_,_=>by simp [kC]
 | _::_,[],_,_=>by simp [kC]
 | z::zs,a::A,h1,h2=>by
  have ih:=AV j (zs:=zs) (A:=A) (fun x hx=>h1 x (aaw _ hx)) fun x hx=>h2 x (aaw _ hx)
  simp only [kC]
  have m:(z*a.getD j 0).natAbs<=Z*E:=by
   rw [aeu]
   exact aek (h1 z adk) (h2 a adk)
  have t:=ae2 (z*a.getD j 0) (kC zs A j)
  rw [adJ,aec,amh]
  omega
theorem qZ (j:Nat):∀{zs:ξ} {A:ζ} (z:Int) (a:ξ),zs.length=A.length->kC (zs++[z]) (A++[a]) j=kC zs A j+z*a.getD j 0
 | [],[],z,a,_=>by simp [kC]
 | y::zs,b::A,z,a,h=>by
  have ih:=qZ j (zs:=zs) (A:=A) z a (by simpa using h)
  simp only [afD,kC]
  rw [ih]
  omega
def Yq (l:ξ):Prop:=∀d:Int,(∀j,d ∣ l.getD j 0)->d.natAbs=1
theorem MI (p:Yq l){v:Nat->Int}(ha:a≠0)(h:∀j,((v j:Int):Rat)=a*col l j)(j:Nat):(l.getD j 0).natAbs<=(v j).natAbs:=by
 have e:∀j,v j*(a.den:Int)=a.num*l.getD j 0:=fun j=>by
  have h1:=h j
  have h2:a=(a.num:Rat) / ((a.den:Int):Rat):=by
   rw [<-amw]
   exact (amo a).symm
  have hd:((a.den:Int):Rat)≠0:=cQ (by have:=a.den_pos;omega)
  rw [h2] at h1
  unfold col at h1
  have h3:((v j*(a.den:Int):Int):Rat)=((a.num*l.getD j 0:Int):Rat):=by
   rw [aea,aea]
   generalize ((a.den:Int):Rat)=D at hd h1
   grind
  exact afN.mp h3
 have dv:∀j,(a.den:Int) ∣ l.getD j 0:=fun j=>by
  have h1:a.den ∣ a.num.natAbs*(l.getD j 0).natAbs:=by
   rw [<-aeu,<-e j,aeu]
   exact ⟨(v j).natAbs,by rw [agg];rfl⟩
  have h2:=Nat.Coprime.dvd_of_dvd_mul_left (Nat.Coprime.symm a.reduced) h1
  exact afr.mp (by simpa using h2)
 have d1:a.den=1:=by simpa using p _ dv
 have ej:=e j
 rw [d1] at ej
 have n0:a.num≠0:=fun z=>ha (Rat.num_eq_zero.mp z)
 have:v j=a.num*l.getD j 0:=by simpa using ej
 rw [this,aeu]
 exact Nat.le_mul_of_pos_left _ (by omega)
theorem MJ (p:Yq l):¬ ∀j,l.getD j 0=0:=fun h=>by
 have:=p 0 fun j=>by rw [h j];exact Int.dvd_refl 0
 simp at this
structure KP (os:ζ)(nd:π)(lv ps qs:ζ):Prop where
 po:∀p∈ps,p∈os
 qo:∀q∈qs,q∈os
 lp:ps.length=nd.length
 lq:qs.length=lv.length
 s1:∀x∈nd,c_ ps (col x.2)
 s2:∀p∈ps,c_ (nd.map (·.2)) (col p)
 s3:∀(i:Nat)(l q:ξ),lv[i]?=some l->qs[i]?=some q->c_ (ps++[q]) (col l)/\c_ (nd.map (·.2)++[l]) (col q)
 ind:∀zs:List Int,zs.length=ps.length->(∀j,kC zs ps j=0)->∀a∈zs,a=0
theorem KP.start (os:ζ):KP os [] os [] os:=by
 refine ⟨by simp,fun q hq=>hq,rfl,rfl,by simp,by simp,fun i l q e1 e2=>?_,fun zs h _ a ha=>?_⟩
 ·rw [e1] at e2
  cases e2
  exact ⟨c_.mem (by simp),c_.mem (by simp)⟩
 ·rw [ae_.mp h] at ha
  cases ha
theorem KO.cols (P:KO nd)(hl:c_ (nd.map (·.2)) (col l))(hz:∀x∈nd,l.getD x.1 0=0):∀j,l.getD j 0=0:=fun j=>by
 have:=P.zero hl (fun x hx=>by unfold col;rw [hz x hx];rfl) j
 unfold col at this
 exact afN.mp (this.trans (by rfl))
theorem yi {A:ζ}(hA:∀a∈A,∀j,(a.getD j 0).natAbs<=2^b):(A.map fun a=>a.getD c 0).length=A.length/\∀x∈A.map (fun a=>a.getD c 0),x.natAbs<=2^b:=by
 refine ⟨by simp,fun x hx=>?_⟩
 obtain ⟨a,ha,rfl⟩:=aat.mp hx
 exact hA a ha c
theorem KP.left (O:KP os nd lv ps qs)(P:KO nd){i b:Nat}{l:ξ}(e:lv[i]?=some l)(hz:∀x∈nd,l.getD x.1 0=0)(hb:∀o∈os,∀j,(o.getD j 0).natAbs<=2^b)(pr:Yq l)(j:Nat):(l.getD j 0).natAbs<=(nd.length+1)*((2*(nd.length+1)*2^b)^nd.length*2^b):=by
 have hi:i<qs.length:=by
  rw [O.lq]
  exact (ir.mp e).1
 obtain ⟨q,eq⟩:∃q,qs[i]?=some q:=⟨_,gE hi⟩
 obtain ⟨t1,t2⟩:=O.s3 i l q e eq
 have hA:∀a∈ps++[q],∀j,(a.getD j 0).natAbs<=2^b:=fun a ha=>by
  rcases ado.mp ha with z|z
  ·exact hb a (O.po a z)
  ·rw [adi.mp z]
   exact hb q (O.qo q (aam eq))
 have lA:(ps++[q]).length=nd.length+1:=by simp [O.lp]
 obtain ⟨zs,lz,nz,bz,sz⟩:=MG (n:=nd.length+1) (A:=2^b) (eqs:=nd.map fun x=>(ps++[q]).map fun a=>a.getD x.1 0) (by simp) (afP) fun y hy=>by
  obtain ⟨x,hx,rfl⟩:=aat.mp hy
  rw [<-lA]
  exact yi hA
 rw [be] at bz
 have v0:∀x∈nd,kC zs (ps++[q]) x.1=0:=fun x hx=>by
  rw [<-vA]
  exact sz _ (aat.mpr ⟨x,hx,rfl⟩)
 have hv:c_ (nd.map (·.2)++[l]) fun j=>((kC zs (ps++[q]) j:Int):Rat):=(my zs (ps++[q])).trans fun a ha=>by
  rcases ado.mp ha with z|z
  ·exact (O.s2 a z).mono fun y hy=>adL _ hy
  ·rw [adi.mp z]
   exact t2
 obtain ⟨a,ha⟩:=c_.last hv
 have ez:=P.zero ha fun x hx=>by
  rw [v0 x hx]
  unfold col
  rw [hz x hx]
  show ((0:Int):Rat)-a*((0:Int):Rat)=0
  grind
 by_cases c:a=0
 ·exfalso
  subst c
  have vz:∀j,kC zs (ps++[q]) j=0:=fun j=>by
   have:=ez j
   have h:((kC zs (ps++[q]) j:Int):Rat)=((0:Int):Rat):=by grind
   exact afN.mp h
  obtain ⟨vB,z,rfl⟩:∃vB z,zs=vB ++[z]:=by
   rcases ah_ zs with h|⟨vB,z,h⟩
   ·rw [h] at lz
    simp at lz
   ·exact ⟨vB,z,by rw [h,ai_]⟩
  have Yr :vB.length=ps.length:=by
   rw [O.lp]
   simpa using lz
  have sp:∀j,kC vB ps j+z*q.getD j 0=0:=fun j=>by
   rw [<-qZ j z q Yr]
   exact vz j
  by_cases z0:z=0
  ·subst z0
   obtain ⟨x,hx,nx⟩:=nz
   have all:=O.ind vB Yr fun j=>by simpa using sp j
   rcases ado.mp hx with h|h
   ·exact nx (all x h)
   ·exact nx (adi.mp h)
  ·have hq:c_ ps (col q):=((my vB ps).mul (-1 / (z:Rat))).congr fun j=>by
    have s':((kC vB ps j+z*q.getD j 0:Int):Rat)=((0:Int):Rat):=by rw [sp j]
    rw [amW,aea] at s'
    have zr:(z:Rat)≠0:=cQ z0
    unfold col
    grind
   have hl:c_ ps (col l):=t1.trans fun a ha=>by
    rcases ado.mp ha with h|h
    ·exact c_.mem h
    ·rw [adi.mp h]
     exact hq
   exact MJ pr (P.cols (hl.trans O.s2) hz)
 ·have le:=MI pr c (v:=fun j=>kC zs (ps++[q]) j) (fun j=>by have:=ez j;grind) j
  refine aav le ?_
  have:=AV j (zs:=zs) (A:=ps++[q]) bz fun a ha=>hA a ha j
  rw [lA] at this
  exact this
theorem KP.need (O:KP os nd lv ps qs)(P:KO nd)(hx:x∈nd)(hb:∀o∈os,∀j,(o.getD j 0).natAbs<=2^b)(pr:Yq x.2)(j:Nat):(x.2.getD j 0).natAbs<=(nd.length+1)*((2*(nd.length+1)*2^b)^nd.length*2^b):=by
 have hA:∀a∈ps,∀j,(a.getD j 0).natAbs<=2^b:=fun a ha=>hb a (O.po a ha)
 have lf:(nd.filter fun y=>decide (y.1≠x.1)).length<nd.length:=by
  have h1:(nd.filter fun y=>decide (y.1≠x.1)).length<=nd.length:=af0 ..
  rcases Nat.lt_or_eq_of_le h1 with h|h
  ·exact h
  ·have:=List.length_filter_eq_length_iff.mp h x hx
   simp at this
 obtain ⟨zs,lz,nz,bz,sz⟩:=MG (n:=nd.length) (A:=2^b) (eqs:=(nd.filter fun y=>decide (y.1≠x.1)).map fun y=>ps.map fun a=>a.getD y.1 0) (by rw [be];exact lf) (afP) fun y hy=>by
  obtain ⟨z,hz,rfl⟩:=aat.mp hy
  rw [<-O.lp]
  exact yi hA
 rw [be] at bz
 have v0:∀y∈nd,y.1≠x.1->kC zs ps y.1=0:=fun y hy ne=>by
  rw [<-vA]
  exact sz _ (aat.mpr ⟨y,af_.mpr ⟨hy,by simpa using ne⟩,rfl⟩)
 have hv:c_ (nd.map (·.2)) fun j=>((kC zs ps j:Int):Rat):=(my zs ps).trans O.s2
 obtain ⟨a,ha⟩:=P.one hv hx fun y hy ne=>by
  rw [v0 y hy ne]
  rfl
 have c:a≠0:=fun z=>by
  subst z
  obtain ⟨y,hy,ny⟩:=nz
  refine ny (O.ind zs (by rw [lz,O.lp]) (fun j=>?_) y hy)
  have h:((kC zs ps j:Int):Rat)=((0:Int):Rat):=by
   rw [ha j]
   show 0*col x.2 j=0
   grind
  exact afN.mp h
 have le:=MI pr c (v:=fun j=>kC zs ps j) ha j
 refine aav le ?_
 have:=AV j (zs:=zs) (A:=ps) bz fun a ha=>hA a ha j
 rw [O.lp] at this
 refine aav this (aek (by omega) (aek ?_ (aa_ _)))
 refine aav (age (adz _ (show 2*nd.length<=2*(nd.length+1) by omega)) _) ?_
 exact adF (Nat.mul_pos (by omega) (amX _)) (by omega)
theorem UR (hs:s+1<=1024):(s+1)*((2*(s+1)*2^b)^s*2^b)<=2^((s+1)*(b+11)):=by
 have h1:2*(s+1)*2^b<=2^(b+11):=by
  have:2*(s+1)<=2^11:=by
   show 2*(s+1)<=2048
   omega
  rw [af8,agg (2^b)]
  exact adz _ this
 have h2:(2*(s+1)*2^b)^s<=2^((b+11)*s):=by
  rw [Nat.pow_mul]
  exact age h1 s
 have h3:s+1<=2^11:=by
  show s+1<=2048
  omega
 have e:(s+1)*(b+11)=11+((b+11)*s+b):=by
  rw [aec,amh,agg s]
  omega
 rw [e,af8,af8]
 exact aek h3 (adz _ h2)
theorem EG (k:sN line lead new c)(h1:c_ B (col line))(h2:c_ B (col lead)):c_ B (col new):=by
 obtain ⟨s,t,u,hs,ht,e⟩:=k.OH
 have zs:=cQ hs
 refine ((h1.mul ((t:Rat) / s)).add (h2.mul (-(u:Rat) / s))).congr fun j=>?_
 have ej:((s*new.getD j 0:Int):Rat)=((t*line.getD j 0-u*lead.getD j 0:Int):Rat):=by rw [e j]
 rw [aea,amY,aea,aea] at ej
 unfold col
 grind
theorem EH (k:sN line lead new c)(h1:c_ B (col new))(h2:c_ B (col lead)):c_ B (col line):=by
 obtain ⟨s,t,u,hs,ht,e⟩:=k.OH
 have zt:=cQ ht
 refine ((h1.mul ((s:Rat) / t)).add (h2.mul ((u:Rat) / t))).congr fun j=>?_
 have ej:((s*new.getD j 0:Int):Rat)=((t*line.getD j 0-u*lead.getD j 0:Int):Rat):=by rw [e j]
 rw [aea,amY,aea,aea] at ej
 unfold col
 grind
theorem KP.step {nd km :π}{lv AW ps qs:ζ}{lead:ξ}{j c:Nat}(O:KP os nd lv ps qs)(P:KO nd)(ej:lv[j]?=some lead)(hz:∀x∈nd,lead.getD x.1 0=0)(hc:lead.getD c 0≠0)
  (lL:AW.length=(lv.eraseIdx j).length) (ML:∀(i:Nat)(x:ξ),(lv.eraseIdx j)[i]?=some x->∃y,AW[i]?=some y/\sN x lead y c) (lN:km.length=nd.length) (MN:∀(i:Nat)(x:ξ),(nd.map (·.2))[i]?=some x->∃y,(km.map (·.2))[i]?=some y/\sN x lead y c):∃ps' MK,KP os (km ++[(c,lead)]) AW ps' MK :=by
 have hj:j<lv.length:=(ir.mp ej).1
 obtain ⟨q,eq⟩:∃q,qs[j]?=some q:=⟨_,gE (by rw [O.lq];exact hj)⟩
 obtain ⟨t1,t2⟩:=O.s3 j lead q ej eq
 have ml:lead∈(km ++[(c,lead)]).map (·.2):=by simp
 have old:∀x∈nd.map (·.2),c_ ((km ++[(c,lead)]).map (·.2)) (col x):=fun x hx=>by
  obtain ⟨i,ei⟩:=adj hx
  obtain ⟨y,ey,k⟩:=MN i x ei
  refine EH k (c_.mem ?_) (c_.mem ml)
  rw [ads]
  exact adL _ (aam ey)
 have afc:∀y∈km.map (·.2),∃x∈nd.map (·.2),sN x lead y c:=fun y hy=>by
  obtain ⟨i,ei⟩:=adj hy
  have hi:=(ir.mp ei).1
  rw [be] at hi
  obtain ⟨x,ex⟩:∃x,(nd.map (·.2))[i]?=some x:=⟨_,gE (by rw [be];omega)⟩
  obtain ⟨y',KQ,k⟩:=MN i x ex
  rw [ei] at KQ
  cases KQ
  exact ⟨x,aam ex,k⟩
 have up:∀{f:Nat->Rat},c_ ps f->c_ (ps++[q]) f:=fun h=>h.mono fun a ha=>adL _ ha
 refine ⟨ps++[q],qs.eraseIdx j,fun p hp=>?_,fun p hp=>O.qo p (ae6 hp),by simp [O.lp,lN],?_,fun x hx=>?_,fun p hp=>?_,fun i l' q' e1 e2=>?_,fun zs lz hzs a ha=>?_⟩
 ·rcases ado.mp hp with z|z
  ·exact O.po p z
  ·rw [adi.mp z]
   exact O.qo q (aam eq)
 ·rw [lL,ae3,ae3,O.lq]
 ·rcases ado.mp hx with z|z
  ·obtain ⟨y,hy,k⟩:=afc x.2 (aat.mpr ⟨x,z,rfl⟩)
   obtain ⟨x0,hx0,rfl⟩:=aat.mp hy
   exact EG k (up (O.s1 x0 hx0)) t1
  ·rw [adi.mp z]
   exact t1
 ·rcases ado.mp hp with z|z
  ·exact (O.s2 p z).trans old
  ·rw [adi.mp z]
   refine t2.trans fun a ha=>?_
   rcases ado.mp ha with h|h
   ·exact old a h
   ·rw [adi.mp h]
    exact c_.mem ml
 ·have hi:=(ir.mp e1).1
  obtain ⟨x,ex⟩:∃x,(lv.eraseIdx j)[i]?=some x:=⟨_,gE (by omega)⟩
  obtain ⟨y',KQ,k⟩:=ML i x ex
  rw [e1] at KQ
  cases KQ
  obtain ⟨i',f1,f2⟩:∃i',lv[i']?=some x/\qs[i']?=some q':=by
   rw [afe] at ex e2
   by_cases h:i<j
   ·rw [aaC h] at ex e2
    exact ⟨_,ex,e2⟩
   ·rw [aaA h] at ex e2
    exact ⟨_,ex,e2⟩
  obtain ⟨u1,u2⟩:=O.s3 i' x q' f1 f2
  constructor
  ·refine EG k (u1.mono fun a ha=>?_) (t1.mono fun a ha=>adL _ ha)
   rcases ado.mp ha with h|h
   ·exact adL _ (adL _ h)
   ·exact adI _ h
  ·refine u2.trans fun a ha=>?_
   rcases ado.mp ha with h|h
   ·exact (old a h).mono fun b hb=>adL _ hb
   ·rw [adi.mp h]
    exact EH k (c_.mem (by simp)) (c_.mem (adL _ ml))
 ·obtain ⟨vB,z,rfl⟩:∃vB z,zs=vB ++[z]:=by
   rcases ah_ zs with h|⟨vB,z,h⟩
   ·rw [h] at lz
    simp at lz
   ·exact ⟨vB,z,by rw [h,ai_]⟩
  have Yr :vB.length=ps.length:=by simpa using lz
  have sp:∀j,kC vB ps j+z*q.getD j 0=0:=fun j=>by
   rw [<-qZ j z q Yr]
   exact hzs j
  have z0:z=0:=by
   apply ad6
   intro z0
   have hq:c_ ps (col q):=((my vB ps).mul (-1 / (z:Rat))).congr fun j=>by
    have s':((kC vB ps j+z*q.getD j 0:Int):Rat)=((0:Int):Rat):=by rw [sp j]
    rw [amW,aea] at s'
    have zr:(z:Rat)≠0:=cQ z0
    unfold col
    grind
   have hl:c_ ps (col lead):=t1.trans fun a ha=>by
    rcases ado.mp ha with h|h
    ·exact c_.mem h
    ·rw [adi.mp h]
     exact hq
   exact hc (P.cols (hl.trans O.s2) hz c)
  rcases ado.mp ha with h|h
  ·exact O.ind vB Yr (fun j=>by have:=sp j;rw [z0] at this;simpa using this) a h
  ·rw [adi.mp h]
   exact z0
end Ty
set_option maxHeartbeats 4000000
namespace Ty
open PySem PySem.Spec PyProof.Rows L2
section
variable {prog:aaP}{w:World}{A:aaT}{E:δ}{s:aaH}
end
section
variable {X:Cx}
end
section
variable {prog:aaP}{w:World}{A:aaT}{E:δ}{s:aaH}
end
section
variable {X:Cx}
end
theorem yj {cap:L2.St}(p:Nat->Bool)(nD:H1 D=none)(hn:n<aaD)
  (ht:∀i H (R:Bool->Hp->Prop),i<n->ao H1 H->(∀H',ao H H' ->R (p i) H')->tt (some (.int (i:Int))::cap) H R)
  (he:∀i H (R:VK),R (.int (i:Int)) H->te (some (.int (i:Int))::cap) H R)
  (hd:∀H,ao H1 H->H D=some (.lst (((adG n).filter p).map fun i:Nat=>V.int (i:Int)))->Q (.ref D) H):
  nq D (cV 0) tt te (SJ 0 n) (none::cap) H1 Q:=by
 refine ⟨fun i m σ ys H=>m=n-i/\i<=n/\(∃o,σ=o::cap)/\ao H1 H/\H D=some (.lst ys)/\ys=((adG i).filter p).map fun i:Nat=>V.int (i:Int),⟨n,by simp,adS _,⟨none,rfl⟩,fun b o e=>by rw [aj (ak e nD)];exact e,ah,rfl⟩,?_⟩
 rintro i m σ ys H ⟨rfl,hi,⟨o,rfl⟩,s,hD,ey⟩
 by_cases kN:i<n
 ·refine .inr ⟨kN,fun v H' y=>?_⟩
  obtain ⟨rfl,rfl⟩:=y
  rw [ad2]
  unfold cV
  refine ht i _ _ kN s fun H2 s2=>?_
  have lY:ao H1 H2:=fun b o e=>s2 _ _ (s _ _ e)
  have ly:ys.length<=i:=by
   rw [ey,be]
   have:=af0 p (adG i)
   rw [adV] at this
   exact this
  by_cases c:p i=true
  ·rw [aaC c]
   refine he i _ _ ⟨s2 _ _ hD,by omega,n-(i+1),by omega,rfl,by omega,⟨_,rfl⟩,?_,ah,?_⟩
   ·exact fun b o e=>by
     rw [aj (ak e nD)]
     exact lY _ _ e
   ·rw [ag_,amr,List.filter_cons_of_pos c,ey,ads]
    rfl
  ·rw [aaA c]
   refine ⟨n-(i+1),by omega,rfl,by omega,⟨_,rfl⟩,lY,s2 _ _ hD,?_⟩
   rw [ag_,amr,List.filter_cons_of_neg c,ey,List.filter_nil,afl]
 ·have e:i=n:=by omega
  subst e
  rw [ey] at hD
  exact .inl ⟨aa_ _,hd H s hD⟩
section
variable {prog:aaP}{w:World}{Kt:Type}[DecidableEq Kt]{knd:KeyKind prog w Kt}{A:aaT}{E:δ}{s:aaH}
theorem US {Q:δ}(g:s.heap.IsValIter it d i ps.length ep)(m:s.heap.DictAt knd d ps ep)(hx:ps[i]?=some (k,v))
  (q:∀h',h'.IsValIter it d (i+1) ps.length ep->abl it s.heap h' ->Q v {s with heap:=h'}):aaE (aaJ prog w) A (aaX (.ref it)) Q E s:=by
 obtain ⟨o,g1,g2,g3⟩:=id g
 obtain ⟨od,es,t1,t2,t3,t4,t5,t6⟩:=id m
 have n0:es.size=ps.length:=by rw [<-t5.length];simp
 have lt:i<ps.length:=(ir.mp hx).1
 have XW:i<es.size:=by rw [n0];exact lt
 have ev:es[i].val=v:=(t5.get? (e:=es[i]) (by simp [XW]) hx).2
 have ow:Builtin.Dict_items.ownsTuple "dict_valueiterator"=false:=by decide
 unfold aaX
 refine aay (wpAny_callSpecial?_slot (name:=aa6 "__next__") g.typeIs abr (abx abr g.typeIs F.entry_dict_valueiterator_next ?_ (F.args_dict_valueiterator_next_1 _)))
 refine aay (aaF (aay (aay ?_)))
 first|refine aay (abu g.typeIs (aaF (aay (ahp g1 g3 ?_))))|refine aay (abI g.typeIs (aaF (aay (ahp g1 g3 ?_))))
 simp only [ow,aeP,if_false]
 show aaE _ _ (if (Value.ref d==Value.none)=true then _ else _) _ _ s
 rw [aaA (fun z=>nomatch z)]
 refine aay (aaF (aay (wpAny_dictEntries t1 t3 ?_)))
 rw [aaA (by rw [n0];simp)]
 refine aay (aaF (aay (wpAny_dictEpoch t1 t3 ?_)))
 rw [aaA (by simp)]
 refine aaF ?_
 simp only [show ¬ ((i:Int)<0) from by omega,if_false,afQ,Array.getElem?_eq_getElem XW]
 refine aay ?_
 first|refine aay (abu g.typeIs (aaF (aay (ack g.typeIs ?_))))|refine aay (abI g.typeIs (aaF (aay (ack g.typeIs ?_))))
 show aaE _ _ (setField (.ref it) 1 (abk ((i:Int)+1)) >>=_) _ _ s
 refine aay (wpAny_setField g1 g3 (by simp) ?_)
 have g':(s.heap.update it (Obj.mapFields (·.setIfInBounds 1 (abk ((i:Int)+1))))).IsValIter it d (i+1) ps.length ep:=
  ⟨_,abC _ g1 (Obj.isFreed_of_fields (Obj.data_mapFields g3 _)),(Obj.cls_mapFields ..).trans g2,by rw [Obj.data_mapFields g3];simp [abk]⟩
 have sb:abl it s.heap (s.heap.update it (Obj.mapFields (·.setIfInBounds 1 (abk ((i:Int)+1))))):=Heap.SameBut.update ..
 generalize s.heap.update it (Obj.mapFields (·.setIfInBounds 1 (abk ((i:Int)+1))))=h' at g' sb ⊢
 have ty:Shared.TypeIs {s with heap:=h'} (.ref it) "dict_valueiterator":=g'.typeIs (s:={s with heap:=h'})
 refine aay (abi (aay (ack ty (aay (ack ty ?_)))))
 show aaE _ _ (pure es[i].val) _ _ _
 exact aaF (aaF ⟨_,rfl,aaF (ev▸q _ g' sb)⟩)
theorem Qx {Q:δ}(hh:A.handled=none)(g:s.heap.IsValIter it d i ps.length ep)(m:s.heap.DictAt knd d ps ep)(hx:ps.length<=i)
  (q:∀h' e,Heap.ExtBut it s.heap h' ->(∃o,h'.get? e=some o/\o.cls=.type "StopIteration")->E (.ref e) {s with heap:=h'}):aaE (aaJ prog w) A (aaX (.ref it)) Q E s:=by
 obtain ⟨o,g1,g2,g3⟩:=id g
 obtain ⟨od,es,t1,t2,t3,t4,t5,t6⟩:=id m
 have n0:es.size=ps.length:=by rw [<-t5.length];simp
 have ge:es.size<=i:=by rw [n0];exact hx
 have ow:Builtin.Dict_items.ownsTuple "dict_valueiterator"=false:=by decide
 unfold aaX
 refine aay (wpAny_callSpecial?_slot (name:=aa6 "__next__") g.typeIs abr (abx abr g.typeIs F.entry_dict_valueiterator_next ?_ (F.args_dict_valueiterator_next_1 _)))
 refine aay (aaF (aay (aay ?_)))
 first|refine aay (abu g.typeIs (aaF (aay (ahp g1 g3 ?_))))|refine aay (abI g.typeIs (aaF (aay (ahp g1 g3 ?_))))
 simp only [ow,aeP,if_false]
 show aaE _ _ (if (Value.ref d==Value.none)=true then _ else _) _ _ s
 rw [aaA (fun z=>nomatch z)]
 refine aay (aaF (aay (wpAny_dictEntries t1 t3 ?_)))
 rw [aaA (by rw [n0];simp)]
 refine aay (aaF (aay (wpAny_dictEpoch t1 t3 ?_)))
 rw [aaA (by simp)]
 refine aaF ?_
 simp only [show ¬ ((i:Int)<0) from by omega,if_false,afQ,Array.getElem?_eq_none ge]
 refine aay ?_
 first|refine aay (abu g.typeIs (aaF ?_))|refine aay (abI g.typeIs (aaF ?_))
 show aaE _ _ (setField (.ref it) 0 .none >>=_) _ _ s
 refine aay (wpAny_setField g1 g3 (by simp) ?_)
 show aaE _ _ (newExc (.type "StopIteration") [] >>=_) _ _ _
 refine aay ?_
 simp only [newExc,newTuple]
 refine aay (abE ?_ (by size_fits))
 refine aay (m:=firstArgMember _ _) (wpAny_of_eq (a:=Value.none) (by first|rfl|(simp only [firstArgMember];rfl)) ?_)
 refine abE ?_ (by size_fits)
 simp only [raiseNew]
 refine aay (wpAny_handled ?_)
 first|rw [show A.in1.handled=none from hh]|rw [hh]
 refine aay (aaF (wpAny_throw ?_))
 exact q _ _ (((Heap.SameBut.update ..).extBut.push _).push _) ⟨_,aaL _ rfl,rfl⟩
theorem Qy {z TI TO i1 i2 d l:aaz}{ys:Ν}{Q:δ}(D:ZipApart z TI TO i1 i2 d l)
  (hz:abO s.heap z TI TO .none) (gm:aa9 s.heap TI (.ref i1) (.ref i2)) (jW:aa9 s.heap TO a b)
  (h1:s.heap.IsValIter i1 d k ps.length ep) (m:s.heap.DictAt knd d ps ep) (h2:s.heap.IsListIter i2 l k) (hl:s.heap.IsList l ys) (hx:ps[k]?=some (kk,x)) (hy:ys[k]?=some y)
  (q:∀h',abO h' z TI TO (abk s.heap.objs.size)->aa9 h' TO x y->h'.IsValIter i1 d (k+1) ps.length ep->h'.IsListIter i2 l (k+1)->aa9 h' s.heap.objs.size x y->
   (∀c o,c≠z->c≠TO->c≠i1->c≠i2->s.heap.get? c=some o->h'.get? c=some o)->Q (.ref s.heap.objs.size) {s with heap:=h'}):
  aaE (aaJ prog w) A (Builtin.«zip.__next__» ⟨[.ref z],[]⟩) (fun fin s'=>∃v,fin=.done (.ret v)/\Q v s') E s:=by
 show aaE _ _ (field (.ref z) 2 >>=_) _ _ _
 refine aay (abd hz rfl (x:=.bool false) rfl ?_)
 show aaE _ _ (field (.ref z) 3 >>=_) _ _ _
 refine aay (abd hz rfl (x:=.ref TI) rfl (aay (abn gm rfl ?_)))
 show aaE _ _ (aaW (.ref z) >>=_) _ _ _
 refine aay ?_
 unfold aaW
 refine aay (abd hz rfl (x:=.none) rfl (aaF ?_))
 simp only [if_true]
 refine aay (wpAny_rule (aay (abd hz rfl (x:=.ref TO) rfl (aay (abA hz (by simp) fun p1 z1 b1=>?_)))))
 have z1:abO p1 z TI TO .ellipsis:=z1
 refine aay ?_
 simp only [amM,amZ,af',agq]
 refine aay (aay (wpAny_onRaise ?_))
 show aaE _ _ (aaX (.ref i1) >>=_) _ _ _
 have m1:p1.DictAt knd d ps ep:=m.at' fun o e=>(b1.2 d D.l1z).trans e
 refine aay (US (s:={s with heap:=p1}) (h1.extBut b1.extBut D.i1z) m1 hx fun p2 g2 b2=>aaF ?_)
 have b2:abl i1 p1 p2:=b2
 have o2:aa9 p2 TO a b:=b2.extBut _ _ D.TOi1 (b1.extBut _ _ D.TOz jW)
 refine aay (abn o2 rfl (aay (wpAny_updateSeq_pair o2 fun p3 o3 b3=>?_)))
 have b3:abl TO p2 p3:=b3
 have o3:aa9 p3 TO x b:=o3
 refine aay (wpAny_letGo (aaF (aay (aay (wpAny_onRaise ?_)))))
 show aaE _ _ (aaX (.ref i2) >>=_) _ _ _
 have j3:p3.IsListIter i2 l k:=((h2.extBut b1.extBut D.i2z).extBut b2.extBut D.i12.symm).extBut b3.extBut D.TOi2.symm
 have l3:p3.IsList l ys:=((hl.extBut b1.extBut D.l2z).extBut b2.extBut D.l2i1).extBut b3.extBut D.l2TO
 refine aay (acg (s:={s with heap:=p3}) j3 l3 hy fun p4 j4 b4=>aaF ?_)
 have b4:abl i2 p3 p4:=b4
 have o4:aa9 p4 TO x b:=b4.extBut _ _ D.TOi2 o3
 refine aay (abn o4 rfl (aay (wpAny_updateSeq_pair o4 fun p5 o5 b5=>?_)))
 have b5:abl TO p4 p5:=b5
 have o5:aa9 p5 TO x y:=o5
 refine aay (wpAny_letGo (aaF (aaF (aay (abn o5 rfl (aay (wpAny_newTuple ?_)))))))
 have sz:p5.objs.size=s.heap.objs.size:=by rw [b5.1,b4.1,b3.1,b2.1,b1.1]
 have z5:abO p5 z TI TO .ellipsis:=b5.extBut _ _ D.TOz.symm (b4.extBut _ _ D.i2z.symm (b3.extBut _ _ D.TOz.symm (b2.extBut _ _ D.i1z.symm z1)))
 have c5:∀c o,c≠z->c≠TO->c≠i1->c≠i2->s.heap.get? c=some o->p5.get? c=some o:=fun c o c1 c2 c3 c4 e=>b5.extBut _ _ c2 (b4.extBut _ _ c4 (b3.extBut _ _ c2 (b2.extBut _ _ c3 (b1.extBut _ _ c1 e))))
 have g5:p5.IsValIter i1 d (k+1) ps.length ep:=((g2.extBut b3.extBut D.TOi1.symm).extBut b4.extBut D.i12).extBut b5.extBut D.TOi1.symm
 have j5:p5.IsListIter i2 l (k+1):=j4.extBut b5.extBut D.TOi2.symm
 have zl:z<p5.objs.size:=aaI z5
 show aaE _ _ (Builtin.SmallTypes.ownedTupleHandOut (.ref z) (.ref p5.objs.size) >>=_) _ _ _
 refine aay ?_
 unfold Builtin.SmallTypes.ownedTupleHandOut
 have z6:abO (p5.push {cls:=.type "tuple",data:=.seq #[x,y]}) z TI TO .ellipsis:=aaB _ z5
 refine aay (abA z6 (by simp) fun p7 z7 b7=>?_)
 have z7:abO p7 z TI TO (abk p5.objs.size):=z7
 refine abA z7 (by simp) fun p8 z8 b8=>?_
 have z8:abO p8 z TI TO (abk p5.objs.size):=z8
 have up:∀c o,c≠z->p5.get? c=some o->p8.get? c=some o:=fun c o c1 e=>b8.extBut _ _ c1 (b7.extBut _ _ c1 (aaB _ e))
 have t8:aa9 p8 p5.objs.size x y:=b8.extBut _ _ (afa zl) (b7.extBut _ _ (afa zl) (aaL _ rfl))
 rw [sz] at z8 t8
 refine aaF ⟨_,rfl,?_⟩
 show Q (.ref p5.objs.size) _
 rw [sz]
 exact q p8 z8 (up _ _ D.TOz o5) (g5.at fun o e=>up _ o D.i1z e) (j5.at fun o e=>up _ o D.i2z e) t8 fun c o c1 c2 c3 c4 e=>up c o c1 (c5 c o c1 c2 c3 c4 e)
theorem UT {z TI TO i1 i2 d:aaz}(hh:A.handled=none)(n1:i1≠z)(n2:d≠z)
  (hz:abO s.heap z TI TO .none) (gm:aa9 s.heap TI (.ref i1) (.ref i2)) (h1:s.heap.IsValIter i1 d k ps.length ep) (m:s.heap.DictAt knd d ps ep) (hx:ps.length<=k)
  (q:∀h' e,(∀c o,c≠z->c≠i1->s.heap.get? c=some o->h'.get? c=some o)->(∃o,h'.get? e=some o/\o.cls=.type "StopIteration")->E (.ref e) {s with heap:=h'}):
  aaE (aaJ prog w) A (Builtin.«zip.__next__» ⟨[.ref z],[]⟩) Q E s:=by
 show aaE _ _ (field (.ref z) 2 >>=_) _ _ _
 refine aay (abd hz rfl (x:=.bool false) rfl ?_)
 show aaE _ _ (field (.ref z) 3 >>=_) _ _ _
 refine aay (abd hz rfl (x:=.ref TI) rfl (aay (abn gm rfl ?_)))
 show aaE _ _ (aaW (.ref z) >>=_) _ _ _
 refine aay ?_
 unfold aaW
 refine aay (abd hz rfl (x:=.none) rfl (aaF ?_))
 simp only [if_true]
 refine aay (wpAny_rule (aay (abd hz rfl (x:=.ref TO) rfl (aay (abA hz (by simp) fun p1 z1 b1=>?_)))))
 have z1:abO p1 z TI TO .ellipsis:=z1
 refine aay ?_
 simp only [amM,amZ,af',agq]
 refine aay (aay (wpAny_onRaise ?_))
 show aaE _ _ (aaX (.ref i1) >>=_) _ _ _
 have m1:p1.DictAt knd d ps ep:=m.at' fun o e=>(b1.2 d n2).trans e
 refine aay (Qx (s:={s with heap:=p1}) hh (h1.extBut b1.extBut n1) m1 hx fun p2 e b2 he=>?_)
 obtain ⟨oe,e1,e2⟩:=he
 have z2:abO p2 z TI TO .ellipsis:=b2 _ _ n1.symm z1
 have ne:e≠z:=fun x=>by subst x;rw [z2] at e1;cases e1;simp at e2
 exact abA (s:={s with heap:=p2}) z2 (by simp) fun p3 _ b3=>q p3 e (fun c o c1 c2 x=>b3.extBut _ _ c1 (b2 _ _ c2 (b1.extBut _ _ c1 x))) ⟨oe,b3.extBut _ _ ne e1,e2⟩
theorem Ys {z TI TO i1 i2 d l:aaz}{ys:Ν}{Q:Ο}(D:ZipApart z TI TO i1 i2 d l)
  (hz:abO s.heap z TI TO .none) (gm:aa9 s.heap TI (.ref i1) (.ref i2)) (jW:aa9 s.heap TO a b)
  (h1:s.heap.IsValIter i1 d k ps.length ep) (m:s.heap.DictAt knd d ps ep) (h2:s.heap.IsListIter i2 l k) (hl:s.heap.IsList l ys) (hx:ps[k]?=some (kk,x)) (hy:ys[k]?=some y)
  (q:∀h',abO h' z TI TO (abk s.heap.objs.size)->aa9 h' TO x y->h'.IsValIter i1 d (k+1) ps.length ep->h'.IsListIter i2 l (k+1)->aa9 h' s.heap.objs.size x y->
   (∀c o,c≠z->c≠TO->c≠i1->c≠i2->s.heap.get? c=some o->h'.get? c=some o)->Q (some (.ref s.heap.objs.size)) {s with heap:=h'}):
  aaE (aaJ prog w) A (abL (.ref z)) Q E s:=by
 have ty:s.TypeIs (.ref z) "zip":=⟨_,hz,rfl⟩
 unfold abL
 exact aay (wpAny_attempt (wpAny_callSpecial?_slot (name:=aa6 "__next__") ty abq (abx abq ty ahd (Qy D hz gm jW h1 m h2 hl hx hy fun h' a1 a2 a3 a4 a5 a6=>aaF (q h' a1 a2 a3 a4 a5 a6)) (ag9 _))))
theorem UU {z TI TO i1 i2 d:aaz}{Q:Ο}(hh:A.handled=none)(n1:i1≠z)(n2:d≠z)
  (hz:abO s.heap z TI TO .none) (gm:aa9 s.heap TI (.ref i1) (.ref i2)) (h1:s.heap.IsValIter i1 d k ps.length ep) (m:s.heap.DictAt knd d ps ep) (hx:ps.length<=k)
  (q:∀h',(∀c o,c≠z->c≠i1->s.heap.get? c=some o->h'.get? c=some o)->Q none {s with heap:=h'}):aaE (aaJ prog w) A (abL (.ref z)) Q E s:=by
 have ty:s.TypeIs (.ref z) "zip":=⟨_,hz,rfl⟩
 unfold abL
 refine aay (wpAny_attempt (wpAny_callSpecial?_slot (name:=aa6 "__next__") ty abq (abx abq ty ahd (UT hh n1 n2 hz gm h1 m hx fun h' e hk he=>?_) (ag9 _))))
 obtain ⟨o,e1,e2⟩:=he
 exact aay (wpAny_isInstance (T:="StopIteration") (b:=true) ⟨o,e1,e2⟩ isSubtype_stop (aaF (q _ hk)))
abbrev zv1 (h:Heap)(d:aaz)(n ep:Nat):Heap:=h.push {cls:=.type "dict_valueiterator",data:=.fields #[.ref d,.int 0 0,.int n 0,.int ep 0]}
abbrev zv2 (h:Heap)(d l:aaz)(n ep:Nat):Heap:=(zv1 h d n ep).push {cls:=.type "list_iterator",data:=.fields #[.ref l,.int 0 0]}
abbrev zv3 (h:Heap)(d l:aaz)(n ep:Nat):Heap:=(zv2 h d l n ep).push {cls:=.type "tuple",data:=.seq #[.ref h.objs.size,.ref (zv1 h d n ep).objs.size]}
abbrev zv4 (h:Heap)(d l:aaz)(n ep:Nat):Heap:=(zv3 h d l n ep).push {cls:=.type "tuple",data:=.seq #[.none,.none]}
abbrev Wx (h:Heap)(d l:aaz)(n ep:Nat):Heap:=(zv4 h d l n ep).push {cls:=.type "zip",data:=.fields #[.none,.bool false,.bool false,.ref (zv2 h d l n ep).objs.size,.ref (zv3 h d l n ep).objs.size]}
theorem Qz (knd:KeyKind prog w Kt)(v l d:aaz)(ps:List (Kt×Value))(ep:Nat)(ys:Ν):
  MeetsIn prog w (Builtin.«zip.__new__» ⟨[.type "zip",.ref v,.ref l],[]⟩) (fun _ R s=>s.heap.IsValuesView v d/\s.heap.DictAt knd d ps ep/\s.heap.IsList l ys/\
   R (.ok (.ret (.ref (zv4 s.heap d l ps.length ep).objs.size))) {s with heap:=Wx s.heap d l ps.length ep}):=
 .of_wp fun A R s h=>by
  obtain ⟨hp,g,dr,tk,os⟩:=s
  obtain ⟨h1,h2,h3,q⟩:=h
  have axa:=sub_zip
  have hV:Heap.IsValuesView (Shared.heap ⟨hp,g,dr,tk,os⟩) v d:=h1
  have hD:Heap.DictAt knd (Shared.heap ⟨hp,g,dr,tk,os⟩) d ps ep:=h2
  have hL:Heap.IsList (Shared.heap ⟨hp.push {cls:=.type "dict_valueiterator",data:=.fields #[.ref d,.int 0 0,.int ps.length 0,.int ep 0]},g,dr,tk,os⟩) l ys:=Heap.IsList.push h3 _
  wp_walk using wpAny_pyIter_values hV hD,ag8 hL
  exact ⟨_,rfl,q⟩
theorem HV {ys:Ν}{Q:δ}(hv:s.heap.IsValuesView v d)(m:s.heap.DictAt knd d ps ep)(hl:s.heap.IsList l ys)
  (q:∀h',abO h' (s.heap.objs.size+4) (s.heap.objs.size+2) (s.heap.objs.size+3) .none->aa9 h' (s.heap.objs.size+2) (.ref s.heap.objs.size) (.ref (s.heap.objs.size+1))->
   aa9 h' (s.heap.objs.size+3) .none .none->h'.IsValIter s.heap.objs.size d 0 ps.length ep->h'.IsListIter (s.heap.objs.size+1) l 0->(∀c o,s.heap.get? c=some o->h'.get? c=some o)->Q (.ref (s.heap.objs.size+4)) {s with heap:=h'}):
  aaE (aaJ prog w) A (call (.type "zip") [.ref v,.ref l]) Q E s:=by
 refine callType_newIn F.called_zip (by decide) (F.typeCall_zip_2 _ _) (F.newCall_zip_2 _ _) (fun obj=>F.args_object_init_3 obj _ _) F.entry_zip_new (Qz knd v l d ps ep ys) ⟨hv,m,hl,?_⟩
 have z1:(zv1 s.heap d ps.length ep).objs.size=s.heap.objs.size+1:=abb ..
 have z2:(zv2 s.heap d l ps.length ep).objs.size=s.heap.objs.size+2:=by rw [abb,z1]
 have z3:(zv3 s.heap d l ps.length ep).objs.size=s.heap.objs.size+3:=by rw [abb,z2]
 have z4:(zv4 s.heap d l ps.length ep).objs.size=s.heap.objs.size+4:=by rw [abb,z3]
 have on:∀{h:Heap} {c:aaz} {o p:Obj},h.get? c=some o->(h.push p).get? c=some o:=fun e=>aaB _ e
 have g5:(Wx s.heap d l ps.length ep).get? (zv4 s.heap d l ps.length ep).objs.size=some _:=aaL _ rfl
 have g4:(Wx s.heap d l ps.length ep).get? (zv3 s.heap d l ps.length ep).objs.size=some _:=on (aaL _ rfl)
 have g3:(Wx s.heap d l ps.length ep).get? (zv2 s.heap d l ps.length ep).objs.size=some _:=on (on (aaL _ rfl))
 have g2:(Wx s.heap d l ps.length ep).get? (zv1 s.heap d ps.length ep).objs.size=some _:=on (on (on (aaL _ rfl)))
 have g1:(Wx s.heap d l ps.length ep).get? s.heap.objs.size=some _:=on (on (on (on (aaL _ rfl))))
 show _/\_
 rw [z2,z3,z4] at g5
 rw [z1,z2] at g3
 rw [z3] at g4
 rw [z1] at g2
 rw [z4]
 exact ⟨⟨_,g5,rfl⟩,q _ g5 g3 g4 ⟨_,g1,rfl,rfl⟩ ⟨_,g2,rfl,rfl⟩ fun c o x=>on (on (on (on (on x))))⟩
end
def MM (K:Frag)(d:aaz)(o:Obj)(kvs:γ)(b:aaz):It:=
 ⟨fun i H=>H d=some (.fq o (.dK kvs))/\i<kvs.length/\∃ys y,aR K H b ys/\ys[i]?=some y,
  fun i H v H'=>∃p k x y,kvs[i]?=some (k,x)/\(∀ys,aR K H b ys->ys[i]?=some y)/\v=.ref p/\H p=none/\H'=upd H p (.tup [x,y]),
  fun i H=>H d=some (.fq o (.dK kvs))/\kvs.length<=i⟩
theorem QC {K:Frag}{es:Ε}(d b z TI TO i1 i2:aaz)(o:Obj)(kvs:γ)(he:o.data=.dict S' ep)(D:ZipApart z TI TO i1 i2 d b):
  Turn P w K (.Tuple es k pos) (MM K d o kvs b) [z,TI,TO,i1,i2] z (fun i h=>abO h z TI TO .none/\aa9 h TI (.ref i1) (.ref i2)/\(∃x y,aa9 h TO x y)/\h.IsValIter i1 d i kvs.length ep/\h.IsListIter i2 b i) where
 mem:=by simp
 obj:=fun i h st c hc=>by
  obtain ⟨hz,gm,⟨x,y,jW⟩,⟨o1,e1,c1,d1⟩,⟨o2,e2,c2,d2⟩⟩:=st
  have pE :c=z\/c=TI\/c=TO\/c=i1\/c=i2:=by simpa using hc
  rcases pE with e|e|e|e|e<;>subst e
  ·exact ⟨_,hz,fun v z=>by cases z⟩
  ·exact ⟨_,gm,fun v z=>by cases z⟩
  ·exact ⟨_,jW,fun v z=>by cases z⟩
  ·exact ⟨_,e1,fun v z=>by rw [d1] at z;cases z⟩
  ·exact ⟨_,e2,fun v z=>by rw [d2] at z;cases z⟩
 keep:=fun i h h' st k=>by
  obtain ⟨hz,gm,⟨x,y,jW⟩,h1,h2⟩:=st
  exact ⟨k z (by simp) _ hz,k TI (by simp) _ gm,⟨x,y,k TO (by simp) _ jW⟩,h1.at fun o e=>k i1 (by simp) o e,h2.at fun o e=>k i2 (by simp) o e⟩
 item:=by
  intro X hP hw hK hc i pins s σ H E I hf st hg
  subst hP hw hK
  obtain ⟨hz,gm,⟨x0,y0,jW⟩,h1,h2⟩:=st
  obtain ⟨fz,hi,ys,y,qy,ey⟩:=hg
  obtain ⟨hd,vs,rel,da,_⟩:=nC I.bH fz he
  have ek:kvs[i]?=some kvs[i]:=gE hi
  obtain ⟨⟨k',u⟩,ev,e1,ru⟩:=aE rel ek
  have lv:=rel.length
  rw [lv] at h1
  obtain ⟨Uz,sW,p',_⟩:=I.list qy
  obtain ⟨v,hv,rv'⟩:=sW.get ey
  refine Ys D hz gm jW h1 da h2 p'.isList ev (y:=v) (by simpa using hv) fun h' a1 a2 a3 a4 a5 a7=>?_
  refine ⟨_,rfl,wpAny_letOwnedTupleGo_zip (s:={s with heap:=h'}) a1 fun DS b1 sb=>?_⟩
  have nz:∀c,c≠z->∀o,h'.get? c=some o->DS.get? c=some o:=fun c hc o e=>(sb.2 c hc).trans e
  have kk:∀b o,b∉[z,TI,TO,i1,i2]->s.heap.get? b=some o->DS.get? b=some o:=fun b o hb e=>by
   have fC :b≠z/\b≠TI/\b≠TO/\b≠i1/\b≠i2:=by simpa using hb
   exact nz b fC.1 o (a7 b o fC.1 fC.2.2.1 fC.2.2.2.1 fC.2.2.2.2 e)
  have sz:∀c o,s.heap.get? c=some o->s.heap.objs.size≠c:=fun c o e=>afa (aaI e)
  have hn:=I.bH.fresh (aa_ s.heap.objs.size)
  have I2:Inv X pins σ (upd H s.heap.objs.size (.tup [kvs[i].2,y])) {s with heap:=DS,toks:=s.toks}:=
   Inv.qe I kk hf (aa_ _) (by show 2<=aaD;decide) (its:=[u,v]) (.cons ru (.cons rv' .nil)) ⟨_,nz _ (sz _ _ hz) _ a5,rfl,_,rfl⟩
  rw [<-lv] at a3
  refine ⟨.ref s.heap.objs.size,_,I2,rfl,⟨s.heap.objs.size,kvs[i].1,kvs[i].2,y,ek,fun ys' q=>by rw [I.iJ q qy];exact ey,rfl,hn,rfl⟩,⟨b1,nz _ D.TIz _ (a7 _ _ D.TIz D.TITO D.TIi1 D.TIi2 gm),⟨_,_,nz _ D.TOz _ a2⟩,a3.at fun o e=>nz _ D.i1z o e,a4.at fun o e=>nz _ D.i2z o e⟩,fun b hb=>?_⟩
  have ob:∃o,s.heap.get? b=some o:=by
   obtain ⟨o1,e1,_⟩:=h1
   obtain ⟨o2,e2,_⟩:=h2
   have pE :b=z\/b=TI\/b=TO\/b=i1\/b=i2:=by simpa using hb
   rcases pE with e|e|e|e|e<;>subst e
   ·exact ⟨_,hz⟩
   ·exact ⟨_,gm⟩
   ·exact ⟨_,jW⟩
   ·exact ⟨_,e1⟩
   ·exact ⟨_,e2⟩
  obtain ⟨o,e⟩:=ob
  rw [aj (adO (sz _ _ e))]
  exact (hf b hb).1
 done:=by
  intro X hP hw hK hc i pins s σ H E I hf st hg
  subst hP hw hK
  obtain ⟨hz,gm,⟨x0,y0,jW⟩,h1,h2⟩:=st
  obtain ⟨fz,hi⟩:=hg
  obtain ⟨hd,vs,rel,da,_⟩:=nC I.bH fz he
  have lv:=rel.length
  rw [lv] at h1
  refine UU (I.ok.hd hc) D.i1z D.l1z hz gm h1 da (by omega) fun h' kk=>⟨rfl,Inv.mm I (fun b o hb e=>?_) hf⟩
  have fC :b≠z/\b≠TI/\b≠TO/\b≠i1/\b≠i2:=by simpa using hb
  exact kk b o fC.1 fC.2.2.2.1 e
 self:=fun _ _ _ _ _ st h=>acr st.1 h
section
variable {X:Cx}
def Yt (K:Frag)(te:TE)(ta:TA):TI:=fun σ H R=>te σ H fun x H1=>∃d,x=.ref d/\(∃kvs,H1 d=some (.dK kvs))/\ta σ H1 fun vs H2=>∃b kvs,vs=[.ref b]/\(∃ys,aR K H2 b ys)/\H2 d=some (.dK kvs)/\∀o,R (MM K d o kvs b) (upd H2 d (.fq o (.dK kvs)))
theorem Inv.UW {σ:L2.St}(I:Inv X pins σ H s)(h:s.heap.get? a=some o/\H a=none/\a≠X.env.locals/\a∉X.fs/\∀v,o.data≠.cell v):Inv X ((a,o)::pins) σ H s:=by
 refine ⟨I.ok,I.os,I.bare,I.base,I.loc,I.cell,I.free,I.iI,fun p hp=>?_,I.bH,I.len⟩
 rcases ado.mp hp with z|z
 ·exact I.pin p (adL _ z)
 ·rcases adD.mp z with z|z
  ·rw [z]
   exact h
  ·exact I.pin p (adI _ z)
theorem Inv.QD {pins:ε}{σ:L2.St}(I:Inv X (p::pins) σ H s):Inv X pins σ H s:=by
 refine ⟨I.ok,I.os,I.bare,I.base,I.loc,I.cell,I.free,I.iI,fun p hp=>?_,I.bH,I.len⟩
 rcases ado.mp hp with z|z
 ·exact I.pin p (adL _ z)
 ·exact I.pin p (adI _ (aaw _ z))
theorem QE {p pos apos gj:Pos}{es:Ε}{k:Nat}{u4:Pos}(hg:Gl X "zip")(hm:X.mg "zip"=none)(ho:PE X e te)(ha:PA X [e2] ta)
  (hs:aaO [.Call (.Attribute e "values" apos) [] [] gj,e2] X.env=[(false,aaV (.Call (.Attribute e "values" apos) [] [] gj) X.env),(false,aaV e2 X.env)]:=by rfl) (DE:aaO [e2] X.env=[(false,aaV e2 X.env)]:=by rfl)
  (xI:acF e "values" X.env (aaV e X.env)=aaV e X.env:=by rfl) (xJ:(apos.endLine==gj.line)=true:=by rfl):
  PI X (.Tuple es k u4) (.Call (.Name "zip" p) [.Call (.Attribute e "values" apos) [] [] gj,e2] [] pos) (Yt X.K te ta):=by
 intro pins s σ H R I h
 refine Call_ (i5 I hg hm boot_zip (aa7 ?_ (by rw [hs,DE]) (by rw [DE];rfl)))
 rw [hs]
 show aaE _ _ (spliced ((false,aaV (.Call (.Attribute e "values" apos) [] [] gj) X.env)::abj pos [(false,aaV e2 X.env)])) _ _ s
 refine abM (wpAny_Call_method0_late xI xJ (cI (ho pins s σ H _ I h) fun v s1 ⟨x,H1,I1,r1,q1⟩=>?_))
 obtain ⟨d,rfl,⟨kv0,e0⟩,q⟩:=q1
 cases r1
 obtain ⟨h1,h2,hd⟩:=Me I1 (.inl ⟨kv0,.inl e0⟩)
 obtain ⟨_,_,vs0,ae9,dd0⟩:=oH I1.bH e0
 refine ⟨"dict","dict.values",F.plainAttrs_dict,F.slot_dict_values,F.type_dict_values,h1,h2,acb rfl (PySem.evalArgs_none ?_)⟩
 refine call_meetsIn F.slot_dict_values h1 F.entry_dict_values (F.args_dict_values_1 _) (meets_dict_values (bC X.prog X.w) d hd) ⟨⟨vs0,dd0⟩,?_⟩
 have I2:Inv X pins σ H1 {s1 with heap:=s1.heap.push {cls:=.type "dict_values",data:=.fields #[.ref d]}}:=I1.kept (t':=s1.toks) fun b o e=>aaB _ e
 obtain ⟨f0,f1,f2,f3,f4,f5⟩:=I1.m8 (aa_ s1.heap.objs.size) (I1.bH.fresh (aa_ _))
 have I3:=Inv.UW I2 (a:=s1.heap.objs.size) (o:={cls:=.type "dict_values",data:=.fields #[.ref d]}) ⟨aaL _ rfl,f0,f1,f2,fun v z=>by cases z⟩
 have hb2:abj pos [(false,aaV e2 X.env)]=abj pos (aaO [e2] X.env):=by rw [DE]
 show aaE _ _ (spliced (abj pos [(false,aaV e2 X.env)])) _ _ _
 rw [hb2]
 refine cI (ha pos _ _ σ H1 _ I3 q) fun us s3 ⟨ws,H3,I4,r4,q4⟩=>?_
 obtain ⟨b,kvs,rfl,⟨ys,hy⟩,ed,q⟩:=q4
 obtain ⟨u,rfl⟩:∃u,us=[u]:=by cases r4 with|cons h t=>cases t;exact ⟨_,rfl⟩
 cases r4 with
 | cons rb _=>
 cases rb
 have hv:=(I4.pin (s1.heap.objs.size,_) (adI _ adk)).1
 have I5:=Inv.QD I4
 obtain ⟨z,PQ,vs,rel,o,X6,ep,OG,hx,jH,hk,hp,hn⟩:=oH I5.bH ed
 have da:s3.heap.DictAt (bC X.prog X.w) d vs ep:=⟨o,X6,OG,hx,jH,hk,hp,hn⟩
 have lv:=rel.length
 have I6:=Inv.freeze I5 ed OG
 obtain ⟨Uz,sW,pl,_⟩:=I5.list hy
 have lt1:d<s3.heap.objs.size:=aaI OG
 have XW:b<s3.heap.objs.size:=by obtain ⟨ob,e1,_⟩:=pl.isList;exact aaI e1
 refine HV (knd:=bC X.prog X.w) (d:=d) ⟨_,hv,rfl,rfl⟩ da pl.isList fun h' hz gm jW xQ UA hk=>acr (s:={s3 with heap:=h'}) hz ?_
 rw [<-lv] at xQ
 refine ⟨s3.heap.objs.size+4,[s3.heap.objs.size+4,s3.heap.objs.size+2,s3.heap.objs.size+3,s3.heap.objs.size,s3.heap.objs.size+1],_,_,_,rfl,I6.kept (t':=s3.toks) hk,QC d b _ _ _ _ _ o kvs jH ?_,⟨hz,gm,⟨_,_,jW⟩,xQ,UA⟩,fun c hc=>?_,q o⟩
 ·constructor<;>(intro z;simp only [aaz] at*;omega)
 ·have pE :s3.heap.objs.size<=c:=by
   have:c=s3.heap.objs.size+4\/c=s3.heap.objs.size+2\/c=s3.heap.objs.size+3\/c=s3.heap.objs.size\/c=s3.heap.objs.size+1:=by simpa using hc
   simp only [aaz] at*
   omega
  exact I6.m8 pE (I6.bH.fresh pE)
theorem MO {K:Frag}{g:TG}{tb:TS}{D:Ends}(Pv:Nat->L2.St->Hp->Prop)(hy:kvs.length<=ys.length)(h0:Pv 0 σ H)(hl:∀i σ H,i<=kvs.length->Pv i σ H->H d=some (.fq o (.dK kvs))/\aR K H b ys)
  (hs:∀i k x y σ H p,kvs[i]?=some (k,x)->ys[i]?=some y->Pv i σ H->H p=none->g (.ref p) σ (upd H p (.tup [x,y])) fun σ2 H2=>tb {D with nx:=Pv (i+1),ct:=Pv (i+1),bk:=D.nx} σ2 H2) (hd:∀σ H,Pv kvs.length σ H->D.nx σ H):
  ∃W:Nat->Nat->L2.St->Hp->Prop,(∃m,W 0 m σ H)/\∀i m σ H,W i m σ H->
   ((MM K d o kvs b).stop i H/\D.nx σ H)\/((MM K d o kvs b).go i H/\∃N:L2.St->Hp->Prop,(∀σ' H',N σ' H' ->∃m',m'<m/\W (i+1) m' σ' H')/\∀x H',(MM K d o kvs b).CZ i H x H' ->g x σ H' fun σ2 H2=>tb {D with nx:=N,ct:=N,bk:=D.nx} σ2 H2):=by
 refine ⟨fun i m σ H=>m=kvs.length-i/\i<=kvs.length/\Pv i σ H,⟨kvs.length,by simp,adS _,h0⟩,?_⟩
 rintro i m σ H ⟨rfl,hi,p⟩
 obtain ⟨q1,q2⟩:=hl i σ H hi p
 by_cases kN:i<kvs.length
 ·have ey:ys[i]?=some ys[i]:=gE (by omega)
  refine .inr ⟨⟨q1,kN,ys,ys[i],q2,ey⟩,Pv (i+1),fun σ' H' z=>⟨kvs.length-(i+1),by omega,rfl,by omega,z⟩,fun x H' y=>?_⟩
  obtain ⟨a,k,x',y',ek,KQ,rfl,na,rfl⟩:=y
  exact hs i k x' y' σ _ a ek (KQ ys q2) p na
 ·have e:i=kvs.length:=by omega
  subst e
  exact .inl ⟨⟨q1,aa_ _⟩,hd σ H p⟩
end
section
variable {D:aaz}{te:TE}{cap:L2.St}{H1:Hp}{Q:VK}
theorem yk (J:List V->Hp->Prop)(nD:H1 D=none)(hn:n<aaD)(h0:J [] (upd H1 D (.lst [])))
  (he:∀(i:Nat) ys H (R:VK),i<n->ys.length=i->J ys H->ao H1 H->H D=some (.lst ys)->(∀v H6,ao H H6->J (ys++[v]) (upd H6 D (.lst (ys++[v])))->R v H6)->te (some (.int (0+(i:Int)))::cap) H R)
  (hd:∀ys H,ys.length=n->J ys H->ao H1 H->H D=some (.lst ys)->Q (.ref D) H):
  nq D (cV 0) ki te (SJ 0 n) (none::cap) H1 Q:=by
 refine vk n (fun i=>.int (0+(i:Int))) (fun i ys H=>ys.length=i/\J ys H/\ao H1 H) ⟨rfl,h0,fun b o e=>by rw [aj (ak e nD)];exact e⟩ ?_ ?_ ?_ ?_
 ·rintro i ys H hi _
  exact ⟨hi,fun x H' y=>y⟩
 ·rintro ys H _
  exact aa_ n
 ·rintro i ys H R hi ⟨l,j,s⟩ hD k
  exact he i ys H R hi l j s hD fun v H6 s6 jv=>k v H6 (s6 _ _ hD) (by omega) ⟨by simp [l],jv,fun b o e=>by rw [aj (ak e nD)];exact s6 _ _ (s _ _ e)⟩
 ·rintro ys H ⟨l,j,s⟩ hD
  exact hd ys H l j s hD
end
theorem MQ {K:Frag}(h:X.K=K)(hu:X.A.units+64<abG):kc X (aba .NotEq) (DM K):=by subst h;exact qb hu
theorem MS (x y z:Value):argsOk "min" ⟨[x,y,z],[]⟩:=by
 unfold argsOk
 kernel_rfl
abbrev tf (i j k:Int)(t u v:Tok):Array (Int×Tok):= #[(i,t),(j,u),(k,v)]
theorem MU {E:δ}{R:δ}(hb:B.handled=none)
  (h:∀(m:Int)(tm:Tok)(h':Heap)(n:Nat),(m=i\/m=j\/m=k)->m<=i->m<=j->m<=k->(∀b o,s.heap.get? b=some o->h'.get? b=some o)->R (.int m tm) {s with heap:=h',toks:=n}):
  aaE (aaJ P w) B (call (.builtin "min") [.int i t,.int j u,.int k v]) R E s:=by
 have nm:(toString "min"++toString ".loop":String)="min.loop":=by decide
 have tup:(s.heap.push {cls:=.type "tuple",data:=.seq #[Value.int i t,Value.int j u,Value.int k v]}).IsTuple s.heap.objs.size (intItems (tf i j k t u v)):=
  ⟨_,aaL _ rfl,rfl,0,by simp [intItems]⟩
 have yl:(s.heap.push {cls:=.type "tuple",data:=.seq #[Value.int i t,Value.int j u,Value.int k v]}).objs.size=s.heap.objs.size+1:=
  abb ..
 have Yu:(intItems (tf i j k t u v)).size=3:=by simp [intItems]
 refine call_function_tree F.kind_min F.plain_min F.entry_min
  (MS _ _ _) ?_
 show aaE _ B.in1 (Builtin.Builtins.bindParams "min"
  ["key","default"] 0 ⟨[],[]⟩ >>=_) _ _ s
 refine aay (wpAny_of_eq (show Builtin.Builtins.bindParams "min"
  ["key","default"] 0 ⟨[],[]⟩=pure [none,none] from rfl) ?_)
 show aaE _ B.in1 (newTuple [.int i t,.int j u,.int k v] >>=_) _ _ s
 refine aay (abE ?_ (by show 3<=aaD;decide))
 refine aay (wpAny_pyIter_tuple tup ?_)
 refine aay (abE ?_ (by first|(show 0<=aaD;decide)|(show 1<=aaD;decide)|(show 2<=aaD;decide)))
 rw [nm]
 have nI:s.heap.objs.size≠(s.heap.push {cls:=.type "tuple",data:=.seq #[Value.int i t,Value.int j u,Value.int k v]}).objs.size:=by rw [yl];omega
 have W:=Walks.tuple (prog:=P) (w:=w) (A:=B.in1) hb _ s.heap.objs.size nI (intItems (tf i j k t u v))
 have low:∀b,b∈[(s.heap.push {cls:=.type "tuple",data:=.seq #[Value.int i t,Value.int j u,Value.int k v]}).objs.size,s.heap.objs.size]->b<s.heap.objs.size+2:=fun b fC =>by
  rw [yl] at fC
  rcases adD.mp fC with e|fC
  ·omega
  ·have:=adi.mp fC
   omega
 refine aaF ⟨ahc F.plain_min_loop _,?_⟩
 refine codeAny_min_loop_first W _ (CmpOf.ints_lt (numAt (tf i j k t u v)) fun _ _=>intItems_at) _ (fun hm=>?_) (by rw [Yu];decide)
  (W.frame 0 _ _ ⟨⟨_,aaL _ rfl,rfl,rfl⟩,tup.push _⟩ fun b _ o e=>aaB _ e) (aaL _ rfl) fun r h' n hr hk=>?_
 ·have:=low _ hm
  revert this
  show ¬ ((s.heap.push _).push _).objs.size<_
  rw [abb,yl]
  omega
 ·rw [Yu] at hr
  have v0:numAt (tf i j k t u v) 0=i:=rfl
  have v1:numAt (tf i j k t u v) 1=j:=rfl
  have v2:numAt (tf i j k t u v) 2=k:=rfl
  obtain ⟨a,ea,ha⟩:∃a,argBest (fun i' j'=>decide (numAt (tf i j k t u v) i'<numAt (tf i j k t u v) j')) 2=a/\((a=0/\i<=j/\i<=k)\/(a=1/\j<=i/\j<=k)\/(a=2/\k<=i/\k<=j)):=by
   refine ⟨_,rfl,?_⟩
   by_cases c1:j<i
   ·by_cases c2:k<j
    ·exact .inr (.inr ⟨by simp [argBest,v0,v1,v2,c1,c2],by omega,by omega⟩)
    ·exact .inr (.inl ⟨by simp [argBest,v0,v1,v2,c1,c2],by omega,by omega⟩)
   ·by_cases c2:k<i
    ·exact .inr (.inr ⟨by simp [argBest,v0,v1,v2,c1,c2],by omega,by omega⟩)
    ·exact .inl ⟨by simp [argBest,v0,v1,v2,c1,c2],by omega,by omega⟩
  have hr':(intItems (tf i j k t u v))[a]?=some r:=by rw [<-ea];exact hr
  obtain ⟨tm,rfl⟩:=intItems_at hr'
  have old:∀b o,s.heap.get? b=some o->h'.get? b=some o:=fun b o e=>by
   refine hk b o (fun hm=>?_) (fun z=>?_) (aaB _ (aaB _ (aaB _ e)))
   ·have:=aaI e
    rw [adi.mp hm] at this
    have more:(s.heap.push {cls:=.type "tuple",data:=.seq #[Value.int i t,Value.int j u,Value.int k v]}).objs.size<s.heap.objs.size:=this
    rw [yl] at more
    omega
   ·have:=aaI e
    rw [z] at this
    have more:((s.heap.push _).push _).objs.size<s.heap.objs.size:=this
    rw [abb,yl] at more
    omega
  rcases ha with ⟨rfl,h1,h2⟩|⟨rfl,h1,h2⟩|⟨rfl,h1,h2⟩
  ·exact h i tm h' n (.inl rfl) (amj _) h1 h2 old
  ·exact h j tm h' n (.inr (.inl rfl)) h1 (amj _) h2 old
  ·exact h k tm h' n (.inr (.inr rfl)) h1 h2 (amj _) old
section
variable {X:Cx}
theorem vals3 {us:ρ}(r:Vals [x,y,z] us):∃a b c,us=[a,b,c]/\RelV x a/\RelV y b/\RelV z c:=by
 cases r with
 | cons r1 r2=>
  obtain ⟨b,c,rfl,r3,r4⟩:=vals2 r2
  exact ⟨_,b,c,rfl,r1,r3,r4⟩
inductive Tc (xs:η)(H:Hp)(Q:VK):Prop
|mk (i j k:Int)(_:xs=[.int i,.int j,.int k])(_:∀m:Int,(m=i\/m=j\/m=k)->m<=i->m<=j->m<=k->Q (.int m) H)
theorem HW (hc:X.calm=true):iL X (.builtin "min") Tc:=by
 intro pins s σ H xs us Q I r h
 obtain ⟨i,j,k,rfl,q⟩:=h
 obtain ⟨a,b,c,rfl,⟨t,rfl⟩,⟨t',rfl⟩,⟨t'',rfl⟩⟩:=vals3 r
 exact MU (I.ok.hd hc) fun m tm h' n h1 h2 h3 h4 kk=>⟨.int m,H,I.kept kk,⟨_,rfl⟩,q m h1 h2 h3 h4⟩
end
section
variable {prog:aaP}{w:World}{A:aaT}{E:δ}{s:aaH}
end
section
variable {X:Cx}{pins:ε}{σ:L2.St}
end
inductive EI {A0 A1:Type}(p:A0->A1->Prop):Prop where
 | mk (a0:A0)(a1:A1)(h:p a0 a1):EI p
inductive EJ {A0 A1 A2:Type}(p:A0->A1->A2->Prop):Prop where
 | mk (a0:A0)(a1:A1)(a2:A2)(h:p a0 a1 a2):EJ p
inductive HX {A0 A1 A2 A3:Type}(p:A0->A1->A2->A3->Prop):Prop where
 | mk (a0:A0)(a1:A1)(a2:A2)(a3:A3)(h:p a0 a1 a2 a3):HX p
inductive Yv {A0 A1 A2 A3 A4:Type}(p:A0->A1->A2->A3->A4->Prop):Prop where
 | mk (a0:A0)(a1:A1)(a2:A2)(a3:A3)(a4:A4)(h:p a0 a1 a2 a3 a4):Yv p
inductive Ex6 {A0 A1 A2 A3 A4 A5:Type}(p:A0->A1->A2->A3->A4->A5->Prop):Prop where
 | mk (a0:A0)(a1:A1)(a2:A2)(a3:A3)(a4:A4)(a5:A5)(h:p a0 a1 a2 a3 a4 a5):Ex6 p
inductive Ex7 {A0 A1 A2 A3 A4 A5 A6:Type}(p:A0->A1->A2->A3->A4->A5->A6->Prop):Prop where
 | mk (a0:A0)(a1:A1)(a2:A2)(a3:A3)(a4:A4)(a5:A5)(a6:A6)(h:p a0 a1 a2 a3 a4 a5 a6):Ex7 p
inductive Ex9 {A0 A1 A2 A3 A4 A5 A6 A7 A8:Type}(p:A0->A1->A2->A3->A4->A5->A6->A7->A8->Prop):Prop where
 | mk (a0:A0)(a1:A1)(a2:A2)(a3:A3)(a4:A4)(a5:A5)(a6:A6)(a7:A7)(a8:A8)(h:p a0 a1 a2 a3 a4 a5 a6 a7 a8):Ex9 p
section
variable {P:aaP}{w:World}{K:Frag}{mg:θ}{base:Heap}{CX:me}{N ps:ς}{k:Nat}{sp:Sp}{st:Stmt}
theorem Def.oo (D:Def K mg x st ps)(S:av N ps (ae st))
  (gN:∀{f:aaz} {bZ:Value} {A:aaT} {outer:List Env} {s:aaH} {vs:η} {Q:VK} {E:XK} (H:Hp),cy k (A.deeper (abN x (ae st) s.heap.objs.size f bZ))->sp vs H Q E->
   ∃t,PSs (jr CX P w K mg base N x (ae st) f bZ A outer s H E).xl (aq st) t/\t {nx:=fun _ H'=>Q .cS H',rt:=Q} (start N vs) H) (len:∀vs H Q E,sp vs H Q E->vs.length=ps.length:=by intro vs H Q E h;cases h;subst_vars;rfl):Fn P w K mg base CX (k+1) x ps sp:=D.ok S len fun _ _ _ _ _ H _ _ _ hr h=>gN H hr h
theorem Def.op (D:Def K mg x st ps)(S:av N ps (ae st))
  (gN:∀(f:aaz)(bZ:Value)(A:aaT)(outer:List Env)(s:aaH)(H:Hp)(vs:η)(Q:VK)(E:XK),cy k (A.deeper (abN x (ae st) s.heap.objs.size f bZ))->sp vs H Q E->
   ∃t,PSs (jr CX P w K mg base N x (ae st) f bZ A outer s H E).xl (aq st) t/\t {nx:=fun _ H'=>Q .cS H',rt:=Q} (start N vs) H) (len:∀vs H Q E,sp vs H Q E->vs.length=ps.length:=by intro vs H Q E h;cases h;subst_vars;rfl):Fn P w K mg base CX (k+1) x ps sp:=D.ok S len gN
theorem gU (F:qG K name qual st f fd)(S:av N ps (ae st))
  (gN:∀{bZ:Value} {A:aaT} {outer:List Env} {s:aaH} {vs:η} {Q:VK} {E:XK} (H:Hp),cy k (A.deeper (abN qual (ae st) s.heap.objs.size f bZ))->sp vs H Q E->
   ∃t,PSs (cxr P w K mg base N qual (ae st) f bZ A outer s H E).xl (aq st) t/\t {nx:=fun _ H'=>Q .cS H',rt:=Q} (start N vs) H) (len:∀vs H Q E,sp vs H Q E->vs.length=ps.length:=by intro vs H Q E h;cases h;subst_vars;rfl):dm P w K mg base (aT P w) (k+1) f fd ps sp:=DZ F S len fun _ _ _ _ H _ _ _ hr h=>gN H hr h
theorem EK (P:aaP)(w:World){X:Cx}:Passes (aT P w) X.xl E0:=jE aT.AH
end
section
variable {X:Cx}{i:Nat}{x y:Str}{a b c d e e1 e2 e3 e4 e5 elt target iter:Expr}{es ifs:Ε}{te ta tb t1 t2 t3 t4 t5:TE}{wi:TI}{g:TG}{tt:TT}{pos pos' py sZ p:Pos}{scope:Scope}{tn fr:ς}{caps:List Nat}
theorem aF (hN:X.N.Nodup)(he:PE X e te)(hi:X.N[i]?=some x:=by rfl)(hx:Loc X.env.scope x:=by first|exact .inl rfl|exact .inr rfl)(hs:acn e (some (.Name x pos')) pos.line X.env=pure false:=by rfl)(hf:X.fn x=true\/X.env.scope.names.lookup x=some .local:=by first|exact .inl rfl|exact .inr rfl|assumption):
  PS X (.Assign [.Name x pos'] e pos) (zR te (cV i)):=Ub hN hi hx he hs hf
theorem bN (hN:X.N.Nodup)(hi:X.N[i]?=some x:=by rfl)(hx:Loc X.env.scope x:=by first|exact .inl rfl|exact .inr rfl)(hf:X.fn x=true\/X.env.scope.names.lookup x=some .local:=by first|exact .inl rfl|exact .inr rfl|assumption):PG X (.Name x pos) (cV i):=gB hN hi hx hf
theorem bB (hr:SW X r)(ha:PE X a ta)(hb:PE X b tb)(hs:DI b:=by exact fun _ _=>rfl):PE X (.Subscript a b pos) (P1 r ta tb):=LL hr ha hb hs
theorem bx (ho:kc X (aba op) r)(ha:PE X a ta)(hb:PE X b tb)(hm:acw op b=false:=by exact qB _):PT X (.Compare a [op] [b] pos) (SR (P1 r ta tb)):=pU ho ha hb hm
theorem a9 (h1:PE X e1 t1)(s1:isStar e1=false:=by rfl):PA X [e1] (oB t1 jq):=sM h1 jA s1
theorem aG (h1:PE X e1 t1)(h2:PE X e2 t2)(s1:isStar e1=false:=by rfl)(s2:isStar e2=false:=by rfl):PA X [e1,e2] (oB t1 (oB t2 jq)):=sM h1 (a9 h2 s2) s1
theorem bK (h1:PE X e1 t1)(h2:PE X e2 t2)(h3:PE X e3 t3)(s1:isStar e1=false:=by rfl)(s2:isStar e2=false:=by rfl)(s3:isStar e3=false:=by rfl):PA X [e1,e2,e3] (oB t1 (oB t2 (oB t3 jq))):=sM h1 (aG h2 h3 s2 s3) s1
theorem EL (h1:closureFor scope X.env=pure (ba X.env fr):=by exact rfl)(h2:∀y∈scope.names,y.2≠.cell:=by decide+kernel)(h3:scope.kind=.function:=by exact rfl)(h4:∀y∈scope.names,y.2=.local->scope.names.lookup y.1=some .local:=by decide+kernel)(h5:∀y∈scope.names,y.2=.free->y.1∈fr:=by decide+kernel)(h6:caps.map (fun i=>X.N[i]?)=fr.map some:=by exact rfl)
  (h7:iB X.env fr:=by repeat (first|exact trivial|refine ⟨by first|exact agC rfl|exact amI rfl,?_⟩)) (h8:iB (compEnvC scope [] 0 X.env) fr:=by repeat (first|exact trivial|refine ⟨by first|exact agC rfl|exact amI rfl,?_⟩)):vi X scope fr caps:=⟨h1,h2,h3,h4,h5,h6,h7,h8⟩
theorem MV (hi:PI X target iter wi)(hg:∀C s H fp,PG (qc X (tn++fr) scope (ba X.env fr) C s H fp) target g)(ht:∀C s H fp,PF (qc X (tn++fr) scope (ba X.env fr) C s H fp) ifs tt)(he:∀{C s H fp},PE (qc X (tn++fr) scope (ba X.env fr) C s H fp) elt te)
  (hc:X.calm=true:=by rfl) (B:vi X scope fr caps:=by exact EL) (hs:∀x,abe iter X.env x=pure x:=by intro _;rfl):PE X (.ListComp elt [⟨target,iter,ifs,0⟩] scope pos) (oE tn.length caps wi g tt te):=DQ hc B hi hg ht (fun _ _ _ _=>he) hs
theorem Yw (hN:(tn++fr).Nodup)(h0:(tn++fr)[0]?=some y)(hx:∀C s H fp,Loc (qc X (tn++fr) scope (ba X.env fr) C s H fp).env.scope y)(hl:∀C s H fp,(qc X (tn++fr) scope (ba X.env fr) C s H fp).fn y=true\/(qc X (tn++fr) scope (ba X.env fr) C s H fp).env.scope.names.lookup y=some .local):∀C s H fp,PG (qc X (tn++fr) scope (ba X.env fr) C s H fp) (.Name y py) (cV 0):=fun C s H fp=>gB hN h0 (hx C s H fp) (hl C s H fp)
theorem eK (hi:PI X (.Name y py) iter wi)(he:∀{C s H fp},PE (qc X (tn++fr) scope (ba X.env fr) C s H fp) elt te)
  (hc:X.calm=true:=by rfl) (B:vi X scope fr caps:=by exact EL) (hs:∀x,abe iter X.env x=pure x:=by intro _;rfl) (hN:(tn++fr).Nodup:=by decide+kernel) (h0:(tn++fr)[0]?=some y:=by rfl) (hx:∀C s H fp,Loc (qc X (tn++fr) scope (ba X.env fr) C s H fp).env.scope y:=by exact fun _ _ _ _=>.inl rfl) (hl:∀C s H fp,(qc X (tn++fr) scope (ba X.env fr) C s H fp).fn y=true\/(qc X (tn++fr) scope (ba X.env fr) C s H fp).env.scope.names.lookup y=some .local:=by intro _ _ _ _;first|exact .inl rfl|exact .inr rfl):PE X (.ListComp elt [⟨.Name y py,iter,[],0⟩] scope pos) (oE tn.length caps wi (cV 0) ki te):=DQ hc B hi (Yw hN h0 hx hl) (fun _ _ _ _=>qJ) (fun _ _ _ _=>he) hs
theorem MX (hN:X.N.Nodup)(hi:PI X target iter wi)(hg:∀C s H fp,PG (qc X (tn++fr) scope (ba X.env fr) C s H fp) target g)(ht:∀C s H fp,PF (qc X (tn++fr) scope (ba X.env fr) C s H fp) ifs tt)(he:∀{C s H fp},PE (qc X (tn++fr) scope (ba X.env fr) C s H fp) elt te)
  (Uv:X.N[i]?=some x:=by rfl) (hx:Loc X.env.scope x:=by first|exact .inl rfl|exact .inr rfl) (hc:X.calm=true:=by rfl) (B:vi X scope fr caps:=by exact EL) (KJ:acn (.ListComp elt [⟨target,iter,ifs,0⟩] scope pos) (some (.Name x py)) sZ.line X.env=pure true:=by rfl)
  (hs:∀x,abe iter X.env x=pure x:=by intro _;rfl) (hf:X.fn x=true\/X.env.scope.names.lookup x=some .local:=by first|exact .inl rfl|exact .inr rfl|assumption):
  PS X (.Assign [.Name x py] (.ListComp elt [⟨target,iter,ifs,0⟩] scope pos) sZ) (zR (oE tn.length caps wi g tt te) (cV i)):=DR hN Uv hx hc B hi hg ht (fun _ _ _ _=>he) KJ hs hf
theorem q0 (hN:X.N.Nodup)(hi:PI X (.Name y yp) iter wi)(he:∀{C s H fp},PE (qc X (tn++fr) scope (ba X.env fr) C s H fp) elt te)
  (Uv:X.N[i]?=some x:=by rfl) (hx:Loc X.env.scope x:=by first|exact .inl rfl|exact .inr rfl) (hc:X.calm=true:=by rfl) (B:vi X scope fr caps:=by exact EL) (KJ:acn (.ListComp elt [⟨.Name y yp,iter,[],0⟩] scope pos) (some (.Name x py)) sZ.line X.env=pure true:=by rfl)
  (hs:∀x,abe iter X.env x=pure x:=by intro _;rfl) (hf:X.fn x=true\/X.env.scope.names.lookup x=some .local:=by first|exact .inl rfl|exact .inr rfl|assumption) (Yx:(tn++fr).Nodup:=by decide+kernel) (h0:(tn++fr)[0]?=some y:=by rfl) (hx2:∀C s H fp,Loc (qc X (tn++fr) scope (ba X.env fr) C s H fp).env.scope y:=by exact fun _ _ _ _=>.inl rfl) (hl:∀C s H fp,(qc X (tn++fr) scope (ba X.env fr) C s H fp).fn y=true\/(qc X (tn++fr) scope (ba X.env fr) C s H fp).env.scope.names.lookup y=some .local:=by intro _ _ _ _;first|exact .inl rfl|exact .inr rfl):
  PS X (.Assign [.Name x py] (.ListComp elt [⟨.Name y yp,iter,[],0⟩] scope pos) sZ) (zR (oE tn.length caps wi (cV 0) ki te) (cV i)):=DR hN Uv hx hc B hi (Yw Yx h0 hx2 hl) (fun _ _ _ _=>qJ) (fun _ _ _ _=>he) KJ hs hf
theorem aJ {E:XK}(F:Fn X.prog X.w X.K X.mg X.base (aT P w) k x ps sp)(hr:cy l X.A)(ha:PA X (e::es) t)(hk:k<=l:=by decide)(hx:Passes (aT P w) X E:=by exact jE aT.AH)(hg:Gl X x:=by rfl)(xC:(x==("__debug__":Str))=false:=by decide)
  (he:aaO (e::es) X.env=(false,aaV e X.env)::aaO es X.env:=by rfl) (pF:(abj pos (aaO es X.env)).any (·.1)=false:=by rfl):PE X (.Call (.Name x p) (e::es) [] pos) (DF sp [] E t):=iM F (hr.mono hk) hx ha hg xC he pF
theorem ym {E:XK}(F:Fn X.prog X.w X.K X.mg X.base (aT P w) k x ps sp)(hr:cy l X.A)(ha:PA X (e::es) t)(hk:k<=l:=by decide)(hx:Passes (aT P w) X E:=by exact XR aT.AH rfl)(hg:Gl X x:=by rfl)(xC:(x==("__debug__":Str))=false:=by decide)
  (he:aaO (e::es) X.env=(false,aaV e X.env)::aaO es X.env:=by rfl) (pF:(abj pos (aaO es X.env)).any (·.1)=false:=by rfl):PE X (.Call (.Name x p) (e::es) [] pos) (DF sp [] E t):=iM F (hr.mono hk) hx ha hg xC he pF
end
end Ty
set_option maxHeartbeats 4000000
namespace T_k64
open PySem PySem.Spec PyProof.Rows L2 Ty
open Builtin.Int (intBits)
theorem z0L:0<=aaD:=by decide
theorem z1L:1<=aaD:=by decide
theorem z2L:2<=aaD:=by decide
theorem z4L:4<=aaD:=by decide
theorem z6L:6<=aaD:=by decide
theorem z10L:10<=aaD:=by decide
seal L2.PE L2.PS L2.PSs L2.PA
abbrev zaa:List Str:=["_law_pins_here","_law_bars_here","_law_pulls_here","_law_pushes_here"]
abbrev zab:List Str:=["one","other"]
abbrev zac:List Str:=["_law_one","_law_other"]
abbrev zad:List Str:=["_law_cell","_law_prime","_law_many"]
abbrev zae:List Str:=["self"]
abbrev zaf:List Str:=["_law_found","_law_k","_law_axis","_law_draw"]
abbrev zag:List Str:=["_law_top","_law_bottom"]
abbrev zah:List Str:=["self","name","one","other"]
abbrev zai:List Str:=["_law_bars_here","_law_grips_here","_law_pulls_here"]
abbrev zaj:List Str:=["self","pin"]
abbrev zak:List Str:=["F","one","other"]
abbrev zal:List Str:=["_law_pins_here","_law_bar","_law_axis"]
abbrev zam:List Str:=["_law_script","_law_k"]
abbrev zan:List Str:=["_law_script","_law_bars_here","_law_start"]
abbrev zao:List Str:=["_law_script","_law_pins_here","_law_start"]
abbrev zap:List Str:=["top","bottom"]
abbrev zaq:List Str:=["_law_pins_here","_law_bars_here"]
abbrev zar:List Str:=["lines","many"]
abbrev zas:List Str:=["_law_script","_law_pins_here"]
abbrev zat:List Str:=["_law_pins_here","_law_motion"]
abbrev zau:List Str:=["_law_script","_law_bars_here"]
abbrev zav:List Str:=["self","name","x","y","hold"]
abbrev zaw:List Str:=["F","numbers"]
abbrev zax:List Str:=["_law_cell","_law_k"]
abbrev zay:List Str:=["_law_script","_law_most"]
abbrev zaz:List Str:=["_law_load","_law_motion"]
abbrev zaA:List Str:=["_law_cell","_law_kind"]
abbrev zaB:List Str:=["line","lead","column"]
abbrev zaC:List Str:=["_law_one"]
abbrev zaD:List Str:=["F","firm","bar_rows"]
abbrev zaE:List Str:=["_law_cell","_law_k","_law_style","_law_at"]
abbrev zaF:List Str:=["rows","due","many"]
abbrev zaG:List Str:=["F","grips","pulls"]
abbrev zaH:List Str:=["self","x","y"]
abbrev zaI:List Str:=["F","grips","load"]
abbrev zaJ:List Str:=["F","draws"]
abbrev zaK:List Str:=["rows","many"]
abbrev zaL:List Str:=["lines","column"]
abbrev zaM:List Str:=["self","bar"]
abbrev zaN:List Str:=["firm","longer"]
abbrev zaO:List Str:=["F","grips"]
abbrev zaP:List Str:=["whole","other","times","less"]
abbrev zaQ:List Str:=["_law_x"]
abbrev zaR:List Str:=["F","motion"]
abbrev zaS:List Str:=["numbers"]
abbrev zaT:List Str:=["_law_cell"]
abbrev zaU:List Str:=["share","whole"]
theorem sq {N P:ς}{sc:Scope}(a:sc.kind=.function:=by exact rfl)(b:sc.isCoroutine=false:=by exact rfl)(c:sc.isGenerator=false:=by exact rfl)(d:N.Nodup:=by decide+kernel)(e:N.take P.length=P:=by exact rfl)(f:∀x∈P,sc.names.lookup x=some .local\/sc.names.lookup x=some .cell:=by decide+kernel)(g:∀y∈sc.names,y.2≠.free:=by decide+kernel):av N P sc:=⟨a,b,c,d,e,f,g⟩
theorem pY (P:aaP)(w:World){X:Cx}:Passes (aT P w) X.xl E0:=jE aT.AH
theorem pX {X:Cx}:Passes (aT P w) X.xl E0:=jE aT.AH
theorem _root_.L2.cy.mo (r:L2.cy k A)(h:j<=k:=by decide):L2.cy j A:=r.mono h
theorem aC (h:PE X a ta):PE X (.Subscript a (.Constant (.int i) j p1) p2) (P1 (LM X.K) ta (tC (.int i))):=LL nh h af (fun _ _=>rfl)
theorem uK (h:PE X a ta):PE X (.Subscript a (.Constant (.int i) j p1) p2) (P1 (Qd X.K) ta (tC (.int i))):=LL aQ h af (fun _ _=>rfl)
theorem bl1{P:List Value->Prop}(h:∀a:Value,P [a]):∀us:List Value,us.length=1->P us|[_],_=>h _
theorem blS{P:List Value->Prop}{n:Nat}(h:∀a us,us.length=n->P (a::us)):∀us:List Value,us.length=n+1->P us|a::us,e=>h a us (Nat.succ.inj e)
theorem bl2{P:List Value->Prop}(h:∀a b:Value,P [a,b]):∀us:List Value,us.length=2->P us:=blS fun a=>bl1 (h a)
theorem bl3{P:List Value->Prop}(h:∀a b c:Value,P [a,b,c]):∀us:List Value,us.length=3->P us:=blS fun a=>bl2 (h a)
theorem bl4{P:List Value->Prop}(h:∀a b c d:Value,P [a,b,c,d]):∀us:List Value,us.length=4->P us:=blS fun a=>bl3 (h a)
theorem bl5{P:List Value->Prop}(h:∀a b c d e:Value,P [a,b,c,d,e]):∀us:List Value,us.length=5->P us:=blS fun a=>bl4 (h a)
theorem bl6{P:List Value->Prop}(h:∀a b c d e f:Value,P [a,b,c,d,e,f]):∀us:List Value,us.length=6->P us:=blS fun a=>bl5 (h a)
theorem bl7{P:List Value->Prop}(h:∀a b c d e f g:Value,P [a,b,c,d,e,f,g]):∀us:List Value,us.length=7->P us:=blS fun a=>bl6 (h a)
theorem _root_.L2.qG.HY {K:Frag}{st:Stmt}(F:L2.qG K x qual st f fd)
 (h:∀(kV doc pm:Value)(an:Κ)(bZ ct:Value)(us:ρ),us.length=ps.length->bindArgs (fnOf x qual (au st) (aq st) (ae st) .none kV doc pm an bZ ct) ⟨us,[]⟩=pure (ps.zip us):=by first|exact fun _ _ _ _ _ _=>bl1 fun _=>rfl|exact fun _ _ _ _ _ _=>bl2 fun _ _=>rfl|exact fun _ _ _ _ _ _=>bl3 fun _ _ _=>rfl|exact fun _ _ _ _ _ _=>bl4 fun _ _ _ _=>rfl|exact fun _ _ _ _ _ _=>bl5 fun _ _ _ _ _=>rfl):Binds K fd ps []:=F.binds h
inductive HXx (K:Frag)(x:Str)(st:Stmt):Prop|mk{f:aaz}{oc:Value}{od an:Κ}{sL:Ξ}{kV doc pm bZ ct:Value}(a:nsIn K aaN x=some (some (.ref f)))(l:K.lookup f=some ⟨oc,od,.func (fnOf x x (au st) (aq st) (ae st) .none kV doc pm an bZ ct),sL⟩)(c:codeIn K bZ x=true)(k:keepIn K (.ref f)=true):HXx K x st
inductive HXy (K:Frag)(C:aaz)(x q:Str)(st:Stmt):Prop|mk{f:aaz}{oc:Value}{od an:Κ}{sL:Ξ}{kV doc pm bZ ct:Value}(a:aaR K (.ref C) x=some (some (.ref f)))(i:ahh K (.ref f)=true)(l:K.lookup f=some ⟨oc,od,.func (fnOf x q (au st) (aq st) (ae st) .none kV doc pm an bZ ct),sL⟩)(c:codeIn K bZ q=true)(k:keepIn K (.ref f)=true):HXy K C x q st
theorem fH {K:Frag}{mg:θ}{st:Stmt}(X:K.In h)(G:h.Ns aaN mg)(H:HXx K x st)
 (b:∀(kV doc pm:Value)(an:Κ)(bZ ct:Value)(us:ρ),us.length=ps.length->bindArgs (fnOf x x (au st) (aq st) (ae st) .none kV doc pm an bZ ct) ⟨us,[]⟩=pure (ps.zip us):=by first|exact fun _ _ _ _ _ _=>bl1 fun _=>rfl|exact fun _ _ _ _ _ _=>bl2 fun _ _=>rfl|exact fun _ _ _ _ _ _=>bl3 fun _ _ _=>rfl|exact fun _ _ _ _ _ _=>bl4 fun _ _ _ _=>rfl|exact fun _ _ _ _ _ _=>bl5 fun _ _ _ _ _=>rfl|exact fun _ _ _ _ _ _=>bl6 fun _ _ _ _ _ _=>rfl|exact fun _ _ _ _ _ _=>bl7 fun _ _ _ _ _ _ _=>rfl):Def K mg x st ps:=have ⟨a,l,c,k⟩:=H;Def.of (d9 l c k) ((d9 l c k).binds b) (mg_of X G a)
def top (i:Nat):Stmt:=PySem.Challenge.pw_trussyard_k64_whole_least_stored_work.main.body.getD i (.Pass ⟨0,0,0,0⟩)
abbrev gW:Stmt:=top 16
abbrev AX:Stmt:=top 17
abbrev dh:Stmt:=top 18
abbrev cO:Stmt:=top 19
abbrev yn:Stmt:=top 20
abbrev HZ:Stmt:=top 21
abbrev cX:Stmt:=top 24
abbrev H_:Stmt:=top 25
abbrev AY:Stmt:=top 26
abbrev cB:Stmt:=top 27
abbrev IA:Stmt:=top 29
abbrev IC:Stmt:=top 30
abbrev dW:Stmt:=top 31
abbrev ID:Stmt:=top 32
abbrev IE:Stmt:=top 33
abbrev IF:Stmt:=top 34
abbrev IG:Stmt:=top 35
abbrev IH:Stmt:=top 36
abbrev II:Stmt:=top 38
abbrev IJ:Stmt:=top 39
abbrev IK:Stmt:=top 40
abbrev IL:Stmt:=top 41
abbrev IM:Stmt:=top 42
abbrev IP:Stmt:=top 43
abbrev IQ:Stmt:=top 44
abbrev IS:Stmt:=top 45
abbrev gJ:Stmt:=top 47
abbrev eY:Stmt:=top 48
abbrev eZ:Stmt:=top 49
abbrev gK:Stmt:=top 50
abbrev e_:Stmt:=top 51
abbrev dX:Stmt:=top 52
abbrev IT:Stmt:=top 62
abbrev IU:Stmt:=top 63
abbrev IV:Stmt:=top 64
abbrev IW:Stmt:=top 65
abbrev IX:Stmt:=top 66
abbrev IY:Stmt:=top 67
abbrev fQ:Stmt:=top 68
abbrev AZ:Stmt:=top 69
abbrev IZ:Stmt:=top 70
abbrev I_:Stmt:=top 71
abbrev JA:Stmt:=top 72
abbrev JB:Stmt:=top 73
abbrev JC:Stmt:=top 74
abbrev JD:Stmt:=top 75
abbrev JE:Stmt:=top 76
abbrev JF:Stmt:=top 77
abbrev JG:Stmt:=top 78
abbrev JH:Stmt:=top 79
abbrev JI:Stmt:=top 80
abbrev JJ:Stmt:=top 81
abbrev JK:Stmt:=top 82
abbrev fe:Stmt:=top 83
abbrev ff:Stmt:=top 84
abbrev dY:Stmt:=top 85
abbrev dD:Stmt:=top 86
abbrev dZ:Stmt:=top 87
abbrev mz:Stmt:=top 88
abbrev JL:Stmt:=inClass (top 56) 0
abbrev pI:Stmt:=inClass (top 56) 1
abbrev JM:Stmt:=inClass (top 56) 2
abbrev JN:Stmt:=inClass (top 56) 3
abbrev JO:Stmt:=inClass (top 56) 4
abbrev JP:Stmt:=inClass (top 56) 7
abbrev JQ:Stmt:=inClass (top 56) 8
abbrev JR:Stmt:=inClass (top 56) 9
abbrev JS:Stmt:=inClass (top 56) 10
abbrev JT:Stmt:=inClass (top 56) 11
abbrev QF:Stmt:=inClass (top 58) 0
abbrev JU:Stmt:=inClass (top 59) 0
abbrev JV:Stmt:=inClass (top 59) 1
abbrev JW:Stmt:=inClass (top 60) 0
section
variable {P:aaP}{w:World}{K:Frag}{mg:θ}{base:Heap}{CX:me}
def Nm (H:Hp)(v:V)(q:Int×Int):Prop:=∃p,v=.ref p/\H p=some (.tup [.int q.1,.int q.2])
structure mB (k:Nat)(q:Int×Int):Prop where
 pos:0<q.2
 top:intBits q.1<=k
 bot:intBits q.2<=k
theorem aA (h:H p=none)(o:HO):ao H (upd H p o):=fun b u q=>by rw [aj (ak q h)];exact q
theorem nw (n:H l=none)(e:upd H l o=H'):ao H H'/\H' l=some o:=by subst e;exact ⟨aA n o,ah⟩
theorem q5 (hb:b≠0)(h1:intBits t<=k)(h2:intBits b<=k):mB k (low t b):=
 ⟨jV hb,acu (kY hb) h1,acu (kZ hb) h2⟩
def gives (H:Hp)(Q:VK)(q:Int×Int):Prop:=∀(p:aaz)(H':Hp),ao H H' ->H' p=some (.tup [.int q.1,.int q.2])->Q (.ref p) H'
inductive iU (vs:η)(H:Hp)(Q:VK)(E_:XK):Prop
|mk (a b:Int)(_:vs=[.int a,.int b])(_:Q (.int (gz a b)) H)
def addQ (x y:Int×Int):Int×Int:=low (x.1*y.2+y.1*x.2) (x.2*y.2)
def subQ (x y:Int×Int):Int×Int:=low (x.1*y.2-y.1*x.2) (x.2*y.2)
def mulQ (x y:Int×Int):Int×Int:=low (x.1*y.1) (x.2*y.2)
theorem mC (hx:mB k x)(hy:mB l y):x.2*y.2≠0:=adE (aex hx.pos hy.pos)
theorem ie {a b:V}:i0 [a,b] 0=some a:=rfl
theorem gX {a b:V}:i0 [a,b] 1=some b:=rfl
theorem Nm.kept (h:Nm H v q)(hD:H D=some (.lst ys))(k:bS D H H'):Nm H' v q:=by
 obtain ⟨p,e,z⟩:=h
 exact ⟨p,e,k p _ (fun e=>by rw [e,hD] at z;cases z) z⟩
inductive Ln (H:Hp)(v:V)(l:ξ):Prop
|mk (p:_)(_:v=.ref p)(_:H p=some (.lst (l.map V.int)))
theorem Ln.same (h:Ln H v l)(s:ao H H'):Ln H' v l:=by
 obtain ⟨p,e,k⟩:=h
 exact ⟨p,e,s _ _ k⟩
def sO (H:Hp)(us:η)(ls:ζ):Prop:=us.length=ls.length/\∀(i:Nat)(u:V)(l:ξ),us[i]?=some u->ls[i]?=some l->Ln H u l
theorem sO.same (h:sO H us ls)(s:ao H H'):sO H' us ls:=⟨h.1,fun i u l e1 e2=>(h.2 i u l e1 e2).same s⟩
theorem uL {l:ξ}(h:j<l.length):i0 (l.map V.int) (j:Int)=some (.int (l.getD j 0)):=bL (by rw [Wp,gE h,adn,gE h];rfl)
theorem getD_mem {l:ξ}(e:l[j]?=some x):l.getD j 0=x:=by rw [adn,e];rfl
def Bd (b:Nat)(l:ξ):Prop:=∀j,(l.getD j 0).natAbs<=2^b
theorem Bd.mem (h:Bd b l)(hx:x∈l):x.natAbs<=2^b:=by
 obtain ⟨i,hi⟩:=adj hx
 rw [<-getD_mem hi]
 exact h i
theorem Bd.up (h:Bd b l)(hc:b<=c):Bd c l:=fun j=>qN (h j) hc
theorem EM:av ["one","other","left"] zab (ae HZ):=sq
theorem Yy (D:Def K mg "greatest_shared" HZ zab)(uM:mg "abs"=none):Fn P w K mg base CX 1 "greatest_shared" zab iU:=by
 refine D.oo EM fun H hr h=>?_
 obtain ⟨a,b,rfl,q⟩:=h
 refine ⟨_,(aa (qw aaG (bx ma (pv 1) af) (aa (aF (i:=2) EM.nd (aw fw (pv 0) (pv 1)))
   (aa (aF (i:=0) EM.nd (pv 1))
   (ag (aF (i:=1) EM.nd (pv 2))))))
  (ag (ay (aI xA rfl uM S2 (a9 (pv 0)))))),?_⟩
 refine xy (fun σ H'=>EJ fun (x y:Int) (l:ω)=>σ=[some (.int x),some (.int y),l]/\H'=H/\ad1 x y=ad1 a b) (fun σ _=>match σ with|[_,some (.int y),_]=>y.natAbs|_=>0) ⟨a,b,none,rfl,rfl,rfl⟩ ?_ ?_
 ·rintro σ H' ⟨x,y,l,rfl,rfl,g⟩
  refine ⟨_,rfl,rfl,_,rfl,?_⟩
  refine bu (fun c=>?_) (fun c=>?_)
  ·have hy:y≠0:=by
    intro z
    subst z
    simp at c
   exact ⟨_,rfl,_,rfl,_,_,rfl,rfl,hy,_,rfl,_,rfl,⟨_,_,_,rfl,rfl,by rw [xM];exact g⟩,uq hy⟩
  ·have hy:y=0:=by
    have:=afX.mpr c
    simp at this
    exact this
   subst hy
   refine ⟨_,rfl,x,rfl,?_⟩
   have e:(if x<0 then -x else x)=gz a b:=by
    rw [ams] at g
    unfold gz
    rw [<-g]
    split<;>omega
   rw [e]
   exact q
 ·rintro σ H' Q1 Q2 h ⟨v,e1,e2,k,ek,z⟩
  exact ⟨v,e1,e2,k,ek,h _ _ z⟩
inductive fg (vs:η)(H:Hp)(Q:VK)(E_:XK):Prop
|mk (t b:Int)(_:vs=[.int t,.int b])(_:b≠0)(_:gives H Q (low t b))
theorem MY:av ["top","bottom","shared"] zap (ae yn):=sq
theorem Yz (ht:P.given.tree=none)(D:Def K mg "lowest_terms" yn zap)(A_:Fn P w K mg base (aT P w) 1 "greatest_shared" zab iU):Fn P w K mg base (aT P w) 33 "lowest_terms" zap fg:=by
 refine D.op MY fun f bZ A outer s H vs Q E hr h=>?_
 obtain ⟨t,b,rfl,hb,q⟩:=h
 have YA:∃tt,PSs (jr (aT P w) P w K mg base ["top","bottom","shared"] "lowest_terms" (ae yn) f bZ A outer s H E).xl ((aq yn).drop 2) tt/\∀g:Int,g=sg t b->tt {nx:=fun _ H'=>Q .cS H',rt:=Q} [some (.int t),some (.int b),some (.int g)] H:=by
  refine ⟨_,(ag (ay (aS (aG (aw (gQ ht (Ty.cy.py hr (by decide)) rfl rfl rfl rfl rfl) (pv 0) (pv 2)) (aw (gQ ht (Ty.cy.py hr (by decide)) rfl rfl rfl rfl rfl) (pv 1) (pv 2)))))),?_⟩
  rintro g rfl
  have c:=qH (t:=t) hb
  refine ⟨_,rfl,_,rfl,_,_,rfl,rfl,c,_,rfl,_,rfl,_,_,rfl,rfl,c,z2L,fun p hp=>?_⟩
  exact q p _ (aA hp _) ah
 obtain ⟨t2,p2,q2⟩:=YA
 refine ⟨_,(aa (aF (i:=2) MY.nd (aJ A_ hr (aG (pv 0) (pv 1)))) (aa (bq (bx qA (pv 1) af) (ag (aF (i:=2) MY.nd (SO LA (pv 2)))) aL) p2)),_,rfl,_,rfl,t,b,rfl,_,rfl,_,_,rfl,rfl,_,rfl,?_⟩
 refine bu (fun c=>?_) (fun c=>?_)
 ·refine ⟨_,rfl,_,rfl,q2 _ ?_⟩
  have c':b<0:=aaU c
  unfold sg
  rw [aaC c']
 ·refine q2 _ ?_
  have c':¬ b<0:=of_decide_eq_false (afX.mpr c)
  unfold sg
  rw [aaA c']
inductive UX (K:Frag)(vs:η)(H:Hp)(Q:VK)(E_:XK):Prop
|mk (a:aaz)(qs:ο)(T B:Nat)(_:vs=[.ref a])(_:ae5 K H a qs)(_:(∀q∈qs,Sm T B q))(_:T<=20000)(_:B*qs.length<=100000)(_:B<=8000)(_:qs.length<=1000)(_:∀(p l:aaz)(ts:ξ)(b:Int)(H':Hp),ao H H' ->H l=none->H' p=some (.tup [.ref l,.int b])->H' l=some (.lst (ts.map V.int))->0<b->b.natAbs<=2^(B*qs.length)->oF ts qs b->(∀t∈ts,t.natAbs<=2^(T+B*qs.length))->Q (.ref p) H')
theorem EN:av ["row","bottom","number"] ["row"] (ae IK):=sq
theorem YB (D:Def K mg "whole_row" IK ["row"])(A_:Fn P w K mg base (aT P w) 1 "greatest_shared" zab iU):Fn P w K mg base (aT P w) 2 "whole_row" ["row"] (UX K):=by
 refine D.oo EN fun H hr h=>?_
 obtain ⟨a,qs,T,B,rfl,⟨us,hS,hN⟩,sm,hT,hB,hB1,hl,q⟩:=h
 refine ⟨_,(aa (aF (i:=1) EN.nd af)
  (aa (bg aaG rfl (a_ (pv 0)) (bN (i:=2) EN.nd) (ag (aF (i:=1) EN.nd (aw bQ (aw xO (pv 1) (aJ A_ hr (aG (pv 1) (aC (pv 2))))) (aC (pv 2))))))
  (ag (ay (aS (aG (eK (tn:=["number"]) (fr:=["bottom"]) (caps:=[1]) (a_ (pv 0)) (aw bQ (bB (dS (K:=K) rfl) (pv 0) af) (aw xO (pv 1) (bB (dS (K:=K) rfl) (pv 0) af)))) (pv 1))))))),?_⟩
 have hlu:=hN.1
 have qat:∀{i:Nat} {u:V},us[i]?=some u->∃q,qs[i]?=some q/\iS K H u q/\Sm T B q:=fun {i u} e=>by
  have hi:i<us.length:=(ir.mp e).1
  have e2:qs[i]?=some (qs[i]'(by omega)):=gE (by omega)
  exact ⟨_,e2,hN.2 i u _ e e2,sm _ (ad3 _)⟩
 refine ⟨_,rfl,a,rfl,⟨_,hS⟩,bI (K:=K) (a:=a) (xs:=us) (fun i σ H'=>EI fun (b:Int) (o:ω)=>σ=[some (.ref a),some (.int b),o]/\H'=H/\0<b/\b.natAbs<=2^(B*i)/\∀j,j<i->∀q,qs[j]?=some q->q.2 ∣ b) ⟨1,none,rfl,rfl,by decide,by simp,fun j h=>aaM h (aeH _)⟩ (fun i σ H' _ ⟨b,o,_,e,_⟩=>by rw [e];exact hS) ?_ ?_⟩
 ·rintro i u σ H' hu ⟨b,o,rfl,rfl,hb,hs,hd⟩
  obtain ⟨n,en,⟨p,rfl,hp⟩,sn⟩:=qat hu
  have hi:i<qs.length:=(ir.mp en).1
  have nb:n.2.natAbs<=2^B:=sn.bot
  obtain ⟨l1,l2,l3,l4⟩:=Ma hb sn.pos
  have gp:=vd (t:=b) (b:=n.2) (by have:=sn.pos;omega)
  have gl:=XC (t:=b) (b:=n.2) (by have:=sn.pos;omega)
  have sz:(b.fdiv (gz b n.2)*n.2).natAbs<=2^(B*(i+1)):=by
   refine aav l4 ?_
   rw [Nat.mul_succ,af8]
   exact aek hs nb
  have bi:B*i<=100000:=aav (Nat.mul_le_mul_left B (by omega)) hB
  have g1:gz b n.2 ∣ b:=ae8 ..
  refine ⟨_,rfl,_,rfl,_,rfl,p,_,_,_,rfl,rfl,hp,gX,b,n.2,rfl,_,_,rfl,rfl,⟨by omega,aav (jX (aav gl nb) (adY B)) (by omega)⟩,_,rfl,p,_,_,_,rfl,rfl,hp,gX,_,_,rfl,rfl,qf (aav (iN (by omega) g1) hs) nb (by omega) (by omega),_,_,rfl,rfl,l1,sz,fun j hj q' e'=>?_⟩
  rcases ad_.mp hj with z|z
  ·exact Int.dvd_trans (hd j z q' e') l2
  ·subst z
   rw [en] at e'
   cases e'
   exact l3
 ·rintro σ H' ⟨b,o,rfl,rfl,hb,hs,hd⟩
  rw [hlu] at hs hd
  refine ⟨_,rfl,a,rfl,⟨_,hS⟩,fun D nD=>?_⟩
  refine dB (cap:=[some (.int b)]) (K:=K) (a:=a) (xs:=us) (fun i v _=>∃q,qs[i]?=some q/\v=.int (q.1*b.fdiv q.2)) nD (by rw [hlu];exact ac_ hl (by decide)) (fun H2 s2=>s2.seq hS) (fun _ _ _ _ _ _ _ h=>h) ?_ ?_
  ·intro i u H2 R hu s2 k
   obtain ⟨n,en,⟨p,rfl,hp⟩,sn⟩:=qat hu
   have XY:=Ty.ao.ck s2 hp
   have dv:=hd i (ir.mp en).1 n en
   have n0:n.2≠0:=by have:=sn.pos;omega
   exact ⟨_,rfl,p,_,_,_,rfl,rfl,XY,ie,_,rfl,_,rfl,p,_,_,_,rfl,rfl,XY,gX,_,_,rfl,rfl,⟨n0,aav (jX sn.bot (adY B)) (by omega)⟩,_,_,rfl,rfl,qf sn.top (aav (iN n0 dv) hs) (by omega) (by omega),k _ _ (ao.refl _) ⟨n,en,rfl⟩⟩
  ·intro ys H2 hy iD s2 hD
   have ey:ys=(qs.map fun n=>n.1*b.fdiv n.2).map V.int:=by
    refine adW fun i=>?_
    by_cases hi:i<ys.length
    ·have e1:ys[i]?=some ys[i]:=gE hi
     obtain ⟨n,en,ev⟩:=iD i _ e1
     rw [e1,ev,Wp,Wp,en]
     rfl
    ·rw [aax (by omega),aax (by simp;omega)]
   refine ⟨_,rfl,z2L,fun p np=>?_⟩
   have s3:=aA np (.tup [.ref D,.int b])
   refine q p D (qs.map fun n=>n.1*b.fdiv n.2) b _ (s2.trans s3) nD ah (s3 _ _ (by rw [hD,ey])) hb hs ⟨by simp,fun i t n e1 e2=>?_⟩ (fun t ht=>?_)
   ·rw [Wp,e2] at e1
    have GP :n.1*b.fdiv n.2=t:=ady e1
    rw [<-GP]
    exact GX (sm n (aam e2)).pos (hd i (ir.mp e2).1 n e2)
   ·obtain ⟨n,hn,rfl⟩:=aat.mp ht
    obtain ⟨i,hi⟩:=adj hn
    have n0:n.2≠0:=by have:=(sm n hn).pos;omega
    exact vo (sm n hn).top (aav (iN n0 (hd i (ir.mp hi).1 n hi)) hs)
structure Dv (l l':ξ):Prop where
 len:l'.length=l.length
 fac:∃g:Int,g≠0/\∀j,g*l'.getD j 0=l.getD j 0
def UY (l:ξ):Prop:=Yq l\/∀j,l.getD j 0=0
theorem yo {l:ξ}(h:∀j,d ∣ l.getD j 0){i:Nat}(e:l[i]?=some x):d ∣ x:=by
 rw [<-getD_mem e]
 exact h i
inductive nR (vs:η)(H:Hp)(Q:VK)(E_:XK):Prop
|mk (v:V)(l:ξ)(_:vs=[v])(_:Ln H v l)(_:l.length<=1000)(_:∀v' l' H',ao H H' ->Ln H' v' l' ->Dv l l' ->UY l' ->(v'=v\/∃p,v'=.ref p/\H p=none)->Q v' H')
theorem QG (l:ξ):Dv l l:=⟨rfl,1,by decide,fun j=>Int.one_mul _⟩
theorem EO:av ["line","shared","whole"] ["line"] (ae IS):=sq
theorem YC (ht:P.given.tree=none)(D:Def K mg "divided" IS ["line"])(A_:Fn P w K mg base (aT P w) 1 "greatest_shared" zab iU):Fn P w K mg base (aT P w) 33 "divided" ["line"] nR:=by
 refine D.op EO fun f bZ A outer s H vs Q E hr h=>?_
 obtain ⟨v,l,rfl,⟨a,rfl,ha⟩,hn,q⟩:=h
 have same:UY l->Q (.ref a) H:=fun pz=>q _ l H (ao.refl H) ⟨a,rfl,ha⟩ (QG l) pz (.inl rfl)
 refine ⟨_,(aa (aF (i:=1) EO.nd af)
  (aa (bg aaG rfl (a_ (pv 0)) (bN (i:=2) EO.nd) (aa (aF (i:=1) EO.nd (aJ A_ hr (aG (pv 2) (pv 1))))
   (ag (bq (bx eR (pv 1) af) (ag (ay (pv 0))) aL))))
  (ag (ay (xv (bx LC (pv 1) af) (eK (tn:=["whole"]) (fr:=["shared"]) (caps:=[1]) (a_ (pv 0)) (aw (gQ ht (Ty.cy.py hr (by decide)) rfl rfl rfl rfl rfl) (pv 0) (pv 1))) (pv 0)))))),?_⟩
 refine ⟨_,rfl,a,rfl,⟨_,aR.of ha⟩,bI (K:=K) (a:=a) (xs:=l.map V.int) (fun i σ H'=>EI fun (g:Int) (o:ω)=>σ=[some (.ref a),some (.int g),o]/\H'=H/\0<=g/\(∀j,j<i->∀x,l[j]?=some x->g ∣ x)/\(∀d:Int,(∀j,j<i->∀x,l[j]?=some x->d ∣ x)->d ∣ g)/\(0<i->g≠1)) ⟨0,none,rfl,rfl,by decide,(fun j h=>aaM h (aeH _)),(fun d _=>Int.dvd_zero d),fun h=>aaM h (aeg _)⟩ (fun i σ H' _ ⟨g,o,_,e,_⟩=>by rw [e];exact aR.of ha) ?_ ?_⟩
 ·rintro i u σ H' hu ⟨g,o,rfl,rfl,g0,hg,hd,_⟩
  rw [Wp] at hu
  obtain ⟨x,ex,rfl⟩:=ab_.mp hu
  have d1:gz x g ∣ x:=ae8 ..
  have d2:gz x g ∣ g:=aeX ..
  have p0:0<=gz x g:=Int.natCast_nonneg _
  refine ⟨_,rfl,_,rfl,x,g,rfl,_,rfl,rfl,_,rfl,?_⟩
  refine bu (fun z=>⟨_,rfl,same (.inl fun d PQ =>?_)⟩) (fun z=>?_)
  ·have z':gz x g=1:=by simpa using aaU z
   have h1:d ∣ gz x g:=am0 (yo PQ ex) (hd d fun j _ y ey=>yo PQ ey)
   rw [z'] at h1
   have:=afr.mpr h1
   simpa using this
  refine ⟨_,_,rfl,rfl,p0,fun j hj y ey=>?_,fun d h=>?_,fun _ e=>z (by rw [e];rfl)⟩
  ·rcases ad_.mp hj with z|z
   ·exact Int.dvd_trans d2 (hg j z y ey)
   ·subst z
    rw [ex] at ey
    cases ey
    exact d1
  ·exact am0 (h i (adY _) x ex) (hd d fun j hj y ey=>h j (afv hj) y ey)
 ·rintro σ H' ⟨g,o,rfl,rfl,g0,hg,hd,hg1⟩
  rw [be] at hg hd hg1
  refine ⟨_,rfl,_,_,rfl,rfl,_,rfl,bu (fun c=>?_) (fun c=>⟨_,rfl,same (.inr fun j=>?_)⟩)⟩
  rotate_left
  ·have c':¬ (1:Int)<g:=fun z=>c (aaS z)
   by_cases hj:j<l.length
   ·have gz:g=0:=by
     have:=hg1 (by omega)
     omega
    have ej:l[j]?=some l[j]:=gE hj
    have:=hg j hj _ ej
    rw [gz] at this
    rw [getD_mem ej]
    exact Int.zero_dvd.mp this
   ·rw [adn,aax (by omega)]
    rfl
  have g1:(1:Int)<g:=aaU c
  have gn:g≠0:=by omega
  refine ⟨_,rfl,a,rfl,⟨_,aR.of ha⟩,fun D nD=>?_⟩
  refine dB (cap:=[some (.int g)]) (K:=K) (a:=a) (xs:=l.map V.int) (fun i v _=>∃x,l[i]?=some x/\v=.int (x.fdiv g)) nD (by rw [be];exact ac_ hn (by decide)) (fun H2 s2=>aR.of (s2 _ _ ha)) (fun _ _ _ _ _ _ _ h=>h) ?_ ?_
  ·intro i u H2 R hu s2 k
   rw [Wp] at hu
   obtain ⟨x,ex,rfl⟩:=ab_.mp hu
   exact ⟨_,rfl,_,rfl,_,_,rfl,rfl,gn,k _ _ (ao.refl _) ⟨x,ex,rfl⟩⟩
  ·intro ys H2 hy iD s2 hD
   rw [be] at hy
   have ey:ys=(l.map fun x=>x.fdiv g).map V.int:=by
    refine adW fun i=>?_
    by_cases hi:i<ys.length
    ·have e1:ys[i]?=some ys[i]:=gE hi
     obtain ⟨x,ex,ev⟩:=iD i _ e1
     rw [e1,ev,Wp,Wp,ex]
     rfl
    ·rw [aax (by omega),aax (by simp;omega)]
   have fac:∀j,g*(l.map fun x=>x.fdiv g).getD j 0=l.getD j 0:=fun j=>by
    by_cases hj:j<l.length
    ·have ej:l[j]?=some l[j]:=gE hj
     rw [getD_mem (l:=l.map fun x=>x.fdiv g) (x:=l[j].fdiv g) (by rw [Wp,ej];rfl),getD_mem ej]
     exact (cK gn (hg j hj _ ej)).symm
    ·rw [adn,adn,aax (by simp;omega),aax (by omega)]
     simp
   refine q _ (l.map fun x=>x.fdiv g) H2 s2 ⟨D,rfl,by rw [hD,ey]⟩ ⟨by simp,g,gn,fac⟩ (.inl fun d PQ =>?_) (.inr ⟨D,rfl,nD⟩)
   have h1:d*g ∣ g:=hd (d*g) fun j hj x ex=>by
    rw [<-getD_mem ex,<-fac j,ae1]
    exact Int.mul_dvd_mul_left g (PQ j)
   obtain ⟨k,hk⟩:=h1
   have h2:g*(d*k)=g*1:=by
    rw [Int.mul_one]
    rw [<-af7,ae1 g d]
    exact hk.symm
   have h3:=Int.eq_of_mul_eq_mul_left gn h2
   have h4:d ∣ 1:=⟨k,h3.symm⟩
   simpa using afr.mpr h4
inductive nV (vs:η)(H:Hp)(Q:VK)(E_:XK):Prop
|mk (u v:V)(l m:ξ)(c b1 b2:Nat)(_:vs=[u,v,.int (c:Int)])(_:Ln H u l)(_:Ln H v m)(_:m.length=l.length)(_:c<l.length)(_:l.length<=1000)(_:m.getD c 0≠0)(_:Bd b1 l)(_:Bd b2 m)(_:b1<=29000000)(_:b2<=29000000)(_:∀v' l' H',ao H H' ->Ln H' v' l' ->sN l m l' c->Bd (b1+b2+1) l' ->(l'=l\/UY l')->(v'=u\/∃p,v'=.ref p/\H p=none)->Q v' H')
theorem QH (ha:a≠0):a=gz a b*a.fdiv (gz a b)/\b=gz a b*b.fdiv (gz a b)/\gz a b≠0/\a.fdiv (gz a b)≠0/\(a.fdiv (gz a b)).natAbs<=a.natAbs/\(b.fdiv (gz a b)).natAbs<=b.natAbs:=by
 have gn:gz a b≠0:=by
  intro z
  have z':((ad1 a b:Nat):Int)=0:=z
  have:ad1 a b=0:=by omega
  exact ha (Int.gcd_eq_zero_iff.mp this).1
 have d1:gz a b ∣ a:=ae8 ..
 have d2:gz a b ∣ b:=aeX ..
 have e1:=cK gn d1
 refine ⟨e1,cK gn d2,gn,fun z=>?_,iN gn d1,iN gn d2⟩
 rw [z,afV] at e1
 exact ha e1
theorem QI {l m:ξ}{ys:η}(hl:m.length=l.length)(hy:ys.length=l.length)(h:∀(i:Nat)(v:V),ys[i]?=some v->∃x y,l[i]?=some x/\m[i]?=some y/\v=.int (t*x-u*y)):ys=(ad4 (fun x y=>t*x-u*y) l m).map V.int:=by
 refine adW fun i=>?_
 by_cases hi:i<ys.length
 ·have e1:ys[i]?=some ys[i]:=gE hi
  obtain ⟨x,y,ex,ey,ev⟩:=h i _ e1
  rw [e1,ev,Wp,aeS,ex,ey]
  rfl
 ·rw [aax (by omega),aax (by simp;omega)]
theorem MZ {l m:ξ}(hl:m.length=l.length)(j:Nat):(ad4 (fun x y=>t*x-u*y) l m).getD j 0=t*l.getD j 0-u*m.getD j 0:=by
 by_cases hj:j<l.length
 ·have e1:l[j]?=some l[j]:=gE hj
  have e2:m[j]?=some (m[j]'(by omega)):=gE (by omega)
  rw [getD_mem e1,getD_mem e2]
  exact getD_mem (by rw [aeS,e1,e2])
 ·rw [adn,adn,adn,aax (by simp;omega),aax (by omega),aax (by omega)]
  simp
theorem ER:av ["line","lead","column","shared","times","less"] zaB (ae IQ):=sq
theorem YD (ht:P.given.tree=none)(D:Def K mg "cleared" IQ zaB)(gy:mg "zip"=none)(A_:Fn P w K mg base (aT P w) 1 "greatest_shared" zab iU)(afd:Fn P w K mg base (aT P w) 33 "divided" ["line"] nR):Fn P w K mg base (aT P w) 34 "cleared" zaB nV:=by
 refine D.oo ER fun H hr h=>?_
 obtain ⟨u,v,l,m,c,b1,b2,rfl,⟨a,rfl,ha⟩,⟨a',rfl,ha'⟩,hl,hc,hn,hm,B1,B2,hb1,hb2,q⟩:=h
 refine ⟨_,(aa (bq (bx eR (bB aQ (pv 0) (pv 2)) af) (ag (ay (pv 0))) aL)
  (aa (aF (i:=3) ER.nd (aJ A_ hr (aG (bB aQ (pv 1) (pv 2)) (bB aQ (pv 0) (pv 2)))))
  (aa (aF (i:=4) ER.nd (aw (gQ ht (Ty.cy.py hr (by decide)) rfl rfl rfl rfl rfl) (bB aQ (pv 1) (pv 2)) (pv 3)))
  (aa (aF (i:=5) ER.nd (aw (gQ ht (Ty.cy.py hr (by decide)) rfl rfl rfl rfl rfl) (bB aQ (pv 0) (pv 2)) (pv 3)))
  (ag (ay (aJ afd hr (a9 (MV (tn:=["whole","other"]) (fr:=["times","less"]) (caps:=[4,5]) (vm rfl gy (aG (pv 0) (pv 1))) (fun _ _ _ _=>(vn (K:=K) (n:=2) rfl rfl (aY (gB (i:=0) (show (zaP:List Str).Nodup from by decide+kernel) rfl (agC rfl)) (aY (gB (i:=1) (show (zaP:List Str).Nodup from by decide+kernel) rfl (agC rfl)) de)))) (fun _ _ _ _=>qJ) (aw cN (aw bQ (pv 2) (pv 0)) (aw bQ (pv 3) (pv 1)))))))))))),?_⟩
 have ea:=uL (l:=l) hc
 have em:=uL (l:=m) (j:=c) (by omega)
 refine ⟨_,rfl,_,rfl,a,_,_,_,rfl,rfl,aR.of ha,ea,rfl,_,rfl,?_⟩
 refine bu (fun z=>?_) (fun z=>?_)
 ·have z':l.getD c 0=0:=by simpa using aaU z
  exact ⟨_,rfl,q _ l H (ao.refl H) ⟨a,rfl,ha⟩ ⟨rfl,z',1,1,0,by decide,by decide,fun j=>by omega⟩ (B1.up (by omega)) (.inl rfl) (.inl rfl)⟩
 ·obtain ⟨f1,f2,f3,f4,f5,f6⟩:=QH (a:=m.getD c 0) (b:=l.getD c 0) hm
  refine ⟨_,rfl,_,rfl,a',_,_,_,rfl,rfl,aR.of ha',em,_,rfl,_,rfl,a,_,_,_,rfl,rfl,aR.of ha,ea,_,_,rfl,_,rfl,_,rfl,a',_,_,_,rfl,rfl,aR.of ha',em,_,rfl,_,_,rfl,rfl,f3,_,rfl,_,rfl,a,_,_,_,rfl,rfl,aR.of ha,ea,_,rfl,_,_,rfl,rfl,f3,_,rfl,_,rfl,a,a',rfl,⟨_,aR.of ha⟩,⟨_,aR.of ha'⟩,fun D1 n1=>?_⟩
  have st:((m.getD c 0).fdiv (gz (m.getD c 0) (l.getD c 0))).natAbs<=2^b2:=aav f5 (B2 c)
  have su:((l.getD c 0).fdiv (gz (m.getD c 0) (l.getD c 0))).natAbs<=2^b1:=aav f6 (B1 c)
  refine xR (cap:=[some (.int ((m.getD c 0).fdiv (gz (m.getD c 0) (l.getD c 0)))),some (.int ((l.getD c 0).fdiv (gz (m.getD c 0) (l.getD c 0))))]) (K:=K) (xs:=l.map V.int) (ys:=m.map V.int) (fun i v _=>∃x y,l[i]?=some x/\m[i]?=some y/\v=.int ((m.getD c 0).fdiv (gz (m.getD c 0) (l.getD c 0))*x-(l.getD c 0).fdiv (gz (m.getD c 0) (l.getD c 0))*y)) n1 (by rw [be];exact ac_ hn (by decide)) (by simpa using hl) (fun H2 s2=>aR.of (s2 _ _ ha)) (fun H2 s2=>aR.of (s2 _ _ ha')) (fun _ _ _ _ _ _ _ h=>h) ?_ ?_
  ·intro i x y H2 R ex ey s2 k
   rw [Wp] at ex ey
   obtain ⟨x',zF,rfl⟩:=ab_.mp ex
   obtain ⟨y',KQ,rfl⟩:=ab_.mp ey
   exact ⟨_,rfl,_,rfl,_,_,rfl,rfl,qf st (B1.mem (aam zF)) (by omega) (by omega),_,rfl,_,rfl,_,_,rfl,rfl,qf su (B2.mem (aam KQ)) (by omega) (by omega),_,_,rfl,rfl,k _ _ (ao.refl _) ⟨x',y',zF,KQ,rfl⟩⟩
  ·intro ys H2 hy iD s2 hD
   rw [be] at hy
   have ey:=QI hl hy iD
   refine ⟨_,_,rfl,⟨D1,rfl,by rw [hD,ey]⟩,by simp;omega,fun v' l' H3 s3 L3 dv pz fr=>?_⟩
   obtain ⟨g,gn,hg⟩:=dv.fac
   have OH:∀j,g*l'.getD j 0=(m.getD c 0).fdiv (gz (m.getD c 0) (l.getD c 0))*l.getD j 0-(l.getD c 0).fdiv (gz (m.getD c 0) (l.getD c 0))*m.getD j 0:=fun j=>by rw [hg j,MZ hl]
   refine q v' l' H3 (s2.trans s3) L3 ⟨by rw [dv.len];simp [hl],?_,g,_,_,gn,f4,OH⟩ (fun j=>?_) (.inr pz) ?_
   ·have e:=OH c
    have z2:(m.getD c 0).fdiv (gz (m.getD c 0) (l.getD c 0))*l.getD c 0-(l.getD c 0).fdiv (gz (m.getD c 0) (l.getD c 0))*m.getD c 0=0:=by
     generalize gz (m.getD c 0) (l.getD c 0)=G at*
     generalize (m.getD c 0).fdiv G=t at*
     generalize (l.getD c 0).fdiv G=u at*
     rw [f1,f2]
     grind
    rw [z2] at e
    rcases ag6.mp e with y|y
    ·exact aaM y gn
    ·exact y
   ·have b:(g*l'.getD j 0).natAbs<=2^(b1+b2+1):=by
     rw [OH j,Int.sub_eq_add_neg]
     refine UC (qN (vo st (B1 j)) (by omega)) ?_
     rw [ak_]
     exact vo su (B2 j)
    exact aav (eh gn) b
   ·rcases fr with z|⟨p,e,n⟩
    ·exact .inr ⟨D1,z,n1⟩
    ·exact .inr ⟨p,e,s2.free n⟩
inductive vC (K:Frag)(vs:η)(H:Hp)(Q:VK)(E_:XK):Prop
|mk (a:aaz)(us:η)(ls:List (List Int:_))(c:Nat)(_:vs=[.ref a,.int (c:Int)])(_:aR K H a us)(_:sO H us ls)(_:(∀l∈ls,c<l.length))(_:(∀(i:Nat)(l:ξ)(H':Hp),ao H H' ->ls[i]?=some l->l.getD c 0≠0->Q (.int (i:Int)) H'))(_:((∀l∈ls,l.getD c 0=0)->∀H',ao H H' ->Q .cS H'))
theorem sO.at (h:sO H us ls){i:Nat}(e:us[i]?=some u):∃l,ls[i]?=some l/\Ln H u l:=by
 have hi:i<us.length:=(ir.mp e).1
 have hl:=h.1
 have e2:ls[i]?=some (ls[i]'(by omega)):=gE (by omega)
 exact ⟨_,e2,h.2 i u _ e e2⟩
theorem sO.at' (h:sO H us ls){i:Nat}{l:ξ}(e:ls[i]?=some l):∃u,us[i]?=some u/\Ln H u l:=by
 have hi:i<ls.length:=(ir.mp e).1
 have hl:=h.1
 have e2:us[i]?=some (us[i]'(by omega)):=gE (by omega)
 exact ⟨_,e2,h.2 i _ l e2 e⟩
theorem M0:av ["lines","column","at","line"] zaL (ae IP):=sq
theorem YE (D:Def K mg "first_not_nought" IP zaL)(fh:mg "enumerate"=none):Fn P w K mg base (aT P w) 1 "first_not_nought" zaL (vC K):=by
 refine D.oo M0 fun H hr h=>?_
 obtain ⟨a,us,ls,c,rfl,hS,L,hc,q1,q2⟩:=h
 have lu:=L.1
 refine ⟨_,(aa (bg aaG rfl (DW rfl fh (a9 (pv 0))) (fM rfl (aY (bN (i:=2) M0.nd) (aY (bN (i:=3) M0.nd) de))) (ag (bq (bx ma (bB aQ (pv 3) (pv 1)) af) (ag (ay (pv 2))) aL)))
  (ag (ay qv))),?_⟩
 refine ⟨_,rfl,a,rfl,⟨_,hS⟩,x5 (K:=K) (a:=a) (xs:=us) (fun i σ H'=>∃o1 o2:Option V,σ=[some (.ref a),some (.int (c:Int)),o1,o2]/\ao H H'/\∀j,j<i->∀l,ls[j]?=some l->l.getD c 0=0) ⟨none,none,rfl,ao.refl H,fun j h=>aaM h (aeH _)⟩ (fun i σ H' _ ⟨o1,o2,_,s1,_⟩=>s1.seq hS) ?_ ?_⟩
 ·rintro i u σ H' p hu ⟨o1,o2,rfl,s1,z⟩ np
  obtain ⟨l,el,b,rfl,hb⟩:=L.at hu
  have s2:=s1.trans (aA np (.tup [.int (i:Int),.ref b]))
  have hcl:=hc l (aam el)
  refine ⟨p,_,rfl,bM.of ah,rfl,_,_,rfl,_,_,rfl,rfl,_,rfl,_,rfl,b,_,_,_,rfl,rfl,aR.of (s2 _ _ hb),uL hcl,rfl,_,rfl,?_⟩
  refine bu (fun y=>?_) (fun y=>?_)
  ·have y':l.getD c 0≠0:=by simpa using y
   exact ⟨_,rfl,q1 i l _ s2 el y'⟩
  ·have y':l.getD c 0=0:=by simpa using y
   refine ⟨_,_,rfl,s2,fun j hj l' e'=>?_⟩
   rcases ad_.mp hj with w|w
   ·exact z j w l' e'
   ·subst w
    rw [el] at e'
    cases e'
    exact y'
 ·rintro σ H' ⟨o1,o2,rfl,s1,z⟩
  refine q2 (fun l hl=>?_) H' s1
  obtain ⟨j,hj⟩:=adj hl
  exact z j (by have:=(ir.mp hj).1;omega) l hj
structure Red (os:ζ)(L c b:Nat)(nd:π)(lv:ζ):Prop where
 tj:∀x∈nd,x.2.length=L
 lC:∀l∈lv,l.length=L
 cols:∀x∈nd,x.1<c
 asc:(nd.map (·.1)).Pairwise (· < ·)
 here:∀x∈nd,x.2.getD x.1 0≠0
 off:∀x∈nd,∀y∈nd,x.1≠y.1->x.2.getD y.1 0=0
 low:∀x∈nd,∀j,j<x.1->x.2.getD j 0=0
 zero:∀l∈lv,∀j,j<c->l.getD j 0=0
 yq:∀x∈nd,nH os x.2
 mD:∀l∈lv,nH os l
 sol:∀z,((∀x∈nd,ev x.2 z=0)/\(∀l∈lv,ev l z=0)) ↔ ∀o∈os,ev o z=0
 OJ:∀x∈nd,Bd b x.2
 M1:∀l∈lv,Bd b l
 cnt:nd.length+lv.length=os.length
theorem Red.start {os:ζ}(hL:∀o∈os,o.length=L)(hb:∀o∈os,Bd b o):Red os L 0 b [] os where
 tj:=by simp
 lC:=hL
 cols:=by simp
 asc:=by simp
 here:=by simp
 off:=by simp
 low:=by simp
 zero:=fun _ _ j h=>aaM h (aeH _)
 yq:=by simp
 mD:=fun l h=>x4 h
 sol:=fun z=>by simp
 OJ:=by simp
 M1:=hb
 cnt:=by simp
theorem Red.skip {os:ζ}(h:Red os L c b nd lv)(hz:∀l∈lv,l.getD c 0=0):Red os L (c+1) b nd lv where
 tj:=h.tj
 lC:=h.lC
 cols:=fun x hx=>afv (h.cols x hx)
 asc:=h.asc
 here:=h.here
 off:=h.off
 low:=h.low
 zero:=fun l hl j hj=>by
  rcases ad_.mp hj with z|z
  ·exact h.zero l hl j z
  ·subst z
   exact hz l hl
 yq:=h.yq
 mD:=h.mD
 sol:=h.sol
 OJ:=h.OJ
 M1:=h.M1
 cnt:=h.cnt
structure Made (os:ζ)(lead:ξ)(c b:Nat)(xs ys:ζ):Prop where
 len:ys.length=xs.length
 to:∀(i:Nat)(x:ξ),xs[i]?=some x->∃y,ys[i]?=some y/\sN x lead y c/\Bd b y
theorem Made.ex {os:ζ}(h:Made os lead c b xs ys){y:ξ}(hy:y∈ys):∃x∈xs,sN x lead y c/\Bd b y:=by
 obtain ⟨i,hi⟩:=adj hy
 have hl:=h.len
 have kN:i<ys.length:=(ir.mp hi).1
 have e:xs[i]?=some (xs[i]'(by omega)):=gE (by omega)
 obtain ⟨y',e',r⟩:=h.to i _ e
 rw [hi] at e'
 cases e'
 exact ⟨_,aam e,r⟩
theorem Made.all {os:ζ}(h:Made os lead c b xs ys){x:ξ}(hx:x∈xs):∃y∈ys,sN x lead y c/\Bd b y:=by
 obtain ⟨i,hi⟩:=adj hx
 obtain ⟨y,e,r⟩:=h.to i x hi
 exact ⟨y,aam e,r⟩
theorem Red.step {os:ζ}{lv AW rest:ζ}{lead:ξ}(h:Red os L c b nd lv)(gY:lead∈lv)(yr:∀l∈rest,l∈lv)(LR:∀l∈lv,l=lead\/l∈rest)(hlen:rest.length+1=lv.length)
  (hc:lead.getD c 0≠0) (ML:Made os lead c (2*b+1) rest AW) (hk:km.map (·.1)=nd.map (·.1)) (MN:Made os lead c (2*b+1) (nd.map (·.2)) (km.map (·.2))):Red os L (c+1) (2*b+1) (km ++[(c,lead)]) AW :=by
 have ll:=h.lC lead gY
 have lz:=h.zero lead gY
 have hl':km.length=nd.length:=by simpa using aaQ aeV hk
 have pairs:∀x' ∈km,∃x∈nd,x.1=x'.1/\sN x.2 lead x'.2 c/\Bd (2*b+1) x'.2:=by
  intro x' OD
  obtain ⟨i,hi⟩:=adj OD
  have kN:i<km.length:=(ir.mp hi).1
  have e:nd[i]?=some (nd[i]'(by omega)):=gE (by omega)
  have e1:(km.map (·.1))[i]?=(nd.map (·.1))[i]? :=by rw [hk]
  rw [Wp,Wp,hi,e] at e1
  obtain ⟨y,e2,r⟩:=MN.to i (nd[i]'(by omega)).2 (by rw [Wp,e];rfl)
  rw [Wp,hi] at e2
  simp at e1 e2
  subst e2
  exact ⟨_,aam e,e1.symm,r⟩
 have back:∀x∈nd,∃x' ∈km,x'.1=x.1/\sN x.2 lead x'.2 c:=by
  intro x hx
  obtain ⟨i,hi⟩:=adj hx
  have kN:i<nd.length:=(ir.mp hi).1
  have e:km[i]?=some (km[i]'(by omega)):=gE (by omega)
  have e1:(km.map (·.1))[i]?=(nd.map (·.1))[i]? :=by rw [hk]
  rw [Wp,Wp,hi,e] at e1
  obtain ⟨y,e2,r⟩:=MN.to i x.2 (by rw [Wp,hi];rfl)
  rw [Wp,e] at e2
  simp at e1 e2
  exact ⟨_,aam e,e1,by rw [e2];exact r.1⟩
 have QJ:∀x∈km ++[(c,lead)],x∈km \/x=(c,lead):=fun x hx=>by simpa using hx
 exact {
  tj:=fun x hx=>by
   rcases QJ x hx with z|z
   ·obtain ⟨y,hy,_,k,_⟩:=pairs x z
    rw [k.len]
    exact h.tj y hy
   ·subst z
    exact ll
  lC:=fun l hl=>by
   obtain ⟨x,hx,k,_⟩:=ML.ex hl
   rw [k.len]
   exact h.lC x (yr x hx)
  cols:=fun x hx=>by
   rcases QJ x hx with z|z
   ·obtain ⟨y,hy,e,_⟩:=pairs x z
    rw [<-e]
    exact afv (h.cols y hy)
   ·subst z
    exact adY _
  asc:=by
   rw [ads,hk,List.pairwise_append]
   refine ⟨h.asc,by simp,fun a ha b' fC =>?_⟩
   obtain ⟨x,hx,rfl⟩:=aat.mp ha
   have:b'=c:=by simpa using fC
   subst this
   exact h.cols x hx
  here:=fun x hx=>by
   rcases QJ x hx with z|z
   ·obtain ⟨y,hy,e,k,_⟩:=pairs x z
    rw [<-e]
    exact k.at (lz _ (h.cols y hy)) (h.here y hy)
   ·subst z
    exact hc
  off:=fun x hx y hy ne=>by
   rcases QJ x hx with z|z<;>rcases QJ y hy with u|u
   ·obtain ⟨x0,hx0,e0,k0,_⟩:=pairs x z
    obtain ⟨y0,JX,e1,_⟩:=pairs y u
    rw [<-e1]
    exact k0.zero (h.off x0 hx0 y0 JX (by rw [e0,e1];exact ne)) (lz _ (h.cols y0 JX))
   ·subst u
    obtain ⟨x0,hx0,e0,k0,_⟩:=pairs x z
    exact k0.Mj
   ·subst z
    obtain ⟨y0,JX,e1,_⟩:=pairs y u
    rw [<-e1]
    exact lz _ (h.cols y0 JX)
   ·subst z
    subst u
    exact aaM rfl ne
  low:=fun x hx j hj=>by
   rcases QJ x hx with z|z
   ·obtain ⟨y,hy,e,k,_⟩:=pairs x z
    rw [<-e] at hj
    exact k.zero (h.low y hy j hj) (lz j (agR hj (h.cols y hy)))
   ·subst z
    exact lz j hj
  zero:=fun l hl j hj=>by
   obtain ⟨x,hx,k,_⟩:=ML.ex hl
   rcases ad_.mp hj with z|z
   ·exact k.zero (h.zero x (yr x hx) j z) (lz j z)
   ·subst z
    exact k.Mj
  yq:=fun x hx=>by
   rcases QJ x hx with z|z
   ·obtain ⟨y,hy,_,k,_⟩:=pairs x z
    exact k.comb (h.yq y hy) (h.mD lead gY)
   ·subst z
    exact h.mD lead gY
  mD:=fun l hl=>by
   obtain ⟨x,hx,k,_⟩:=ML.ex hl
   exact k.comb (h.mD x (yr x hx)) (h.mD lead gY)
  sol:=fun z=>by
   rw [<-h.sol z]
   constructor
   ·rintro ⟨a1,a2⟩
    have az:ev lead z=0:=a1 (c,lead) (by simp)
    refine ⟨fun x hx=>?_,fun l hl=>?_⟩
    ·obtain ⟨x',OD,_,k⟩:=back x hx
     exact (k.ev (by rw [ll,h.tj x hx]) az).mp (a1 x' (by simp [OD]))
    ·rcases LR l hl with u|u
     ·rw [u]
      exact az
     ·obtain ⟨y,hy,k,_⟩:=ML.all u
      exact (k.ev (by rw [ll,h.lC l hl]) az).mp (a2 y hy)
   ·rintro ⟨a1,a2⟩
    have az:=a2 lead gY
    refine ⟨fun x hx=>?_,fun l hl=>?_⟩
    ·rcases QJ x hx with u|u
     ·obtain ⟨y,hy,_,k,_⟩:=pairs x u
      exact (k.ev (by rw [ll,h.tj y hy]) az).mpr (a1 y hy)
     ·subst u
      exact az
    ·obtain ⟨x,hx,k,_⟩:=ML.ex hl
     exact (k.ev (by rw [ll,h.lC x (yr x hx)]) az).mpr (a2 x (yr x hx))
  OJ:=fun x hx=>by
   rcases QJ x hx with z|z
   ·obtain ⟨y,hy,_,_,k⟩:=pairs x z
    exact k
   ·subst z
    exact (h.M1 lead gY).up (by omega)
  M1:=fun l hl=>by
   obtain ⟨x,hx,_,k⟩:=ML.ex hl
   exact k
  cnt:=by
   have a:=ML.len
   have b:=h.cnt
   rw [adl,hl']
   simp
   omega}
def uN (H:Hp)(kvs:γ)(nd:π):Prop:=kvs.length=nd.length/\∀(i:Nat)(kv:Key×V)(x:Nat×List Int),kvs[i]?=some kv->nd[i]?=some x->kv.1=.inl (x.1:Int)/\Ln H kv.2 x.2
theorem uN.same (h:uN H kvs nd)(s:ao H H'):uN H' kvs nd:=⟨h.1,fun i kv x e1 e2=>⟨(h.2 i kv x e1 e2).1,(h.2 i kv x e1 e2).2.same s⟩⟩
theorem Ln.put (h:Ln H v l)(e:H d=some (.dK kvs)):Ln (upd H d o) v l:=by
 obtain ⟨p,e1,k⟩:=h
 exact ⟨p,e1,by rw [aj (fun z=>by rw [z,e] at k;cases k)];exact k⟩
theorem sO.put (h:sO H us ls)(e:H d=some (.dK kvs)):sO (upd H d o) us ls:=⟨h.1,fun i u l e1 e2=>(h.2 i u l e1 e2).put e⟩
theorem uN.put (h:uN H kvs nd)(e:H d=some (.dK kv2)):uN (upd H d o) kvs nd:=⟨h.1,fun i kv x e1 e2=>⟨(h.2 i kv x e1 e2).1,(h.2 i kv x e1 e2).2.put e⟩⟩
theorem mE (s:ao H H')(n:H d=none):ao H (upd H' d o):=fun b o' e=>by
 rw [aj (fun z=>by rw [z,n] at e;cases e)]
 exact s _ _ e
theorem uN.at (h:uN H kvs nd){i:Nat}(e:nd[i]?=some x):∃v,kvs[i]?=some (.inl (x.1:Int),v)/\Ln H v x.2:=by
 have hi:i<nd.length:=(ir.mp e).1
 have hl:=h.1
 have e2:kvs[i]?=some (kvs[i]'(by omega)):=gE (by omega)
 obtain ⟨a,b⟩:=h.2 i _ x e2 e
 exact ⟨(kvs[i]'(by omega)).2,by rw [e2,<-a],b⟩
theorem uN.keys (h:uN H kvs nd):kvs.map (·.1)=nd.map (fun x=>(agu (x.1:Int):Key)):=by
 refine adW fun i=>?_
 have hl:=h.1
 rw [Wp,Wp]
 by_cases hi:i<nd.length
 ·have e:nd[i]?=some nd[i]:=gE hi
  obtain ⟨v,e2,_⟩:=h.at e
  rw [e,e2]
  rfl
 ·rw [aax (by omega),aax (by omega)]
  rfl
theorem mF :∀{kvs:γ} {i:Nat},(kvs.map (·.1)).Nodup->kvs[i]?=some (k,v)->bF kvs k=some v
 | [],_,_,e=>by simp at e
 | p::r,0,_,e=>by
  cases e
  exact bT (p:=(k,v)) rfl
 | p::r,i+1,n,e=>by
  rw [aau,adQ] at n
  have e':r[i]?=some (k,v):=by simpa using e
  have ne:¬ p.1=k:=fun z=>n.1 (by rw [z];exact aat.mpr ⟨(k,v),aam e',rfl⟩)
  rw [bD ne]
  exact mF n.2 e'
theorem ES :∀{kvs:γ},k∉kvs.map (·.1)->bF kvs k=none
 | [],_=>rfl
 | p::r,h=>by
  have h':k≠p.1/\k∉r.map (·.1):=by simpa using h
  rw [bD (fun z=>h'.1 z.symm)]
  exact ES h'.2
theorem map_put :∀{kvs:γ} {i:Nat},(kvs.map (·.1)).Nodup->kvs[i]?=some (k,v)->kvs.map (fun kv=>if kv.1=k then (kv.1,v') else kv)=kvs.set i (k,v')
 | [],_,_,e=>by simp at e
 | p::r,0,n,e=>by
  rw [aau,adQ] at n
  cases e
  have hr:r.map (fun kv=>if kv.1=k then (kv.1,v') else kv)=r:=by
   refine (adp (fun q hq=>?_)).trans (List.map_id r)
   have ne:¬ q.1=k:=fun z=>n.1 (by show k∈_;rw [<-z];exact aat.mpr ⟨q,hq,rfl⟩)
   rw [aaA ne]
   rfl
  rw [aau,hr,aaC rfl,List.set_cons_zero]
 | p::r,i+1,n,e=>by
  rw [aau,adQ] at n
  have e':r[i]?=some (k,v):=by simpa using e
  have ne:¬ p.1=k:=fun z=>n.1 (by rw [z];exact aat.mpr ⟨(k,v),aam e',rfl⟩)
  rw [aau,aaA ne,map_put n.2 e',List.set_cons_succ]
theorem QK {kvs:γ}(n:(kvs.map (·.1)).Nodup)(e:kvs[i]?=some (k,v)):putK kvs k v'=kvs.set i (k,v'):=by
 unfold putK
 rw [iO,mF n e]
 exact map_put n e
theorem uN.set (h:uN H kvs nd){i c:Nat}(hv:Ln H v l):uN H (kvs.set i (.inl (c:Int),v)) (nd.set i (c,l)):=by
 have hl:=h.1
 refine ⟨by simp [hl],fun j kv x e1 e2=>?_⟩
 rw [ad8] at e1 e2
 by_cases z:i=j
 ·subst z
  rw [aaC rfl] at e1 e2
  by_cases hi:i<kvs.length
  ·rw [aaC hi] at e1
   rw [aaC (by omega)] at e2
   cases e1
   cases e2
   exact ⟨rfl,hv⟩
  ·rw [aaA hi] at e1
   cases e1
 ·rw [aaA z] at e1 e2
  exact h.2 j kv x e1 e2
theorem uN.snoc (h:uN H kvs nd){c:Nat}(hv:Ln H v l):uN H (kvs++[(.inl (c:Int),v)]) (nd++[(c,l)]):=by
 have hl:=h.1
 refine ⟨by simp [hl],fun j kv x e1 e2=>?_⟩
 by_cases z:j<kvs.length
 ·rw [adq z] at e1
  rw [adq (by omega)] at e2
  exact h.2 j kv x e1 e2
 ·rw [adv (by omega)] at e1 e2
  rw [<-hl] at e2
  by_cases y:j-kvs.length=0
  ·rw [y] at e1 e2
   cases e1
   cases e2
   exact ⟨rfl,hv⟩
  ·rw [aax (by simp;omega)] at e1
   cases e1
theorem keys_nodup:∀{nd:π},(nd.map (·.1)).Pairwise (· < ·)->(nd.map (fun x=>(agu (x.1:Int):Key))).Nodup
 | [],_=>by simp
 | x::r,h=>by
  rw [aau,List.pairwise_cons] at h
  rw [aau,adQ]
  refine ⟨fun z=>?_,keys_nodup h.2⟩
  obtain ⟨y,hy,e⟩:=aat.mp z
  have e':(y.1:Int)=x.1:=amP e
  have:=h.1 y.1 (aat.mpr ⟨y,hy,rfl⟩)
  omega
def bb (b k:Nat):Nat:=(k+1)*(b+11)
theorem vD (b:Nat)(h:k<=m):bb b k<=bb b m:=adz _ (by omega)
theorem vE (b k:Nat):b<=bb b k:=by
 unfold bb
 rw [aec,amh]
 omega
theorem Red.piv {os:ζ}(R:Red os L c b nd lv):KO nd:=⟨R.asc.imp fun h e=>by omega,R.here,R.off⟩
def Pr (os:ζ)(l:ξ):Prop:=l∈os\/UY l
theorem Red.small {os:ζ}(R:Red os L c b nd lv)(O:KP os nd lv ps qs)(hb:∀o∈os,Bd b0 o)(hk:nd.length<=k)(Wy:k<=1000)(pN:∀x∈nd,Pr os x.2)(pL:∀l∈lv,Pr os l):Red os L c (bb b0 k) nd lv:=by
 have le:∀{n:Nat},n<=(nd.length+1)*((2*(nd.length+1)*2^b0)^nd.length*2^b0)->n<=2^bb b0 k:=fun {n} h=>aav h (aav (UR (by omega)) (adF (by decide) (adz _ (by omega))))
 have z:∀{n:Nat},n=0->n<=2^bb b0 k:=fun {n} h=>by rw [h];exact adS _
 refine {R with OJ:=fun x hx j=>?_,M1:=fun l hl j=>?_}
 ·rcases pN x hx with h|h|h
  ·exact aav (hb _ h j) (adF (by decide) (vE _ _))
  ·exact le (O.need R.piv hx hb h j)
  ·exact z (by rw [h j];rfl)
 ·rcases pL l hl with h|h|h
  ·exact aav (hb _ h j) (adF (by decide) (vE _ _))
  ·obtain ⟨i,ei⟩:=adj hl
   exact le (O.left R.piv ei (fun x hx=>R.zero l hl x.1 (R.cols x hx)) hb h j)
  ·exact z (by rw [h j];rfl)
theorem mG {i:Nat}(h:i<=xs.length):iA xs none (some (i:Int))=xs.take i:=by
 unfold iA
 rw [HT.pZ,HT.xG,agb h]
 rfl
theorem iV {i:Nat}(h:i<=xs.length):iA xs (some (i:Int)) none=xs.drop i:=by
 unfold iA
 rw [HT.pZ,HT.xG,agb h]
 exact adN (by simp)
theorem Red.up {os:ζ}(h:Red os L c b nd lv)(hb:b<=b'):Red os L c b' nd lv:={h with OJ:=fun x hx=>(h.OJ x hx).up hb,M1:=fun x hx=>(h.M1 x hx).up hb}
theorem sO.erase (h:sO H us ls)(j:Nat):sO H (us.eraseIdx j) (ls.eraseIdx j):=by
 have hl:=h.1
 refine ⟨by rw [ae3,ae3,hl],fun i u l e1 e2=>?_⟩
 rw [afe] at e1 e2
 by_cases z:i<j
 ·rw [aaC z] at e1 e2
  exact h.2 _ _ _ e1 e2
 ·rw [aaA z] at e1 e2
  exact h.2 _ _ _ e1 e2
theorem nX {α β:Type}{P:Nat->α->β->Prop}:∀(xs:List α),(∀i x,xs[i]?=some x->∃y,P i x y)->∃ys:List β,ys.length=xs.length/\∀i x y,xs[i]?=some x->ys[i]?=some y->P i x y
 | [],_=>⟨[],rfl,fun i x y e=>by simp at e⟩
 | x::xs,h=>by
  obtain ⟨y,hy⟩:=h 0 x rfl
  obtain ⟨ys,hl,hp⟩:=nX (P:=fun i=>P (i+1)) xs (fun i x e=>h (i+1) x (by simpa using e))
  refine ⟨y::ys,by simp [hl],fun i x' y' e1 e2=>?_⟩
  cases i with
  | zero=>
   cases e1
   cases e2
   exact hy
  | succ i=>exact hp i x' y' (by simpa using e1) (by simpa using e2)
inductive nY (K:Frag)(vs:η)(H:Hp)(Q:VK)(E_:XK):Prop
|mk (a:aaz)(us:η)(os:List (List Int:_))(L m b:Nat)(_:vs=[.ref a,.int (m:Int)])(_:aR K H a us)(_:sO H us os)(_:(∀o∈os,o.length=L))(_:m<=L)(_:L<=1000)(_:os.length<=1000)(_:(∀o∈os,Bd b o))(_:bb b (min m os.length)<=29000000)(_:∀(p d a':aaz)(kvs:γ)(nZ :η)(nd:π)(lv:ζ)(H':Hp),ao H H' ->H d=none->H p=none->H' p=some (.tup [.ref d,.ref a'])->H' d=some (.dK kvs)->aR K H' a' nZ ->uN H' kvs nd->sO H' nZ lv->Red os L m (bb b (min m os.length)) nd lv->Q (.ref p) H')
theorem oN:av ["lines","many","needed","left","column","at","lead","place"] zar (ae IM):=sq
theorem YF (D:Def K mg "reduced" IM zar)(bh:mg "range"=none)(cC:mg "list"=none)(afg:Fn P w K mg base (aT P w) 1 "first_not_nought" zaL (vC K))(YG:Fn P w K mg base (aT P w) 34 "cleared" zaB nV):Fn P w K mg base (aT P w) 35 "reduced" zar (nY K):=by
 refine D.oo oN fun H hr h=>?_
 obtain ⟨a,us,os,L,m,b,rfl,hS,hL,hlen,hm,UZ,ho,hB,hb,q⟩:=h
 refine ⟨_,(aa (aF (i:=2) oN.nd cL)
  (aa (aF (i:=3) oN.nd (pv 0))
  (aa (bg aaG rfl (bY rfl bh (a9 (pv 1))) (bN (i:=4) oN.nd) (aa (aF (i:=5) oN.nd (aJ afg hr (aG (pv 3) (pv 4))))
   (aa (bq (bx LD (pv 5) qv) (ag xw) aL)
   (aa (aF (i:=6) oN.nd (bB aQ (pv 3) (pv 5)))
   (aa (q0 (i:=3) (tn:=["line"]) (fr:=["lead","column"]) (caps:=[6,4]) oN.nd (a_ (aw jC (cW eJ (pv 3) eI (dI (pv 5))) (cW eJ (pv 3) (dI (aw bG (pv 5) af)) eI))) (ym YG hr (bK (pv 0) (pv 1) (pv 2))))
   (aa (bg aaG rfl (a_ (dQ (fO rfl) rfl cC i7 (a9 (pv 2)))) (bN (i:=7) oN.nd) (ag (cE (bw hr) (pv 2) (pv 7) (aJ YG hr (bK (b6 (bw hr) (pv 2) (pv 7) (fun _ _=>rfl)) (pv 6) (pv 4))) rfl)))
   (ag (cE (bw hr) (pv 2) (pv 4) (pv 6) rfl))))))))
  (ag (ay (aS (aG (pv 2) (pv 3)))))))),?_⟩
 refine fun d Wz=>?_
 have s0:ao H (upd H d (.dK [])):=aA Wz _
 refine ⟨_,rfl,_,rfl,_,rfl,by omega,by omega,?_⟩
 refine cJ (lo:=0) (n:=m) (fun i σ H'=>Ex9 fun (al:aaz) (q_:η) (kvs:γ) (nd:π) (lv:ζ) (o4 o5 o6 o7:ω)=>σ=[some (.ref a),some (.int (m:Int)),some (.ref d),some (.ref al),o4,o5,o6,o7]/\ao H H'/\H' d=some (.dK kvs)/\aR K H' al q_/\sO H' q_ lv/\uN H' kvs nd/\nd.length<=i/\Red os L i (bb b (min m os.length)) nd lv/\(∃ps qs,KP os nd lv ps qs)/\(∀x∈nd,Pr os x.2)/\∀l∈lv,Pr os l)
  ⟨a,us,[],[],os,none,none,none,none,rfl,s0,ah,s0.seq hS,hL.same s0,⟨rfl,by simp⟩,aa_ _,(Red.start hlen hB).up (vE _ _),⟨[],os,KP.start os⟩,(by simp),fun l hl=>.inl hl⟩ ?_ ?_
 ·rintro i σ H1 hi ⟨al,q_,kvs,nd,lv,o4,o5,o6,o7,rfl,s1,hd,Td,JY,hN,hni,R,⟨ps,qs,O⟩,pN,pL⟩
  refine ⟨_,rfl,_,rfl,al,q_,lv,i,by rw [ad2];rfl,Td,JY,fun l hl=>by rw [R.lC l hl];omega,fun j lead H2 s2 ej hj=>?_,fun hz H2 s2=>?_⟩
  ·have hjl:j<lv.length:=(ir.mp ej).1
   have hul:=JY.1
   have cnt:=R.cnt
   have hbk:=hb
   have hd2:=s2 _ _ hd
   have Yo:=s2.seq Td
   have Te:=JY.same s2
   have Yx:=hN.same s2
   obtain ⟨u,eu,hu⟩:=Te.at' ej
   have gY:lead∈lv:=aam ej
   refine ⟨_,rfl,rfl,_,rfl,bu (fun z=>by simp at z) (fun _=>?_)⟩
   refine ⟨_,rfl,_,rfl,al,_,_,_,rfl,rfl,Yo,bL eu,_,rfl,_,rfl,_,rfl,al,q_,rfl,Yo,fun p1 n1=>?_⟩
   have t1:=aA n1 (.lst (iA q_ none (some (j:Int))))
   refine ⟨_,rfl,_,rfl,_,_,rfl,rfl,_,rfl,al,q_,rfl,t1.seq Yo,fun p2 n2=>?_⟩
   have t2:=aA n2 (.lst (iA q_ (some ((j:Int)+1)) none))
   have YH:iA q_ none (some (j:Int))++iA q_ (some ((j:Int)+1)) none=q_.eraseIdx j:=by
    rw [mG (by omega),show ((j:Int)+1)=((j+1:Nat):Int) from by omega,iV (by omega),List.eraseIdx_eq_take_drop_succ]
   have afh:(iA q_ none (some (j:Int))).length+(iA q_ (some ((j:Int)+1)) none).length<=aaD:=by
    rw [<-adl,YH]
    exact aav (aav (agH ..) (show q_.length<=1000 by omega)) (by decide)
   refine ⟨p1,p2,_,_,rfl,rfl,t2 _ _ ah,ah,afh,fun p3 n3=>?_⟩
   have t3:=aA n3 (.lst (iA q_ none (some (j:Int))++iA q_ (some ((j:Int)+1)) none))
   refine ⟨p3,rfl,⟨_,aR.of ah⟩,fun D nD=>?_⟩
   have tt:=(t1.trans t2).trans t3
   have hE:=(Te.same tt).erase j
   have hu3:=hu.same tt
   have er:(q_.eraseIdx j).length<=1000:=aav (agH ..) (show q_.length<=1000 by omega)
   refine qO (cap:=[some u,some (.int ((0:Int)+i))]) (K:=K) (a:=p3) (xs:=q_.eraseIdx j) (fun k v H=>∃x y p,(lv.eraseIdx j)[k]?=some x/\v=.ref p/\p≠D/\H p=some (.lst (y.map V.int))/\sN x lead y i/\Bd (2*bb b (min m os.length)+1) y/\(y=x\/UY y)) nD (ac_ er (by decide)) (fun H3 s3=>aR.of (s3 _ _ (by rw [ah,YH]))) ?_ ?_ ?_
   ·rintro k v H3 H4 ys hD3 ks ⟨x,y,p,e1,e2,e3,e4,e5⟩
    exact ⟨x,y,p,e1,e2,e3,ks _ _ e3 e4,e5⟩
   ·rintro k x H3 RR ex s3 ⟨ys0,afi⟩ kk
    obtain ⟨l,el,hl⟩:=hE.at ex
    have HE:l∈lv:=ae6 (aam el)
    have hll:=R.lC l HE
    have hld:=R.lC lead gY
    refine ⟨_,rfl,_,rfl,_,rfl,x,u,l,lead,i,bb b (min m os.length),bb b (min m os.length),by rw [ad2];rfl,hl.same s3,hu3.same s3,by rw [hll,hld],by omega,by omega,hj,R.M1 l HE,R.M1 lead gY,hbk,hbk,fun v' l' H4 s4 L4 cl bd pz fr=>?_⟩
    obtain ⟨p,e1,e2⟩:=L4
    refine kk v' H4 s4 ⟨l,l',p,el,e1,?_,e2,cl,by rw [Nat.two_mul];exact bd,pz⟩
    rcases fr with z|⟨p',z,n⟩
    ·obtain ⟨px',z1,z2⟩:=hl
     rw [z1,e1] at z
     cases z
     exact ak z2 nD
    ·rw [e1] at z
     cases z
     exact fun y=>by rw [y,afi] at n;cases n
   ·intro ys H3 hy iD s3 hD
    obtain ⟨AW,hl',hp⟩:=nX (P:=fun k v y=>∃x p,(lv.eraseIdx j)[k]?=some x/\v=.ref p/\p≠D/\H3 p=some (.lst (y.map V.int))/\sN x lead y i/\Bd (2*bb b (min m os.length)+1) y/\(y=x\/UY y)) ys (fun k v e=>by
     obtain ⟨x,y,p,r⟩:=iD k v e
     exact ⟨y,x,p,r⟩)
    have YI:sO H3 ys AW :=⟨hl'.symm,fun k v y e1 e2=>by
     obtain ⟨x,p,_,e,_,r,_⟩:=hp k v y e1 e2
     exact ⟨p,e,r⟩⟩
    have les:(q_.eraseIdx j).length=(lv.eraseIdx j).length:=hE.1
    have ML:Made os lead i (2*bb b (min m os.length)+1) (lv.eraseIdx j) AW :=⟨by omega,fun k x e=>by
     have hk:k<(lv.eraseIdx j).length:=(ir.mp e).1
     have e1:ys[k]?=some (ys[k]'(by omega)):=gE (by omega)
     have e2:AW[k]?=some (AW[k]'(by omega)):=gE (by omega)
     obtain ⟨x',p,r1,_,_,_,r2,r3,_⟩:=hp k _ _ e1 e2
     rw [e] at r1
     cases r1
     exact ⟨_,e2,r2,r3⟩⟩
    have PL:∀l∈AW,Pr os l:=fun l hl=>by
     obtain ⟨k,ek⟩:=adj hl
     have hk:k<AW.length:=(ir.mp ek).1
     have e1:ys[k]?=some (ys[k]'(by omega)):=gE (by omega)
     obtain ⟨x',p,r1,_,_,_,_,_,r4⟩:=hp k _ _ e1 ek
     rcases r4 with z|z
     ·rw [z]
      exact pL x' (ae6 (aam r1))
     ·exact .inr z
    have EC:=tt.trans s3
    have Tf:=EC _ _ hd2
    have hN3:=Yx.same EC
    have hu4:=hu3.same s3
    refine ⟨_,rfl,d,kvs,rfl,Rd.of Tf,fun l3 n3=>?_⟩
    have t4:=aA n3 (.lst (kvs.map fun kv=>kV kv.1))
    refine ⟨l3,rfl,⟨_,aR.of ah⟩,?_⟩
    have dl:d≠l3:=ak Tf n3
    refine bI (K:=K) (a:=l3) (xs:=kvs.map fun kv=>kV kv.1) (fun t σ H'=>EJ fun (o7:ω) (kq :γ) (km :π)=>σ=[some (.ref a),some (.int (m:Int)),some (.ref d),some (.ref D),some (.int ((0:Int)+i)),some (.int (j:Int)),some u,o7]/\ao H H'/\H' d=some (.dK kq)/\H' l3=some (.lst (kvs.map fun kv=>kV kv.1))/\H' D=some (.lst ys)/\sO H' ys AW /\Ln H' u lead/\uN H' kq km /\km.map (·.1)=nd.map (·.1)/\
      ∀(k:Nat)(x:Nat×List Int),nd[k]?=some x->∃y,km[k]?=some (x.1,y)/\(t<=k->y=x.2)/\(k<t->(sN x.2 lead y i/\Bd (2*bb b (min m os.length)+1) y)/\(y=x.2\/UY y)))
     ⟨_,kvs,nd,rfl,((s1.trans s2).trans EC).trans t4,t4 _ _ Tf,ah,t4 _ _ hD,YI.same t4,hu4.same t4,hN3.same t4,rfl,fun k x e=>⟨x.2,e,fun _=>rfl,fun z=>aaM z (aeH _)⟩⟩ (fun t σ H' _ h=>by
      obtain ⟨_,_,_,_,_,_,h,_⟩:=h
      exact aR.of h) ?_ ?_
    ·rintro t u7 σ H4 hu7 ⟨o7,kq,km,rfl,s4,zK,hl4,YJ,hL4,hu5,OK,U1,WA⟩
     rw [Wp] at hu7
     obtain ⟨kv,uO,rfl⟩:=ab_.mp hu7
     have htl:t<kvs.length:=(ir.mp uO).1
     have hnl:=hN.1
     have ex:nd[t]?=some (nd[t]'(by omega)):=gE (by omega)
     obtain ⟨x,hx⟩:∃x,nd[t]?=some x:=⟨_,ex⟩
     obtain ⟨kx,hxm⟩:kv.1=.inl (x.1:Int)/\x∈nd:=⟨(hN3.2 t kv x uO hx).1,aam hx⟩
     obtain ⟨y,ey,y1,_⟩:=WA t x hx
     have y2:=y1 (aa_ _)
     subst y2
     obtain ⟨v,ev,hv⟩:=OK.at ey
     have nk:(kq.map (·.1)).Nodup:=by
      rw [OK.keys]
      exact keys_nodup (by rw [U1];exact R.asc)
     have vat:=mF nk ev
     have hxl:=R.tj x hxm
     have hld:=R.lC lead gY
     have dg:cG H4 d (kV kv.1) (some v):=by
      rw [kx,<-vat]
      exact cG.k zK
     refine ⟨_,rfl,_,rfl,d,v,rfl,dg,_,rfl,_,rfl,v,u,x.2,lead,i,bb b (min m os.length),bb b (min m os.length),by rw [ad2];rfl,hv,hu5,by rw [hxl,hld],by omega,by omega,hj,R.OJ x hxm,R.M1 lead gY,hbk,hbk,fun v' l' H5 s5 L5 cl bd pz fr=>?_⟩
     have U2:=s5 _ _ zK
     have l4':=OK.1
     have l5':km.length=nd.length:=by simpa using aaQ aeV U1
     refine ⟨_,rfl,_,rfl,d,_,rfl,gP.k U2 (ac_ (show kq.length<=1000 by omega) (by decide)),?_⟩
     rw [kx,QK nk ev]
     have dn:d≠D:=fun z=>by rw [z,YJ] at zK;cases zK
     refine ⟨_,kq.set t (.inl (x.1:Int),v'),km.set t (x.1,l'),rfl,mE (s4.trans s5) Wz,ah,by rw [aj (adO dl)];exact s5 _ _ hl4,by rw [aj (adO dn)];exact s5 _ _ YJ,(hL4.same s5).put U2,(hu5.same s5).put U2,((OK.same s5).set L5).put U2,?_,fun k x' ek=>?_⟩
     ·rw [List.map_set,U1]
      refine adW fun k=>?_
      rw [ad8]
      by_cases z:t=k
      ·subst z
       rw [aaC rfl,aaC (by simp;omega),Wp,hx]
       rfl
      ·rw [aaA z]
     ·obtain ⟨y',KQ,a1,a2⟩:=WA k x' ek
      by_cases z:t=k
      ·subst z
       rw [hx] at ek
       cases ek
       refine ⟨l',by rw [ad8,aaC rfl,aaC (by omega)],fun w=>by omega,fun _=>⟨⟨cl,by rw [Nat.two_mul];exact bd⟩,pz⟩⟩
      ·exact ⟨y',by rw [ad8,aaA z];exact KQ,fun w=>a1 (by omega),fun w=>a2 (by omega)⟩
    ·rintro σ H4 ⟨o7,kq,km,rfl,s4,zK,hl4,YJ,hL4,hu5,OK,U1,WA⟩
     have l4':=OK.1
     have l5':km.length=nd.length:=by simpa using aaQ aeV U1
     have hnl:=hN.1
     rw [be] at WA
     have MN:Made os lead i (2*bb b (min m os.length)+1) (nd.map (·.2)) (km.map (·.2)):=⟨by simp [l5'],fun k x e=>by
      rw [Wp] at e
      obtain ⟨x0,e0,rfl⟩:=ab_.mp e
      have hk:k<nd.length:=(ir.mp e0).1
      obtain ⟨y,ey,_,a2⟩:=WA k x0 e0
      exact ⟨y,by rw [Wp,ey];rfl,(a2 (by omega)).1⟩⟩
     have hno:bF kq (.inl ((0:Int)+i))=none:=ES (fun z=>by
      rw [OK.keys] at z
      obtain ⟨x',OD,e⟩:=aat.mp z
      have e1:(x'.1:Int)=0+i:=amP e
      have:x'.1∈nd.map (·.1):=by rw [<-U1];exact aat.mpr ⟨x',OD,rfl⟩
      obtain ⟨x,hx,e2⟩:=aat.mp this
      have:=R.cols x hx
      omega)
     refine ⟨_,rfl,_,rfl,_,rfl,d,_,rfl,gP.k (k:=.inl ((0:Int)+i)) zK (ac_ (show kq.length<=1000 by omega) (by decide)),?_⟩
     rw [dw u hno]
     have dn:d≠D:=fun z=>by rw [z,YJ] at zK;cases zK
     have afm:∀l∈lv.eraseIdx j,l∈lv:=fun l h=>ae6 h
     have afn:∀l∈lv,l=lead\/l∈lv.eraseIdx j:=fun l h=>by
      obtain ⟨k,ek⟩:=adj h
      rcases Nat.lt_trichotomy k j with z|z|z
      ·exact .inr (aam (i:=k) (by rw [afe,aaC z];exact ek))
      ·subst z
       rw [ej] at ek
       cases ek
       exact .inl rfl
      ·exact .inr (aam (i:=k-1) (by rw [afe,aaA (by omega),show k-1+1=k by omega];exact ek))
     have U3:(lv.eraseIdx j).length+1=lv.length:=by rw [ae3,aaC hjl];omega
     have R2:=R.step gY afm afn U3 hj ML U1 MN
     obtain ⟨ps',MK,O2⟩:=O.step R.piv ej (fun x hx=>R.zero lead gY x.1 (R.cols x hx)) hj ML.len (fun k x e=>by
      obtain ⟨y,ey,k1,_⟩:=ML.to k x e
      exact ⟨y,ey,k1⟩) l5' fun k x e=>by
      obtain ⟨y,ey,k1,_⟩:=MN.to k x e
      exact ⟨y,ey,k1⟩
     have PN:∀x∈km ++[(i,lead)],Pr os x.2:=fun x hx=>by
      rcases ado.mp hx with z|z
      ·obtain ⟨k,ek⟩:=adj z
       have hk:k<km.length:=(ir.mp ek).1
       obtain ⟨x0,e0⟩:∃x0,nd[k]?=some x0:=⟨_,gE (by omega)⟩
       obtain ⟨y,ey,_,a2⟩:=WA k x0 e0
       rw [ek] at ey
       cases ey
       rcases (a2 (by omega)).2 with u|u
       ·show Pr os y
        rw [u]
        exact pN x0 (aam e0)
       ·exact .inr u
      ·rw [adi.mp z]
       exact pL lead gY
     have YK:=R2.cnt
     have R3:=R2.small O2 hB (k:=min m os.length) (by rw [adl] at YK ⊢;simp at YK ⊢;omega) (by omega) PN PL
     refine ⟨D,ys,_,km ++[(i,lead)],AW,_,_,_,_,rfl,mE s4 Wz,ah,aR.of (by rw [aj (adO dn)];exact YJ),hL4.put zK,(by rw [ad2];exact (OK.snoc hu5).put zK),by simp;omega,R3,⟨ps',MK,O2⟩,PN,PL⟩
  ·refine ⟨_,rfl,rfl,_,rfl,bu (fun _=>?_) (fun z=>by simp at z)⟩
   exact ⟨al,q_,kvs,nd,lv,_,_,_,_,rfl,s1.trans s2,s2 _ _ hd,s2.seq Td,JY.same s2,hN.same s2,by omega,R.skip hz,⟨ps,qs,O⟩,pN,pL⟩
 ·rintro σ H1 ⟨al,q_,kvs,nd,lv,o4,o5,o6,o7,rfl,s1,hd,Td,JY,hN,hni,R,⟨ps,qs,O⟩,pN,pL⟩
  refine ⟨_,rfl,_,rfl,z2L,fun p np=>?_⟩
  have sp:=aA np (.tup [.ref d,.ref al])
  have cnt:=R.cnt
  exact q p d al kvs q_ nd lv _ (s1.trans sp) Wz (s1.free np) ah (sp _ _ hd) (sp.seq Td) (hN.same sp) (JY.same sp) R
theorem ET (hb:b≠0)(h1:t.natAbs<=2^T)(h2:b.natAbs<=2^B):Sm T B (low t b):=⟨jV hb,qa hb,aav (kY hb) h1,aav (kZ hb) h2⟩
theorem mH {l:ξ}(h:l.length<=j):l.getD j 0=0:=by
 rw [adn,aax h]
 rfl
def yt (m t:Nat)(nd:π)(qs:ο):Prop:=qs.length=m/\(∀i,i<t->∀x,nd[i]?=some x->qs[x.1]?=some (low (x.2.getD m 0) (x.2.getD x.1 0)))/\∀j,j<m->(∀i,i<t->∀x,nd[i]?=some x->x.1≠j)->qs[j]?=some (0,1)
theorem yt.sm {os:ζ}(R:Red os (m+1) m b nd lv)(F:yt m nd.length nd qs):∀q∈qs,Sm b b q:=by
 intro q hq
 obtain ⟨j,hj⟩:=adj hq
 have hjm:j<m:=by have:=(ir.mp hj).1;rw [<-F.1];exact this
 by_cases c:∃(i:Nat)(x:Nat×List Int),nd[i]?=some x/\x.1=j
 ·obtain ⟨i,x,e,rfl⟩:=c
  have hi:i<nd.length:=(ir.mp e).1
  have h1:=F.2.1 i hi x e
  rw [hj] at h1
  cases h1
  have hm:=aam e
  exact ET (R.here x hm) (R.OJ x hm m) (R.OJ x hm x.1)
 ·have h1:=F.2.2 j hjm (fun i _ x e z=>c ⟨i,x,e,z⟩)
  rw [hj] at h1
  cases h1
  exact ⟨by decide,by decide,adS _,afP⟩
theorem yt.sol {os:ζ}(R:Red os (m+1) m b nd lv)(F:yt m nd.length nd qs)(hz:∀l∈lv,l.getD m 0=0):∀o∈os,ev o (oI (qs.map vl))=0:=by
 have ql:=F.1
 have zl:∀j q,qs[j]?=some q->oI (qs.map vl) j=vl q:=fun j q e=>by
  have hj:j<qs.length:=(ir.mp e).1
  unfold oI
  rw [aaC (by rw [be];exact hj),adn,Wp,e]
  rfl
 have zm:oI (qs.map vl) m= -1:=by
  unfold oI
  rw [aaA (by rw [be];omega)]
 refine (R.sol _).mp ⟨fun x hx=>?_,fun l hl=>?_⟩
 ·obtain ⟨i,e⟩:=adj hx
  have hi:i<nd.length:=(ir.mp e).1
  have hc:=R.cols x hx
  have hh:=R.here x hx
  have h1:=F.2.1 i hi x e
  have zc:=zl _ _ h1
  rw [lh hh] at zc
  have other:∀j,j≠x.1->j≠m->((x.2.getD j 0:Int):Rat)*oI (qs.map vl) j=0:=by
   intro j n1 n2
   by_cases hj:j<m
   ·by_cases c:∃(i:Nat)(x:Nat×List Int),nd[i]?=some x/\x.1=j
    ·obtain ⟨i',y,e',rfl⟩:=c
     rw [R.off x hx y (aam e') (adO n1)]
     simp
    ·have h2:=F.2.2 j hj (fun i _ x e z=>c ⟨i,x,e,z⟩)
     rw [zl _ _ h2]
     unfold vl
     simp
     grind
   ·rw [mH (by rw [R.tj x hx];omega)]
    simp
  have sp:oI (qs.map vl)=fun i=>(if i=m then 0 else oI (qs.map vl) i)+(if i=m then -1 else 0):=by
   funext i
   by_cases z:i=m
   ·rw [aaC z,aaC z,z,zm]
    grind
   ·rw [aaA z,aaA z]
    grind
  rw [sp,Mg]
  have a1:=vt x.2 (fun i=>if i=m then 0 else oI (qs.map vl) i) x.1 (fun j hj=>by
   by_cases z:j=m
   ·simp [z]
   ·rw [aaA z]
    exact other j hj z)
  have a2:=vt x.2 (fun i=>if i=m then (-1:Rat) else 0) m (fun j hj=>by rw [aaA hj];simp)
  rw [a1,a2]
  rw [aaA (by omega),aaC rfl,zc]
  have hh':=cQ hh
  grind
 ·refine vq l _ (fun j=>?_)
  have:l.getD j 0=0:=by
   by_cases h1:j<m
   ·exact R.zero l hl j h1
   ·by_cases h2:j=m
    ·rw [h2]
     exact hz l hl
    ·exact mH (by rw [R.lC l hl];omega)
  rw [this]
  simp
theorem yt.put {os:ζ}(R:Red os (m+1) m b nd lv)(F:yt m t nd qs)(e:nd[t]?=some x):yt m (t+1) nd (qs.set x.1 (low (x.2.getD m 0) (x.2.getD x.1 0))):=by
 have ql:=F.1
 have hx:=R.cols x (aam e)
 have dis:∀i y,i<t->nd[i]?=some y->y.1≠x.1:=fun i y hi ey=>by
  have a:=List.pairwise_iff_getElem.mp R.asc i t (by rw [be];exact (ir.mp ey).1) (by rw [be];exact (ir.mp e).1) hi
  simp only [List.getElem_map] at a
  have e1:=(ir.mp ey).2
  have e2:=(ir.mp e).2
  rw [e1,e2] at a
  omega
 refine ⟨by simp [ql],fun i hi y ey=>?_,fun j hj h=>?_⟩
 ·rcases ad_.mp hi with z|z
  ·rw [ad8,aaA (adO (dis i y z ey))]
   exact F.2.1 i z y ey
  ·subst z
   rw [e] at ey
   cases ey
   rw [ad8,aaC rfl,aaC (by omega)]
 ·rw [ad8,aaA (h t (adY _) x e)]
  exact F.2.2 j hj (fun i hi y ey=>h i (afv hi) y ey)
theorem U4 (h:j<n):KI n (j:Int)=some j:=by
 unfold KI
 simp
 omega
theorem bM.putL (h:bM K H a xs)(e:H d=some (.lst ys)):bM K (upd H d o) a xs:=by
 rcases h with (h|⟨o',h⟩)|h
 ·exact .inl (.inl (by rw [aj (fun z=>by rw [z,e] at h;cases h)];exact h))
 ·exact .inl (.inr ⟨o',by rw [aj (fun z=>by rw [z,e] at h;cases h)];exact h⟩)
 ·exact .inr h
inductive lD (K:Frag)(vs:η)(H:Hp)(Q:VK)(E_:XK):Prop
|mk (a:aaz)(us:η)(os:List (List Int:_))(m b:Nat)(_:vs=[.ref a,.int (m:Int)])(_:aR K H a us)(_:sO H us os)(_:(∀o∈os,o.length=m+1))(_:m<=900)(_:os.length<=900)(_:(∀o∈os,Bd b o))(_:bb b (min m os.length)<=29000000)(_:(∀(l:ξ)(H':Hp),ao H H' ->l.length=m+1->nH os l->(∀j,j<m->l.getD j 0=0)->l.getD m 0≠0->Q .cS H'))(_:(∀(x:aaz)(nZ :η)(qs:ο)(H':Hp),ao H H' ->H x=none->H' x=some (.lst nZ)->cH K H' nZ qs->qs.length=m->(∀q∈qs,Sm (bb b (min m os.length)) (bb b (min m os.length)) q)->(∀o∈os,ev o (oI (qs.map vl))=0)->Q (.ref x) H'))
theorem yu:av ["lines","many","told","x","column","line"] zar (ae IL):=sq
theorem YL (hN:∀H:Hp,bM K H aN [.int 0,.int 1])(jI:mg "NOUGHT"=some (.ref aN))(D:Def K mg "solution_of" IL zar)(M3:mg "any"=none)(afo:Fn P w K mg base (aT P w) 35 "reduced" zar (nY K))(ra:Fn P w K mg base (aT P w) 33 "lowest_terms" zap fg):Fn P w K mg base (aT P w) 36 "solution_of" zar (lD K):=by
 refine D.oo yu fun H hr h=>?_
 obtain ⟨a,us,os,m,b,rfl,hS,hL,hlen,hm,ho,hB,hb,q1,q2⟩:=h
 refine ⟨_,(aa (aF (i:=2) yu.nd (aJ afo hr (aG (pv 0) (pv 1))))
  (aa (bq (dJ (aI (HG rfl) rfl M3 X' (a9 (eK (tn:=["line"]) (fr:=["many"]) (caps:=[1]) (a_ (aC (pv 2))) (pS ma (bB (qM (K:=K) rfl) (pv 0) (pv 1)) af (qB _)))))) (ag (ay qv)) aL)
  (aa (aF (i:=3) yu.nd (aw vb (b_ (a9 (dP (v:=.ref aN) rfl jI rfl))) (pv 1)))
  (aa (bg aaG rfl (mw (aC (pv 2))) (fM rfl (aY (bN (i:=4) yu.nd) (aY (bN (i:=5) yu.nd) de))) (ag (zW (aJ ra hr (aG (bB aQ (pv 5) (pv 1)) (bB aQ (pv 5) (pv 4)))) (zQ (pv 3) (pv 4) set_list))))
  (ag (ay (pv 3))))))),?_⟩
 refine ⟨_,rfl,_,rfl,a,us,os,m+1,m,b,rfl,hS,hL,hlen,by omega,by omega,by omega,hB,hb,fun p d a' kvs nZ nd lv H1 s1 Wz np hp hd Td hN1 UZ R=>?_⟩
 have lu:=UZ.1
 have cnt:=R.cnt
 refine ⟨_,rfl,p,_,_,_,rfl,rfl,bM.of hp,gX,a',rfl,⟨_,Td⟩,fun D1 n1=>?_⟩
 refine dB (cap:=[some (.int (m:Int))]) (K:=K) (a:=a') (xs:=nZ) (fun k v _=>∃l,lv[k]?=some l/\v=.bl (decide (l.getD m 0≠0))) n1 (ac_ (show nZ.length<=1000 by omega) (by decide)) (fun H2 s2=>s2.seq Td) (fun _ _ _ _ _ _ _ h=>h) ?_ ?_
 ·intro k x H2 RR ex s2 kk
  obtain ⟨l,el,b',rfl,fC⟩:=UZ.at ex
  have hll:=R.lC l (aam el)
  refine ⟨_,rfl,_,rfl,b',_,_,_,rfl,rfl,aR.of (s2 _ _ fC),uL (by omega),rfl,kk _ _ (ao.refl _) ⟨l,el,?_⟩⟩
  simp
 ·intro ys H2 hy iD s2 hD
  have ey:ys=(lv.map fun l=>decide (l.getD m 0≠0)).map V.bl:=by
   refine adW fun i=>?_
   by_cases hi:i<ys.length
   ·have e1:ys[i]?=some ys[i]:=gE hi
    obtain ⟨l,el,e⟩:=iD i _ e1
    rw [e1,e,Wp,Wp,el]
    rfl
   ·rw [aax (by omega),aax (by simp;omega)]
  subst ey
  refine ⟨D1,_,rfl,aR.of hD,_,rfl,?_⟩
  have lY:=s1.trans s2
  refine bu (fun c=>?_) (fun c=>?_)
  ·obtain ⟨b',fC,hb1⟩:=afF.mp c
   obtain ⟨l,hl,rfl⟩:=aat.mp fC
   have hn:l.getD m 0≠0:=aaU hb1
   exact q1 l H2 lY (R.lC l hl) (R.mD l hl) (R.zero l hl) hn
  ·have hz:∀l∈lv,l.getD m 0=0:=fun l hl=>by
    by_cases z:l.getD m 0=0
    ·exact z
    ·exact aaM (afF.mpr ⟨true,aat.mpr ⟨l,hl,aaS z⟩,rfl⟩) c
   refine ⟨z1L,fun p3 n3=>?_⟩
   have s3:=aA n3 (.lst [V.ref aN])
   refine ⟨_,rfl,p3,_,_,rfl,rfl,ah,by omega,by omega,aav (show 1*(m:Int).toNat<=1000 by omega) (by decide),fun x n4=>?_⟩
   have s4:=aA n4 (.lst (adt (m:Int).toNat [V.ref aN]).flatten)
   have OL:=(lY.trans s3).trans s4
   have nx:H x=none:=(lY.trans s3).free n4
   have er:(adt (m:Int).toNat [V.ref aN]).flatten=adt m (V.ref aN):=by simp
   have hp4:=s4 _ _ (s3 _ _ (s2 _ _ hp))
   have zK:=s4 _ _ (s3 _ _ (s2 _ _ hd))
   have OK:=((hN1.same s2).same s3).same s4
   have dx:d≠x:=ak (s3 _ _ (s2 _ _ hd)) n4
   refine ⟨_,rfl,p,_,_,_,rfl,rfl,bM.of hp4,ie,d,kvs,rfl,zK,fun o=>?_⟩
   refine jY (d:=d) (o:=o) (kvs:=kvs) (fun t σ H'=>HX fun (o4 o5:ω) (M7:η) (qs:ο)=>σ=[some (.ref a),some (.int (m:Int)),some (.ref p),some (.ref x),o4,o5]/\ao H H'/\H' d=some (.fq o (.dK kvs))/\H' x=some (.lst M7)/\cH K H' M7 qs/\uN H' kvs nd/\yt m t nd qs)
    ⟨none,none,adt m (V.ref aN),adt m (0,1),rfl,mE OL Wz,ah,by rw [aj (adO dx),ah,er],⟨by simp,fun i u q' e1 e2=>?_⟩,OK.put zK,⟨by simp,fun i hi=>aaM hi (aeH _),fun j hj _=>by rw [adT,aaC hj]⟩⟩ (fun t σ H' _ h=>by
     obtain ⟨_,_,_,_,_,_,h,_⟩:=h
     exact h) ?_ ?_
   ·rw [adT] at e1 e2
    by_cases z:i<m
    ·rw [aaC z] at e1 e2
     cases e1
     cases e2
     exact ⟨aN,rfl,hN _⟩
    ·rw [aaA z] at e1
     cases e1
   ·rintro t k v σ H5 p7 uO ⟨o4,o5,M7,qs,rfl,s5,U2,hx5,QL,YM,F⟩ n7
    have ht:t<kvs.length:=(ir.mp uO).1
    have hl5:=YM.1
    obtain ⟨c,ec⟩:∃c,nd[t]?=some c:=⟨_,gE (by omega)⟩
    obtain ⟨k1,k2⟩:=YM.2 t _ c uO ec
    have k1':k=.inl (c.1:Int):=k1
    subst k1'
    obtain ⟨b',eb,fC⟩:=k2
    have U5 :v=.ref b':=eb
    subst U5
    have hcm:=aam ec
    have hcl:=R.tj c hcm
    have hcc:=R.cols c hcm
    have s7:=aA n7 (.tup [kV (.inl (c.1:Int)),.ref b'])
    have hb7:=s7 _ _ fC
    refine ⟨p7,_,rfl,bM.of ah,rfl,_,_,rfl,_,_,rfl,rfl,_,rfl,_,rfl,b',_,_,_,rfl,rfl,aR.of hb7,uL (by omega),_,rfl,_,rfl,b',_,_,_,rfl,rfl,aR.of hb7,uL (by omega),_,_,rfl,R.here c hcm,fun p8 H8 s8 e8=>?_⟩
    have QM:=s7.trans s8
    have hx8:=QM _ _ hx5
    have l2:=QL.1
    have xn:∀{b0:aaz} {o0:HO},H b0=some o0->b0≠x:=fun e=>ak e nx
    have dx8:=QM _ _ U2
    refine ⟨_,rfl,_,rfl,x,M7,_,c.1,rfl,rfl,hx8,U4 (by rw [l2,F.1];exact hcc),?_⟩
    refine ⟨_,_,M7.set c.1 (.ref p8),qs.set c.1 (low (c.2.getD m 0) (c.2.getD c.1 0)),rfl,mE (s5.trans QM) nx,by rw [aj dx];exact dx8,ah,?_,?_,F.put R ec⟩
    ·have base:cH K H8 (M7.set c.1 (.ref p8)) (qs.set c.1 (low (c.2.getD m 0) (c.2.getD c.1 0))):=(QL.same QM).set ⟨p8,rfl,bM.of e8⟩
     refine ⟨base.1,fun i u q' e1 e2=>?_⟩
     obtain ⟨p9,e9,h9⟩:=base.2 i u q' e1 e2
     exact ⟨p9,e9,bM.putL h9 hx8⟩
    ·have base:=YM.same QM
     refine ⟨base.1,fun i kv y e1 e2=>⟨(base.2 i kv y e1 e2).1,?_⟩⟩
     obtain ⟨p9,e9,h9⟩:=hN1.2 i kv y e1 e2 |>.2
     refine ⟨p9,e9,?_⟩
     have px9:p9≠x:=fun z=>by
      have:=(s3 _ _ (s2 _ _ h9))
      rw [z,n4] at this
      cases this
     rw [aj px9]
     obtain ⟨p10,WC,h10⟩:=(base.2 i kv y e1 e2).2
     rw [e9] at WC
     cases WC
     exact h10
   ·rintro σ H5 ⟨o4,o5,M7,qs,rfl,s5,U2,hx5,QL,YM,F⟩
    have hl5:=YM.1
    rw [hl5] at F
    exact ⟨_,rfl,q2 x M7 qs H5 s5 nx hx5 QL F.1 (F.sm R) (F.sol R hz)⟩
def jt (H:Hp)(r:aaz)(ls:υ)(bU:Ζ):Prop:=H r=some (.lst (ls.map V.ref))/\ls.length=bU.length/\∀(i:Nat)(l:aaz)(vs:η),ls[i]?=some l->bU[i]?=some vs->H l=some (.lst vs)
theorem jt.same (h:jt H r ls bU)(s:ao H H'):jt H' r ls bU:=⟨s _ _ h.1,h.2.1,fun i l vs e1 e2=>s _ _ (h.2.2 i l vs e1 e2)⟩
def Shape (T B m:Nat)(fS:Δ):Prop:=∀qs∈fS,qs.length=m/\∀q∈qs,Sm T B q
def gZ (K:Frag)(H:Hp)(bU:Ζ)(fS:Δ):Prop:=bU.length=fS.length/\∀(i:Nat)(vs:η)(qs:ο),bU[i]?=some vs->fS[i]?=some qs->cH K H vs qs
theorem gZ.same (h:gZ K H bU fS)(s:ao H H'):gZ K H' bU fS:=⟨h.1,fun i vs qs e1 e2=>(h.2 i vs qs e1 e2).same s⟩
theorem M8 {α:Type}{xs:List α}{x y:α}(e:(xs++[x])[j]?=some y):(j<xs.length/\xs[j]?=some y)\/(j=xs.length/\x=y):=by
 by_cases c:j<xs.length
 ·rw [adq c] at e
  exact .inl ⟨c,e⟩
 ·rw [adv (by omega)] at e
  by_cases z:j-xs.length=0
  ·rw [z] at e
   exact .inr ⟨by omega,ady e⟩
  ·rw [aax (by simp;omega)] at e
   cases e
theorem jt.snoc (h:jt H r ls bU)(nr:r∉ls)(hD:H D=some (.lst us))(nD:D≠r):jt (upd H r (.lst (ls.map V.ref++[.ref D]))) r (ls++[D]) (bU++[us]):=by
 obtain ⟨m1,m2,m3⟩:=h
 refine ⟨by rw [ah,ads];rfl,by simp [m2],fun j l vs e1 e2=>?_⟩
 rcases M8 e1 with ⟨c1,d1⟩|⟨c1,d1⟩<;>rcases M8 e2 with ⟨c2,d2⟩|⟨c2,d2⟩
 ·have ne:l≠r:=fun z=>nr (by rw [<-z];exact aam d1)
  rw [aj ne]
  exact m3 j l vs d1 d2
 ·omega
 ·omega
 ·subst d1 d2
  rw [aj nD]
  exact hD
theorem jt.row (h:jt H r ls bU){i:Nat}{vs:η}(e:bU[i]?=some vs):∃l,ls[i]?=some l/\H l=some (.lst vs):=by
 have hi:i<bU.length:=(ir.mp e).1
 have l1:=h.2.1
 have e1:ls[i]?=some (ls[i]'(by omega)):=gE (by omega)
 exact ⟨_,e1,h.2.2 i _ _ e1 e⟩
def n_ (bU:Ζ)(j:Nat):List V:=bU.map fun vs=>vs.getD j .cS
def jn (bU:Ζ)(m:Nat):List (List V):=(adG m).map fun j=>n_ bU j
inductive rf (vs:η)(H:Hp)(Q:VK)(E_:XK):Prop
|mk (r:aaz)(ls:υ)(bU:List (List V:_))(m:Int)(_:vs=[.ref r,.int m])(_:jt H r ls bU)(_:0<=m)(_:m<=1000)(_:ls.length<=1000)(_:(∀vs∈bU,m<=(vs.length:Int)))(_:∀c cs H',ao H H' ->jt H' c cs (jn bU m.toNat)->Q (.ref c) H')
inductive mI (vs:η)(H:Hp)(Q:VK)(E_:XK):Prop
|mk (r:aaz)(ls:υ)(bU:List (List V:_))(m:Int)(_:vs=[.ref r,.int m])(_:jt H r ls bU)(_:0<=m)(_:m<=1000)(_:ls.length<=1000)(_:(∀vs∈bU,m<=(vs.length:Int)))(_:∀c cs H',ao H H' ->H c=none->(∀l∈cs,H l=none)->jt H' c cs (jn bU m.toNat)->Q (.ref c) H')
theorem M9:av ["rows","many","columns","column"] zaK (ae IJ):=sq
theorem YN (D:Def K mg "turned" IJ zaK)(bh:mg "range"=none):Fn P w K mg base (aT P w) 1 "turned" zaK mI:=by
 refine D.op M9 fun f bZ A outer s H vs Q E hr h=>?_
 obtain ⟨r,ls,bU,m,rfl,M,m0,m1,hn,hv,q⟩:=h
 refine ⟨_,(aa (aF (i:=2) M9.nd (b_ jA))
  (aa (bg aaG rfl (bY rfl bh (a9 (pv 1))) (bN (i:=3) M9.nd) (ag (bX (qE abc abg abh fN (pv 2) (a9 (eK (tn:=["row"]) (fr:=["column"]) (caps:=[3]) (a_ (pv 0)) (bB (qM (K:=K) rfl) (pv 0) (pv 1))))))))
  (ag (ay (pv 2))))),?_⟩
 have l1:=M.2.1
 refine ⟨z0L,fun c nc=>?_⟩
 refine ⟨_,rfl,_,rfl,by omega,by omega,?_⟩
 refine cJ (lo:=0) (n:=m.toNat) (fun i σ H'=>EI fun (o:ω) (cs:υ)=>σ=[some (.ref r),some (.int m),some (.ref c),o]/\ao H H'/\jt H' c cs (jn bU i)/\c∉cs/\∀l∈cs,H l=none) ⟨none,[],rfl,aA nc _,⟨ah,rfl,fun i l vs e=>by simp at e⟩,by simp,fun l h=>by cases h⟩ ?_ ?_
 ·rintro i σ H' hi ⟨o,cs,rfl,s1,C,ncs,nws⟩
  have M':=M.same s1
  refine ⟨_,rfl,.inl ⟨rfl,_,aR.of C.1⟩,_,rfl,r,rfl,⟨_,aR.of M'.1⟩,fun D nD=>?_⟩
  refine dB (cap:=[some (.int ((0:Int)+i))]) (K:=K) (a:=r) (xs:=ls.map V.ref) (fun k v _=>∃vs,bU[k]?=some vs/\v=vs.getD i .cS) nD (by rw [be];exact ac_ hn (by decide)) (fun H2 s2=>aR.of (s2 _ _ M'.1)) (fun _ _ _ _ _ _ _ h=>h) ?_ ?_
  ·intro k u H2 R hu s2 kk
   rw [Wp] at hu
   obtain ⟨l,el,rfl⟩:=ab_.mp hu
   have hk:k<ls.length:=(ir.mp el).1
   have ev:bU[k]?=some (bU[k]'(by omega)):=gE (by omega)
   have hl:=M'.2.2 k l _ el ev
   have X9 :i<(bU[k]'(by omega)).length:=by
    have:=hv _ (aam ev)
    omega
   have ea:i0 (bU[k]'(by omega)) ((0:Int)+(i:Int))=some ((bU[k]'(by omega)).getD i .cS):=by
    rw [ad2]
    exact bL (by rw [gE X9,adn,gE X9];rfl)
   exact ⟨_,rfl,_,rfl,l,_,_,_,rfl,rfl,aR.of (s2 _ _ hl),ea,kk _ _ (ao.refl _) ⟨_,ev,rfl⟩⟩
  ·intro ys H2 hy iD s2 hD
   rw [be] at hy
   have ey:ys=n_ bU i:=by
    refine adW fun k=>?_
    unfold n_
    by_cases hk:k<ys.length
    ·have e1:ys[k]?=some ys[k]:=gE hk
     obtain ⟨vs,ev,e2⟩:=iD k _ e1
     rw [e1,e2,Wp,ev]
     rfl
    ·rw [aax (by omega),aax (by simp;omega)]
   subst ey
   have lc:cs.length=i:=by have:=C.2.1;simpa [jn] using this
   have nDc:D≠c:=fun z=>by rw [z,C.1] at nD;cases nD
   have fc:∀b o,H b=some o->b≠c:=fun b o e=>ak e nc
   refine ⟨c,_,_,rfl,rfl,s2 _ _ C.1,by rw [be,lc];exact ac_ (show i<=1000 by omega) (by decide),?_⟩
   refine ⟨_,cs++[D],rfl,fun b o e=>?_,?_,fun z=>?_,fun l hl=>?_⟩
   ·rw [aj (fc b o e)]
    exact s2 _ _ (s1 _ _ e)
   ·have e:jn bU (i+1)=jn bU i++[n_ bU i]:=by simp [jn,ag_]
    rw [e]
    exact (C.same s2).snoc ncs hD nDc
   ·rcases ado.mp z with y|y
    ·exact ncs y
    ·exact nDc (adi.mp y).symm
   ·rcases ado.mp hl with y|y
    ·exact nws l y
    ·rw [adi.mp y]
     exact s1.free nD
 ·rintro σ H' ⟨o,cs,rfl,s1,C,ncs,nws⟩
  exact ⟨_,rfl,q c cs H' s1 nc nws C⟩
theorem M_ (F:Fn P w K mg base CX k x ps mI):Fn P w K mg base CX k x ps rf:=by
 obtain ⟨f,fd,G,r⟩:=F.ex
 refine ⟨f,fd,G.imp fun vs H Q E h=>?_,r⟩
 obtain ⟨r,ls,bU,m,e,h1,h2,h3,h4,h5,q⟩:=h
 exact ⟨r,ls,bU,m,e,h1,h2,h3,h4,h5,fun c cs H' s _ _ M=>q c cs H' s M⟩
def cR (fS:Δ)(j:Nat):List (Int×Int):=fS.map fun qs=>qs.getD j (0,1)
theorem U6 (sh:Shape T B m fS)(hj:j<m):∀q∈cR fS j,Sm T B q:=fun q hq=>by
 unfold cR at hq
 obtain ⟨qs,hqs,rfl⟩:=aat.mp hq
 obtain ⟨hl,hs⟩:=sh qs hqs
 rw [adn,gE (by omega)]
 exact hs _ (ad3 _)
theorem Bd.of (h:∀t∈l,t.natAbs<=2^b):Bd b l:=fun j=>by
 by_cases hj:j<l.length
 ·have e:l[j]?=some l[j]:=gE hj
  rw [getD_mem e]
  exact h _ (ad3 hj)
 ·rw [mH (by omega)]
  exact adS _
abbrev Wl:=List Int×Int×aaz×aaz
def WlP (T B m:Nat)(qs:ο)(d:Int×Int)(w:Wl):Prop:=oF w.1 (qs++[d]) w.2.1/\0<w.2.1/\w.2.1.natAbs<=2^(B*(m+1))/\∀t∈w.1,t.natAbs<=2^(T+B*(m+1))
theorem Na {KR:ζ}(h:∀l∈KR,l.length=n)(hj:j<n):n_ (KR.map fun l=>l.map V.int) j=(KR.map fun l=>l.getD j 0).map V.int:=by
 unfold n_
 rw [adu,adu]
 refine adp fun l hl=>?_
 have hlen:=h l hl
 have e:l[j]?=some (l[j]'(by omega)):=gE (by omega)
 show (l.map V.int).getD j .cS=.int (l.getD j 0)
 rw [getD_mem e,adn,Wp,e]
 rfl
theorem rg (j:Nat):∀{ws:List Wl} {ss ys:ο} {cs:ο},ss.length=ws.length->ys.length=ws.length->cs.length=ws.length->
  (∀(i:Nat)(w:Wl)(s y:Int×Int),ws[i]?=some w->ss[i]?=some s->ys[i]?=some y->vl y=vl s*w.2.1)->(∀(i:Nat)(w:Wl)(c:Int×Int),ws[i]?=some w->cs[i]?=some c->((w.1.getD j 0:Int):Rat)=vl c*w.2.1)->g9 ys cs=fD (ss.map vl) (ws.map (·.1)) j
 | [],[],[],[],_,_,_,_,_=>by simp [g9,fD]
 | w::ws,s::ss,y::ys,c::cs,h1,h2,h3,h4,h5=>by
  have ih:=rg j (ws:=ws) (ss:=ss) (ys:=ys) (cs:=cs) (by simpa using h1) (by simpa using h2) (by simpa using h3) (fun i w s y e1 e2 e3=>h4 (i+1) w s y (by simpa using e1) (by simpa using e2) (by simpa using e3)) (fun i w c e1 e2=>h5 (i+1) w c (by simpa using e1) (by simpa using e2))
  have a:=h4 0 w s y rfl rfl rfl
  have b:=h5 0 w c rfl rfl
  have ed:g9 (y::ys) (c::cs)=vl y*vl c+g9 ys cs:=by simp [g9]
  simp only [aau,fD]
  rw [ed,ih,a,b]
  grind
 | [],_::_,_,_,h,_,_,_,_=>by simp at h
 | [],[],_::_,_,_,h,_,_,_=>by simp at h
 | [],[],[],_::_,_,_,h,_,_=>by simp at h
 | _::_,[],_,_,h,_,_,_,_=>by simp at h
 | _::_,_::_,[],_,_,h,_,_,_=>by simp at h
 | _::_,_::_,_::_,[],_,_,h,_,_=>by simp at h
def zL (m:Nat)(KR:ζ):List (List Int):=(adG m).map (fun j=>(KR.map fun l=>l.getD j 0)++[0])++[(KR.map fun l=>l.getD m 0)++[1]]
theorem vF {o:ξ}(h:o∈zL m KR):∃k,k<m+1/\o=(KR.map fun l=>l.getD k 0)++[if k=m then 1 else 0]/\True:=by
 unfold zL at h
 rcases ado.mp h with z|z
 ·obtain ⟨j,hj,rfl⟩:=aat.mp z
  have Yi :j<m:=ad9.mp hj
  exact ⟨j,by omega,by rw [aaA (by omega)],trivial⟩
 ·exact ⟨m,by omega,by rw [aaC rfl];exact adi.mp z,trivial⟩
theorem U7 (h:k<m+1):(KR.map fun l=>l.getD k 0)++[if k=m then 1 else 0]∈zL m KR:=by
 unfold zL
 by_cases z:k=m
 ·subst z
  rw [aaC rfl]
  simp
 ·rw [aaA z]
  exact ado.mpr (.inl (aat.mpr ⟨k,ad9.mpr (by omega),rfl⟩))
theorem BA {ws:List Wl}(hlen:∀l∈ws.map (·.1),l.length=m+1)(hn:ws.length=n)(c0:nH (ws.map (·.1)) l0)(h0:∀j,j<m->l0.getD j 0=0)(h0m:l0.getD m 0≠0)(c1:nH (zL m (ws.map (·.1))) l1)(l1l:l1.length=n+1)(h1:∀j,j<n->l1.getD j 0=0)(hp:∀o∈zL m (ws.map (·.1)),o.length=n+1):l1.getD n 0=0:=by
 obtain ⟨y0,ly,ey⟩:=c0
 have axv :=cQ h0m
 have ly':(y0.map fun a=>a*(1 / ((l0.getD m 0:Int):Rat))).length=(ws.map (·.1)).length:=by simp [ly]
 have all:∀o∈zL m (ws.map (·.1)),ev o (oI (y0.map fun a=>a*(1 / ((l0.getD m 0:Int):Rat))))=0:=by
  intro o ho
  obtain ⟨k,hk,rfl,_⟩:=vF ho
  rw [AM k _ (ws.map (·.1)) _ ly',qU,<-ey k]
  by_cases z:k=m
  ·subst z
   rw [aaC rfl]
   have e':((1:Int):Rat)=1:=by simp
   rw [e']
   grind
  ·rw [aaA z,h0 k (by omega)]
   simp
   grind
 have e:=Qq (n:=n+1) c1 (by omega) (fun o ho=>by rw [hp o ho];exact aa_ _) all
 rw [vt l1 _ n (fun j hj=>by
  by_cases z:j<n
  ·rw [h1 j z]
   simp
  ·rw [mH (by omega)]
   simp)] at e
 have zn:oI (y0.map fun a=>a*(1 / ((l0.getD m 0:Int):Rat))) n= -1:=by
  unfold oI
  rw [aaA (by rw [ly',be];omega)]
 rw [zn] at e
 have:((l1.getD n 0:Int):Rat)=0:=by grind
 exact_mod_cast this
theorem JZ {d:Int×Int}(h:oF ts (qs++[d]) b)(hj:j<qs.length):((ts.getD j 0:Int):Rat)=vl (qs.getD j (0,1))*b:=by
 have l:=h.1
 rw [adl] at l
 simp at l
 have e1:ts[j]?=some (ts[j]'(by omega)):=gE (by omega)
 have e2:qs[j]?=some qs[j]:=gE hj
 have:=h.2 j _ _ e1 (by rw [adq hj];exact e2)
 rw [getD_mem e1,adn,e2]
 exact this
theorem BB {d:Int×Int}(h:oF ts (qs++[d]) b)(hm:qs.length=m):((ts.getD m 0:Int):Rat)=vl d*b:=by
 have l:=h.1
 rw [adl] at l
 simp at l
 have e1:ts[m]?=some (ts[m]'(by omega)):=gE (by omega)
 have:=h.2 m _ d e1 (by rw [adv (by omega),hm];simp)
 rw [getD_mem e1]
 exact this
inductive qh (K:Frag)(vs:η)(H:Hp)(Q:VK)(E_:XK):Prop
|mk (r dl:aaz)(m:Nat)(ls:υ)(bU:List (List V:_))(fS:Δ)(dus:η)(ds:ο)(T B Z:Nat)(_:vs=[.ref r,.ref dl,.int (m:Int)])(_:jt H r ls bU)(_:gZ K H bU fS)(_:H dl=some (.lst dus))(_:cH K H dus ds)(_:ds.length=fS.length)(_:Shape T B m fS)(_:(∀d∈ds,Sm T B d))(_:m<=100)(_:fS.length<=100)(_:T<=20000)(_:B*(m+1)<=100000)(_:B<=8000)(_:bb (T+B*(m+1)) (min (m+1) fS.length)<=Z)(_:Z<=29000000)(_:(∀(p x:aaz)(us:η)(xs:ο)(H':Hp),ao H H' ->H' p=some (.tup [.str "solved",.ref x])->H' x=some (.lst us)->cH K H' us xs->xs.length=m->(∀q∈xs,Sm Z Z q)->(∀(i:Nat)(qs:ο)(d:Int×Int),fS[i]?=some qs->ds[i]?=some d->g9 qs xs=vl d)->Q (.ref p) H'))(_:(∀(p y:aaz)(us:η)(ys:ο)(H':Hp),ao H H' ->H' p=some (.tup [.str "paper",.ref y])->H' y=some (.lst us)->cH K H' us ys->ys.length=fS.length->(∀q∈ys,Sm (Z+B*(m+1)) Z q)->(∀j,j<m->g9 ys (cR fS j)=0)->g9 ys ds=1->Q (.ref p) H'))
theorem rh:av ["rows","due","many","wholes","lines","x","columns","papers","shares"] zaF (ae II):=sq
theorem YO (D:Def K mg "solve_rows" II zaF)(gy:mg "zip"=none)(aZ:mg "len"=none)(afu:Fn P w K mg base (aT P w) 2 "whole_row" ["row"] (UX K))(YQ:Fn P w K mg base (aT P w) 36 "solution_of" zar (lD K))(U8:Fn P w K mg base (aT P w) 1 "turned" zaK rf)(ra:Fn P w K mg base (aT P w) 33 "lowest_terms" zap fg):
  Fn P w K mg base (aT P w) 37 "solve_rows" zaF (qh K):=by
 refine D.op rh fun f bZ A outer s H vs Q E hr h=>?_
 obtain ⟨r,dl,m,ls,bU,fS,dus,ds,T,B,Z,rfl,M,NN,hdl,ND,hds,sh,sd,hm,hn,hT,hB,hB1,hZ,hZ1,q1,q2⟩:=h
 refine ⟨_,(aa (MX (i:=3) (tn:=["row","number"]) (fr:=[]) (caps:=[]) rh.nd (vm rfl gy (aG (pv 0) (pv 1))) (fun _ _ _ _=>(vn (K:=K) (n:=2) rfl rfl (aY (gB (i:=0) (show (["row","number"]:List Str).Nodup from by decide+kernel) rfl (agC rfl)) (aY (gB (i:=1) (show (["row","number"]:List Str).Nodup from by decide+kernel) rfl (agC rfl)) de)))) (fun _ _ _ _=>qJ) (ym afu hr (a9 (aw jC (pv 0) (b_ (a9 (pv 1)))))))
  (aa (q0 (i:=4) (tn:=["whole"]) (fr:=[]) (caps:=[]) rh.nd (a_ (pv 3)) (bB (dS (K:=K) rfl) (pv 0) af))
  (aa (aF (i:=5) rh.nd (aJ YQ hr (aG (pv 4) (pv 2))))
  (aa (bq (bx P7 (pv 5) qv) (ag (ay (aS (aG gi (pv 5))))) aL)
  (aa (aF (i:=6) rh.nd (aJ U8 hr (aG (pv 4) (aw bG (pv 2) af))))
  (aa (aF (i:=7) rh.nd (aw jC (eK (tn:=["column"]) (fr:=[]) (caps:=[]) (a_ (cW eJ (pv 6) eI (dI (pv 2)))) (aw jC (pv 0) (b_ (a9 af)))) (b_ (a9 (aw jC (bB aQ (pv 6) (pv 2)) (b_ (a9 af)))))))
  (aa (aF (i:=8) rh.nd (aJ YQ hr (aG (pv 7) (aI aH rfl aZ cz (a9 (pv 4))))))
  (ag (ay (aS (aG gi (MV (tn:=zaU) (fr:=[]) (caps:=[]) (vm rfl gy (aG (pv 8) (pv 3))) (fun _ _ _ _=>(vn (K:=K) (n:=2) rfl rfl (aY (gB (i:=0) (show (zaU:List Str).Nodup from by decide+kernel) rfl (agC rfl)) (aY (gB (i:=1) (show (zaU:List Str).Nodup from by decide+kernel) rfl (agC rfl)) de)))) (fun _ _ _ _=>qJ) (ym ra hr (aG (aw hW (bB (dS (K:=K) rfl) (pv 0) af) (bB (dS (K:=K) rfl) (pv 1) af)) (bB (dS (K:=K) rfl) (pv 0) af))))))))))))))),?_⟩
 have l1:=M.2.1
 have l2:=NN.1
 have l3:=ND.1
 refine ⟨_,rfl,_,rfl,r,dl,rfl,⟨_,aR.of M.1⟩,⟨_,aR.of hdl⟩,fun D1 n1=>?_⟩
 refine HI (cap:=[]) (K:=K) (xs:=ls.map V.ref) (ys:=dus) (fun i v H=>∃w:Wl,v=.ref w.2.2.2/\w.2.2.1≠D1/\H w.2.2.2=some (.tup [.ref w.2.2.1,.int w.2.1])/\H w.2.2.1=some (.lst (w.1.map V.int))/\∀qs d,fS[i]?=some qs->ds[i]?=some d->WlP T B m qs d w) n1 (by rw [be];exact ac_ (show ls.length<=1000 by omega) (by decide)) (by rw [be];omega) (fun H2 s2=>aR.of (s2 _ _ M.1)) (fun H2 s2=>aR.of (s2 _ _ hdl)) ?_ ?_ ?_
 ·rintro i v H2 H3 ys hD ks ⟨w,e1,e2,e3,e4,e5⟩
  exact ⟨w,e1,e2,ks _ _ (fun z=>by rw [z,hD] at e3;cases e3) e3,ks _ _ e2 e4,e5⟩
 ·rintro i x y H2 RR ex ey s2 ⟨ys0,hD0⟩ kk
  rw [Wp] at ex
  obtain ⟨l,el,rfl⟩:=ab_.mp ex
  have hi:i<ls.length:=(ir.mp el).1
  obtain ⟨qs,eq⟩:∃qs,fS[i]?=some qs:=⟨_,gE (by omega)⟩
  obtain ⟨vs,ev⟩:∃vs,bU[i]?=some vs:=⟨_,gE (by omega)⟩
  have hl:=M.2.2 i l vs el ev
  have hq:=NN.2 i vs qs ev eq
  obtain ⟨d,ed,nd⟩:=ND.at ey
  obtain ⟨lq,sq⟩:=sh qs (aam eq)
  have lvs:=hq.1
  refine ⟨_,rfl,_,rfl,z1L,fun p1 np1=>?_⟩
  have t1:=aA np1 (.lst [y])
  refine ⟨l,p1,vs,_,rfl,rfl,t1 _ _ (s2 _ _ hl),ah,aav (show vs.length+1<=1000 by omega) (by decide),fun p2 np2=>?_⟩
  have t2:=aA np2 (.lst (vs++[y]))
  have t12:=t1.trans t2
  refine ⟨p2,qs++[d],T,B,rfl,⟨_,aR.of ah,(cH.snoc ((hq.same s2).same t12) ((nd.same s2).same t12))⟩,fun q' m6 =>?_,hT,by rw [adl,lq];exact hB,hB1,by rw [adl,lq];show m+1<=1000;omega,fun p3 l3' ts b H3 s3 nl hp3 hl3 hb hbs wh hts=>?_⟩
  ·rcases ado.mp m6 with z|z
   ·exact sq q' z
   ·rw [adi.mp z]
    exact sd d (aam ed)
  ·refine kk _ _ (t12.trans s3) ⟨(ts,b,l3',p3),rfl,fun z=>?_,hp3,hl3,fun MK d' e1 e2=>?_⟩
   ·have:=t12 _ _ hD0
    rw [show l3'=D1 from z,this] at nl
    cases nl
   ·rw [eq] at e1
    rw [ed] at e2
    cases e1
    cases e2
    rw [adl,lq] at hbs hts
    exact ⟨wh,hb,hbs,hts⟩
 ·intro zs H2 hz iD s2 hD1
  rw [be] at hz
  obtain ⟨ws,lw,hw⟩:=nX (P:=fun i v (w:Wl)=>v=.ref w.2.2.2/\w.2.2.1≠D1/\H2 w.2.2.2=some (.tup [.ref w.2.2.1,.int w.2.1])/\H2 w.2.2.1=some (.lst (w.1.map V.int))/\∀qs d,fS[i]?=some qs->ds[i]?=some d->WlP T B m qs d w) zs iD
  have ez:zs=ws.map (fun w=>V.ref w.2.2.2):=by
   refine adW fun i=>?_
   rw [Wp]
   by_cases hi:i<zs.length
   ·have e1:zs[i]?=some zs[i]:=gE hi
    have e2:ws[i]?=some (ws[i]'(by omega)):=gE (by omega)
    have h:=(hw i _ _ e1 e2).1
    rw [e1,e2,h]
    rfl
   ·rw [aax (by omega),aax (by omega)]
    rfl
  subst ez
  have QN:ws.length=fS.length:=by omega
  have WD:∀(i:Nat)(w:Wl),ws[i]?=some w->H2 w.2.2.2=some (.tup [.ref w.2.2.1,.int w.2.1])/\H2 w.2.2.1=some (.lst (w.1.map V.int))/\∀qs d,fS[i]?=some qs->ds[i]?=some d->WlP T B m qs d w:=fun i w e=>(hw i _ w (by rw [Wp,e];rfl) e).2.2
  have wp:∀(i:Nat)(w:Wl),ws[i]?=some w->∃qs d,fS[i]?=some qs/\ds[i]?=some d/\WlP T B m qs d w:=fun i w e=>by
   have hi:i<ws.length:=(ir.mp e).1
   obtain ⟨qs,eq⟩:∃qs,fS[i]?=some qs:=⟨_,gE (by omega)⟩
   obtain ⟨d,ed⟩:∃d,ds[i]?=some d:=⟨_,gE (by omega)⟩
   exact ⟨qs,d,eq,ed,(WD i w e).2.2 qs d eq ed⟩
  have QO:∀l∈ws.map (·.1),l.length=m+1:=fun l hl=>by
   obtain ⟨w,YR,rfl⟩:=aat.mp hl
   obtain ⟨i,e⟩:=adj YR
   obtain ⟨qs,d,eq,_,wh,_⟩:=wp i w e
   have:=wh.1
   rw [adl,(sh qs (aam eq)).1] at this
   exact this
  have wbd:∀l∈ws.map (·.1),Bd (T+B*(m+1)) l:=fun l hl=>by
   obtain ⟨w,YR,rfl⟩:=aat.mp hl
   obtain ⟨i,e⟩:=adj YR
   obtain ⟨qs,d,eq,_,_,_,_,h⟩:=wp i w e
   exact Bd.of h
  have hlm:(ws.map (·.1)).length=fS.length:=by rw [be];exact QN
  refine ⟨_,rfl,D1,rfl,⟨_,aR.of hD1⟩,fun D2 n2=>?_⟩
  refine dB (cap:=[]) (K:=K) (a:=D1) (xs:=ws.map (fun w=>V.ref w.2.2.2)) (fun k v _=>∃w,ws[k]?=some w/\v=.ref w.2.2.1) n2 (by rw [be];exact ac_ (show ws.length<=1000 by omega) (by decide)) (fun H3 s3=>aR.of (s3 _ _ hD1)) (fun _ _ _ _ _ _ _ h=>h) ?_ ?_
  ·intro k x H3 RR ex s3 kk
   rw [Wp] at ex
   obtain ⟨w,ew,rfl⟩:=ab_.mp ex
   exact ⟨_,rfl,w.2.2.2,_,_,_,rfl,rfl,bM.of (s3 _ _ (WD k w ew).1),ie,kk _ _ (ao.refl _) ⟨w,ew,rfl⟩⟩
  intro ys H3 hy YS s3 hD2
  have ey:ys=(ws.map (fun w=>w.2.2.1)).map V.ref:=by
   refine adW fun i=>?_
   rw [be] at hy
   by_cases hi:i<ys.length
   ·have e1:ys[i]?=some ys[i]:=gE hi
    obtain ⟨w,e2,e3⟩:=YS i _ e1
    rw [e1,e3,Wp,Wp,e2]
    rfl
   ·rw [aax (by omega),aax (by simp;omega)]
  subst ey
  have hLl:sO H3 ((ws.map (fun w=>w.2.2.1)).map V.ref) (ws.map (·.1)):=⟨by simp,fun i u l e1 e2=>by
   rw [Wp,Wp] at e1
   rw [Wp] at e2
   cases e:ws[i]? with
   | none=>rw [e] at e2;cases e2
   | some w=>
    rw [e] at e1 e2
    cases e1
    cases e2
    exact ⟨w.2.2.1,rfl,s3 _ _ (WD i w e).2.1⟩⟩
  have hMm:jt H3 D2 (ws.map (fun w=>w.2.2.1)) ((ws.map (·.1)).map fun l=>l.map V.int):=⟨hD2,by simp,fun i l vs e1 e2=>by
   rw [Wp] at e1
   rw [Wp,Wp] at e2
   cases e:ws[i]? with
   | none=>rw [e] at e2;cases e2
   | some w=>
    rw [e] at e1 e2
    cases e1
    cases e2
    exact s3 _ _ (WD i w e).2.1⟩
  have mn:bb (T+B*(m+1)) (min m (ws.map (·.1)).length)<=Z:=aav (vD _ (by rw [hlm];omega)) hZ
  have s23:=s2.trans s3
  refine ⟨_,rfl,_,rfl,D2,_,ws.map (·.1),m,T+B*(m+1),rfl,aR.of hD2,hLl,QO,by omega,by omega,wbd,aav mn hZ1,fun l0 H4 s4 l0l cm l00 l0m=>?_,fun x nZ xs H4 s4 nx hx nxs lxs sxs sol=>?_⟩
  ·refine ⟨_,rfl,rfl,_,rfl,bu (fun z=>by simp at z) (fun _=>?_)⟩
   have M4:=hMm.same s4
   refine ⟨_,rfl,_,rfl,_,_,rfl,rfl,D2,ws.map (fun w=>w.2.2.1),_,(m:Int)+1,rfl,M4,by omega,by omega,by rw [be];omega,fun vs hvs=>?_,fun c cs H5 s5 M5=>?_⟩
   ·obtain ⟨l,hl,rfl⟩:=aat.mp hvs
    rw [be,QO l hl]
    omega
   have lcs:cs.length=m+1:=by
    have:=M5.2.1
    unfold jn at this
    simp at this
    omega
   have col:∀k,k<m+1->∃l,cs[k]?=some l/\H5 l=some (.lst (((ws.map (·.1)).map fun l=>l.getD k 0).map V.int)):=fun k hk=>by
    have e:(jn ((ws.map (·.1)).map fun l=>l.map V.int) ((m:Int)+1).toNat)[k]?=some (((ws.map (·.1)).map fun l=>l.getD k 0).map V.int):=by
     rw [<-Na QO hk]
     unfold jn
     rw [Wp,ad7 (by omega)]
     rfl
    exact M5.row e
   refine ⟨_,rfl,_,rfl,_,rfl,c,_,rfl,aR.of M5.1,fun p6 n6=>?_⟩
   have t6:=aA n6 (.lst (iA (cs.map V.ref) none (some (m:Int))))
   refine ⟨p6,rfl,⟨_,aR.of ah⟩,fun D6 nD6=>?_⟩
   have lcl:((ws.map (·.1)).map fun l=>l.getD 0 0).length<=100:=by simp;omega
   refine qO (cap:=[]) (K:=K) (a:=p6) (xs:=(cs.map V.ref).take m) (fun k v H=>∃p,v=.ref p/\p≠D6/\H p=some (.lst ((List.map (fun l:List Int=>l.getD k 0) (ws.map (fun w:Wl=>w.1))++[(0:Int)]).map V.int))) nD6 (ac_ (show ((cs.map V.ref).take m).length<=1000 by simp;omega) (by decide)) (fun H7 s7=>aR.of (s7 _ _ (by rw [ah,mG (by simp;omega)]))) ?_ ?_ ?_
   ·rintro k v H7 H8 ys hD ks ⟨p,e1,e2,e3⟩
    exact ⟨p,e1,e2,ks _ _ e2 e3⟩
   ·rintro k x H7 RR ex s7 ⟨ys0,JX⟩ kk
    have hk:k<m:=by have:=(ir.mp ex).1;simp at this;omega
    obtain ⟨l,el,hl⟩:=col k (by omega)
    rw [List.getElem?_take,aaC hk,Wp,el] at ex
    cases ex
    refine ⟨_,rfl,z1L,fun pz nz=>?_⟩
    have tz:=aA nz (.lst [.int 0])
    refine ⟨l,pz,_,_,rfl,rfl,tz _ _ (s7 _ _ (t6 _ _ hl)),ah,aav (show _<=1000 by simp;omega) (by decide),fun pn nn=>?_⟩
    have tn:=aA nn (.lst (((ws.map (·.1)).map fun l=>l.getD k 0).map V.int++[.int 0]))
    refine kk _ _ (tz.trans tn) ⟨pn,rfl,fun z=>?_,by rw [ah,ads];rfl⟩
    have:=tz _ _ JX
    rw [z,this] at nn
    cases nn
   intro OM H7 hy6 YT s7 hD6
   have ly6:OM.length=m:=by rw [hy6];simp;omega
   have t67:=t6.trans s7
   obtain ⟨lm,elm,afA⟩:=col m (by omega)
   refine ⟨_,rfl,_,rfl,c,_,_,_,rfl,rfl,aR.of (t67 _ _ M5.1),bL (by rw [Wp,elm];rfl),z1L,fun pz nz=>?_⟩
   have tz:=aA nz (.lst [.int 1])
   refine ⟨lm,pz,_,_,rfl,rfl,tz _ _ (t67 _ _ afA),ah,aav (show _<=1000 by simp;omega) (by decide),fun pn nn=>?_⟩
   have tn:=aA nn (.lst (((ws.map (·.1)).map fun l=>l.getD m 0).map V.int++[.int 1]))
   refine ⟨z1L,fun pL nL=>?_⟩
   have tL:=aA nL (.lst [V.ref pn])
   have tzL:=(tz.trans tn).trans tL
   refine ⟨D6,pL,OM,_,rfl,rfl,tzL _ _ hD6,ah,aav (show OM.length+1<=1000 by omega) (by decide),fun pP nP=>?_⟩
   have tP:=aA nP (.lst (OM++[V.ref pn]))
   have s7P:=tzL.trans tP
   have hpn:=tP _ _ (tL _ _ (ah (H:=upd H7 pz (.lst [.int 1])) (a:=pn) (o:=.lst (((ws.map (·.1)).map fun l=>l.getD m 0).map V.int++[.int 1]))))
   have eP:upd (upd (upd (upd H7 pz (.lst [.int 1])) pn (.lst (((ws.map (·.1)).map fun l=>l.getD m 0).map V.int++[.int 1]))) pL (.lst [V.ref pn])) pP (.lst (OM++[V.ref pn])) pP=some (.lst (OM++[V.ref pn])):=ah
   have afB:∀(k:Nat)(v:V),OM[k]?=some v->Ln H7 v (((ws.map (·.1)).map fun l=>l.getD k 0)++[0]):=fun k v e=>by
    obtain ⟨p,e1,_,e3⟩:=YT k v e
    exact ⟨p,e1,e3⟩
   have s5P:=t67.trans s7P
   generalize upd (upd (upd (upd H7 pz (.lst [.int 1])) pn (.lst (((ws.map (·.1)).map fun l=>l.getD m 0).map V.int++[.int 1]))) pL (.lst [V.ref pn])) pP (.lst (OM++[V.ref pn]))=H9 at*
   have afC:sO H9 (OM++[V.ref pn]) (zL m (ws.map (·.1))):=by
    refine ⟨by simp [zL,ly6],fun k u l e1 e2=>?_⟩
    unfold zL at e2
    by_cases hk:k<m
    ·rw [adq (by omega)] at e1
     rw [adq (by simpa using hk),Wp,ad7 hk] at e2
     cases e2
     exact (afB k u e1).same s7P
    ·rw [adv (by omega)] at e1
     rw [adv (by simp;omega)] at e2
     by_cases hkm:k=m
     ·subst hkm
      rw [show k-OM.length=0 by omega] at e1
      rw [show k-((adG k).map fun j=>((ws.map (·.1)).map fun l=>l.getD j 0)++[0]).length=0 by simp] at e2
      cases e1
      cases e2
      exact ⟨pn,rfl,by rw [hpn,ads];rfl⟩
     ·rw [aax (by simp;omega)] at e1
      cases e1
   have ppl:∀o∈zL m (ws.map (·.1)),o.length=fS.length+1:=fun o ho=>by
    rcases vF ho with ⟨k,hk,e⟩
    rw [e.1]
    simp [QN]
   have ppb:∀o∈zL m (ws.map (·.1)),Bd (T+B*(m+1)) o:=fun o ho=>by
    rcases vF ho with ⟨k,hk,e,hc⟩
    rw [e]
    refine Bd.of fun t ht=>?_
    rcases ado.mp ht with z|z
    ·obtain ⟨l,hl,rfl⟩:=aat.mp z
     exact wbd l hl k
    ·rw [adi.mp z]
     refine aav ?_ (afP (n:=T+B*(m+1)))
     split<;>decide
   have lpp:(zL m (ws.map (·.1))).length=m+1:=by simp [zL]
   have mn2:bb (T+B*(m+1)) (min fS.length (zL m (ws.map (·.1))).length)<=Z:=aav (vD _ (by rw [lpp];omega)) hZ
   have s39:=(s4.trans s5).trans s5P
   refine ⟨_,rfl,_,rfl,D2,_,rfl,.inl (aR.of (s39 _ _ hD2)),pP,_,zL m (ws.map (·.1)),fS.length,T+B*(m+1),by simp [QN],aR.of eP,afC,ppl,by omega,by omega,ppb,aav mn2 hZ1,fun l1 OF vj l1l cm1 YU l1m=>?_,fun x2 M7 ss OF vj nx2 hx2 nss lss sss afE=>?_⟩
   ·exact aaM (BA QO QN cm l00 l0m cm1 l1l YU ppl) l1m
   have csm:∀k,k<m+1->fD (ss.map vl) (ws.map (·.1)) k=if k=m then 1 else 0:=fun k hk=>by
    have e:=afE _ (U7 hk)
    rw [AM k _ (ws.map (·.1)) (ss.map vl) (by simp [QN,lss])] at e
    by_cases z:k=m
    ·rw [aaC z] at e ⊢
     have e':((1:Int):Rat)=1:=by simp
     rw [e'] at e
     grind
    ·rw [aaA z] at e ⊢
     have e':((0:Int):Rat)=0:=by simp
     rw [e'] at e
     grind
   have U9:=s39.trans vj
   have YV:=U9 _ _ (s3 _ _ hD1)
   have axV:=nss.1
   refine ⟨_,rfl,_,rfl,x2,D1,rfl,⟨_,aR.of hx2⟩,⟨_,aR.of YV⟩,fun D9 n9=>?_⟩
   refine xR (cap:=[]) (K:=K) (xs:=M7) (ys:=ws.map (fun w=>V.ref w.2.2.2)) (fun k v H=>∃w q,ws[k]?=some w/\ss[k]?=some q/\Nm H v (low (q.1*w.2.1) q.2)) n9 (ac_ (show M7.length<=1000 by omega) (by decide)) (by rw [be];omega) (fun LZ zI=>aR.of (zI _ _ hx2)) (fun LZ zI=>aR.of (zI _ _ YV)) ?_ ?_ ?_
   ·rintro k v LZ H12 ys hD ks ⟨w,q,e1,e2,e3⟩
    exact ⟨w,q,e1,e2,e3.kept hD ks⟩
   ·intro k x y LZ RR ex ey zI kk
    obtain ⟨q,U_,ps,rfl,hps⟩:=nss.at ex
    rw [Wp] at ey
    obtain ⟨w,ew,rfl⟩:=ab_.mp ey
    obtain ⟨qs,d,eqs,YW,wh,wb,wbs,_⟩:=wp k w ew
    have sq:=sss q (aam U_)
    have hw1:=zI _ _ (U9 _ _ (s3 _ _ (WD k w ew).1))
    have YX:=Ty.ao.ck zI hps
    exact ⟨_,rfl,ps,_,_,_,rfl,rfl,YX,ie,_,rfl,w.2.2.2,_,_,_,rfl,rfl,bM.of hw1,gX,_,_,rfl,rfl,f_ (qN sq.top mn2) wbs (by omega),_,rfl,ps,_,_,_,rfl,rfl,YX,gX,_,_,rfl,by have:=sq.pos;omega,fun p8 H8 s8 e8=>kk _ _ s8 ⟨w,q,ew,U_,p8,rfl,e8⟩⟩
   intro us9 LZ h9 YY zI hD9
   refine ⟨z2L,fun p12 YZ=>?_⟩
   have lY:=aA YZ (.tup [.str "paper",.ref D9])
   have yat:∀(k:Nat)(w:Wl)(q:Int×Int),ws[k]?=some w->ss[k]?=some q->(ad4 (fun (w:Wl) (q:Int×Int)=>low (q.1*w.2.1) q.2) ws ss)[k]?=some (low (q.1*w.2.1) q.2):=fun k w q e1 e2=>by rw [aeS,e1,e2]
   have Nb:(ad4 (fun (w:Wl) (q:Int×Int)=>low (q.1*w.2.1) q.2) ws ss).length=fS.length:=by simp [QN,lss]
   have vly:∀(k:Nat)(w:Wl)(q y:Int×Int),ws[k]?=some w->ss[k]?=some q->(ad4 (fun (w:Wl) (q:Int×Int)=>low (q.1*w.2.1) q.2) ws ss)[k]?=some y->vl y=vl q*w.2.1:=fun k w q y e1 e2 e3=>by
    rw [yat k w q e1 e2] at e3
    cases e3
    have sq:=sss q (aam e2)
    rw [lh (by have:=sq.pos;omega)]
    unfold vl
    push_cast
    grind
   refine q2 p12 D9 us9 (ad4 (fun (w:Wl) (q:Int×Int)=>low (q.1*w.2.1) q.2) ws ss) _ (((s23.trans U9).trans zI).trans lY) ah (lY _ _ hD9) ⟨by rw [h9,Nb];omega,fun k u y e1 e2=>?_⟩ Nb (fun y hy=>?_) (fun j hj=>?_) ?_
   ·obtain ⟨w,q,ew,U_,p,e,hp⟩:=YY k u e1
    rw [yat k w q ew U_] at e2
    cases e2
    exact ⟨p,e,bM.of (lY _ _ hp)⟩
   ·obtain ⟨k,hk⟩:=adj hy
    have hkl:k<fS.length:=by rw [<-Nb];exact (ir.mp hk).1
    obtain ⟨w,ew⟩:∃w,ws[k]?=some w:=⟨_,gE (by omega)⟩
    obtain ⟨q,U_⟩:∃q,ss[k]?=some q:=⟨_,gE (by omega)⟩
    rw [yat k w q ew U_] at hk
    cases hk
    obtain ⟨qs,d,eqs,YW,wh,wb,wbs,_⟩:=wp k w ew
    have sq:=sss q (aam U_)
    exact ET (by have:=sq.pos;omega) (vo (qN sq.top mn2) wbs) (qN sq.bot mn2)
   ·rw [rg j (ws:=ws) (ss:=ss) (by omega) (by rw [Nb,QN]) (by simp [cR,QN]) vly ?_,csm j (by omega),aaA (by omega)]
    intro k w cq ew ec
    obtain ⟨qs,d,eqs,YW,wh,_⟩:=wp k w ew
    unfold cR at ec
    rw [Wp,eqs] at ec
    cases ec
    exact JZ wh (by rw [(sh qs (aam eqs)).1];exact hj)
   ·rw [rg m (ws:=ws) (ss:=ss) (by omega) (by rw [Nb,QN]) (by omega) vly ?_,csm m (by omega),aaC rfl]
    intro k w cq ew ec
    obtain ⟨qs,d,eqs,YW,wh,_⟩:=wp k w ew
    rw [ec] at YW
    cases YW
    exact BB wh (sh qs (aam eqs)).1
  ·refine ⟨_,rfl,rfl,_,rfl,bu (fun _=>?_) (fun z=>by simp at z)⟩
   refine ⟨_,rfl,z2L,fun p5 n5=>?_⟩
   have s5:=aA n5 (.tup [.str "solved",.ref x])
   refine q1 p5 x nZ xs _ ((s23.trans s4).trans s5) ah (s5 _ _ hx) (nxs.same s5) lxs (fun q hq=>(sxs q hq).up mn mn) (fun i qs d eq ed=>?_)
   have hi:i<fS.length:=(ir.mp eq).1
   obtain ⟨w,ew⟩:∃w,ws[i]?=some w:=⟨_,gE (by omega)⟩
   obtain ⟨wh,wb,_⟩:=(WD i w ew).2.2 qs d eq ed
   have e0:=sol w.1 (aat.mpr ⟨w,aam ew,rfl⟩)
   rw [x6 wh (by rw [lxs,(sh qs (aam eq)).1])] at e0
   have wb':=cQ (b:=w.2.1) (by omega)
   grind
inductive i_ (K:Frag)(f:Int×Int->Int×Int->Int×Int)(vs:η)(H:Hp)(Q:VK)(E_:XK):Prop
|mk (u v:V)(x y:Int×Int)(_:vs=[u,v])(_:iS K H u x)(_:iS K H v y)(_:mB 8000000 x)(_:mB 8000000 y)(_:gives H Q (f x y))
theorem J_:av zab zab (ae gW):=sq
theorem J' (hM:pH CX)(D:Def K mg "sum_of" gW zab)(ra:Fn P w K mg base CX 33 "lowest_terms" zap fg):Fn P w K mg base CX 34 "sum_of" zab (i_ K addQ):=by
 refine D.op J_ fun f bZ A outer s H vs Q E hr h=>?_
 obtain ⟨u,v,x,y,rfl,⟨p1,rfl,h1⟩,⟨p2,rfl,h2⟩,k1,k2,q⟩:=h
 have px:=jE (X:=jr CX P w K mg base zab "sum_of" (ae gW) f bZ A outer s H E) hM
 refine ⟨_,(ag (ay (iM ra hr.mo px (aG (aw bG (aw bQ (aC (pv 0)) (aC (pv 1))) (aw bQ (aC (pv 1)) (aC (pv 0)))) (aw bQ (aC (pv 0)) (aC (pv 1))))))),?_⟩
 have b1:=k1.top
 have b2:=k1.bot
 have b3:=k2.top
 have b4:=k2.bot
 have c:∀{i j:Int},intBits i<=8000000->intBits j<=8000000->oC i j:=fun a b=>⟨aav a (by decide),aav b (by decide)⟩
 exact ⟨_,rfl,p1,_,_,_,rfl,rfl,h1,ie,_,rfl,p2,_,_,_,rfl,rfl,h2,gX,_,_,rfl,rfl,c b1 b4,_,rfl,p2,_,_,_,rfl,rfl,h2,ie,_,rfl,p1,_,_,_,rfl,rfl,h1,gX,_,_,rfl,rfl,c b3 b2,_,_,rfl,rfl,_,rfl,p1,_,_,_,rfl,rfl,h1,gX,_,rfl,p2,_,_,_,rfl,rfl,h2,gX,_,_,rfl,rfl,c b2 b4,_,_,rfl,mC k1 k2,q⟩
theorem Y0:av zab zab (ae AX):=sq
theorem Y1 (hM:pH CX)(D:Def K mg "difference_of" AX zab)(ra:Fn P w K mg base CX 33 "lowest_terms" zap fg):Fn P w K mg base CX 34 "difference_of" zab (i_ K subQ):=by
 refine D.op Y0 fun f bZ A outer s H vs Q E hr h=>?_
 obtain ⟨u,v,x,y,rfl,⟨p1,rfl,h1⟩,⟨p2,rfl,h2⟩,k1,k2,q⟩:=h
 have px:=jE (X:=jr CX P w K mg base zab "difference_of" (ae AX) f bZ A outer s H E) hM
 refine ⟨_,(ag (ay (iM ra hr.mo px (aG (aw cN (aw bQ (aC (pv 0)) (aC (pv 1))) (aw bQ (aC (pv 1)) (aC (pv 0)))) (aw bQ (aC (pv 0)) (aC (pv 1))))))),?_⟩
 have b1:=k1.top
 have b2:=k1.bot
 have b3:=k2.top
 have b4:=k2.bot
 have c:∀{i j:Int},intBits i<=8000000->intBits j<=8000000->oC i j:=fun a b=>⟨aav a (by decide),aav b (by decide)⟩
 exact ⟨_,rfl,p1,_,_,_,rfl,rfl,h1,ie,_,rfl,p2,_,_,_,rfl,rfl,h2,gX,_,_,rfl,rfl,c b1 b4,_,rfl,p2,_,_,_,rfl,rfl,h2,ie,_,rfl,p1,_,_,_,rfl,rfl,h1,gX,_,_,rfl,rfl,c b3 b2,_,_,rfl,rfl,_,rfl,p1,_,_,_,rfl,rfl,h1,gX,_,rfl,p2,_,_,_,rfl,rfl,h2,gX,_,_,rfl,rfl,c b2 b4,_,_,rfl,mC k1 k2,q⟩
theorem tq:av zab zab (ae dh):=sq
theorem tu (hM:pH CX)(D:Def K mg "product_of" dh zab)(ra:Fn P w K mg base CX 33 "lowest_terms" zap fg):Fn P w K mg base CX 34 "product_of" zab (i_ K mulQ):=by
 refine D.op tq fun f bZ A outer s H vs Q E hr h=>?_
 obtain ⟨u,v,x,y,rfl,⟨p1,rfl,h1⟩,⟨p2,rfl,h2⟩,k1,k2,q⟩:=h
 have px:=jE (X:=jr CX P w K mg base zab "product_of" (ae dh) f bZ A outer s H E) hM
 refine ⟨_,(ag (ay (iM ra hr.mo px (aG (aw bQ (aC (pv 0)) (aC (pv 1))) (aw bQ (aC (pv 0)) (aC (pv 1))))))),?_⟩
 have b1:=k1.top
 have b2:=k1.bot
 have b3:=k2.top
 have b4:=k2.bot
 have c:∀{i j:Int},intBits i<=8000000->intBits j<=8000000->oC i j:=fun a b=>⟨aav a (by decide),aav b (by decide)⟩
 exact ⟨_,rfl,p1,_,_,_,rfl,rfl,h1,ie,_,rfl,p2,_,_,_,rfl,rfl,h2,ie,_,_,rfl,rfl,c b1 b3,_,rfl,p1,_,_,_,rfl,rfl,h1,gX,_,rfl,p2,_,_,_,rfl,rfl,h2,gX,_,_,rfl,rfl,c b2 b4,_,_,rfl,mC k1 k2,q⟩
inductive iE (K:Frag)(f:Rat->Rat->Rat)(vs:η)(H:Hp)(Q:VK)(E_:XK):Prop
|mk (u v:V)(x y:Rat)(_:vs=[u,v])(_:cZ K H u x)(_:cZ K H v y)(_:Sz 8000000 x)(_:Sz 8000000 y)(_:gives H Q (qr (f x y)))
theorem jJ (h:Sz k r):mB k (qr r):=⟨cA r,h.top,h.bot⟩
theorem Va (F:Fn P w K mg base CX k x ps (i_ K addQ)):Fn P w K mg base CX k x ps (iE K fun a b=>a+b):=by
 obtain ⟨f,fd,G,r⟩:=F.ex
 refine ⟨f,fd,G.imp fun vs H Q E h=>?_,r⟩
 obtain ⟨u,v,a,b,e,h1,h2,k1,k2,q⟩:=h
 refine ⟨u,v,qr a,qr b,e,h1,h2,jJ k1,jJ k2,?_⟩
 unfold addQ
 rw [Mt]
 exact q
theorem Vb (F:Fn P w K mg base CX k x ps (i_ K subQ)):Fn P w K mg base CX k x ps (iE K fun a b=>a-b):=by
 obtain ⟨f,fd,G,r⟩:=F.ex
 refine ⟨f,fd,G.imp fun vs H Q E h=>?_,r⟩
 obtain ⟨u,v,a,b,e,h1,h2,k1,k2,q⟩:=h
 refine ⟨u,v,qr a,qr b,e,h1,h2,jJ k1,jJ k2,?_⟩
 unfold subQ
 rw [Mu]
 exact q
theorem Vc (F:Fn P w K mg base CX k x ps (i_ K mulQ)):Fn P w K mg base CX k x ps (iE K fun a b=>a*b):=by
 obtain ⟨f,fd,G,r⟩:=F.ex
 refine ⟨f,fd,G.imp fun vs H Q E h=>?_,r⟩
 obtain ⟨u,v,a,b,e,h1,h2,k1,k2,q⟩:=h
 refine ⟨u,v,qr a,qr b,e,h1,h2,jJ k1,jJ k2,?_⟩
 unfold mulQ
 rw [Mv]
 exact q
def Nc (K:Frag)(H:Hp)(Q:VK)(p:Rat×Rat):Prop:=∀(v:V)(H':Hp),ao H H' ->gu K H' v p->Q v H'
inductive vG (K:Frag)(f:Rat->Rat->Rat)(vs:η)(H:Hp)(Q:VK)(E_:XK):Prop
|mk (u v:V)(x y:Rat×Rat)(_:vs=[u,v])(_:gu K H u x)(_:gu K H v y)(_:Sz 8000000 x.1)(_:Sz 8000000 x.2)(_:Sz 8000000 y.1)(_:Sz 8000000 y.2)(_:Nc K H Q (f x.1 y.1,f x.2 y.2))
theorem Y2:av zab zab (ae AY):=sq
theorem Y3 (hM:pH CX)(D:Def K mg "pair_difference" AY zab)(Y4:Fn P w K mg base CX 34 "difference_of" zab (iE K fun a b=>a-b)):Fn P w K mg base CX 35 "pair_difference" zab (vG K fun a b=>a-b):=by
 refine D.op Y2 fun f bZ A outer s H vs Q E hr h=>?_
 obtain ⟨u,v,x,y,rfl,⟨p1,a1,a2,rfl,h1,n1,n2⟩,⟨p2,b1,b2,rfl,h2,m1,m2⟩,k1,k2,l1,l2,q⟩:=h
 have px:=jE (X:=(jr (aT P w) P w K mg base zab "pair_difference" (ae AY) f bZ A outer s H E)) hM
 refine ⟨_,(ag (ay (aS (aG (iM Y4 hr.mo px (aG (aC (pv 0)) (aC (pv 1)))) (iM Y4 hr.mo px (aG (aC (pv 0)) (aC (pv 1)))))))),_,rfl,p1,_,_,_,rfl,rfl,h1,ie,_,rfl,p2,_,_,_,rfl,rfl,h2,ie,a1,b1,_,_,rfl,n1,m1,k1,l1,fun c1 H1 s1 e1=>?_⟩
 refine ⟨_,rfl,p1,_,_,_,rfl,rfl,Ty.ao.ck s1 h1,gX,_,rfl,p2,_,_,_,rfl,rfl,Ty.ao.ck s1 h2,gX,a2,b2,_,_,rfl,n2.same s1,m2.same s1,k2,l2,fun c2 H2 s2 e2=>?_⟩
 refine ⟨z2L,fun c3 n3=>?_⟩
 have s3:=aA n3 (.tup [.ref c1,.ref c2])
 exact q (.ref c3) _ (fun b o z=>s3 _ _ (s2 _ _ (s1 _ _ z))) ⟨c3,_,_,rfl,bM.of ah,⟨c1,rfl,bM.of (s3 _ _ (s2 _ _ e1))⟩,⟨c2,rfl,bM.of (s3 _ _ e2)⟩⟩
def Y5 (x y:Rat×Rat):Rat:=x.1*y.1+x.2*y.2
inductive Nd (K:Frag)(vs:η)(H:Hp)(Q:VK)(E_:XK):Prop
|mk (u v:V)(x y:Rat×Rat)(_:vs=[u,v])(_:gu K H u x)(_:gu K H v y)(_:Sz 3000000 x.1)(_:Sz 3000000 x.2)(_:Sz 3000000 y.1)(_:Sz 3000000 y.2)(_:gives H Q (qr (Y5 x y)))
theorem pJ:av zab zab (ae cB):=sq
theorem pK (hM:pH CX)(D:Def K mg "pair_product" cB zab)(jK:Fn P w K mg base CX 34 "sum_of" zab (iE K fun a b=>a+b))(cu:Fn P w K mg base CX 34 "product_of" zab (iE K fun a b=>a*b)):Fn P w K mg base CX 35 "pair_product" zab (Nd K):=by
 refine D.op pJ fun f bZ A outer s H vs Q E hr h=>?_
 obtain ⟨u,v,x,y,rfl,⟨p1,a1,a2,rfl,h1,n1,n2⟩,⟨p2,b1,b2,rfl,h2,m1,m2⟩,k1,k2,l1,l2,q⟩:=h
 have px:=jE (X:=(jr (aT P w) P w K mg base zab "pair_product" (ae cB) f bZ A outer s H E)) hM
 refine ⟨_,(ag (ay (iM jK hr.mo px (aG (iM cu hr.mo px (aG (aC (pv 0)) (aC (pv 1)))) (iM cu hr.mo px (aG (aC (pv 0)) (aC (pv 1)))))))),_,rfl,p1,_,_,_,rfl,rfl,h1,ie,_,rfl,p2,_,_,_,rfl,rfl,h2,ie,a1,b1,_,_,rfl,n1,m1,k1.up (by decide),l1.up (by decide),fun c1 H1 s1 e1=>?_⟩
 refine ⟨_,rfl,p1,_,_,_,rfl,rfl,Ty.ao.ck s1 h1,gX,_,rfl,p2,_,_,_,rfl,rfl,Ty.ao.ck s1 h2,gX,a2,b2,_,_,rfl,n2.same s1,m2.same s1,k2.up (by decide),l2.up (by decide),fun c2 H2 s2 e2=>?_⟩
 refine ⟨.ref c1,.ref c2,_,_,rfl,⟨c1,rfl,bM.of (s2 _ _ e1)⟩,⟨c2,rfl,bM.of e2⟩,(k1.mul l1).up (by decide),(k2.mul l2).up (by decide),fun c3 H3 s3 e3=>?_⟩
 exact q c3 H3 (fun b o z=>s3 _ _ (s2 _ _ (s1 _ _ z))) e3
inductive vH (K:Frag)(C:aaz)(vs:η)(H:Hp)(Q:VK)(E_:XK):Prop
|mk (a dx:aaz)(_:vs=[.ref a])(_:H a=some (.ins C dx []))(_:∀(pP pW pB:aaz)(H':Hp),bS a H H' ->H pP=none->H pW=none->H pB=none->gI K H' C a dx pP pW pB [] [] [] [] []->Q .cS H')
theorem QP :ft "pin_places" x []=([("pin_places",x)]:List (Str×V)):=rfl
theorem QQ :ft "pin_ways" y [("pin_places",x)]=([("pin_places",x),("pin_ways",y)]:List (Str×V)):=by
 simp only [ft]
 rw [aaA (by decide)]
theorem QR :ft "bar_ends" z [("pin_places",x),("pin_ways",y)]=([("pin_places",x),("pin_ways",y),("bar_ends",z)]:List (Str×V)):=by
 simp only [ft]
 rw [aaA (by decide),aaA (by decide)]
theorem Y6:av zae zae (ae JL):=sq
theorem Y7 (F:qG K "__init__" "Frame.__init__" JL f fd)(fc:Mr K C):dm P w K mg base (aT P w) 1 f fd zae (vH K C):=by
 refine gU F Y6 fun H hr h=>?_
 obtain ⟨a,dx,rfl,ha,q⟩:=h
 refine ⟨_,(aa (u5 (pv 0) cL rfl)
  (aa (u5 (pv 0) cL rfl)
  (ag (u5 (pv 0) cL rfl)))),?_⟩
 intro pP nP
 have aP:a≠pP:=ak ha nP
 refine ⟨_,rfl,a,C,dx,_,rfl,(by rw [aj aP];exact ha),fc.cls,fc.pl,(by show 0<1000;decide),?_⟩
 rw [QP]
 generalize e1:upd (upd H pP (.dK [])) a (.ins C dx [("pin_places",.ref pP)])=H1
 have o1:H1 a=some (.ins C dx [("pin_places",.ref pP)]):=by rw [<-e1,ah]
 have p1:H1 pP=some (.dK []):=by rw [<-e1,aj (adO aP),ah]
 have k1:∀b o,b≠a->H b=some o->H1 b=some o:=fun b o n e=>by rw [<-e1,aj n,aj (ak e nP)];exact e
 intro pW nW
 have aW:a≠pW:=ak o1 nW
 refine ⟨_,rfl,a,C,dx,_,rfl,(by rw [aj aW];exact o1),fc.cls,fc.wy,(by show 1<1000;decide),?_⟩
 rw [QQ]
 generalize e2:upd (upd H1 pW (.dK [])) a (.ins C dx [("pin_places",.ref pP),("pin_ways",.ref pW)])=H2
 have PW:pP≠pW:=ak p1 nW
 have o2:H2 a=some (.ins C dx [("pin_places",.ref pP),("pin_ways",.ref pW)]):=by rw [<-e2,ah]
 have w2:H2 pW=some (.dK []):=by rw [<-e2,aj (adO aW),ah]
 have k2:∀b o,b≠a->H1 b=some o->H2 b=some o:=fun b o n e=>by rw [<-e2,aj n,aj (ak e nW)];exact e
 intro pB nB
 have aB:a≠pB:=ak o2 nB
 have p2:=k2 _ _ (adO aP) p1
 refine ⟨_,rfl,a,C,dx,_,rfl,(by rw [aj aB];exact o2),fc.cls,fc.br,(by show 2<1000;decide),?_⟩
 rw [QR]
 have PB:pP≠pB:=ak p2 nB
 have WB:pW≠pB:=ak w2 nB
 have k3:∀b o,b≠a->H2 b=some o->(upd (upd H2 pB (.dK [])) a (.ins C dx [("pin_places",.ref pP),("pin_ways",.ref pW),("bar_ends",.ref pB)])) b=some o:=fun b o n e=>by rw [aj n,aj (ak e nB)];exact e
 have f1:∀b,b≠a->H1 b=none->H b=none:=fun b n e=>by
  cases z:H b with
  | none=>rfl
  | some o=>rw [k1 b o n z] at e;cases e
 have f2:∀b,b≠a->H2 b=none->H b=none:=fun b n e=>by
  cases z:H b with
  | none=>rfl
  | some o=>rw [k2 b o n (k1 b o n z)] at e;cases e
 refine q pP pW pB _ (fun b o n e=>k3 b o n (k2 b o n (k1 b o n e))) nP (f1 _ (adO aW) nW) (f2 _ (adO aB) nB) ⟨ah,k3 _ _ (adO aP) p2,k3 _ _ (adO aW) w2,?_,PW,PB,WB,.nil,.nil⟩
 rw [aj (adO aB),ah]
inductive ja (K:Frag)(C:aaz)(vs:η)(H:Hp)(Q:VK)(E_:XK):Prop
|mk (a dx pP pW pB:aaz)(ps:Ι)(bs:Β)(kP kW kB:γ)(_:vs=[.ref a])(_:gI K H C a dx pP pW pB ps bs kP kW kB)(_:∀(l:aaz)(H':Hp),ao H H' ->H l=none->H' l=some (.lst ((bs.map (·.1)).map V.str))->Q (.ref l) H')
theorem Y8:av zae zae (ae JQ):=sq
theorem Y9 (F:qG K "bars" "Frame.bars" JQ f fd)(fc:Mr K C)(cC:mg "list"=none):dm P w K mg base (aT P w) 1 f fd zae (ja K C):=by
 refine gU F Y8 fun H hr h=>?_
 obtain ⟨a,dx,pP,pW,pB,ps,bs,kP,kW,kB,rfl,R,q⟩:=h
 refine ⟨_,(ag (ay (dQ (fO rfl) rfl cC i7 (a9 (d6 (pv 0) rfl))))),_,rfl,a,C,dx,_,_,rfl,R.obj,fc.cls,fc.br,rfl,pB,kB,rfl,.inl R.br,fun l nl=>?_⟩
 refine q l _ (aA nl _) nl ?_
 rw [ah]
 have e:kB.map (fun kv=>kV kv.1)=(bs.map (·.1)).map V.str:=by
  have z:kB.map (fun kv=>kV kv.1)=(kB.map (·.1)).map kV:=by rw [adu];rfl
  rw [z,R.oK,adu]
  rfl
 rw [e]
inductive jb (K:Frag)(C:aaz)(vs:η)(H:Hp)(Q:VK)(E_:XK):Prop
|mk (a dx pP pW pB:aaz)(ps:Ι)(bs:Β)(kP kW kB:γ)(_:vs=[.ref a])(_:gI K H C a dx pP pW pB ps bs kP kW kB)(_:∀(l:aaz)(H':Hp),ao H H' ->H l=none->H' l=some (.lst ((ps.map (·.1)).map V.str))->Q (.ref l) H')
theorem Y_:av zae zae (ae JP):=sq
theorem Y' (F:qG K "pins" "Frame.pins" JP f fd)(fc:Mr K C)(cC:mg "list"=none):dm P w K mg base (aT P w) 1 f fd zae (jb K C):=by
 refine gU F Y_ fun H hr h=>?_
 obtain ⟨a,dx,pP,pW,pB,ps,bs,kP,kW,kB,rfl,R,q⟩:=h
 refine ⟨_,(ag (ay (dQ (fO rfl) rfl cC i7 (a9 (d6 (pv 0) rfl))))),_,rfl,a,C,dx,_,_,rfl,R.obj,fc.cls,fc.pl,rfl,pP,kP,rfl,.inl R.pl,fun l nl=>?_⟩
 refine q l _ (aA nl _) nl ?_
 rw [ah]
 have e:kP.map (fun kv=>kV kv.1)=(ps.map (·.1)).map V.str:=by
  have z:kP.map (fun kv=>kV kv.1)=(kP.map (·.1)).map kV:=by rw [adu];rfl
  rw [z,R.D_,adu]
  rfl
 rw [e]
inductive fT (K:Frag)(C:aaz)(vs:η)(H:Hp)(Q:VK)(E_:XK):Prop
|mk (a dx pP pW pB:aaz)(ps:Ι)(bs:Β)(kP kW kB:γ)(x:Str)(_:vs=[.ref a,.str x])(_:gI K H C a dx pP pW pB ps bs kP kW kB)(_:x∈ps.map (·.1))(_:Q .cS H)
theorem Za:av zaj zaj (ae JO):=sq
theorem Zc (F:qG K "check_pin" "Frame.check_pin" JO f fd)(fc:Mr K C):dm P w K mg base (aT P w) 1 f fd zaj (fT K C):=by
 refine gU F Za fun H hr h=>?_
 obtain ⟨a,dx,pP,pW,pB,ps,bs,kP,kW,kB,x,rfl,R,hx,q⟩:=h
 refine ⟨_,(ag (bq (uZ (uB (bw hr) (pv 1) (d6 (pv 0) rfl))) (ag (cU)) aL)),_,rfl,_,rfl,a,C,dx,_,_,rfl,R.obj,fc.cls,fc.pl,rfl,pP,_,rfl,cG.k (k:=.inr x) R.pl,_,rfl,?_⟩
 rw [R.pin x,aaS hx]
 exact q
inductive qi (K:Frag)(C:aaz)(vs:η)(H:Hp)(Q:VK)(E_:XK):Prop
|mk (a dx pP pW pB:aaz)(ps:Ι)(bs:Β)(kP kW kB:γ)(x:Str)(p:Pt)(_:vs=[.ref a,.str x])(_:gI K H C a dx pP pW pB ps bs kP kW kB)(_:(ps.map (·.1)).Nodup)(_:(x,p)∈ps)(_:∀v,Spot K H v p->Q v H)
theorem Zd:av zaj zaj (ae JR):=sq
theorem Ze (F:qG K "place" "Frame.place" JR f fd)(fc:Mr K C)(MC:bJ P w K mg base (aT P w) 1 C "check_pin" zaj (fT K C)):dm P w K mg base (aT P w) 2 f fd zaj (qi K C):=by
 refine gU F Zd fun H hr h=>?_
 obtain ⟨a,dx,pP,pW,pB,ps,bs,kP,kW,kB,x,p,rfl,R,nd,hx,q⟩:=h
 refine ⟨_,(aa (bX (fB (k:=1) (pv 0) hr.mo (EK P w) (a9 (pv 1))))
  (ag (ay (b6 (bw hr) (d6 (pv 0) rfl) (pv 1) (fun _ _=>rfl))))),?_⟩
 refine ⟨_,rfl,a,C,dx,_,_,_,rfl,R.obj,rfl,MC,_,rfl,a,dx,pP,pW,pB,ps,bs,kP,kW,kB,x,rfl,R,aat.mpr ⟨_,hx,rfl⟩,?_⟩
 obtain ⟨v,ev,hv⟩:=R.place nd hx
 exact ⟨_,rfl,a,C,dx,_,_,rfl,R.obj,fc.cls,fc.pl,rfl,_,rfl,pP,v,rfl,(by rw [<-ev];exact cG.k (k:=.inr x) R.pl),q v hv⟩
inductive rj (K:Frag)(C:aaz)(vs:η)(H:Hp)(Q:VK)(E_:XK):Prop
|mk (a dx pP pW pB:aaz)(ps:Ι)(bs:Β)(kP kW kB:γ)(x one other:Str)(_:vs=[.ref a,.str x])(_:gI K H C a dx pP pW pB ps bs kP kW kB)(_:(bs.map (·.1)).Nodup)(_:(x,one,other)∈bs)(_:∀p,Rd H p (.tup [.str one,.str other])->Q (.ref p) H)
theorem Zf:av zaM zaM (ae JT):=sq
theorem Zg (F:qG K "ends" "Frame.ends" JT f fd)(fc:Mr K C):dm P w K mg base (aT P w) 1 f fd zaM (rj K C):=by
 refine gU F Zf fun H hr h=>?_
 obtain ⟨a,dx,pP,pW,pB,ps,bs,kP,kW,kB,x,one,other,rfl,R,nd,hx,q⟩:=h
 refine ⟨_,(aa (bq (uZ (uB (bw hr) (pv 1) (d6 (pv 0) rfl))) (ag (cU)) aL)
  (ag (ay (b6 (bw hr) (d6 (pv 0) rfl) (pv 1) (fun _ _=>rfl))))),?_⟩
 have hm:x∈bs.map (·.1):=aat.mpr ⟨_,hx,rfl⟩
 refine ⟨_,rfl,_,rfl,a,C,dx,_,_,rfl,R.obj,fc.cls,fc.br,rfl,pB,_,rfl,cG.k (k:=.inr x) R.br,_,rfl,?_⟩
 rw [R.bar x,aaS hm]
 obtain ⟨p,ev,hv⟩:=R.ends nd hx
 exact ⟨_,rfl,a,C,dx,_,_,rfl,R.obj,fc.cls,fc.br,rfl,_,rfl,pB,.ref p,rfl,(by rw [<-ev];exact cG.k (k:=.inr x) R.br),q p hv⟩
inductive rl (K:Frag)(C:aaz)(vs:η)(H:Hp)(Q:VK)(E_:XK):Prop
|mk (a dx pP pW pB:aaz)(ps:Ι)(bs:Β)(kP kW kB:γ)(pw:Τ)(x:Str)(ws:Λ)(_:vs=[.ref a,.str x])(_:gI K H C a dx pP pW pB ps bs kP kW kB)(_:zJ K H pw kW)(_:(pw.map (·.1)).Nodup)(_:(x,ws)∈pw)(_:x∈ps.map (·.1))(_:∀(l:aaz)(us:η)(H':Hp),ao H H' ->H l=none->H' l=some (.lst us)->kj K H' us ws->Q (.ref l) H')
theorem Zh:av zaj zaj (ae JS):=sq
theorem Zi (F:qG K "ways" "Frame.ways" JS f fd)(fc:Mr K C)(cC:mg "list"=none)(MC:bJ P w K mg base (aT P w) 1 C "check_pin" zaj (fT K C)):dm P w K mg base (aT P w) 2 f fd zaj (rl K C):=by
 refine gU F Zh fun H hr h=>?_
 obtain ⟨a,dx,pP,pW,pB,ps,bs,kP,kW,kB,pw,x,ws,rfl,R,W,nd,hx,hp,q⟩:=h
 refine ⟨_,(aa (bX (fB (k:=1) (pv 0) hr.mo (EK P w) (a9 (pv 1))))
  (ag (ay (dQ qL rfl cC i7 (a9 (b6 (bw hr) (d6 (pv 0) rfl) (pv 1) (fun _ _=>rfl))))))),?_⟩
 refine ⟨_,rfl,a,C,dx,_,_,_,rfl,R.obj,rfl,MC,_,rfl,a,dx,pP,pW,pB,ps,bs,kP,kW,kB,x,rfl,R,hp,?_⟩
 obtain ⟨v,ev,l,us,el,hl,pt⟩:=i9 W nd hx
 have el':v=.ref l:=el
 subst el'
 exact ⟨_,rfl,a,C,dx,_,_,rfl,R.obj,fc.cls,fc.wy,rfl,_,rfl,pW,.ref l,rfl,(by rw [<-ev];exact cG.k (k:=.inr x) R.wy),l,us,rfl,aR.of hl,fun l2 n2=>q l2 us _ (aA n2 _) n2 ah (pt.same (aA n2 _))⟩
def Vd (K:Frag)(H:Hp)(Q:VK)(ws:Λ):Prop:=∀(l:aaz)(us:η)(H':Hp),ao H H' ->H l=none->H' l=some (.lst us)->kj K H' us ws->Q (.ref l) H'
theorem mJ (h:(qr x).1=0):x=0:=by
 have:=dy x
 unfold vl at this
 rw [h] at this
 have z:=yb (r:=x)
 have e:((0:Int):Rat)=0:=by rfl
 rw [e] at this
 grind
inductive vI (K:Frag)(C:aaz)(vs:η)(H:Hp)(Q:VK)(E_:XK):Prop
|mk (a dx:aaz)(ux uy:V)(x y:Rat)(_:vs=[.ref a,ux,uy])(_:H a=some (.ins C dx []))(_:cZ K H ux x)(_:cZ K H uy y)(_:¬ (x=0/\y=0))(_:∀p,H p=none->Q .cS (upd (upd H p (.tup [ux,uy])) a (.ins C dx [("way",.ref p)])))
theorem Zj:av zaH zaH (ae JU):=sq
theorem Zk (F:qG K "__init__" "Roller.__init__" JU f fd)(cl:xB K C)(nw:gM K C "way"):dm P w K mg base (aT P w) 1 f fd zaH (vI K C):=by
 refine gU F Zj fun H hr h=>?_
 obtain ⟨a,dx,ux,uy,x,y,rfl,ha,⟨p1,rfl,h1⟩,⟨p2,rfl,h2⟩,nz,q⟩:=h
 have sz:(2:Nat)<=aaD:=by decide
 refine ⟨_,(aa (bq (PW.pt (zP (bx eR (aC (pv 1)) af) (u0 (bx eR (aC (pv 2)) af)))) (ag (cU)) aL)
  (ag (u5 (pv 0) (aS (aG (pv 1) (pv 2))) rfl))),?_⟩
 refine ⟨_,rfl,p1,_,_,_,rfl,rfl,h1,ie,rfl,_,rfl,?_⟩
 refine bu (fun c1=>?_) (fun c1=>?_)
 ·have e1:(qr x).1=0:=by simpa using aaU c1
  refine ⟨_,rfl,p2,_,_,_,rfl,rfl,h2,ie,rfl,_,rfl,?_⟩
  refine bu (fun c2=>?_) (fun c2=>?_)
  ·have e2:(qr y).1=0:=by simpa using aaU c2
   exact aaM ⟨mJ e1,mJ e2⟩ nz
  ·exact ⟨_,rfl,_,rfl,sz,fun p hp=>⟨_,rfl,a,C,dx,[],rfl,(by rw [aj (ak ha hp)];exact ha),cl,nw,(by show 0<1000;decide),q p hp⟩⟩
 ·refine Qh ?_
  exact ⟨_,rfl,_,rfl,sz,fun p hp=>⟨_,rfl,a,C,dx,[],rfl,(by rw [aj (ak ha hp)];exact ha),cl,nw,(by show 0<1000;decide),q p hp⟩⟩
inductive mK (K:Frag)(C:aaz)(vs:η)(H:Hp)(Q:VK)(E_:XK):Prop
|mk (a dx p:aaz)(w:Rat×Rat)(_:vs=[.ref a])(_:H a=some (.ins C dx [("way",.ref p)]))(_:gu K H (.ref p) w)(_:Vd K H Q [w])
theorem Zl:av zae zae (ae JV):=sq
theorem Zm (F:qG K "ways" "Roller.ways" JV f fd)(cl:xB K C)(nw:gM K C "way"):dm P w K mg base (aT P w) 1 f fd zae (mK K C):=by
 refine gU F Zl fun H hr h=>?_
 obtain ⟨a,dx,p,w,rfl,ha,hw,q⟩:=h
 refine ⟨_,(ag (ay (b_ (a9 (d6 (pv 0) rfl))))),_,rfl,a,C,dx,_,.ref p,rfl,ha,cl,nw,(by simp),z1L,fun l hl=>?_⟩
 exact q l [.ref p] _ (aA hl _) hl ah (.cons (hw.same (aA hl _)) .nil)
inductive mL (K:Frag)(vs:η)(H:Hp)(Q:VK)(E_:XK):Prop
|mk (a:aaz)(_:vs=[.ref a])(_:Vd K H Q [(1,0),(0,1)])
theorem vJ:qr 1=(1,1):=by
 have:=nO 1
 simpa using this
theorem dE:qr 0=(0,1):=by
 have:=nO 0
 simpa using this
theorem EU (ea:qr a=x)(eb:qr b=y)(h:H p=some (.tup [.ref p1,.ref p2]))(h1:H p1=some (.tup [.int x.1,.int x.2]))(h2:H p2=some (.tup [.int y.1,.int y.2])):gu K H (.ref p) (a,b):=
 ⟨p,.ref p1,.ref p2,rfl,bM.of h,⟨p1,rfl,by rw [ea];exact bM.of h1⟩,⟨p2,rfl,by rw [eb];exact bM.of h2⟩⟩
theorem Zn:av zae zae (ae JW):=sq
theorem Zo (F:qG K "ways" "Fixed.ways" JW f fd):dm P w K mg base (aT P w) 1 f fd zae (mL K):=by
 refine gU F Zn fun H hr h=>?_
 obtain ⟨a,rfl,q⟩:=h
 have sz:(2:Nat)<=aaD:=by decide
 refine ⟨_,(ag (ay (b_ (aG (aS (aG (aS (aG af af)) (aS (aG af af)))) (aS (aG (aS (aG af af)) (aS (aG af af)))))))),sz,fun p1 n1=>?_⟩
 have s1:=aA n1 (.tup [.int 1,.int 1])
 have e1:upd H p1 (.tup [.int 1,.int 1]) p1=some (.tup [.int 1,.int 1]):=ah
 generalize upd H p1 (.tup [.int 1,.int 1])=H1 at s1 e1 ⊢
 refine ⟨sz,fun p2 n2=>?_⟩
 have s2:=aA n2 (.tup [.int 0,.int 1])
 have e2:upd H1 p2 (.tup [.int 0,.int 1]) p2=some (.tup [.int 0,.int 1]):=ah
 generalize upd H1 p2 (.tup [.int 0,.int 1])=H2 at s2 e2 ⊢
 refine ⟨sz,fun p3 n3=>?_⟩
 have s3:=aA n3 (.tup [.ref p1,.ref p2])
 have e3:upd H2 p3 (.tup [.ref p1,.ref p2]) p3=some (.tup [.ref p1,.ref p2]):=ah
 generalize upd H2 p3 (.tup [.ref p1,.ref p2])=H3 at s3 e3 ⊢
 refine ⟨sz,fun p4 n4=>?_⟩
 have s4:=aA n4 (.tup [.int 0,.int 1])
 have e4:upd H3 p4 (.tup [.int 0,.int 1]) p4=some (.tup [.int 0,.int 1]):=ah
 generalize upd H3 p4 (.tup [.int 0,.int 1])=H4 at s4 e4 ⊢
 refine ⟨sz,fun p5 n5=>?_⟩
 have s5:=aA n5 (.tup [.int 1,.int 1])
 have e5:upd H4 p5 (.tup [.int 1,.int 1]) p5=some (.tup [.int 1,.int 1]):=ah
 generalize upd H4 p5 (.tup [.int 1,.int 1])=H5 at s5 e5 ⊢
 refine ⟨sz,fun p6 n6=>?_⟩
 have s6:=aA n6 (.tup [.ref p4,.ref p5])
 have e6:upd H5 p6 (.tup [.ref p4,.ref p5]) p6=some (.tup [.ref p4,.ref p5]):=ah
 generalize upd H5 p6 (.tup [.ref p4,.ref p5])=H6 at s6 e6 ⊢
 refine ⟨sz,fun l nl=>?_⟩
 have s7:=aA nl (.lst [.ref p3,.ref p6])
 have e7:upd H6 l (.lst [.ref p3,.ref p6]) l=some (.lst [.ref p3,.ref p6]):=ah
 generalize upd H6 l (.lst [.ref p3,.ref p6])=H7 at s7 e7 ⊢
 have Nf:=s1.trans (s2.trans (s3.trans (s4.trans (s5.trans s6))))
 have w1:gu K H7 (.ref p3) (1,0):=EU vJ dE (s7 _ _ (s6 _ _ (s5 _ _ (s4 _ _ e3)))) (s7 _ _ (s6 _ _ (s5 _ _ (s4 _ _ (s3 _ _ (s2 _ _ e1)))))) (s7 _ _ (s6 _ _ (s5 _ _ (s4 _ _ (s3 _ _ e2)))))
 have w2:gu K H7 (.ref p6) (0,1):=EU dE vJ (s7 _ _ e6) (s7 _ _ (s6 _ _ (s5 _ _ e4))) (s7 _ _ (s6 _ _ e5))
 exact q l [.ref p3,.ref p6] H7 (Nf.trans s7) (Nf.free nl) e7 (.cons w1 (.cons w2 .nil))
def Tg (P:aaP)(w:World)(K:Frag)(mg:θ)(base:Heap)(H:Hp)(hv:V)(ws:Λ):Prop:=(hv=.cS/\ws=[])\/∃(h Ch Zp:aaz)(WE:List (Str×V))(psh:ς)(sph:Sp),hv=.ref h/\H h=some (.ins Ch Zp WE)/\WE.lookup ("ways":Str)=none/\bJ P w K mg base (aT P w) 2 Ch "ways" psh sph/\(∀H1,H1 h=some (.ins Ch Zp WE)->bo H H1->∀Q',Vd K H1 Q' ws->sph [.ref h] H1 Q' E0)
inductive fU (P:aaP)(w:World)(K:Frag)(mg:θ)(base:Heap)(C:aaz)(vs:η)(H:Hp)(Q:VK)(E_:XK):Prop
|mk (a dx pP pW pB:aaz)(ps:Ι)(bs:Β)(kP kW kB:γ)(pw:Τ)(x:Str)(u v hv:V)(p:Pt)(ws:Λ)(_:vs=[.ref a,.str x,u,v,hv])(_:gI K H C a dx pP pW pB ps bs kP kW kB)(_:zJ K H pw kW)(_:pw.map (·.1)=ps.map (·.1))(_:iS K H u p.1)(_:iS K H v p.2)(_:x∉ps.map (·.1))(_:(∀z∈ps,z.2≠p))(_:ps.length<24)(_:Tg P w K mg base H hv ws)(_:∀(H':Hp)(Ng ya :γ),(∀b o,b≠pP->b≠pW->H b=some o->H' b=some o)->gI K H' C a dx pP pW pB (ps++[(x,p)]) bs Ng ya kB->zJ K H' (pw++[(x,ws)]) ya ->Q .cS H')
theorem Nh:av ["self","name","x","y","hold","pin","spot"] zav (ae pI):=sq
theorem Zq (F:UL K "put_pin" "Frame.put_pin" pI f fd)(fc:Mr K C)(Ve:mg "MOST_PINS"=some (.int 24 tkP))(aZ:mg "len"=none)(cC:mg "list"=none):dm P w K mg base (aT P w) 3 f fd zav (fU P w K mg base C):=by
 refine Mp F Nh (fun vs H Q E h=>?_) (fun bZ A outer s H vs Q E hr h=>?_)
 ·obtain ⟨a,dx,pP,pW,pB,ps,bs,kP,kW,kB,pw,x,u,v,hv,p,ws,rfl,_⟩:=h
  rfl
 obtain ⟨a,dx,pP,pW,pB,ps,bs,kP,kW,kB,pw,x,u,v,hvv,p,ws,rfl,R,W,ew,hu,hv,hx,hs,hl,hH,q⟩:=h
 refine ⟨_,(aa (bq (uZ (Md (bw hr) (pv 1) (d6 (pv 0) rfl))) (ag (cU)) aL)
  (aa (jZ (bg aaG rfl (mw (d6 (pv 0) rfl)) (fM rfl (aY (bN (i:=5) Nh.nd) (aY (bN (i:=6) Nh.nd) de))) (ag (bq (bx (DN hr.units) (pv 6) (aS (aG (pv 2) (pv 3)))) (ag (cU)) aL))))
  (aa (bq (bx SQ (aI nJ rfl aZ cz (a9 (d6 (pv 0) rfl))) (dP (v:=.int 24) rfl Ve ⟨_,rfl⟩)) (ag (cU)) aL)
  (aa (cE (bw hr) (d6 (pv 0) rfl) (pv 1) (aS (aG (pv 2) (pv 3))) rfl)
  (ag (cE (bw hr) (d6 (pv 0) rfl) (pv 1) (xv (bx LD (pv 4) qv) (b_ jA) (dQ qL rfl cC i7 (a9 (dR (k:=2) (pv 4) hr.mo (pY P w))))) rfl)))))),?_⟩
 refine ⟨_,rfl,_,rfl,a,C,dx,_,_,rfl,R.obj,fc.cls,fc.pl,rfl,pP,_,rfl,cG.k (k:=.inr x) R.pl,_,rfl,?_⟩
 rw [R.pin x,aa0 hx]
 have lk:kP.length=ps.length:=(aaK R.rp).symm
 refine ⟨_,rfl,a,C,dx,_,_,rfl,R.obj,fc.cls,fc.pl,rfl,pP,kP,rfl,R.pl,fun o=>?_⟩
 have k0:bS pP H (upd H pP (.fq o (.dK kP))):=fun b o' n e=>by rw [aj n];exact e
 refine jY (d:=pP) (o:=o) (kvs:=kP) (fun t σ H'=>EI fun (o2 o3:ω)=>σ=[some (.ref a),some (.str x),some u,some v,some hvv,o2,o3]/\bS pP H H'/\H' pP=some (.fq o (.dK kP))) ⟨none,none,rfl,k0,ah⟩ (fun t σ H' _ h=>by
   obtain ⟨_,_,_,_,h⟩:=h
   exact h) ?_ ?_
 ·rintro t k y σ H6 p7 uO ⟨o2,o3,rfl,k6,Kj⟩ n7
  obtain ⟨z,ez,hz1,Ym⟩:=aE (eV R.rp) uO
  have afJ :k=.inr z.1:=hz1
  subst afJ
  have s6:bo H H6:=fun b xs r=>by
   rcases r with r|⟨o',r⟩
   ·exact .inl (k6 _ _ (fun e=>by rw [e,R.pl] at r;cases r) r)
   ·exact .inr ⟨o',k6 _ _ (fun e=>by rw [e,R.pl] at r;cases r) r⟩
  have s7:=aA n7 (.tup [kV (.inr z.1),y])
  have s67:bo H (upd H6 p7 (.tup [kV (.inr z.1),y])):=s6.trans (.of s7)
  refine ⟨p7,_,rfl,bM.of ah,rfl,_,_,rfl,_,_,rfl,rfl,_,rfl,_,rfl,_,rfl,z2L,fun t8 n8=>?_⟩
  have s8:=aA n8 (.tup [u,v])
  have QM:bo H (upd (upd H6 p7 (.tup [kV (.inr z.1),y])) t8 (.tup [u,v])):=s67.trans (.of s8)
  refine ⟨fL z.2,fL p,.inl ⟨(Spot.aK Ym QM).is,(Spot.is (p:=p) ⟨t8,u,v,rfl,bM.of ah,hu.aK QM,hv.aK QM⟩)⟩,oJ _ _,uF _,?_⟩
  rw [x_]
  refine ⟨_,rfl,bu (fun c=>aaM (aaU c) (hs z (aam ez))) (fun _=>?_)⟩
  exact ⟨_,_,rfl,fun b o' n e=>s8 _ _ (s7 _ _ (k6 b o' n e)),s8 _ _ (s7 _ _ Kj)⟩
 ·rintro σ H1 ⟨o2,o3,rfl,k1,Ni⟩
  refine ⟨pP,o,kP,Ni,fun o' u' z=>(by have z':H pP=some (.fq o' u'):=z;rw [R.pl] at z';cases z'),?_⟩
  have s2:ao H (upd H1 pP (.dK kP)):=fun b o' e=>by
   by_cases n:b=pP
   ·subst n
    rw [R.pl] at e
    rw [ah]
    exact e
   ·rw [aj n]
    exact k1 b o' n e
  generalize upd H1 pP (.dK kP)=H2 at s2 ⊢
  have R2:=R.same s2
  refine ⟨_,rfl,a,C,dx,_,_,rfl,R2.obj,fc.cls,fc.pl,rfl,pP,kP,rfl,.inl R2.pl,_,_,rfl,rfl,_,rfl,?_⟩
  refine bu (fun c=>?_) (fun _=>?_)
  ·have c':(24:Int)<=(kP.length:Int):=aaU c
   omega
  refine ⟨_,rfl,_,rfl,z2L,fun t nt=>?_⟩
  have s3:=aA nt (.tup [u,v])
  have R3:=R2.same s3
  have hu3:=(hu.same s2).same s3
  have hv3:=(hv.same s2).same s3
  refine ⟨_,rfl,a,C,dx,_,_,rfl,R3.obj,fc.cls,fc.pl,rfl,_,rfl,pP,_,rfl,gP.k (k:=.inr x) R3.pl (ac_ (show kP.length<=1000 by omega) (by decide)),?_⟩
  have e:putK kP (.inr x) (.ref t)=kP++[(.inr x,.ref t)]:=dw _ (bP (by rw [R.D_];exact fun z=>hx (ia.mp z)))
  rw [e]
  have R4:=R3.UN (x:=x) (p:=p) (t:=t) ⟨t,u,v,rfl,bM.of ah,hu3,hv3⟩
  have k4:∀b o,b≠pP->H b=some o->(upd (upd H2 t (.tup [u,v])) pP (.dK (kP++[(.inr x,.ref t)]))) b=some o:=fun b o n e=>by rw [aj n];exact s3 _ _ (s2 _ _ e)
  generalize upd (upd H2 t (.tup [u,v])) pP (.dK (kP++[(.inr x,.ref t)]))=H4 at R4 k4 ⊢
  have lw:kW.length=ps.length:=by
   have e1:kW.length=pw.length:=(aaK W).symm
   have e2:=aaQ aeV ew
   rw [be,be] at e2
   omega
  have t4:bo H H4:=fun b xs r=>by
   rcases r with r|⟨o',r⟩
   ·exact .inl (k4 _ _ (fun e=>by rw [e,R.pl] at r;cases r) r)
   ·exact .inr ⟨o',k4 _ _ (fun e=>by rw [e,R.pl] at r;cases r) r⟩
  have W4:zJ K H4 pw kW:=Paired.cF W fun _ _ z=>⟨z.1,by
   obtain ⟨l,us,e1,e2,e3⟩:=z.2
   exact ⟨l,us,e1,k4 _ _ (fun e=>by rw [e,R.pl] at e2;cases e2) e2,e3.aK t4⟩⟩
  refine ⟨_,rfl,rfl,_,rfl,?_⟩
  rcases hH with ⟨rfl,rfl⟩|⟨h,Ch,Zp,WE,psh,sph,rfl,hh,hlk,MH,zH⟩
  ·refine bu (fun _=>?_) (fun c=>aaM (by decide) c)
   refine ⟨by show 0<=aaD;decide,fun l2 n6=>?_⟩
   have s6:=aA n6 (.lst [])
   have R6:=R4.same s6
   have W6:=W4.same s6
   refine ⟨_,rfl,a,C,dx,_,_,rfl,R6.obj,fc.cls,fc.wy,rfl,_,rfl,pW,_,rfl,gP.k (k:=.inr x) R6.wy (ac_ (show kW.length<=1000 by omega) (by decide)),?_⟩
   have ek:putK kW (.inr x) (.ref l2)=kW++[(.inr x,.ref l2)]:=dw _ (bP (by rw [W.keys,ew];exact fun z=>hx (ia.mp z)))
   rw [ek]
   have ne6:l2≠pW:=fun z=>by have h:=R6.wy;rw [<-z,ah] at h;cases h
   exact q _ _ _ (fun b o n1 n2 e=>by rw [aj n2];exact s6 _ _ (k4 b o n1 e)) (R6.D' _) (ahb (W6.dict R6.wy) ⟨rfl,l2,[],rfl,by rw [aj ne6,ah],.nil⟩)
  have h4:H4 h=some (.ins Ch Zp WE):=k4 _ _ (fun e=>by rw [e,R.pl] at hh;cases hh) hh
  refine bu (fun c=>aaM (aaU c) (fun z=>nomatch z)) (fun _=>?_)
  refine ⟨_,rfl,h,Ch,Zp,WE,psh,sph,rfl,h4,hlk,MH,zH H4 h4 t4 _ fun l1 us H5 s5 n5 e5 p5=>?_⟩
  refine ⟨l1,us,rfl,aR.of e5,fun l2 n6=>?_⟩
  have s6:=aA n6 (.lst us)
  have R6:=(R4.same s5).same s6
  have W6:=(W4.same s5).same s6
  refine ⟨_,rfl,a,C,dx,_,_,rfl,R6.obj,fc.cls,fc.wy,rfl,_,rfl,pW,_,rfl,gP.k (k:=.inr x) R6.wy (ac_ (show kW.length<=1000 by omega) (by decide)),?_⟩
  have ek:putK kW (.inr x) (.ref l2)=kW++[(.inr x,.ref l2)]:=dw _ (bP (by rw [W.keys,ew];exact fun z=>hx (ia.mp z)))
  rw [ek]
  have EV:ao H4 (upd H5 l2 (.lst us)):=fun b o z=>s6 _ _ (s5 _ _ z)
  refine q _ _ _ (fun b o n1 n2 e=>by rw [aj n2];exact EV _ _ (k4 b o n1 e)) (R6.D' _) ?_
  have ne6:l2≠pW:=fun z=>by have h:=R6.wy;rw [<-z,ah] at h;cases h
  exact ahb (W6.dict R6.wy) ⟨rfl,l2,us,rfl,by rw [aj ne6,ah],(p5.same s6).aK (.dict R6.wy)⟩
inductive jc (K:Frag)(C:aaz)(vs:η)(H:Hp)(Q:VK)(E_:XK):Prop
|mk (a dx pP pW pB:aaz)(ps:Ι)(bs:Β)(kP kW kB:γ)(x one other:Str)(_:vs=[.ref a,.str x,.str one,.str other])(_:gI K H C a dx pP pW pB ps bs kP kW kB)(_:x∉bs.map (·.1))(_:one∈ps.map (·.1))(_:other∈ps.map (·.1))(_:one≠other)(_:bs.length<60)(_:Q .cS H)
theorem Zr:av zah zah (ae JN):=sq
theorem Zs (F:qG K "check_bar" "Frame.check_bar" JN f fd)(fc:Mr K C)(Vf:mg "MOST_BARS"=some (.int 60 tkB))(aZ:mg "len"=none)
  (MC:bJ P w K mg base (aT P w) 1 C "check_pin" zaj (fT K C)):dm P w K mg base (aT P w) 2 f fd zah (jc K C):=by
 refine gU F Zr fun H hr h=>?_
 obtain ⟨a,dx,pP,pW,pB,ps,bs,kP,kW,kB,x,one,other,rfl,R,hx,h1,h2,ne,hl,q⟩:=h
 refine ⟨_,(aa (bq (uZ (Md (bw hr) (pv 1) (d6 (pv 0) rfl))) (ag (cU)) aL)
  (aa (bX (fB (k:=1) (pv 0) hr.mo (EK P w) (a9 (pv 2))))
  (aa (bX (fB (k:=1) (pv 0) hr.mo (EK P w) (a9 (pv 3))))
  (aa (bq (bx eR (pv 2) (pv 3)) (ag (cU)) aL)
  (ag (bq (bx SQ (aI nJ rfl aZ cz (a9 (d6 (pv 0) rfl))) (dP (v:=.int 60) rfl Vf ⟨_,rfl⟩)) (ag (cU)) aL)))))),?_⟩
 refine ⟨_,rfl,_,rfl,a,C,dx,_,_,rfl,R.obj,fc.cls,fc.br,rfl,pB,_,rfl,cG.k (k:=.inr x) R.br,_,rfl,?_⟩
 rw [R.bar x,aa0 hx]
 refine ⟨_,rfl,a,C,dx,_,_,_,rfl,R.obj,rfl,MC,_,rfl,a,dx,pP,pW,pB,ps,bs,kP,kW,kB,one,rfl,R,h1,_,rfl,a,C,dx,_,_,_,rfl,R.obj,rfl,MC,_,rfl,a,dx,pP,pW,pB,ps,bs,kP,kW,kB,other,rfl,R,h2,_,rfl,_,rfl,rfl,_,rfl,bu (fun c=>aaM (by simpa [ni] using c) ne) (fun _=>?_)⟩
 have lk:kB.length=bs.length:=(aaK R.rb).symm
 refine ⟨_,rfl,a,C,dx,_,_,rfl,R.obj,fc.cls,fc.br,rfl,pB,kB,rfl,.inl R.br,_,_,rfl,rfl,_,rfl,bu (fun c=>?_) (fun _=>q)⟩
 have c':(60:Int)<=(kB.length:Int):=aaU c
 omega
inductive mM (K:Frag)(C:aaz)(vs:η)(H:Hp)(Q:VK)(E_:XK):Prop
|mk (a dx pP pW pB:aaz)(ps:Ι)(bs:Β)(kP kW kB:γ)(x one other:Str)(_:vs=[.ref a,.str x,.str one,.str other])(_:gI K H C a dx pP pW pB ps bs kP kW kB)(_:x∉bs.map (·.1))(_:one∈ps.map (·.1))(_:other∈ps.map (·.1))(_:one≠other)(_:bs.length<60)(_:∀(H':Hp)(kB':γ),bS pB H H' ->gI K H' C a dx pP pW pB ps (bs++[(x,one,other)]) kP kW kB' ->Q .cS H')
theorem Zt:av zah zah (ae JM):=sq
theorem Zu (F:qG K "put_bar" "Frame.put_bar" JM f fd)(fc:Mr K C)
  (MC:bJ P w K mg base (aT P w) 2 C "check_bar" zah (jc K C)):dm P w K mg base (aT P w) 3 f fd zah (mM K C):=by
 refine DZ F Zt (fun vs H Q E h=>?_) (fun bZ A outer s H vs Q E hr h=>?_)
 ·obtain ⟨a,dx,pP,pW,pB,ps,bs,kP,kW,kB,x,one,other,rfl,_⟩:=h
  rfl
 obtain ⟨a,dx,pP,pW,pB,ps,bs,kP,kW,kB,x,one,other,rfl,R,hx,h1,h2,ne,hl,q⟩:=h
 refine ⟨_,(aa (bX (fB (k:=2) (pv 0) hr.mo (pY P w) (bK (pv 1) (pv 2) (pv 3))))
  (ag (cE (bw hr) (d6 (pv 0) rfl) (pv 1) (aS (aG (pv 2) (pv 3))) rfl))),?_⟩
 refine ⟨_,rfl,a,C,dx,_,_,_,rfl,R.obj,rfl,MC,_,rfl,_,rfl,_,rfl,a,dx,pP,pW,pB,ps,bs,kP,kW,kB,x,one,other,rfl,R,hx,h1,h2,ne,hl,_,rfl,_,rfl,z2L,fun t nt=>?_⟩
 have s:=aA nt (.tup [.str one,.str other])
 have R':=R.same s
 have lk:kB.length=bs.length:=(aaK R.rb).symm
 refine ⟨_,rfl,a,C,dx,_,_,rfl,R'.obj,fc.cls,fc.br,rfl,_,rfl,pB,_,rfl,gP.k (k:=.inr x) R'.br (ac_ (show kB.length<=1000 by omega) (by decide)),?_⟩
 have e:putK kB (.inr x) (.ref t)=kB++[(.inr x,.ref t)]:=dw _ (bP (by rw [R.oK];exact fun z=>hx (ia.mp z)))
 rw [e]
 refine q _ _ (fun b o n z=>?_) (R'.UM (.inl ah))
 rw [aj n]
 exact s _ _ z
def ju (p q:aD):Rat×Rat:=(q.sp.1-p.sp.1,q.sp.2-p.sp.2)
inductive EW (K:Frag)(C:aaz)(vs:η)(H:Hp)(Q:VK)(E_:XK):Prop
|mk (a:aaz)(pins:ν)(bars:τ)(p q:aD)(_:vs=[.ref a,.str p.nm,.str q.nm])(_:vw K H C a pins bars)(_:eC pins bars)(_:p∈pins)(_:q∈pins)(_:Nc K H Q (ju p q))
theorem Th {pins:ν}(h:(pins.map (·.nm)).Nodup):((pins.map fun p=>(p.nm,yc p.sp)).map (·.1)).Nodup:=by
 rw [adu]
 exact h
theorem Ti {pins:ν}(h:(pins.map (·.nm)).Nodup):((pins.map fun p=>(p.nm,p.ws)).map (·.1)).Nodup:=by
 rw [adu]
 exact h
theorem Tj {bars:τ}(h:(bars.map (·.nm)).Nodup):((bars.map fun b=>(b.nm,b.one.nm,b.other.nm)).map (·.1)).Nodup:=by
 rw [adu]
 exact h
theorem Zv:av zak zak (ae H_):=sq
theorem Zw (D:Def K mg "arm_between" H_ zak)(MP:bJ P w K mg base (aT P w) 2 C "place" zaj (qi K C))(Vg:Fn P w K mg base (aT P w) 35 "pair_difference" zab (vG K fun a b=>a-b)):Fn P w K mg base (aT P w) 36 "arm_between" zak (EW K C):=by
 refine D.oo Zv fun H hr h=>?_
 obtain ⟨a,pins,bars,p,q,rfl,R,g,hp,hq,k⟩:=h
 obtain ⟨dx,pP,pW,pB,kP,kW,kB,R,W⟩:=R.ex
 refine ⟨_,(ag (ay (aJ Vg hr (aG (fB (k:=2) (pv 0) hr.mo (EK P w) (a9 (pv 2))) (fB (k:=2) (pv 0) hr.mo (EK P w) (a9 (pv 1))))))),_,rfl,a,C,dx,_,_,_,rfl,R.obj,rfl,MP,_,rfl,a,dx,pP,pW,pB,_,_,kP,kW,kB,q.nm,yc q.sp,rfl,R,Th g.np,aat.mpr ⟨q,hq,rfl⟩,fun v1 h1=>?_⟩
 refine ⟨_,rfl,a,C,dx,_,_,_,rfl,R.obj,rfl,MP,_,rfl,a,dx,pP,pW,pB,_,_,kP,kW,kB,p.nm,yc p.sp,rfl,R,Th g.np,aat.mpr ⟨p,hp,rfl⟩,fun v2 h2=>?_⟩
 have z1:=g.sz q hq
 have z2:=g.sz p hp
 exact ⟨v1,v2,q.sp,p.sp,rfl,h1,h2,z1.1.up (by decide),z1.2.1.up (by decide),z2.1.up (by decide),z2.2.1.up (by decide),k⟩
def mv (M:ι)(x:Str):Rat×Rat:=(M x).getD (0,0)
def cf (F:ι)(pins:ν):List (Int×Int):=pins.flatMap fun p=>[qr (mv F p.nm).1,qr (mv F p.nm).2]
theorem cM (F:ι):∀pins:List aD,(cf F pins).length=2*pins.length
 | []=>rfl
 | p::ps=>by
  have:=cM F ps
  unfold cf at this ⊢
  rw [adA,adl,this]
  simp
  omega
theorem Kk (F:ι)(ps:ν)(p:aD):cf F (ps++[p])=cf F ps++[qr (mv F p.nm).1,qr (mv F p.nm).2]:=by
 unfold cf
 rw [ael]
 simp
def fK (x:Str)(w:Rat×Rat):Str->Option (Rat×Rat):=fun y=>if y=x then some w else none
def c6 (b:aV):Str->Option (Rat×Rat):=fun y=>if y=b.one.nm then some (ju b.one b.other) else if y=b.other.nm then some (ju b.other b.one) else none
def oa (pins:ν)(p:aD):List (List (Int×Int)):=p.ws.map fun w=>cf (fK p.nm w) pins
def f' (pins:ν)(bars:τ):List (List (Int×Int)):=(pins.flatMap fun p=>oa pins p)++bars.map fun b=>cf (c6 b) pins
structure ig (K:Frag)(H:Hp)(r:aaz)(ls:υ)(bU:Ζ)(fS:Δ):Prop where
 jw:jt H r ls bU
 num:gZ K H bU fS
 nr:r∉ls
theorem ig.same (h:ig K H r ls bU fS)(s:ao H H'):ig K H' r ls bU fS:=⟨h.jw.same s,h.num.same s,h.nr⟩
theorem BC (h:gZ K H bU fS)(n:cH K H us qs):gZ K H (bU++[us]) (fS++[qs]):=by
 refine ⟨by simp [h.1],fun i u q' e1 e2=>?_⟩
 have l:=h.1
 by_cases c:i<bU.length
 ·rw [adq c] at e1
  rw [adq (by omega)] at e2
  exact h.2 i u q' e1 e2
 ·rw [adv (by omega)] at e1 e2
  by_cases z:i-bU.length=0
  ·rw [z] at e1
   rw [show i-fS.length=0 by omega] at e2
   cases e1
   cases e2
   exact n
  ·rw [aax (by simp;omega)] at e1
   cases e1
theorem QS {H:Hp}{ls:υ}{bU:Ζ}(hl:ls.length=bU.length)(h:∀(i:Nat)(l:aaz)(vs:η),ls[i]?=some l->bU[i]?=some vs->H l=some (.lst vs))(e:H l=some (.lst us)):
  ∀(i:Nat)(l':aaz)(vs:η),(ls++[l])[i]?=some l' ->(bU++[us])[i]?=some vs->H l'=some (.lst vs):=fun i l' vs e1 e2=>by
 by_cases c:i<ls.length
 ·rw [adq c] at e1
  rw [adq (by omega)] at e2
  exact h i l' vs e1 e2
 ·rw [adv (by omega)] at e1 e2
  by_cases z:i-ls.length=0
  ·rw [z] at e1
   rw [show i-bU.length=0 by omega] at e2
   cases e1
   cases e2
   exact e
  ·rw [aax (by simp;omega)] at e1
   cases e1
theorem ig.push (h:ig K H r ls bU fS)(e:H l=some (.lst us))(ne:l≠r)(n:cH K H us qs):
  ig K (upd H r (.lst (ls.map V.ref++[.ref l]))) r (ls++[l]) (bU++[us]) (fS++[qs]):=by
 have st:bo H (upd H r (.lst (ls.map V.ref++[.ref l]))):=.list h.jw.1
 have hm:∀(i:Nat)(l':aaz)(vs:η),ls[i]?=some l' ->bU[i]?=some vs->(upd H r (.lst (ls.map V.ref++[.ref l]))) l'=some (.lst vs):=fun i l' vs e1 e2=>by
  rw [aj (fun z:l'=r=>h.nr (by rw [<-z];exact aam e1))]
  exact h.jw.2.2 i l' vs e1 e2
 refine ⟨⟨by rw [ah,ads];rfl,by simp [h.jw.2.1],QS h.jw.2.1 hm (by rw [aj ne];exact e)⟩,?_,?_⟩
 ·exact BC ⟨h.num.1,fun i vs qs e1 e2=>(h.num.2 i vs qs e1 e2).aK st⟩ (n.aK st)
 ·intro z
  rcases ado.mp z with z|z
  ·exact h.nr z
  ·exact ne (adi.mp z).symm
inductive iW (K:Frag)(C:aaz)(vs:η)(H:Hp)(Q:VK)(E_:XK):Prop
|mk (a d:aaz)(pins:ν)(bars:τ)(kvs:γ)(F:ι)(_:vs=[.ref a,.ref d])(_:vw K H C a pins bars)(_:pins.length<=100)(_:H d=some (.dK kvs))(_:My K H kvs F)(_:∀(l:aaz)(us:η)(H':Hp),ao H H' ->H l=none->H' l=some (.lst us)->cH K H' us (cf F pins)->Q (.ref l) H')
theorem ip (pins:ν):((pins.map fun p=>(p.nm,yc p.sp)).map (·.1))=pins.map (·.nm):=by rw [adu];rfl
theorem Nj:av ["F","draws","row","pin"] zaJ (ae IA):=sq
theorem Zx (hM:∀H:Hp,gu K H (.ref aM) (0,0))(BD:mg "NO_MOVE"=some (.ref aM))(D:Def K mg "pair_row" IA zaJ)(MP:bJ P w K mg base (aT P w) 1 C "pins" zae (jb K C)):Fn P w K mg base (aT P w) 2 "pair_row" zaJ (iW K C):=by
 refine D.oo Nj fun H hr h=>?_
 obtain ⟨a,d,pins,bars,kvs,F,rfl,R,lp,hd,hP,q⟩:=h
 refine ⟨_,(aa (aF (i:=2) Nj.nd (b_ jA))
  (aa (bg aaG rfl (a_ (dR (k:=1) (pv 0) hr.mo (EK P w))) (bN (i:=3) Nj.nd) (ag (bX (qE abc PySem.F.slot_list_extend PySem.F.type_list_extend Qw (pv 2) (a9 (iQ (bw hr) (pv 1) (pv 3) (dP (v:=.ref aM) rfl BD rfl) ⟨rfl,rfl,rfl,rfl⟩))))))
  (ag (ay (pv 2))))),?_⟩
 refine ⟨z0L,?_⟩
 intro l nl;generalize eX:upd _ l _=H1;have ⟨s1,el⟩:=nw nl eX
 have R1:=R.same s1
 obtain ⟨dx,pP,pW,pB,kP,kW,kB,F1,W1⟩:=R1.ex
 refine ⟨_,rfl,a,C,dx,_,_,_,rfl,F1.obj,rfl,MP,a,dx,pP,pW,pB,_,_,kP,kW,kB,rfl,F1,fun lp H2 s2 BE xp=>?_⟩
 rw [ip] at xp
 have tw:=s1.trans s2
 have Vh:lp≠l:=fun z=>by rw [z,el] at BE;cases BE
 refine ⟨lp,rfl,⟨_,aR.of xp⟩,bI (K:=K) (a:=lp) (xs:=(pins.map (·.nm)).map V.str) (fun i σ H'=>EI fun (o3:ω) (us:η)=>σ=[some (.ref a),some (.ref d),some (.ref l),o3]/\ao H H'/\H' lp=some (.lst ((pins.map (·.nm)).map V.str))/\H' l=some (.lst us)/\cH K H' us (cf F (pins.take i))) ⟨none,[],rfl,tw,xp,s2 _ _ el,⟨rfl,fun i u q e=>by simp at e⟩⟩ (fun i σ H' _ h=>by
   obtain ⟨_,_,_,_,h,_⟩:=h
   exact aR.of h) ?_ ?_⟩
 ·rintro i z σ H4 hi ⟨o3,us,rfl,s4,l4,e4,n4⟩
  rw [Wp,Wp] at hi
  obtain ⟨x,hx,rfl⟩:=ab_.mp hi
  obtain ⟨p,hp,rfl⟩:=ab_.mp hx
  have il:i<pins.length:=(ir.mp hp).1
  have d4:=s4 _ _ hd
  have g1:gu K H4 ((bF kvs (.inr p.nm)).getD (.ref aM)) (mv F p.nm):=(hP.same s4).AO (hM H4)
  obtain ⟨b,u1,u2,eb,hb,h1,h2⟩:=g1
  have lu:us.length<=200:=by
   have:=n4.1
   rw [cM,adm] at this
   omega
  refine ⟨_,rfl,.inl ⟨rfl,_,aR.of e4⟩,_,rfl,d,rfl,.inl ⟨_,.inl d4⟩,_,rfl,_,cG.k (k:=.inr p.nm) d4,l,b,us,[u1,u2],rfl,by rw [eb],e4,hb,by simp;omega,?_⟩
  have st:bo H4 (upd H4 l (.lst (us++[u1,u2]))):=.list e4
  refine ⟨_,us++[u1,u2],rfl,fun c o z=>?_,?_,ah,?_⟩
  ·rw [aj (ak z nl)]
   exact s4 _ _ z
  ·rw [aj Vh]
   exact l4
  ·rw [take_snoc hp,Kk]
   have a1:=cH.snoc (K:=K) (n4.aK st) (cZ.aK h1 st)
   have a2:=cH.snoc (K:=K) a1 (cZ.aK h2 st)
   simpa using a2
 ·rintro σ H4 ⟨o3,us,rfl,s4,l4,e4,n4⟩
  rw [be,be,adH] at n4
  exact ⟨_,rfl,q l us H4 s4 nl e4 n4⟩
inductive og (K:Frag)(C:aaz)(vs:η)(H:Hp)(Q:VK)(E_:XK):Prop
|mk (a d:aaz)(pins:ν)(bars:τ)(kvs:γ)(F:ι)(_:vs=[.ref a,.ref d])(_:vw K H C a pins bars)(_:pins.length<=100)(_:H d=some (.dK kvs))(_:My K H kvs F)(_:(∀kv∈kvs,∃x∈pins.map (·.nm),kv.1=.inr x))(_:∀(l:aaz)(us:η)(H':Hp),ao H H' ->H l=none->H' l=some (.lst us)->cH K H' us (cf F pins)->Q (.ref l) H')
theorem Nk:av ["F","load","pins","pin"] ["F","load"] (ae IC):=sq
theorem Zy (D:Def K mg "load_row" IC ["F","load"])(MP:bJ P w K mg base (aT P w) 1 C "pins" zae (jb K C))(Nl:Fn P w K mg base (aT P w) 2 "pair_row" zaJ (iW K C)):Fn P w K mg base (aT P w) 3 "load_row" ["F","load"] (og K C):=by
 refine D.oo Nk fun H hr h=>?_
 obtain ⟨a,d,pins,bars,kvs,F,rfl,R,lp,hd,hP,hk,q⟩:=h
 refine ⟨_,(aa (aF (i:=2) Nk.nd (dR (k:=1) (pv 0) hr.mo (EK P w)))
  (aa (jZ (bg aaG rfl (DY (pv 1)) (bN (i:=3) Nk.nd) (ag (bq (pU mf (pv 3) (pv 2) rfl) (ag (cU)) aL))))
  (ag (ay (aJ Nl hr (aG (pv 0) (pv 1))))))),?_⟩
 obtain ⟨dx,pP,pW,pB,kP,kW,kB,F1,W1⟩:=R.ex
 refine ⟨_,rfl,a,C,dx,_,_,_,rfl,F1.obj,rfl,MP,a,dx,pP,pW,pB,_,_,kP,kW,kB,rfl,F1,fun l H1 s1 nl el=>?_⟩
 rw [ip] at el
 have Ni:=s1 _ _ hd
 refine ⟨_,rfl,d,kvs,rfl,Ni,fun o=>?_⟩
 have ld:l≠d:=fun z=>by rw [z,Ni] at el;cases el
 refine x8 (d:=d) (o:=o) (kvs:=kvs) (fun t σ H'=>∃(o2:ω),σ=[some (.ref a),some (.ref d),some (.ref l),o2]/\H'=upd H1 d (.fq o (.dK kvs))) ⟨none,rfl,rfl⟩ (fun t σ H' _ h=>by
   obtain ⟨_,_,rfl⟩:=h
   exact ah) ?_ ?_
 ·rintro t k y σ H6 uO ⟨o2,rfl,rfl⟩
  obtain ⟨x,hx,ex⟩:=hk _ (aam uO)
  have zF :k=.inr x:=ex
  subst zF
  refine ⟨_,rfl,_,rfl,l,_,rfl,.inl (aR.of (by rw [aj ld];exact el)),rfl,uG _,_,rfl,bu (fun c=>?_) (fun _=>⟨_,rfl,rfl⟩)⟩
  have c':(!Wr (.str x) ((pins.map (·.nm)).map V.str))=true:=c
  rw [qW,aaS hx] at c'
  cases c'
 ·rintro σ H6 ⟨o2,rfl,rfl⟩
  refine ⟨d,o,kvs,ah,fun o' u' z=>(by have z':H d=some (.fq o' u'):=z;rw [hd] at z';cases z'),?_⟩
  have s2:ao H (upd (upd H1 d (.fq o (.dK kvs))) d (.dK kvs)):=fun b o' e=>by
   by_cases n:b=d
   ·subst n
    rw [hd] at e
    rw [ah]
    exact e
   ·rw [aj n,aj n]
    exact s1 _ _ e
  generalize upd (upd H1 d (.fq o (.dK kvs))) d (.dK kvs)=H2 at s2 ⊢
  refine ⟨_,rfl,_,rfl,a,d,pins,bars,kvs,F,rfl,R.same s2,lp,s2 _ _ hd,hP.same s2,fun l' us H3 s3 n3 e3 nm=>?_⟩
  exact q l' us H3 (s2.trans s3) (s2.free n3) e3 nm
inductive rm (K:Frag)(C:aaz)(vs:η)(H:Hp)(Q:VK)(E_:XK):Prop
|mk (a:aaz)(pins:ν)(bars:τ)(b:aV)(_:vs=[.ref a,.str b.one.nm,.str b.other.nm])(_:vw K H C a pins bars)(_:eC pins bars)(_:b.one∈pins)(_:b.other∈pins)(_:b.one.nm≠b.other.nm)(_:∀(l:aaz)(us:η)(H':Hp),ao H H' ->H l=none->H' l=some (.lst us)->cH K H' us (cf (c6 b) pins)->Q (.ref l) H')
theorem Vi (k:Key)(v:V):df [] [(k,v)]=[(k,v)]:=rfl
theorem Vj (v u:V)(h:k≠j):df [] [(k,v),(j,u)]=[(k,v),(j,u)]:=by
 show putK [(k,v)] j u=_
 rw [dw]
 ·rfl
 ·rw [bD h]
  rfl
theorem Zz:av zak zak (ae ID):=sq
theorem ZA (D:Def K mg "bar_row" ID zak)(QT:Fn P w K mg base (aT P w) 36 "arm_between" zak (EW K C))(Nl:Fn P w K mg base (aT P w) 2 "pair_row" zaJ (iW K C)):Fn P w K mg base (aT P w) 37 "bar_row" zak (rm K C):=by
 refine D.oo Zz fun H hr h=>?_
 obtain ⟨a,pins,bars,b,rfl,R,g,m1,m2,ne,q⟩:=h
 refine ⟨_,(ag (ay (aJ Nl hr (aG (pv 0) (DU (qQ (pv 1) (aJ QT hr (bK (pv 0) (pv 1) (pv 2))) (qQ (pv 2) (aJ QT hr (bK (pv 0) (pv 2) (pv 1))) DT)) rfl rfl (amN _ _) (by decide)))))),_,rfl,fun d nd=>?_⟩
 have s1:=aA nd (.dK [])
 have e1:(upd H d (.dK [])) d=some (.dK []):=ah
 generalize upd H d (.dK [])=H1 at s1 e1 ⊢
 refine ⟨_,rfl,_,rfl,_,rfl,_,rfl,a,pins,bars,b.one,b.other,rfl,R.same s1,g,m1,m2,fun v1 H2 s2 h2=>?_⟩
 refine ⟨_,rfl,_,rfl,_,rfl,_,rfl,a,pins,bars,b.other,b.one,rfl,(R.same s1).same s2,g,m2,m1,fun v2 H3 s3 h3=>?_⟩
 have e3:=s3 _ _ (s2 _ _ e1)
 refine ⟨e3,[(.inr b.one.nm,v1),(.inr b.other.nm,v2)],rfl,(by show 2<=15;decide),?_⟩
 rw [Vj _ _ (fun z=>ne (adZ z))]
 have st:bo H3 (upd H3 d (.dK [(.inr b.one.nm,v1),(.inr b.other.nm,v2)])):=.dict e3
 have e4:(upd H3 d (.dK [(.inr b.one.nm,v1),(.inr b.other.nm,v2)])) d=some (.dK [(.inr b.one.nm,v1),(.inr b.other.nm,v2)]):=ah
 have s4:ao H (upd H3 d (.dK [(.inr b.one.nm,v1),(.inr b.other.nm,v2)])):=fun c o z=>by
  rw [aj (ak z nd)]
  exact s3 _ _ (s2 _ _ (s1 _ _ z))
 generalize upd H3 d (.dK [(.inr b.one.nm,v1),(.inr b.other.nm,v2)])=H4 at st e4 s4 ⊢
 refine ⟨a,d,pins,bars,_,c6 b,rfl,R.same s4,aav g.lp (by decide),e4,fun x=>?_,fun l us H5 s5 n5 e5 nm=>q l us H5 (s4.trans s5) (s4.free n5) e5 nm⟩
 by_cases c1:x=b.one.nm
 ·subst c1
  exact .inr ⟨v1,ju b.one b.other,bT rfl,by unfold c6;rw [aaC rfl],(h2.same s3).aK st⟩
 ·by_cases c2:x=b.other.nm
  ·subst c2
   exact .inr ⟨v2,ju b.other b.one,by rw [bD (fun z=>c1 (adZ z).symm),bT rfl],by unfold c6;rw [aaA c1,aaC rfl],h3.aK st⟩
  ·exact .inl ⟨by rw [bD (fun z=>c1 (adZ z).symm),bD (fun z=>c2 (adZ z).symm)];rfl,by unfold c6;rw [aaA c1,aaA c2]⟩
inductive lE (K:Frag)(C:aaz)(vs:η)(H:Hp)(Q:VK)(E_:XK):Prop
|mk (a:aaz)(pins:ν)(bars:τ)(_:vs=[.ref a])(_:vw K H C a pins bars)(_:eC pins bars)(_:∀(r:aaz)(ls:υ)(bU:Ζ)(H':Hp),ao H H' ->H r=none->ig K H' r ls bU (f' pins bars)->Q (.ref r) H')
theorem qj (bars:τ):((bars.map fun b=>(b.nm,b.one.nm,b.other.nm)).map (·.1))=bars.map (·.nm):=by rw [adu];rfl
theorem mN (pins:ν)(h:∀p∈pins,p.ws.length<=2):(pins.flatMap fun p=>p.ws).length<=2*pins.length:=by
 induction pins with
 | nil=>simp
 | cons p ps ih=>
  have h1:=h p adk
  have h2:=ih fun q hq=>h q (aaw _ hq)
  rw [adA,adl,adJ]
  omega
theorem gf (all pins:ν):(pins.flatMap fun p=>oa all p).length=(pins.flatMap fun p=>p.ws).length:=by
 induction pins with
 | nil=>rfl
 | cons p ps ih=>
  rw [adA,adA,adl,adl,ih]
  unfold oa
  rw [be]
theorem Kl (pins:ν)(bars:τ):(f' pins bars).length=(pins.flatMap fun p=>p.ws).length+bars.length:=by
 unfold f'
 rw [adl,gf,be]
theorem uP:av ["F","rows","pin","way","bar","two"] ["F"] (ae IE):=sq
theorem ZC (D:Def K mg "draw_rows" IE ["F"])(MP:bJ P w K mg base (aT P w) 1 C "pins" zae (jb K C))(MW:bJ P w K mg base (aT P w) 2 C "ways" zaj (rl K C))(MB:bJ P w K mg base (aT P w) 1 C "bars" zae (ja K C))(ME:bJ P w K mg base (aT P w) 1 C "ends" zaM (rj K C))
  (Nl:Fn P w K mg base (aT P w) 2 "pair_row" zaJ (iW K C)) (afM:Fn P w K mg base (aT P w) 37 "bar_row" zak (rm K C)):Fn P w K mg base (aT P w) 38 "draw_rows" ["F"] (lE K C):=by
 refine D.op uP fun f bZ A outer s H vs Q E hr h=>?_
 obtain ⟨a,pins,bars,rfl,R,g,q⟩:=h
 refine ⟨_,(aa (aF (i:=1) uP.nd (b_ jA))
  (aa (bg aaG rfl (a_ (dR (k:=1) (pv 0) hr.mo (pY P w))) (bN (i:=2) uP.nd) (ag (bg aaG rfl (a_ (fB (k:=2) (pv 0) hr.mo (pY P w) (a9 (pv 2)))) (bN (i:=3) uP.nd) (ag (bX (qE abc abg abh fN (pv 1) (a9 (aJ Nl hr (aG (pv 0) (DU (qQ (pv 2) (pv 3) DT) rfl rfl (amN _ _) (by decide)))))))))))
  (aa (bg aaG rfl (a_ (dR (k:=1) (pv 0) hr.mo (pY P w))) (bN (i:=4) uP.nd) (aa (aF (i:=5) uP.nd (fB (k:=1) (pv 0) hr.mo (pY P w) (a9 (pv 4))))
   (ag (bX (qE abc abg abh fN (pv 1) (a9 (aJ afM hr (bK (pv 0) (aC (pv 5)) (aC (pv 5))))))))))
  (ag (ay (pv 1)))))),?_⟩
 refine ⟨z0L,?_⟩
 intro r nr;generalize eX:upd _ r _=H1;have ⟨s1,er⟩:=nw nr eX
 have big:(40:Nat)<=aaD:=by decide
 have wl:=mN pins g.lw
 have gl:=g.lp
 have R0:ig K H1 r [] [] []:=⟨⟨er,rfl,fun i l vs e=>by simp at e⟩,⟨rfl,fun i vs qs e=>by simp at e⟩,by simp⟩
 have R1:=R.same s1
 obtain ⟨dx,pP,pW,pB,kP,kW,kB,F1,W1⟩:=R1.ex
 refine ⟨_,rfl,a,C,dx,_,_,_,rfl,F1.obj,rfl,MP,a,dx,pP,pW,pB,_,_,kP,kW,kB,rfl,F1,fun lp H2 s2 BE xp=>?_⟩
 rw [ip] at xp
 have tw:=s1.trans s2
 have Vh:lp≠r:=fun z=>by rw [z,er] at BE;cases BE
 refine ⟨lp,rfl,⟨_,aR.of xp⟩,bI (K:=K) (a:=lp) (xs:=(pins.map (·.nm)).map V.str) (fun i σ H'=>HX fun (o2 o3:ω) (ls:υ) (bU:Ζ)=>σ=[some (.ref a),some (.ref r),o2,o3,none,none]/\ao H H'/\H' lp=some (.lst ((pins.map (·.nm)).map V.str))/\ig K H' r ls bU ((pins.take i).flatMap fun p=>oa pins p)) ⟨none,none,[],[],rfl,tw,xp,R0.same s2⟩ (fun i σ H' _ h=>by
   obtain ⟨_,_,_,_,_,_,h,_⟩:=h
   exact aR.of h) ?_ ?_⟩
 ·rintro i z σ H4 hi ⟨o2,o3,ls,bU,rfl,s4,l4,RR⟩
  rw [Wp,Wp] at hi
  obtain ⟨x,hx,rfl⟩:=ab_.mp hi
  obtain ⟨p,hp,rfl⟩:=ab_.mp hx
  have mp:p∈pins:=aam hp
  have R4:=R.same s4
  obtain ⟨dx,pP,pW,pB,kP,kW,kB,F4,W4⟩:=R4.ex
  have mpn:p.nm∈(pins.map fun p=>(p.nm,yc p.sp)).map (·.1):=by rw [ip];exact aat.mpr ⟨p,mp,rfl⟩
  refine ⟨_,rfl,a,C,dx,_,_,_,rfl,F4.obj,rfl,MW,_,rfl,a,dx,pP,pW,pB,_,_,kP,kW,kB,_,p.nm,p.ws,rfl,F4,W4,Ti g.np,aat.mpr ⟨p,mp,rfl⟩,mpn,fun m us H5 s5 n5 e5 p5=>?_⟩
  have lu:us.length=p.ws.length:=aaK p5
  have ON:=s4.trans s5
  have mr:m≠r:=fun z=>by rw [z,RR.jw.1] at n5;cases n5
  refine ⟨m,rfl,⟨_,aR.of e5⟩,bI (K:=K) (a:=m) (xs:=us) (fun j σ H'=>EJ fun (o3:ω) (ls:υ) (bU:Ζ)=>σ=[some (.ref a),some (.ref r),some (.str p.nm),o3,none,none]/\ao H H'/\H' lp=some (.lst ((pins.map (·.nm)).map V.str))/\H' m=some (.lst us)/\kj K H' us p.ws/\ig K H' r ls bU (((pins.take i).flatMap fun p=>oa pins p)++(p.ws.take j).map fun w=>cf (fK p.nm w) pins)) ⟨o3,ls,bU,rfl,ON,s5 _ _ l4,e5,p5,by simpa using RR.same s5⟩ (fun j σ H' _ h=>by
    obtain ⟨_,_,_,_,_,_,h,_⟩:=h
    exact aR.of h) ?_ ?_⟩
  ·rintro j u σ H6 hu ⟨o3,ls,bU,rfl,s6,l6,e6,p6,yv⟩
   obtain ⟨w,ew,hw⟩:=aE p6 hu
   have jl:=(ir.mp hu).1
   refine ⟨_,rfl,.inl ⟨rfl,_,aR.of yv.jw.1⟩,_,rfl,fun d nd=>?_⟩
   have t1:=aA nd (.dK [])
   have d1:(upd H6 d (.dK [])) d=some (.dK []):=ah
   generalize upd H6 d (.dK [])=H7 at t1 d1 ⊢
   refine ⟨_,rfl,_,rfl,d1,[(.inr p.nm,u)],rfl,(by show 1<=15;decide),?_⟩
   rw [Vi]
   have st:bo H7 (upd H7 d (.dK [(.inr p.nm,u)])):=.dict d1
   have d8:(upd H7 d (.dK [(.inr p.nm,u)])) d=some (.dK [(.inr p.nm,u)]):=ah
   have t8:ao H6 (upd H7 d (.dK [(.inr p.nm,u)])):=fun c o z=>by
    rw [aj (ak z nd)]
    exact t1 _ _ z
   have hw8:=(hw.same t1).aK st
   generalize upd H7 d (.dK [(.inr p.nm,u)])=H8 at d8 t8 hw8 ⊢
   have s8:=s6.trans t8
   refine ⟨a,d,pins,bars,_,fK p.nm w,rfl,R.same s8,aav g.lp (by decide),d8,fun x=>?_,fun l nZ H9 t9 n9 e9 nm=>?_⟩
   ·by_cases c1:x=p.nm
    ·subst c1
     exact .inr ⟨u,w,bT rfl,by unfold fK;rw [aaC rfl],hw8⟩
    ·exact .inl ⟨by rw [bD (fun z=>c1 (adZ z).symm)];rfl,by unfold fK;rw [aaA c1]⟩
   have t69:=t8.trans t9
   have WG:=yv.same t69
   have lr:l≠r:=fun z=>by rw [z,t8 _ _ yv.jw.1] at n9;cases n9
   have lss:ls.length<=18:=by
    have h1:=yv.jw.2.1
    have h2:=yv.num.1
    rw [adl,be,adm,gf] at h2
    have h3:((pins.take i).flatMap fun p=>p.ws).length+p.ws.length<=(pins.flatMap fun p=>p.ws).length:=by
     have e:pins=pins.take i++p::pins.drop (i+1):=by
      have lt:=(ir.mp hp).1
      have e2:=(ir.mp hp).2
      rw [<-e2,ag2,afs]
     have e3:=aaQ (fun l:List aD=>(l.flatMap fun p=>p.ws).length) e
     simp only [ael,adA,adl] at e3
     omega
    omega
   refine ⟨r,_,_,rfl,rfl,WG.jw.1,(by rw [be];omega),?_⟩
   have RN:=WG.push e9 lr nm
   have tr:bo H9 (upd H9 r (.lst (ls.map V.ref++[.ref l]))):=.list WG.jw.1
   have kk:∀b o,b≠r->H6 b=some o->(upd H9 r (.lst (ls.map V.ref++[.ref l]))) b=some o:=fun b o n e=>by rw [aj n];exact t69 _ _ e
   refine ⟨_,ls++[l],bU++[nZ],rfl,fun b o e=>?_,kk _ _ Vh l6,kk _ _ mr e6,(p6.same t69).aK tr,?_⟩
   ·exact kk _ _ (ak e nr) (s6 _ _ e)
   ·rw [take_snoc ew,ads,<-afT]
    exact RN
  ·rintro σ H6 ⟨o3,ls,bU,rfl,s6,l6,e6,p6,yv⟩
   refine ⟨_,_,ls,bU,rfl,s6,l6,?_⟩
   rw [lu,adH] at yv
   rw [take_snoc hp,ael]
   simpa [oa] using yv
 ·rintro σ H4 ⟨o2,o3,ls,bU,rfl,s4,l4,RR⟩
  rw [be,be,adH] at RR
  have R4:=R.same s4
  obtain ⟨dx,pP,pW,pB,kP,kW,kB,F4,W4⟩:=R4.ex
  refine ⟨_,rfl,a,C,dx,_,_,_,rfl,F4.obj,rfl,MB,a,dx,pP,pW,pB,_,_,kP,kW,kB,rfl,F4,fun lb H5 s5 nlb Vk=>?_⟩
  rw [qj] at Vk
  have bne:lb≠r:=fun z=>by rw [z,RR.jw.1] at nlb;cases nlb
  refine ⟨lb,rfl,⟨_,aR.of Vk⟩,bI (K:=K) (a:=lb) (xs:=(bars.map (·.nm)).map V.str) (fun i σ H'=>HX fun (o4 o5:ω) (ls:υ) (bU:Ζ)=>σ=[some (.ref a),some (.ref r),o2,o3,o4,o5]/\ao H H'/\H' lb=some (.lst ((bars.map (·.nm)).map V.str))/\ig K H' r ls bU ((pins.flatMap fun p=>oa pins p)++(bars.take i).map fun b=>cf (c6 b) pins)) ⟨none,none,ls,bU,rfl,s4.trans s5,Vk,by simpa using RR.same s5⟩ (fun i σ H' _ h=>by
    obtain ⟨_,_,_,_,_,_,h,_⟩:=h
    exact aR.of h) ?_ ?_⟩
  ·rintro i z σ H6 hi ⟨o4,o5,ls,bU,rfl,s6,l6,yv⟩
   rw [Wp,Wp] at hi
   obtain ⟨x,hx,rfl⟩:=ab_.mp hi
   obtain ⟨b,hb,rfl⟩:=ab_.mp hx
   have mb:b∈bars:=aam hb
   have il:=(ir.mp hb).1
   have R6:=R.same s6
   obtain ⟨dx,pP,pW,pB,kP,kW,kB,F6,W6⟩:=R6.ex
   refine ⟨_,rfl,a,C,dx,_,_,_,rfl,F6.obj,rfl,ME,_,rfl,a,dx,pP,pW,pB,_,_,kP,kW,kB,b.nm,b.one.nm,b.other.nm,rfl,F6,Tj g.nb,aat.mpr ⟨b,mb,rfl⟩,fun p rd=>?_⟩
   have tp:bM K H6 p [.str b.one.nm,.str b.other.nm]:=.inl rd
   obtain ⟨m1,m2,m3⟩:=g.ends b mb
   refine ⟨_,rfl,.inl ⟨rfl,_,aR.of yv.jw.1⟩,_,rfl,_,rfl,p,_,_,_,rfl,rfl,tp,ie,_,rfl,p,_,_,_,rfl,rfl,tp,gX,a,pins,bars,b,rfl,R6,g,m1,m2,m3,fun l nZ H9 t9 n9 e9 nm=>?_⟩
   have WG:=yv.same t9
   have lr:l≠r:=fun z=>by rw [z,yv.jw.1] at n9;cases n9
   have lss:ls.length<=32:=by
    have h1:=yv.jw.2.1
    have h2:=yv.num.1
    rw [adl,be,adm,gf] at h2
    have:=g.lb
    omega
   refine ⟨r,_,_,rfl,rfl,WG.jw.1,(by rw [be];omega),?_⟩
   have RN:=WG.push e9 lr nm
   have kk:∀c o,c≠r->H6 c=some o->(upd H9 r (.lst (ls.map V.ref++[.ref l]))) c=some o:=fun c o n e=>by rw [aj n];exact t9 _ _ e
   refine ⟨_,_,ls++[l],bU++[nZ],rfl,fun c o e=>kk _ _ (ak e nr) (s6 _ _ e),kk _ _ bne l6,?_⟩
   rw [take_snoc hb,ads,<-afT]
   exact RN
  ·rintro σ H6 ⟨o4,o5,ls,bU,rfl,s6,l6,yv⟩
   rw [be,be,adH] at yv
   exact ⟨_,rfl,q r ls bU H6 s6 nr yv⟩
theorem Nn {i j:Nat}(h:i<=j)(hj:j<=xs.length):iA xs (some (i:Int)) (some (j:Int))=(xs.drop i).take (j-i):=by
 unfold iA
 rw [HT.pZ,HT.pZ,agb hj,agb (show i<=xs.length by omega)]
theorem gC :∀{l:List α} {m:List β} (n:Nat),Paired R l m->Paired R (l.drop n) (m.drop n)
 | _,_,0,h=>h
 | _,_,_+1,.nil=>.nil
 | _,_,n+1,.cons _ t=>gC n t
theorem jd :∀{l:List α} {m:List β} (n:Nat),Paired R l m->Paired R (l.take n) (m.take n)
 | _,_,0,_=>.nil
 | _,_,_+1,.nil=>.nil
 | _,_,n+1,.cons h t=>.cons h (jd n t)
def aU (pins:ν):Nat:=(pins.flatMap fun p=>p.ws).length
theorem rn (ps:ν)(p:aD):aU (ps++[p])=aU ps+p.ws.length:=by
 unfold aU
 rw [ael,adl]
 simp
theorem BF (h:pins[i]?=some p):aU (pins.take i)+p.ws.length<=aU pins:=by
 have e:pins=pins.take i++p::pins.drop (i+1):=by
  have lt:=(ir.mp h).1
  have e2:=(ir.mp h).2
  rw [<-e2,ag2,afs]
 have e3:=aaQ (fun l:List aD=>(l.flatMap fun p=>p.ws).length) e
 simp only [ael,adA,adl] at e3
 unfold aU
 omega
structure PPR (K:Frag)(H H':Hp)(pins:ν)(bars:τ)(dT dU:aaz)(kT kU:γ)(T:Θ)(U:Α)(L:Str->aaz):Prop where
 nT:H dT=none
 nU:H dU=none
 ne:dT≠dU
 hT:H' dT=some (.dK kT)
 hU:H' dU=some (.dK kU)
 Km:kT.map (·.1)=bars.map (fun b=>(adR b.nm:Key))
 Kn:kU.map (·.1)=pins.map (fun p=>(adR p.nm:Key))
 tT:∀b∈bars,∃v,bF kT (.inr b.nm)=some v/\cZ K H' v (T b.nm)
 tU:∀p∈pins,∃vs,bF kU (.inr p.nm)=some (.ref (L p.nm))/\H (L p.nm)=none/\H' (L p.nm)=some (.lst vs)/\Paired (cZ K H') vs (U p.nm)
 lU:∀p∈pins,(U p.nm).length=p.ws.length
 inj:∀p∈pins,∀q∈pins,L p.nm=L q.nm->p.nm=q.nm
structure PuR (K:Frag)(H H':Hp)(pins:ν)(dU:aaz)(kU:γ)(U:Α)(L:Str->aaz):Prop where
 nU:H dU=none
 hU:H' dU=some (.dK kU)
 Kn:kU.map (·.1)=pins.map (fun p=>(adR p.nm:Key))
 tU:∀p∈pins,∃vs,bF kU (.inr p.nm)=some (.ref (L p.nm))/\H (L p.nm)=none/\H' (L p.nm)=some (.lst vs)/\Paired (cZ K H') vs (U p.nm)
 lU:∀p∈pins,(U p.nm).length=p.ws.length
 inj:∀p∈pins,∀q∈pins,L p.nm=L q.nm->p.nm=q.nm
inductive Vl (K:Frag)(C:aaz)(vs:η)(H:Hp)(Q:VK)(E_:XK):Prop
|mk (a nl:aaz)(pins:ν)(bars:τ)(us:η)(rs:Μ)(_:vs=[.ref a,.ref nl])(_:vw K H C a pins bars)(_:eC pins bars)(_:H nl=some (.lst us))(_:Paired (cZ K H) us rs)(_:rs.length=aU pins)(_:∀(U:Α)(L:Str->aaz)(p dT dU:aaz)(kU:γ)(H':Hp),ao H H' ->rs=(pins.flatMap fun p=>U p.nm)->H' p=some (.tup [.ref dT,.ref dU])->PuR K H H' pins dU kU U L->Q (.ref p) H')
theorem BG {ps:ν}{U W:Α}(h:∀p∈ps,U p.nm=W p.nm):(ps.flatMap fun p=>U p.nm)=ps.flatMap fun p=>W p.nm:=by
 induction ps with
 | nil=>rfl
 | cons p ps ih=>
  rw [adA,adA,h p adk,ih fun q hq=>h q (aaw _ hq)]
theorem rq:av ["F","numbers","pushes","at","pin","behind","pulls"] zaw (ae IF):=sq
theorem ZD (D:Def K mg "pulls_and_pushes" IF zaw)(aZ:mg "len"=none)(iF:mg "dict"=none)(gy:mg "zip"=none)(MP:bJ P w K mg base (aT P w) 1 C "pins" zae (jb K C))(MW:bJ P w K mg base (aT P w) 2 C "ways" zaj (rl K C))(MB:bJ P w K mg base (aT P w) 1 C "bars" zae (ja K C)):
  Fn P w K mg base (aT P w) 3 "pulls_and_pushes" zaw (Vl K C):=by
 refine D.op rq fun f bZ A outer s H vs Q E hr h=>?_
 obtain ⟨a,nl,pins,bars,us,rs,rfl,R,g,hn,hu,hl,q⟩:=h
 have lu:us.length=rs.length:=aaK hu
 have wl:aU pins<=2*pins.length:=mN pins g.lw
 have gl:=g.lp
 have gb:=g.lb
 refine ⟨_,(aa (aF (i:=2) rq.nd cL)
  (aa (aF (i:=3) rq.nd af)
  (aa (bg aaG rfl (a_ (dR (k:=1) (pv 0) hr.mo (pY P w))) (bN (i:=4) rq.nd) (aa (aF (i:=5) rq.nd (aw bG (pv 3) (aI aH rfl aZ cz (a9 (fB (k:=2) (pv 0) hr.mo (pY P w) (a9 (pv 4)))))))
   (aa (cE (bw hr) (pv 2) (pv 4) (cW eJ (pv 1) (dI (pv 3)) (dI (pv 5))) rfl)
   (ag (aF (i:=3) rq.nd (pv 5))))))
  (aa (aF (i:=6) rq.nd (MF rfl rfl iF rfl gy (aG (dR (k:=1) (pv 0) hr.mo (pY P w)) (cW eJ (pv 1) (dI (pv 3)) eI))))
  (ag (ay (aS (aG (pv 6) (pv 2))))))))),?_⟩
 intro dU nU
 have s1:=aA nU (.dK [])
 have e1:(upd H dU (.dK [])) dU=some (.dK []):=ah
 generalize upd H dU (.dK [])=H1 at s1 e1 ⊢
 have R1:=R.same s1
 obtain ⟨dx,pP,pW,pB,kP,kW,kB,F1,W1⟩:=R1.ex
 refine ⟨_,rfl,a,C,dx,_,_,_,rfl,F1.obj,rfl,MP,a,dx,pP,pW,pB,_,_,kP,kW,kB,rfl,F1,fun lp H2 s2 BE xp=>?_⟩
 rw [ip] at xp
 have tw:=s1.trans s2
 have Vh:lp≠dU:=fun z=>by rw [z,e1] at BE;cases BE
 refine ⟨lp,rfl,⟨_,aR.of xp⟩,bI (K:=K) (a:=lp) (xs:=(pins.map (·.nm)).map V.str) (fun i σ H'=>Yv fun (o4 o5:ω) (kU:γ) (U:Α) (L:Str->aaz)=>σ=[some (.ref a),some (.ref nl),some (.ref dU),some (.int (aU (pins.take i):Int)),o4,o5,none]/\ao H H'/\H' lp=some (.lst ((pins.map (·.nm)).map V.str))/\H' dU=some (.dK kU)/\kU.map (·.1)=(pins.take i).map (fun p=>(adR p.nm:Key))/\((pins.take i).flatMap fun p=>U p.nm)=rs.take (aU (pins.take i))/\
   (∀p∈pins.take i,∃vs,bF kU (.inr p.nm)=some (.ref (L p.nm))/\H (L p.nm)=none/\H' (L p.nm)=some (.lst vs)/\Paired (cZ K H') vs (U p.nm))/\(∀p∈pins.take i,(U p.nm).length=p.ws.length)/\(∀p∈pins.take i,∀q∈pins.take i,L p.nm=L q.nm->p.nm=q.nm))
   ⟨none,none,[],fun _=>[],fun _=>0,rfl,tw,xp,s2 _ _ e1,rfl,rfl,by simp,by simp,by simp⟩ (fun i σ H' _ h=>by
   obtain ⟨_,_,_,_,_,_,_,h,_⟩:=h
   exact aR.of h) ?_ ?_⟩
 ·rintro i z σ H4 hi ⟨o4,o5,kU,U,L,rfl,s4,l4,e4,ks,fl,tU,lU,inj⟩
  rw [Wp,Wp] at hi
  obtain ⟨x,hx,rfl⟩:=ab_.mp hi
  obtain ⟨p,hp,rfl⟩:=ab_.mp hx
  have mp:p∈pins:=aam hp
  have il:i<pins.length:=(ir.mp hp).1
  have R4:=R.same s4
  obtain ⟨dx,pP,pW,pB,kP,kW,kB,F4,W4⟩:=R4.ex
  have mpn:p.nm∈(pins.map fun p=>(p.nm,yc p.sp)).map (·.1):=by rw [ip];exact aat.mpr ⟨p,mp,rfl⟩
  refine ⟨_,rfl,_,rfl,a,C,dx,_,_,_,rfl,F4.obj,rfl,MW,_,rfl,a,dx,pP,pW,pB,_,_,kP,kW,kB,_,p.nm,p.ws,rfl,F4,W4,Ti g.np,aat.mpr ⟨p,mp,rfl⟩,mpn,fun m vs H5 s5 n5 e5 p5=>?_⟩
  have lv:vs.length=p.ws.length:=aaK p5
  refine ⟨m,_,rfl,.inl (aR.of e5),_,_,rfl,rfl,?_⟩
  have tk:=take_snoc hp
  have wn:aU (pins.take (i+1))=aU (pins.take i)+p.ws.length:=by rw [tk,rn]
  have wt:=BF hp
  have eb:(aU (pins.take i):Int)+((vs.length:Nat):Int)=((aU (pins.take (i+1)):Nat):Int):=by rw [wn,lv];omega
  have KU:=s4.trans s5
  have QL:=KU _ _ hn
  dsimp only
  rw [eb]
  refine ⟨_,rfl,_,rfl,_,rfl,_,rfl,_,rfl,nl,_,rfl,aR.of QL,?_⟩
  rw [Nn (by omega) (by omega)]
  intro m2 n6;generalize eX:upd _ m2 _=H6;have ⟨s6,e6⟩:=nw n6 eX
  have ZE:=s6 _ _ (s5 _ _ e4)
  have lk:kU.length<=9:=by
   have z:=aaQ aeV ks
   rw [be,be,adm] at z
   omega
  refine ⟨_,rfl,_,rfl,dU,_,rfl,gP.k (k:=.inr p.nm) ZE (ac_ (show kU.length<=1000 by omega) (by decide)),?_⟩
  have fresh:(adR p.nm:Key)∉kU.map (·.1):=by
   rw [ks]
   intro z
   obtain ⟨b',fC,U5⟩:=aat.mp z
   exact gS (nm:=aD.nm) g.np hp fC (adZ U5)
  have pk:putK kU (.inr p.nm) (.ref m2)=kU++[(.inr p.nm,.ref m2)]:=dw _ (bP fresh)
  have t6:bo H6 (upd H6 dU (.dK (putK kU (.inr p.nm) (.ref m2)))):=.dict ZE
  have EV:=s5.trans s6
  have md:m2≠dU:=fun z=>by rw [z,s5 _ _ e4] at n6;cases n6
  have kk:∀b o,b≠dU->H4 b=some o->(upd H6 dU (.dK (putK kU (.inr p.nm) (.ref m2)))) b=some o:=fun b o n e=>by rw [aj n];exact EV _ _ e
  have ne:∀p' ∈pins.take i,p'.nm≠p.nm:=fun p' g8 =>gS (nm:=aD.nm) g.np hp g8
  have vK :∀p' ∈pins.take (i+1),p' ∈pins.take i\/p'=p:=fun p' g8 =>by
   rw [tk] at g8
   rcases ado.mp g8 with h|h
   ·exact .inl h
   ·exact .inr (adi.mp h)
  have hold:∀p' ∈pins.take i,∃o,H4 (L p'.nm)=some o:=fun p' g8 =>by
   obtain ⟨vs,_,_,h,_⟩:=tU p' g8
   exact ⟨_,h⟩
  obtain ⟨U',hU1,hU2⟩:∃U':Str->List Rat,U' p.nm=(rs.drop (aU (pins.take i))).take p.ws.length/\∀x,x≠p.nm->U' x=U x:=⟨fun x=>if x=p.nm then (rs.drop (aU (pins.take i))).take p.ws.length else U x,aaC rfl,fun x h=>aaA h⟩
  obtain ⟨L',UZ,Te⟩:∃L':Str->aaz,L' p.nm=m2/\∀x,x≠p.nm->L' x=L x:=⟨fun x=>if x=p.nm then m2 else L x,aaC rfl,fun x h=>aaA h⟩
  refine ⟨_,rfl,_,_,putK kU (.inr p.nm) (.ref m2),U',L',rfl,fun b o e=>?_,kk _ _ Vh l4,ah,?_,?_,fun p' g8 =>?_,fun p' g8 =>?_,fun p' g8 q' m6 =>?_⟩
  ·rw [aj (ak e nU)]
   exact EV _ _ (s4 _ _ e)
  ·rw [pk,ads,ks,tk,ads]
   rfl
  ·rw [tk,ael,rn]
   rw [BG (U:=U') (W:=U) fun p' g8 =>hU2 _ (ne p' g8),fl]
   simp only [adA,amO,afl,hU1]
   rw [List.take_add]
  ·rw [jF]
   rcases vK p' g8 with h|h
   ·rw [aaA (fun z=>ne p' h (adZ z)),Te _ (ne p' h),hU2 _ (ne p' h)]
    obtain ⟨iH,h1,h2,h3,h4⟩:=tU p' h
    exact ⟨iH,h1,h2,kk _ _ (fun z=>by rw [z,e4] at h3;cases h3) h3,Paired.cF h4 fun _ _ z=>(z.same EV).aK t6⟩
   ·subst h
    rw [aaC rfl,UZ,hU1]
    refine ⟨_,rfl,(s4.trans s5).free n6,by rw [aj md];exact e6,?_⟩
    have a1:=jd (aU (pins.take (i+1))-aU (pins.take i)) (gC (aU (pins.take i)) hu)
    have a2:aU (pins.take (i+1))-aU (pins.take i)=p'.ws.length:=by omega
    rw [a2] at a1 ⊢
    exact Paired.cF a1 fun _ _ z=>((z.same s4).same EV).aK t6
  ·rcases vK p' g8 with h|h
   ·rw [hU2 _ (ne p' h)]
    exact lU p' h
   ·subst h
    rw [hU1,adm,afy]
    omega
  ·rcases vK p' g8 with h|h<;>rcases vK q' m6 with h'|h'
   ·rw [Te _ (ne p' h),Te _ (ne q' h')]
    exact inj p' h q' h'
   ·subst h'
    rw [Te _ (ne p' h),UZ]
    intro z
    obtain ⟨o,ho⟩:=hold p' h
    rw [z,s5.free n6] at ho
    cases ho
   ·subst h
    rw [Te _ (ne q' h'),UZ]
    intro z
    obtain ⟨o,ho⟩:=hold q' h'
    rw [<-z,s5.free n6] at ho
    cases ho
   ·intro _
    rw [h,h']
 ·rintro σ H4 ⟨o4,o5,kU,U,L,rfl,s4,l4,e4,ks,fl,tU,lU,inj⟩
  rw [be,be,adH] at ks fl tU lU inj
  have R4:=R.same s4
  obtain ⟨dx,pP,pW,pB,kP,kW,kB,F4,W4⟩:=R4.ex
  refine ⟨_,rfl,a,C,dx,_,_,_,rfl,F4.obj,rfl,MB,a,dx,pP,pW,pB,_,_,kP,kW,kB,rfl,F4,fun lb H5 s5 nlb Vk=>?_⟩
  rw [qj] at Vk
  have KU:=s4.trans s5
  refine ⟨_,rfl,_,rfl,_,rfl,nl,_,rfl,aR.of (KU _ _ hn),?_⟩
  have hw:aU pins<=us.length:=by omega
  rw [be,be,adH,iV hw]
  intro m2 n6;generalize eX:upd _ m2 _=H6;have ⟨s6,e6⟩:=nw n6 eX
  have eks:(bars.map (·.nm)).map V.str=(bars.map fun b=>(adR b.nm:Key)).map kV:=by
   rw [adu,adu]
   rfl
  rw [eks] at Vk
  refine ⟨lb,m2,bars.map fun b=>(adR b.nm:Key),us.drop (aU pins),rfl,s6 _ _ Vk,e6,by rw [be];omega,fun dT H7 s7 n7 e7=>?_⟩
  refine ⟨_,rfl,_,rfl,z2L,?_⟩
  intro pt n8;generalize eX:upd _ pt _=H8;have ⟨s8,e8⟩:=nw n8 eX
  have s58:=(s5.trans s6).trans (s7.trans s8)
  have ZF:=s4.trans s58
  have er:rs=pins.flatMap fun p=>U p.nm:=by rw [fl,adN (by omega)]
  refine q U L pt dT dU kU H8 ZF er e8 ⟨nU,s58 _ _ e4,ks,fun p hp=>?_,lU,inj⟩
  obtain ⟨iH,a1,a2,a3,a4⟩:=tU p hp
  exact ⟨iH,a1,a2,s58 _ _ a3,Paired.cF a4 fun _ _ z=>z.same s58⟩
inductive rA (K:Frag)(C:aaz)(vs:η)(H:Hp)(Q:VK)(E_:XK):Prop
|mk (a nl:aaz)(pins:ν)(bars:τ)(us:η)(rs:Μ)(_:vs=[.ref a,.ref nl])(_:vw K H C a pins bars)(_:eC pins bars)(_:H nl=some (.lst us))(_:Paired (cZ K H) us rs)(_:rs.length=2*pins.length)(_:∀(M:ψ)(d:aaz)(kM:γ)(H':Hp),ao H H' ->rs=(pins.flatMap fun p=>[(M p.nm).1,(M p.nm).2])->H d=none->H' d=some (.dK kM)->kM.map (·.1)=pins.map (fun p=>(adR p.nm:Key))->(∀p∈pins,∃t v1 v2,bF kM (.inr p.nm)=some (.ref t)/\H' t=some (.tup [v1,v2])/\cZ K H' v1 (M p.nm).1/\cZ K H' v2 (M p.nm).2)->Q (.ref d) H')
theorem yx {ps:ν}{U W:ψ}(h:∀p∈ps,U p.nm=W p.nm):(ps.flatMap fun p=>[(U p.nm).1,(U p.nm).2])=ps.flatMap fun p=>[(W p.nm).1,(W p.nm).2]:=by
 induction ps with
 | nil=>rfl
 | cons p ps ih=>
  rw [adA,adA,h p adk,ih fun q hq=>h q (aaw _ hq)]
theorem EX:av ["F","numbers","motion","at","pin"] zaw (ae IG):=sq
theorem ZG (D:Def K mg "motion_from" IG zaw)(fh:mg "enumerate"=none)(MP:bJ P w K mg base (aT P w) 1 C "pins" zae (jb K C)):
  Fn P w K mg base (aT P w) 2 "motion_from" zaw (rA K C):=by
 refine D.oo EX fun H hr h=>?_
 obtain ⟨a,nl,pins,bars,us,rs,rfl,R,g,hn,hu,hl,q⟩:=h
 have lu:us.length=rs.length:=aaK hu
 have gl:=g.lp
 refine ⟨_,(aa (aF (i:=2) EX.nd cL)
  (aa (bg aaG rfl (DW rfl fh (a9 (dR (k:=1) (pv 0) hr.mo (EK P w)))) (fM rfl (aY (bN (i:=3) EX.nd) (aY (bN (i:=4) EX.nd) de))) (ag (cE (bw hr) (pv 2) (pv 4) (aS (aG (bB aQ (pv 1) (aw bQ af (pv 3))) (bB aQ (pv 1) (aw bG (aw bQ af (pv 3)) af)))) rfl)))
  (ag (ay (pv 2))))),?_⟩
 intro d nd
 have s1:=aA nd (.dK [])
 have e1:(upd H d (.dK [])) d=some (.dK []):=ah
 generalize upd H d (.dK [])=H1 at s1 e1 ⊢
 have R1:=R.same s1
 obtain ⟨dx,pP,pW,pB,kP,kW,kB,F1,W1⟩:=R1.ex
 refine ⟨_,rfl,a,C,dx,_,_,_,rfl,F1.obj,rfl,MP,a,dx,pP,pW,pB,_,_,kP,kW,kB,rfl,F1,fun lp H2 s2 BE xp=>?_⟩
 rw [ip] at xp
 have tw:=s1.trans s2
 have Vh:lp≠d:=fun z=>by rw [z,e1] at BE;cases BE
 refine ⟨lp,rfl,⟨_,aR.of xp⟩,x5 (K:=K) (a:=lp) (xs:=(pins.map (·.nm)).map V.str) (fun i σ H'=>HX fun (o3 o4:ω) (kM:γ) (M:ψ)=>σ=[some (.ref a),some (.ref nl),some (.ref d),o3,o4]/\ao H H'/\H' lp=some (.lst ((pins.map (·.nm)).map V.str))/\H' d=some (.dK kM)/\kM.map (·.1)=(pins.take i).map (fun p=>(adR p.nm:Key))/\((pins.take i).flatMap fun p=>[(M p.nm).1,(M p.nm).2])=rs.take (2*i)/\
   (∀p∈pins.take i,∃t v1 v2,bF kM (.inr p.nm)=some (.ref t)/\H' t=some (.tup [v1,v2])/\cZ K H' v1 (M p.nm).1/\cZ K H' v2 (M p.nm).2))
   ⟨none,none,[],fun _=>(0,0),rfl,tw,xp,s2 _ _ e1,rfl,rfl,by simp⟩ (fun i σ H' _ h=>by
   obtain ⟨_,_,_,_,_,_,h,_⟩:=h
   exact aR.of h) ?_ ?_⟩
 ·rintro i z σ H4 p9 hi ⟨o3,o4,kM,M,rfl,s4,l4,e4,ks,fl,tM⟩ n9
  rw [Wp,Wp] at hi
  obtain ⟨x,hx,rfl⟩:=ab_.mp hi
  obtain ⟨p,hp,rfl⟩:=ab_.mp hx
  have il:i<pins.length:=(ir.mp hp).1
  have t9:=aA n9 (.tup [.int (i:Int),.str p.nm])
  have e9:(upd H4 p9 (.tup [.int (i:Int),.str p.nm])) p9=some (.tup [.int (i:Int),.str p.nm]):=ah
  generalize upd H4 p9 (.tup [.int (i:Int),.str p.nm])=H5 at t9 e9 ⊢
  refine ⟨p9,_,rfl,bM.of e9,rfl,_,_,rfl,_,_,rfl,rfl,?_⟩
  have KU:=s4.trans t9
  have QL:=KU _ _ hn
  have l1:2*i<us.length:=by omega
  have l2:2*i+1<us.length:=by omega
  have c2:oC 2 (i:Int):=⟨by decide+kernel,aav (intBits_le_64 (by omega) (by omega)) (by decide)⟩
  have a1:i0 us (2*(i:Int))=some us[2*i]:=by
   have:=bL (xs:=us) (j:=2*i) (gE l1)
   rw [show ((2*i:Nat):Int)=2*(i:Int) by omega] at this
   exact this
  have a2:i0 us (2*(i:Int)+1)=some us[2*i+1]:=by
   have:=bL (xs:=us) (j:=2*i+1) (gE l2)
   rw [show ((2*i+1:Nat):Int)=2*(i:Int)+1 by omega] at this
   exact this
  refine ⟨_,rfl,_,rfl,_,_,rfl,rfl,c2,nl,_,_,_,rfl,rfl,aR.of QL,a1,_,rfl,_,rfl,_,_,rfl,rfl,c2,_,_,rfl,rfl,nl,_,_,_,rfl,rfl,aR.of QL,a2,z2L,?_⟩
  intro t n6;generalize eX:upd _ t _=H6;have ⟨s6,e6⟩:=nw n6 eX
  have ZE:=s6 _ _ (t9 _ _ e4)
  have lk:kM.length<=9:=by
   have z:=aaQ aeV ks
   rw [be,be,adm] at z
   omega
  refine ⟨_,rfl,_,rfl,d,_,rfl,gP.k (k:=.inr p.nm) ZE (ac_ (show kM.length<=1000 by omega) (by decide)),?_⟩
  have fresh:(adR p.nm:Key)∉kM.map (·.1):=by
   rw [ks]
   intro z
   obtain ⟨b',fC,U5⟩:=aat.mp z
   exact gS (nm:=aD.nm) g.np hp fC (adZ U5)
  have pk:putK kM (.inr p.nm) (.ref t)=kM++[(.inr p.nm,.ref t)]:=dw _ (bP fresh)
  have t6:bo H6 (upd H6 d (.dK (putK kM (.inr p.nm) (.ref t)))):=.dict ZE
  have EV:=t9.trans s6
  have td:t≠d:=fun z=>by rw [z,t9 _ _ e4] at n6;cases n6
  have kk:∀b o,b≠d->H4 b=some o->(upd H6 d (.dK (putK kM (.inr p.nm) (.ref t)))) b=some o:=fun b o n e=>by rw [aj n];exact EV _ _ e
  have ne:∀p' ∈pins.take i,p'.nm≠p.nm:=fun p' g8 =>gS (nm:=aD.nm) g.np hp g8
  have tk:=take_snoc hp
  obtain ⟨r1,er1,hr1⟩:=aE hu (gE l1)
  obtain ⟨r2,er2,hr2⟩:=aE hu (gE l2)
  obtain ⟨M',hM1,hM2⟩:∃M':Str->Rat×Rat,M' p.nm=(r1,r2)/\∀x,x≠p.nm->M' x=M x:=⟨fun x=>if x=p.nm then (r1,r2) else M x,aaC rfl,fun x h=>aaA h⟩
  refine ⟨_,_,putK kM (.inr p.nm) (.ref t),M',rfl,fun b o e=>?_,kk _ _ Vh l4,ah,?_,?_,fun p' g8 =>?_⟩
  ·rw [aj (ak e nd)]
   exact EV _ _ (s4 _ _ e)
  ·rw [pk,ads,ks,tk,ads]
   rfl
  ·rw [tk,ael,yx (U:=M') (W:=M) fun p' g8 =>hM2 _ (ne p' g8),fl]
   simp only [adA,amO,afl,hM1]
   rw [show 2*(i+1)=2*i+1+1 by omega,adU,adU,er1,er2]
   simp
  ·rw [jF]
   rw [tk] at g8
   rcases ado.mp g8 with h|h
   ·rw [aaA (fun z=>ne p' h (adZ z)),hM2 _ (ne p' h)]
    obtain ⟨t',v1,v2,h1,h2,h3,h4⟩:=tM p' h
    exact ⟨t',v1,v2,h1,kk _ _ (fun z=>by rw [z,e4] at h2;cases h2) h2,(h3.same EV).aK t6,(h4.same EV).aK t6⟩
   ·rw [adi.mp h,aaC rfl,hM1]
    exact ⟨t,_,_,rfl,by rw [aj td];exact e6,((hr1.same KU).same s6).aK t6,((hr2.same KU).same s6).aK t6⟩
 ·rintro σ H4 ⟨o3,o4,kM,M,rfl,s4,l4,e4,ks,fl,tM⟩
  rw [be,be] at ks fl tM
  rw [adH] at ks fl tM
  rw [<-hl,adH] at fl
  exact ⟨_,rfl,q M d kM H4 s4 fl.symm nd e4 ks tM⟩
def dt (a b:Rat×Rat):Rat:=a.1*b.1+a.2*b.2
def sP (as bs:Μ):Rat:=(ad4 (·*·) as bs).sum
theorem fV (bs:Μ):sP [] bs=0:=by simp [sP]
theorem b9 (a b:Rat)(as bs:Μ):sP (a::as) (b::bs)=a*b+sP as bs:=by simp [sP]
theorem fW:∀{a c:Μ} (b d:Μ),a.length=c.length->sP (a++b) (c++d)=sP a c+sP b d
 | [],[],b,d,_=>by
  rw [ag4,ag4,fV]
  grind
 | x::a,y::c,b,d,h=>by
  rw [afD,afD,b9,b9,fW b d (by simpa using h)]
  grind
 | [],_::_,_,_,h=>by simp at h
 | _::_,[],_,_,h=>by simp at h
theorem j7:∀(ys cs:ο),g9 ys cs=sP (ys.map vl) (cs.map vl)
 | [],_=>by simp [g9,sP]
 | _::_,[]=>by simp [g9,sP]
 | y::ys,c::cs=>by rw [GV,aau,aau,b9,j7 ys cs]
theorem qk (F:ι)(M:ψ):∀pins:List aD,sP ((cf F pins).map vl) (pins.flatMap fun p=>[(M p.nm).1,(M p.nm).2])=(pins.map fun p=>dt (mv F p.nm) (M p.nm)).sum
 | []=>by simp [cf,sP]
 | p::ps=>by
  have ih:=qk F M ps
  unfold cf at ih ⊢
  rw [adA,adA,ads,fW _ _ (by simp),ih]
  simp only [aau,adM,dy,b9,fV,adw]
  unfold dt
  grind
theorem QU {pins:ν}(nd:(pins.map (·.nm)).Nodup)(hp:p∈pins){f:Θ}(h:∀q∈pins,q.nm≠p.nm->f q.nm=0):(pins.map fun q=>f q.nm).sum=f p.nm:=by
 induction pins with
 | nil=>simp at hp
 | cons q ps ih=>
  rw [aau,adQ] at nd
  rw [aau,adw]
  have zero:∀(l:ν),(∀r∈l,f r.nm=0)->(l.map fun q=>f q.nm).sum=0:=fun l hl=>by
   induction l with
   | nil=>simp
   | cons r l ihl=>
    rw [aau,adw,hl r adk,ihl fun s hs=>hl s (aaw _ hs)]
    grind
  by_cases e:q.nm=p.nm
  ·rw [e,zero ps fun r hr=>h r (aaw _ hr) fun z=>nd.1 (by rw [e,<-z];exact aat.mpr ⟨r,hr,rfl⟩)]
   grind
  ·rw [h q adk e]
   have g8 :p∈ps:=by
    rcases adD.mp hp with z|z
    ·exact aaM (by rw [z]) e
    ·exact z
   rw [ih nd.2 g8 fun r hr=>h r (aaw _ hr)]
   grind
theorem lG (x:Str)(w:Rat×Rat)(y:Str):mv (fK x w) y=if y=x then w else (0,0):=by
 unfold mv fK
 by_cases e:y=x
 ·rw [aaC e,aaC e]
  rfl
 ·rw [aaA e,aaA e]
  rfl
theorem j8 (m:Rat×Rat):dt (0,0) m=0:=by
 unfold dt
 grind
theorem vL {pins:ν}(nd:(pins.map (·.nm)).Nodup)(hp:p∈pins)(w:Rat×Rat)(M:ψ):(pins.map fun q=>dt (mv (fK p.nm w) q.nm) (M q.nm)).sum=dt w (M p.nm):=by
 rw [QU nd hp (f:=fun x=>dt (mv (fK p.nm w) x) (M x)) fun q _ e=>by rw [lG,aaA e];exact j8 _]
 rw [lG,aaC rfl]
theorem sum_add (f g:aD->Rat):∀l:List aD,(l.map fun q=>f q+g q).sum=(l.map f).sum+(l.map g).sum
 | []=>by
  simp only [adM,ad5]
  grind
 | p::l=>by
  rw [aau,adw,sum_add f g l,aau,aau,adw,adw]
  grind
def fk (M:ψ)(b:aV):Rat:=dt (ju b.one b.other) ((M b.other.nm).1-(M b.one.nm).1,(M b.other.nm).2-(M b.one.nm).2)
theorem Vm (b:aV)(h:b.one.nm≠b.other.nm)(x:Str)(m:Rat×Rat):dt (mv (c6 b) x) m=dt (mv (fK b.one.nm (ju b.one b.other)) x) m+dt (mv (fK b.other.nm (ju b.other b.one)) x) m:=by
 rw [lG,lG]
 unfold mv c6
 by_cases c1:x=b.one.nm
 ·rw [aaC c1,aaC c1,aaA (fun z=>h (c1.symm.trans z)),j8]
  show dt (ju b.one b.other) m=_
  grind
 ·rw [aaA c1,aaA c1,j8]
  by_cases c2:x=b.other.nm
  ·rw [aaC c2,aaC c2]
   show dt (ju b.other b.one) m=_
   grind
  ·rw [aaA c2,aaA c2,j8]
   show dt (0,0) m=_
   rw [j8]
   grind
theorem EY {pins:ν}(nd:(pins.map (·.nm)).Nodup)(b:aV)(h1:b.one∈pins)(h2:b.other∈pins)(h:b.one.nm≠b.other.nm)(M:ψ):(pins.map fun q=>dt (mv (c6 b) q.nm) (M q.nm)).sum= -(fk M b):=by
 have e:(pins.map fun q=>dt (mv (c6 b) q.nm) (M q.nm))=pins.map fun q=>dt (mv (fK b.one.nm (ju b.one b.other)) q.nm) (M q.nm)+dt (mv (fK b.other.nm (ju b.other b.one)) q.nm) (M q.nm):=adp fun q _=>Vm b h _ _
 rw [e,sum_add,vL nd h1,vL nd h2]
 unfold fk dt ju
 grind
structure BH (pins:ν)(bars:τ)(M:ψ):Prop where
 Vn:∀p∈pins,∀w∈p.ws,dt w (M p.nm)=0
 bars:∀b∈bars,fk M b=0
def oO (pins:ν)(L:ι)(M:ψ):Rat:=(pins.map fun p=>dt (mv L p.nm) (M p.nm)).sum
def fX (bars:τ)(T:Θ)(U:Α)(p:aD)(c:Rat×Rat->Rat):Rat:=sP (U p.nm) (p.ws.map c)+(bars.map fun b=>T b.nm*c (mv (c6 b) p.nm)).sum
def rC (pins:ν)(bars:τ)(T:Θ)(U:Α)(L:ι):Prop:=∀p∈pins,fX bars T U p (·.1)+(mv L p.nm).1=0/\fX bars T U p (·.2)+(mv L p.nm).2=0
theorem iq:∀(as:Μ) {α:Type} (l:List α),sP as (l.map fun _=>(0:Rat))=0
 | [],_,_=>fV _
 | _::_,_,[]=>by simp [sP]
 | a::as,_,x::l=>by
  rw [aau,b9,iq as l]
  grind
theorem EZ {U:Α}(c0:c (0,0)=0)(p:aD):∀(ps:ν),(ps.map (·.nm)).Nodup->(∀q∈ps,(U q.nm).length=q.ws.length)->(∀q∈ps,q.nm=p.nm->q=p)->
  sP (ps.flatMap fun q=>U q.nm) (ps.flatMap fun q=>q.ws.map fun w=>c (mv (fK q.nm w) p.nm))=if p.nm∈ps.map (·.nm) then sP (U p.nm) (p.ws.map c) else 0
 | [],_,_,_=>by simp [sP]
 | q::ps,nd,hl,inj=>by
  rw [aau,adQ] at nd
  have ih:=EZ c0 p ps nd.2 (fun r hr=>hl r (aaw _ hr)) fun r hr=>inj r (aaw _ hr)
  rw [adA,adA,fW _ _ (by rw [hl q adk,be]),ih,aau]
  by_cases e:q.nm=p.nm
  ·have eq:q=p:=inj q adk e
   subst eq
   have ec:(q.ws.map fun w=>c (mv (fK q.nm w) q.nm))=q.ws.map c:=adp fun w _=>by rw [lG,aaC rfl]
   rw [aaA nd.1,aaC adk,ec]
   grind
  ·have ec:(q.ws.map fun w=>c (mv (fK q.nm w) p.nm))=q.ws.map fun _=>(0:Rat):=adp fun w _=>by rw [lG,aaA (fun z=>e z.symm)];exact c0
   rw [ec,iq]
   by_cases hm:p.nm∈ps.map (·.nm)
   ·rw [aaC hm,aaC (aaw _ hm)]
    grind
   ·rw [aaA hm,aaA (fun z=>by
     rcases adD.mp z with z|z
     ·exact e z.symm
     ·exact hm z)]
    grind
theorem BI {α:Type}(f g:α->Rat):∀l:List α,sP (l.map f) (l.map g)=(l.map fun x=>f x*g x).sum
 | []=>by simp [sP]
 | x::l=>by rw [aau,aau,b9,BI f g l,aau,adw]
theorem QV {pins:ν}{bars:τ}{T:Θ}{U:Α}{c:Rat×Rat->Rat}(c0:c (0,0)=0)(nd:(pins.map (·.nm)).Nodup)(hl:∀q∈pins,(U q.nm).length=q.ws.length)(hp:p∈pins)(y:Rat):
  sP ((pins.flatMap fun q=>U q.nm)++bars.map (fun b=>T b.nm)++[y]) (((pins.flatMap fun q=>q.ws.map fun w=>c (mv (fK q.nm w) p.nm))++bars.map fun b=>c (mv (c6 b) p.nm))++[c (mv L p.nm)])=fX bars T U p c+y*c (mv L p.nm):=by
 have l1:(pins.flatMap fun q=>U q.nm).length=(pins.flatMap fun q=>q.ws.map fun w=>c (mv (fK q.nm w) p.nm)).length:=by
  clear hp nd
  induction pins with
  | nil=>rfl
  | cons q ps ih=>rw [adA,adA,adl,adl,ih fun r hr=>hl r (aaw _ hr),hl q adk,be]
 rw [fW _ _ (by rw [adl,adl,l1,be,be]),fW _ _ l1,EZ c0 p pins nd hl fun q hq e=>UO (nm:=aD.nm) nd hq hp e,aaC (aat.mpr ⟨p,hp,rfl⟩),BI,b9,fV]
 unfold fX
 grind
theorem vM (F:ι):∀{pins:ν} {k:Nat} {p:aD},pins[k]?=some p->vl ((cf F pins).getD (2*k) (0,1))=(mv F p.nm).1/\vl ((cf F pins).getD (2*k+1) (0,1))=(mv F p.nm).2
 | q::ps,0,p,h=>by
  cases h
  unfold cf
  rw [adA]
  exact ⟨dy _,dy _⟩
 | q::ps,k+1,p,h=>by
  have ih:=vM F (pins:=ps) (k:=k) (p:=p) (by simpa using h)
  unfold cf at ih ⊢
  rw [adA]
  exact ih
theorem Ko (pins:ν)(bars:τ)(L:ι){k:Nat}(h:pins[k]?=some p)(j:Nat)(c:Rat×Rat->Rat)(hj:∀F,vl ((cf F pins).getD j (0,1))=c (mv F p.nm)):
  (cR (f' pins bars++[cf L pins]) j).map vl=((pins.flatMap fun q=>q.ws.map fun w=>c (mv (fK q.nm w) p.nm))++bars.map fun b=>c (mv (c6 b) p.nm))++[c (mv L p.nm)]:=by
 have flat:∀ps:List aD,((ps.flatMap fun q=>oa pins q).map fun qs=>vl (qs.getD j (0,1)))=ps.flatMap fun q=>q.ws.map fun w=>c (mv (fK q.nm w) p.nm):=fun ps=>by
  induction ps with
  | nil=>rfl
  | cons q ps ih=>
   rw [adA,adA,ads,ih]
   congr 1
   unfold oa
   rw [adu]
   exact adp fun w _=>hj _
 unfold cR f'
 rw [adu,ads,ads,aau,adM]
 congr 1
 ·congr 1
  ·exact flat pins
  ·rw [adu]
   exact adp fun b _=>hj _
 ·rw [<-hj]
  rfl
theorem d0 (h:1<=k):Sz k 0:=by
 have:=qX (i:=0) (k:=k) (by simpa using amX k) h
 simpa using this
structure Zb (n:Nat)(r:Rat):Prop where
 top:(qr r).1.natAbs<=2^n
 bot:(qr r).2.natAbs<=2^n
theorem Tn (h:Sm T B q):q=qr (vl q):=uH h.pos h.low
theorem To (h:Sz k r)(h2:k<=50):Sm 50 50 (qr r):=
 ⟨cA r,nN r,ad' (adB (intBits_le_iff.mp h.top) (adF (by decide) h2)),ad' (adB (intBits_le_iff.mp h.bot) (adF (by decide) h2))⟩
theorem FA (h:∀x,Sz 50 (mv F x).1/\Sz 50 (mv F x).2)(pins:ν):∀q∈cf F pins,Sm 50 50 q:=fun q hq=>by
 unfold cf at hq
 obtain ⟨p,_,hq⟩:=aee.mp hq
 have z:=h p.nm
 rcases adD.mp hq with e|hq
 ·rw [e]
  exact To z.1 (aa_ _)
 ·rw [adi.mp hq]
  exact To z.2 (aa_ _)
theorem Vo {w:Rat×Rat}(h:Sz 50 w.1/\Sz 50 w.2)(y:Str):Sz 50 (mv (fK x w) y).1/\Sz 50 (mv (fK x w) y).2:=by
 rw [lG]
 by_cases c:y=x
 ·rw [aaC c]
  exact h
 ·rw [aaA c]
  exact ⟨d0 (by decide),d0 (by decide)⟩
theorem BJ (g:eC pins bars)(hb:b∈bars)(y:Str):Sz 50 (mv (c6 b) y).1/\Sz 50 (mv (c6 b) y).2:=by
 obtain ⟨m1,m2,_⟩:=g.ends b hb
 have z1:=g.sz _ m1
 have z2:=g.sz _ m2
 unfold mv c6
 by_cases c1:y=b.one.nm
 ·rw [aaC c1]
  exact ⟨(z2.1.sub z1.1).up (by decide),(z2.2.1.sub z1.2.1).up (by decide)⟩
 ·rw [aaA c1]
  by_cases c2:y=b.other.nm
  ·rw [aaC c2]
   exact ⟨(z1.1.sub z2.1).up (by decide),(z1.2.1.sub z2.2.1).up (by decide)⟩
  ·rw [aaA c2]
   exact ⟨d0 (by decide),d0 (by decide)⟩
theorem lH (g:eC pins bars):∀qs∈f' pins bars,qs.length=2*pins.length/\∀q∈qs,Sm 50 50 q:=fun qs hq=>by
 unfold f' at hq
 rcases ado.mp hq with h|h
 ·obtain ⟨p,hp,h⟩:=aee.mp h
  unfold oa at h
  obtain ⟨w,hw,rfl⟩:=aat.mp h
  have z:=(g.sz p hp).2.2 w hw
  exact ⟨cM _ _,FA (Vo ⟨z.1.up (by decide),z.2.up (by decide)⟩) pins⟩
 ·obtain ⟨b,hb,rfl⟩:=aat.mp h
  exact ⟨cM _ _,FA (BJ g hb) pins⟩
theorem mO :∀{us:η} {qs:ο},cH K H us qs->(∀q∈qs,Sm T B q)->Paired (cZ K H) us (qs.map vl)
 | [],[],_,_=>.nil
 | u::us,q::qs,h,hs=>by
  refine .cons ?_ (mO ⟨by simpa using h.1,fun i u q e1 e2=>h.2 (i+1) u q (by simpa using e1) (by simpa using e2)⟩ fun r hr=>hs r (aaw _ hr))
  have n:=h.2 0 u q rfl rfl
  show iS K H u (qr (vl q))
  rw [<-Tn (hs q adk)]
  exact n
 | [],_::_,h,_=>(nomatch h.1)
 | _::_,[],h,_=>(nomatch h.1)
structure MoR (K:Frag)(H H':Hp)(pins:ν)(d:aaz)(kM:γ)(M:ψ):Prop where
 nM:H d=none
 hM:H' d=some (.dK kM)
 keys:kM.map (·.1)=pins.map (fun p=>(adR p.nm:Key))
 tM:∀p∈pins,∃t v1 v2,bF kM (.inr p.nm)=some (.ref t)/\H' t=some (.tup [v1,v2])/\cZ K H' v1 (M p.nm).1/\cZ K H' v2 (M p.nm).2
theorem d_ {α:Type}{l:List α}(h:l.Nodup){i j:Nat}{x:α}(hi:l[i]?=some x)(hj:l[j]?=some x):i=j:=by
 obtain ⟨i1,i2⟩:=ir.mp hi
 obtain ⟨j1,j2⟩:=ir.mp hj
 exact (amG h).mp (i2.trans j2.symm)
theorem oh :∀{us:η} {zs:List α},us.length=zs.length->(∀(i:Nat)(u:V),us[i]?=some u->∃z,zs[i]?=some z/\R u z)->Paired R us zs
 | [],[],_,_=>.nil
 | u::us,z::zs,l,h=>by
  obtain ⟨z',e,hz⟩:=h 0 u rfl
  cases e
  exact .cons hz (oh (by simpa using l) fun i u e=>h (i+1) u (by simpa using e))
theorem rE {α β:Type}(f:α->β->Rat)(bs:List β):∀as:List α,(as.map fun a=>(bs.map fun b=>f a b).sum).sum=(bs.map fun b=>(as.map fun a=>f a b).sum).sum
 | []=>by
  induction bs with
  | nil=>rfl
  | cons b bs ih=>
   rw [aau,adw,<-ih]
   simp only [adM,ad5]
   grind
 | a::as=>by
  rw [aau,adw,rE f bs as]
  clear rE
  induction bs with
  | nil=>
   simp only [adM,ad5]
   grind
  | cons b bs ih=>
   simp only [aau,adw] at ih ⊢
   grind
theorem qm {α:Type}(t:Rat)(f:α->Rat):∀l:List α,(l.map fun a=>t*f a).sum=t*(l.map f).sum
 | []=>by
  simp only [adM,ad5]
  grind
 | a::l=>by
  rw [aau,adw,aau,adw,qm t f l]
  grind
theorem sum_neg {α:Type}(f:α->Rat):∀l:List α,(l.map fun a=> -(f a)).sum= -(l.map f).sum
 | []=>by
  simp only [adM,ad5]
  grind
 | a::l=>by
  rw [aau,adw,aau,adw,sum_neg f l]
  grind
theorem Tp (m:Rat×Rat):∀(us:Μ)(ws:Λ),sP us (ws.map (·.1))*m.1+sP us (ws.map (·.2))*m.2=sP us (ws.map fun w=>dt w m)
 | [],_=>by
  simp only [fV]
  grind
 | _::_,[]=>by
  simp [sP]
  grind
 | u::us,w::ws=>by
  have ih:=Tp m us ws
  simp only [aau,b9]
  unfold dt at ih ⊢
  grind
theorem FC (T:Θ)(p:aD)(m:Rat×Rat):∀bars:List aV,(bars.map fun b=>T b.nm*(mv (c6 b) p.nm).1).sum*m.1+(bars.map fun b=>T b.nm*(mv (c6 b) p.nm).2).sum*m.2=(bars.map fun b=>T b.nm*dt (mv (c6 b) p.nm) m).sum
 | []=>by
  simp only [adM,ad5]
  grind
 | b::bars=>by
  have ih:=FC T p m bars
  simp only [aau,adw]
  unfold dt at ih ⊢
  grind
theorem QW {ws:Λ}(us:Μ)(h:∀w∈ws,dt w m=0):sP us (ws.map fun w=>dt w m)=0:=by
 have:(ws.map fun w=>dt w m)=ws.map fun _=>(0:Rat):=adp h
 rw [this]
 exact iq us ws
theorem Vp (g:eC pins bars)(h:rC pins bars T U L)(hw:∀p∈pins,∀w∈p.ws,dt w (M p.nm)=0):oO pins L M=(bars.map fun b=>T b.nm*fk M b).sum:=by
 have e1:∀p∈pins,dt (mv L p.nm) (M p.nm)= -((bars.map fun b=>T b.nm*dt (mv (c6 b) p.nm) (M p.nm)).sum):=fun p hp=>by
  obtain ⟨r1,r2⟩:=h p hp
  unfold fX at r1 r2
  have a:=Tp (M p.nm) (U p.nm) p.ws
  rw [QW _ (hw p hp)] at a
  have b:=FC T p (M p.nm) bars
  rw [<-b]
  unfold dt
  grind
 unfold oO
 rw [adp e1,sum_neg,rE (fun (p:aD) (b:aV)=>T b.nm*dt (mv (c6 b) p.nm) (M p.nm)) bars pins]
 have e2:∀b∈bars,(pins.map fun p=>T b.nm*dt (mv (c6 b) p.nm) (M p.nm)).sum= -(T b.nm*fk M b):=fun b hb=>by
  obtain ⟨m1,m2,m3⟩:=g.ends b hb
  rw [qm (T b.nm) (fun p:aD=>dt (mv (c6 b) p.nm) (M p.nm)) pins,EY g.np b m1 m2 m3]
  grind
 rw [adp e2,sum_neg]
 grind
theorem Np (g:eC pins bars)(h:rC pins bars T U L)(mo:BH pins bars M)(w:oO pins L M=1):False:=by
 have e:=Vp g h mo.Vn
 have:(bars.map fun b=>T b.nm*fk M b)=bars.map fun b=>0*T b.nm:=adp fun b hb=>by
  rw [mo.bars b hb]
  grind
 rw [this,qm 0 (fun b:aV=>T b.nm)] at e
 grind
inductive vN (K:Frag)(vs:η)(H:Hp)(Q:VK)(E_:XK):Prop
|mk (l:aaz)(us:η)(rs:Μ)(_:vs=[.ref l])(_:H l=some (.lst us))(_:Paired (cZ K H) us rs)(_:us.length<=100)(_:∀(l':aaz)(nZ :η)(H':Hp),ao H H' ->H' l'=some (.lst nZ)->Paired (cZ K H') nZ (rs.map fun r=> -r)->Q (.ref l') H')
theorem ZH:av zaS zaS (ae IH):=sq
theorem ZI (D:Def K mg "signs_turned" IH zaS):Fn P w K mg base (aT P w) 1 "signs_turned" zaS (vN K):=by
 refine D.oo ZH fun H hr h=>?_
 obtain ⟨l,us,rs,rfl,hl,pp,ln,q⟩:=h
 have lu:=aaK pp
 refine ⟨_,(ag (ay (eK (tn:=["number"]) (fr:=[]) (caps:=[]) (a_ (pv 0)) (aS (aG (SO LA (bB (dS (K:=K) rfl) (pv 0) af)) (bB (dS (K:=K) rfl) (pv 0) af)))))),_,rfl,l,rfl,⟨_,aR.of hl⟩,fun D1 n1=>?_⟩
 refine dB (cap:=[]) (K:=K) (a:=l) (xs:=us) (fun i v H'=>∃r,rs[i]?=some r/\cZ K H' v (-r)) n1 (ac_ ln (by decide)) (fun H2 s2=>aR.of (s2 _ _ hl)) (fun i v H6 H7 ys e ks ⟨r,h1,h2⟩=>⟨r,h1,h2.aK (bo.ks e ks)⟩) ?_ ?_
 ·intro i u H2 R hu s2 k
  obtain ⟨r,er,hr⟩:=aE pp hu
  obtain ⟨p,rfl,hq⟩:iS K H2 u (qr r):=hr.same s2
  refine ⟨_,rfl,p,_,_,_,rfl,rfl,hq,ie,_,rfl,_,rfl,p,_,_,_,rfl,rfl,hq,gX,z2L,?_⟩
  intro p3 n3;generalize eX:upd _ p3 _=H3;have ⟨s3,e3⟩:=nw n3 eX
  refine k _ _ s3 ⟨r,er,p3,rfl,?_⟩
  rw [AQ]
  exact bM.of e3
 ·intro ys H2 ly hy s2 hD
  refine q D1 ys H2 s2 hD (oh (by rw [ly,lu,be]) fun i v e=>?_)
  obtain ⟨r,er,hr⟩:=hy i v e
  exact ⟨-r,by rw [Wp,er];rfl,hr⟩
inductive jL (K:Frag)(C:aaz)(vs:η)(H:Hp)(Q:VK)(E_:XK):Prop
|mk (a dx pP pW pB d:aaz)(ps:Ι)(bs:Β)(kP kW kB kvs:γ)(_:vs=[.ref a,.ref d])(_:gI K H C a dx pP pW pB ps bs kP kW kB)(_:H d=some (.dK kvs))(_:(∀kv∈kvs,∃x∈bs.map (·.1),kv.1=.inr x))(_:bs.length<=60)(_:∀H',ao H H' ->Q .cS H')
theorem iG:av ["F","told","bars","bar"] ["F","told"] (ae dW):=sq
theorem tD (D:Def K mg "check_bars" dW ["F","told"])(MB:bJ P w K mg base (aT P w) 1 C "bars" zae (ja K C)):Fn P w K mg base (aT P w) 2 "check_bars" ["F","told"] (jL K C):=by
 refine D.oo iG fun H hr h=>?_
 obtain ⟨a,dx,pP,pW,pB,d,ps,bs,kP,kW,kB,kvs,rfl,R,hd,hk,hl,q⟩:=h
 refine ⟨_,(aa (aF (i:=2) iG.nd (dR (k:=1) (pv 0) hr.mo (EK P w)))
  (ag (jZ (bg aaG rfl (DY (pv 1)) (bN (i:=3) iG.nd) (ag (bq (pU mf (pv 3) (pv 2) rfl) (ag (cU)) aL)))))),?_⟩
 refine ⟨_,rfl,a,C,dx,_,_,_,rfl,R.obj,rfl,MB,a,dx,pP,pW,pB,ps,bs,kP,kW,kB,rfl,R,fun l H1 s1 nl el=>?_⟩
 have Ni:=s1 _ _ hd
 refine ⟨_,rfl,d,kvs,rfl,Ni,fun o=>?_⟩
 have k0:bS d H1 (upd H1 d (.fq o (.dK kvs))):=fun b o' n e=>by rw [aj n];exact e
 have ld:l≠d:=fun z=>by rw [z,Ni] at el;cases el
 refine x8 (d:=d) (o:=o) (kvs:=kvs) (fun t σ H'=>∃(o2:ω),σ=[some (.ref a),some (.ref d),some (.ref l),o2]/\H'=upd H1 d (.fq o (.dK kvs))) ⟨none,rfl,rfl⟩ (fun t σ H' _ h=>by
   obtain ⟨_,_,rfl⟩:=h
   exact ah) ?_ ?_
 ·rintro t k y σ H6 uO ⟨o2,rfl,rfl⟩
  obtain ⟨x,hx,ex⟩:=hk _ (aam uO)
  have zF :k=.inr x:=ex
  subst zF
  refine ⟨_,rfl,_,rfl,l,_,rfl,.inl (aR.of (by rw [aj ld];exact el)),rfl,uG _,_,rfl,bu (fun c=>?_) (fun _=>⟨_,rfl,rfl⟩)⟩
  have c':(!Wr (.str x) ((bs.map (·.1)).map V.str))=true:=c
  rw [qW,aaS hx] at c'
  cases c'
 ·rintro σ H6 ⟨o2,rfl,rfl⟩
  refine ⟨d,o,kvs,ah,fun o' u' z=>(by have z':H d=some (.fq o' u'):=z;rw [hd] at z';cases z'),q _ fun b o' e=>?_⟩
  by_cases n:b=d
  ·subst n
   rw [hd] at e
   rw [ah]
   exact e
  ·rw [aj n,aj n]
   exact s1 _ _ e
theorem oi :∀{l₁:List α} {l₂:List β} {a:α} {b:β},Paired F l₁ l₂->F a b->Paired F (l₁++[a]) (l₂++[b])
 | _,_,_,_,.nil,h=>.cons h .nil
 | _,_,_,_,.cons h t,h'=>.cons h (oi t h')
def fE (G:χ)(x:Str):Int×Int:=(G x).getD (1,1)
def eQ (G:χ)(x:Str):Int×Int:=(G x).getD (0,1)
inductive je (K:Frag)(C:aaz)(vs:η)(H:Hp)(Q:VK)(E_:XK):Prop
|mk (a dx pP pW pB d:aaz)(ps:Ι)(bs:Β)(kP kW kB kvs:γ)(G:χ)(_:vs=[.ref a,.ref d])(_:gI K H C a dx pP pW pB ps bs kP kW kB)(_:H d=some (.dK kvs))(_:xo K H kvs G)(_:(∀kv∈kvs,∃x∈bs.map (·.1),kv.1=.inr x))(_:bs.length<=60)(_:(bs.map (·.1)).Nodup)(_:(∀x,0<(fE G x).1))(_:∀(e:aaz)(kq :γ)(H':Hp),ao H H' ->H e=none->H' e=some (.dK kq)->Paired (fun (kv:Key×V) x=>kv.1=.inr x/\iS K H' kv.2 (fE G x)) kq (bs.map (·.1))->Q (.ref e) H')
theorem gD:av ["F","grips","firm","bar","grip"] zaO (ae eZ):=sq
theorem vO (hO:∀H:Hp,bM K H aO [.int 1,.int 1])(Vq:mg "ONE"=some (.ref aO))(D:Def K mg "all_grips" eZ zaO)(MB:bJ P w K mg base (aT P w) 1 C "bars" zae (ja K C))
  (vP:Fn P w K mg base (aT P w) 2 "check_bars" ["F","told"] (jL K C)):Fn P w K mg base (aT P w) 3 "all_grips" zaO (je K C):=by
 refine D.oo gD fun H hr h=>?_
 obtain ⟨a,dx,pP,pW,pB,d,ps,bs,kP,kW,kB,kvs,G,rfl,R,hd,hG,hk,hl,nd,hp,q⟩:=h
 refine ⟨_,(aa (bX (aJ vP hr (aG (pv 0) (pv 1))))
  (aa (aF (i:=2) gD.nd cL)
  (aa (bg aaG rfl (a_ (dR (k:=1) (pv 0) hr.mo (EK P w))) (bN (i:=3) gD.nd) (aa (aF (i:=4) gD.nd (iQ (bw hr) (pv 1) (pv 3) (dP (v:=.ref aO) rfl Vq rfl) ⟨rfl,rfl,rfl,rfl⟩))
   (aa (bq (bx Xo (aC (pv 4)) af) (ag (cU)) aL)
   (ag (cE (bw hr) (pv 2) (pv 3) (pv 4) rfl)))))
  (ag (ay (pv 2)))))),?_⟩
 refine ⟨_,rfl,_,rfl,a,dx,pP,pW,pB,d,ps,bs,kP,kW,kB,kvs,rfl,R,hd,hk,hl,fun H1 s1=>?_⟩
 intro e ne
 have s2:=aA ne (.dK [])
 have lY:ao H (upd H1 e (.dK [])):=fun b o z=>s2 _ _ (s1 _ _ z)
 have R2:=R.same lY
 have e2:(upd H1 e (.dK [])) e=some (.dK []):=ah
 have ne':H e=none:=by
  cases z:H e with
  | none=>rfl
  | some o=>rw [s1 _ _ z] at ne;cases ne
 generalize upd H1 e (.dK [])=H2 at lY R2 e2 ⊢
 refine ⟨_,rfl,a,C,dx,_,_,_,rfl,R2.obj,rfl,MB,a,dx,pP,pW,pB,ps,bs,kP,kW,kB,rfl,R2,fun l H3 s3 nl el=>?_⟩
 refine ⟨l,rfl,⟨_,aR.of el⟩,bI (K:=K) (a:=l) (xs:=(bs.map (·.1)).map V.str) (fun i σ H'=>EJ fun (o3 o4:ω) (tE :γ)=>σ=[some (.ref a),some (.ref d),some (.ref e),o3,o4]/\ao H H'/\H' l=some (.lst ((bs.map (·.1)).map V.str))/\H' e=some (.dK tE)/\Paired (fun (kv:Key×V) x=>kv.1=.inr x/\iS K H' kv.2 (fE G x)) tE ((bs.map (·.1)).take i)) ⟨none,none,[],rfl,fun b o z=>s3 _ _ (lY _ _ z),el,s3 _ _ e2,.nil⟩ (fun i σ H' _ h=>by
   obtain ⟨_,_,_,_,_,h,_⟩:=h
   exact aR.of h) ?_ ?_⟩
 ·rintro i z σ H4 hi ⟨o3,o4,tE,rfl,s4,l4,e4,WH⟩
  have afS:=aaK WH
  rw [adm,be] at afS
  rw [Wp] at hi
  obtain ⟨x,ex,rfl⟩:=ab_.mp hi
  have hil:i<(bs.map (·.1)).length:=(ir.mp ex).1
  rw [be] at hil
  have hx:x∈bs.map (·.1):=aam ex
  have d4:=s4 _ _ hd
  have G4:=hG.same s4
  have O4:iS K H4 (.ref aO) (1,1):=⟨aO,rfl,hO H4⟩
  have g4:=G4.AO (x:=x) O4
  refine ⟨_,rfl,d,rfl,.inl ⟨_,.inl d4⟩,_,rfl,_,cG.k (k:=.inr x) d4,?_⟩
  obtain ⟨p,ep,hp4⟩:=id g4
  rw [ep]
  refine ⟨_,rfl,p,_,_,_,rfl,rfl,hp4,ie,_,_,rfl,rfl,_,rfl,?_⟩
  have pos:0<((G x).getD (1,1)).1:=hp x
  refine bu (fun c=>aaM (aaU c) (by omega)) (fun _=>?_)
  refine ⟨_,rfl,_,rfl,_,rfl,e,_,rfl,gP.k (k:=.inr x) e4 (ac_ (show tE.length<=1000 by omega) (by decide)),?_⟩
  have fresh:(adR x:Key)∉tE.map (·.1):=fun z=>by
   obtain ⟨kv,Vr,uO⟩:=aat.mp z
   obtain ⟨j,ej⟩:=adj Vr
   obtain ⟨y,ey,e1,_⟩:=aE WH ej
   rw [e1] at uO
   have ex2:y=x:=adZ uO
   rw [ex2] at ey
   have hj:j<i:=by
    have:=(ir.mp ey).1
    rw [adm] at this
    omega
   rw [adX hj] at ey
   have:=(aeC (by have:=(ir.mp ey).1;exact this) nd).mp (ey.trans ex.symm)
   omega
  refine ⟨_,_,_,rfl,fun b o z=>?_,?_,ah,?_⟩
  ·rw [aj (ak z ne')]
   exact s4 _ _ z
  ·rw [aj (fun z=>by rw [z,e4] at l4;cases l4)]
   exact l4
  ·rw [dw _ (bP fresh),adU,ex]
   have t4:bo H4 (upd H4 e (.dK (tE ++[(.inr x,.ref p)]))):=.dict e4
   refine oi (Paired.cF WH fun _ _ z=>⟨z.1,z.2.aK t4⟩) ⟨rfl,?_⟩
   exact (show iS K H4 (.ref p) (fE G x) from (by rw [<-ep];exact g4)).aK t4
 ·rintro σ H4 ⟨o3,o4,tE,rfl,s4,l4,e4,WH⟩
  rw [adN (by simp)] at WH
  exact ⟨_,rfl,q e tE H4 s4 ne' e4 WH⟩
def QX (M:ι)(b:aV):Rat:=Y5 (ju b.one b.other) ((mv M b.other.nm).1-(mv M b.one.nm).1,(mv M b.other.nm).2-(mv M b.one.nm).2)
inductive Nq (K:Frag)(C:aaz)(vs:η)(H:Hp)(Q:VK)(E_:XK):Prop
|mk (a d:aaz)(pins:ν)(bars:τ)(kvs:γ)(M:ι)(_:vs=[.ref a,.ref d])(_:vw K H C a pins bars)(_:eC pins bars)(_:H d=some (.dK kvs))(_:My K H kvs M)(_:(∀x,Sz 700000 (mv M x).1/\Sz 700000 (mv M x).2))(_:∀(e:aaz)(kq :γ)(H':Hp),ao H H' ->H e=none->H' e=some (.dK kq)->kq.map (·.1)=bars.map (fun b=>(adR b.nm:Key))->(∀b∈bars,∃v,bF kq (.inr b.nm)=some v/\cZ K H' v (QX M b))->Q (.ref e) H')
theorem dz:av ["F","motion","longer","bar","two","apart"] zaR (ae cX):=sq
theorem pM (hM:∀H:Hp,gu K H (.ref aM) (0,0))(BD:mg "NO_MOVE"=some (.ref aM))(D:Def K mg "lengthenings" cX zaR)(MB:bJ P w K mg base (aT P w) 1 C "bars" zae (ja K C))(ME:bJ P w K mg base (aT P w) 1 C "ends" zaM (rj K C))
  (QT:Fn P w K mg base (aT P w) 36 "arm_between" zak (EW K C)) (Vg:Fn P w K mg base (aT P w) 35 "pair_difference" zab (vG K fun a b=>a-b)) (rF:Fn P w K mg base (aT P w) 35 "pair_product" zab (Nd K)):
  Fn P w K mg base (aT P w) 37 "lengthenings" zaR (Nq K C):=by
 refine D.oo dz fun H hr h=>?_
 obtain ⟨a,d,pins,bars,kvs,M,rfl,R,g,hd,hP,zM,q⟩:=h
 refine ⟨_,(aa (aF (i:=2) dz.nd cL)
  (aa (bg aaG rfl (a_ (dR (k:=1) (pv 0) hr.mo (EK P w))) (bN (i:=3) dz.nd) (aa (aF (i:=4) dz.nd (fB (k:=1) (pv 0) hr.mo (EK P w) (a9 (pv 3))))
   (aa (aF (i:=5) dz.nd (aJ Vg hr (aG (iQ (bw hr) (pv 1) (aC (pv 4)) (dP (v:=.ref aM) rfl BD rfl) ⟨rfl,rfl,rfl,rfl⟩) (iQ (bw hr) (pv 1) (aC (pv 4)) (dP (v:=.ref aM) rfl BD rfl) ⟨rfl,rfl,rfl,rfl⟩))))
   (ag (cE (bw hr) (pv 2) (pv 3) (aJ rF hr (aG (aJ QT hr (bK (pv 0) (aC (pv 4)) (aC (pv 4)))) (pv 5))) rfl)))))
  (ag (ay (pv 2))))),?_⟩
 intro e ne
 have s1:=aA ne (.dK [])
 have e1:(upd H e (.dK [])) e=some (.dK []):=ah
 generalize upd H e (.dK [])=H1 at s1 e1 ⊢
 have R1:=R.same s1
 obtain ⟨dx,pP,pW,pB,kP,kW,kB,F1,W1⟩:=R1.ex
 refine ⟨_,rfl,a,C,dx,_,_,_,rfl,F1.obj,rfl,MB,a,dx,pP,pW,pB,_,_,kP,kW,kB,rfl,F1,fun l H2 s2 nl el=>?_⟩
 have QY:((bars.map fun b=>(b.nm,b.one.nm,b.other.nm)).map (·.1))=bars.map (·.nm):=by rw [adu];rfl
 rw [QY] at el
 refine ⟨l,rfl,⟨_,aR.of el⟩,bI (K:=K) (a:=l) (xs:=(bars.map (·.nm)).map V.str) (fun i σ H'=>HX fun (o3 o4 o5:ω) (tE :γ)=>σ=[some (.ref a),some (.ref d),some (.ref e),o3,o4,o5]/\ao H H'/\H' l=some (.lst ((bars.map (·.nm)).map V.str))/\H' e=some (.dK tE)/\tE.map (·.1)=(bars.take i).map (fun b=>(adR b.nm:Key))/\
  ∀b∈bars.take i,∃v,bF tE (.inr b.nm)=some v/\cZ K H' v (QX M b)) ⟨none,none,none,[],rfl,fun b o z=>s2 _ _ (s1 _ _ z),el,s2 _ _ e1,rfl,fun b hb=>by simp at hb⟩ (fun i σ H' _ h=>by
   obtain ⟨_,_,_,_,_,_,h,_⟩:=h
   exact aR.of h) ?_ ?_⟩
 ·rintro i z σ H4 hi ⟨o3,o4,o5,tE,rfl,s4,l4,e4,ks,tl⟩
  rw [Wp,Wp] at hi
  obtain ⟨x,hx,rfl⟩:=ab_.mp hi
  obtain ⟨b,hb,rfl⟩:=ab_.mp hx
  have il:i<bars.length:=(ir.mp hb).1
  have mb:b∈bars:=aam hb
  obtain ⟨m1,m2,m3⟩:=g.ends b mb
  have R4:=R.same s4
  obtain ⟨dx,pP,pW,pB,kP,kW,kB,F4,W4⟩:=R4.ex
  refine ⟨_,rfl,a,C,dx,_,_,_,rfl,F4.obj,rfl,ME,_,rfl,a,dx,pP,pW,pB,_,_,kP,kW,kB,b.nm,b.one.nm,b.other.nm,rfl,F4,Tj g.nb,aat.mpr ⟨b,mb,rfl⟩,fun p rd=>?_⟩
  have tp:bM K H4 p [.str b.one.nm,.str b.other.nm]:=.inl rd
  have d4:=s4 _ _ hd
  have P4:=hP.same s4
  refine ⟨_,rfl,d,rfl,.inl ⟨_,.inl d4⟩,_,rfl,p,_,_,_,rfl,rfl,tp,gX,_,cG.k (k:=.inr b.other.nm) d4,_,rfl,d,rfl,.inl ⟨_,.inl d4⟩,_,rfl,p,_,_,_,rfl,rfl,tp,ie,_,cG.k (k:=.inr b.one.nm) d4,?_⟩
  have g1:gu K H4 ((bF kvs (.inr b.other.nm)).getD (.ref aM)) (mv M b.other.nm):=P4.AO (hM H4)
  have g2:gu K H4 ((bF kvs (.inr b.one.nm)).getD (.ref aM)) (mv M b.one.nm):=P4.AO (hM H4)
  generalize (bF kvs (.inr b.other.nm)).getD (.ref aM)=v1 at g1 ⊢
  generalize (bF kvs (.inr b.one.nm)).getD (.ref aM)=v2 at g2 ⊢
  have z1:=zM b.other.nm
  have z2:=zM b.one.nm
  refine ⟨v1,v2,_,_,rfl,g1,g2,z1.1.up (by decide),z1.2.up (by decide),z2.1.up (by decide),z2.2.up (by decide),fun v3 H5 s5 h5=>?_⟩
  have R5:=R4.same s5
  have tp5:=Ty.ao.ck s5 tp
  refine ⟨_,rfl,_,rfl,p,_,_,_,rfl,rfl,tp5,ie,_,rfl,p,_,_,_,rfl,rfl,tp5,gX,a,pins,bars,b.one,b.other,rfl,R5,g,m1,m2,fun v6 H6 s6 h6=>?_⟩
  have y1:=g.sz _ m1
  have y2:=g.sz _ m2
  refine ⟨_,rfl,v6,v3,_,_,rfl,h6,h5.same s6,(y2.1.sub y1.1).up (by decide),(y2.2.1.sub y1.2.1).up (by decide),(z1.1.sub z2.1).up (by decide),(z1.2.sub z2.2).up (by decide),fun c7 H7 s7 h7=>?_⟩
  have e7:=s7 _ _ (s6 _ _ (s5 _ _ e4))
  have lk:tE.length<=14:=by
   have z:=aaQ aeV ks
   rw [be,be,adm] at z
   have:=g.lb
   omega
  refine ⟨_,rfl,_,rfl,e,_,rfl,gP.k (k:=.inr b.nm) e7 (ac_ (show tE.length<=1000 by omega) (by decide)),?_⟩
  have fresh:(adR b.nm:Key)∉tE.map (·.1):=by
   rw [ks]
   intro z
   obtain ⟨b',fC,U5⟩:=aat.mp z
   have en:b'.nm=b.nm:=adZ U5
   obtain ⟨j,hj,ej⟩:=ad0.mp fC
   rw [afW] at ej
   rw [adm] at hj
   have q1:(bars.map (·.nm))[j]?=some b.nm:=by rw [Wp,gE (by omega),ej];show some b'.nm=_;rw [en]
   have q2:(bars.map (·.nm))[i]?=some b.nm:=by rw [Wp,hb];rfl
   have:=(aeC (by rw [be];omega) g.nb).mp (q1.trans q2.symm)
   omega
  have pk:putK tE (.inr b.nm) (.ref c7)=tE ++[(.inr b.nm,.ref c7)]:=dw _ (bP fresh)
  have t7:bo H7 (upd H7 e (.dK (putK tE (.inr b.nm) (.ref c7)))):=.dict e7
  have s47:ao H4 H7:=fun b o z=>s7 _ _ (s6 _ _ (s5 _ _ z))
  have tk:bars.take (i+1)=bars.take i++[b]:=by rw [adU,hb];rfl
  refine ⟨_,_,_,_,rfl,fun c o z=>?_,?_,ah,?_,fun b' fC =>?_⟩
  ·rw [aj (ak z ne)]
   exact s47 _ _ (s4 _ _ z)
  ·rw [aj (fun z=>by rw [z,e4] at l4;cases l4)]
   exact s47 _ _ l4
  ·rw [pk,ads,ks,tk,ads]
   rfl
  ·rw [jF]
   by_cases c:b'.nm=b.nm
   ·rw [aaC (by rw [c])]
    refine ⟨.ref c7,rfl,?_⟩
    have eb:b'=b:=by
     obtain ⟨j,hj,ej⟩:=ad0.mp fC
     rw [afW] at ej
     rw [adm] at hj
     have q1:(bars.map (·.nm))[j]?=some b.nm:=by rw [Wp,gE (by omega),ej];show some b'.nm=_;rw [c]
     have q2:(bars.map (·.nm))[i]?=some b.nm:=by rw [Wp,hb];rfl
     have ji:=(aeC (by rw [be];omega) g.nb).mp (q1.trans q2.symm)
     subst ji
     rw [gE il] at hb
     rw [<-ej]
     exact ady hb
    rw [eb]
    exact cZ.aK ⟨c7,rfl,bM.of h7⟩ t7
   ·rw [aaA (fun z=>c (adZ z))]
    rw [tk,ado] at fC
    rcases fC with fC|fC
    ·obtain ⟨v,h1,h2⟩:=tl b' fC
     exact ⟨v,h1,(h2.same s47).aK t7⟩
    ·rw [adi] at fC
     exact aaM (by rw [fC]) c
 ·rintro σ H4 ⟨o3,o4,o5,tE,rfl,s4,l4,e4,ks,tl⟩
  rw [be,be,adH] at ks tl
  exact ⟨_,rfl,q e tE H4 s4 ne e4 ks tl⟩
def gw (pins:ν)(b:aV)(i:Nat):Rat:=vl ((cf (c6 b) pins).getD i (0,1))
def xq (pins:ν)(gbs:List (Rat×aV))(i j:Nat):Rat:=(gbs.map fun x=>x.1*gw pins x.2 i*gw pins x.2 j).sum
theorem Nr (pins:ν)(l:List (Rat×aV))(x:Rat×aV)(i j:Nat):xq pins (l++[x]) i j=xq pins l i j+x.1*gw pins x.2 i*gw pins x.2 j:=by
 unfold xq
 rw [ads,afO,aau,adM,adw,ad5,amz]
theorem yy (h:∀x,Sz k (mv F x).1/\Sz k (mv F x).2)(pins:ν):∀q∈cf F pins,∃r,q=qr r/\Sz k r:=fun q hq=>by
 unfold cf at hq
 obtain ⟨p,_,hq⟩:=aee.mp hq
 rcases adD.mp hq with e|hq
 ·exact ⟨_,e,(h p.nm).1⟩
 ·exact ⟨_,adi.mp hq,(h p.nm).2⟩
theorem BK (g:eC pins bars)(hb:b∈bars)(hi:i<2*pins.length):(cf (c6 b) pins)[i]?=some (qr (gw pins b i))/\Sz 50 (gw pins b i):=by
 have hl:i<(cf (c6 b) pins).length:=by rw [cM];exact hi
 have e:=gE hl
 obtain ⟨r,er,z⟩:=yy (BJ g hb) pins _ (ad3 hl)
 have:gw pins b i=r:=by
  unfold gw
  rw [adn,e,Option.getD_some,er,dy]
 rw [this,e,er]
 exact ⟨rfl,z⟩
theorem BL (hi:i<N)(hj:j<N):∀{l:List (Rat×aV)},(∀x∈l,Sz 31 x.1/\∀i,i<N->Sz 50 (gw pins x.2 i))->Sz (132*l.length+1) (xq pins l i j)
 | [],_=>d0 (by decide)
 | x::l,h=>by
  have z:=h x adk
  have ih:=BL hi hj (l:=l) fun y hy=>h y (aaw _ hy)
  have:=((z.1.mul (z.2 i hi)).mul (z.2 j hj)).add ih
  show Sz _ (((x::l).map fun x=>x.1*gw pins x.2 i*gw pins x.2 j).sum)
  rw [aau,adw]
  exact this.up (by rw [adJ];omega)
structure Mx (K:Frag)(H:Hp)(r:aaz)(ls:υ)(N:Nat)(f:Nat->Nat->Rat):Prop where
 hr:H r=some (.lst (ls.map V.ref))
 ln:ls.length=N
 nd:ls.Nodup
 row:∀i l,ls[i]?=some l->∃vs,H l=some (.lst vs)/\vs.length=N/\∀j v,vs[j]?=some v->cZ K H v (f i j)
 nr:r∉ls
section
variable {H H':Hp}{r:aaz}{ls:υ}{N:Nat}{f:Nat->Nat->Rat}
theorem Mx.same (h:Mx K H r ls N f)(s:ao H H'):Mx K H' r ls N f:=⟨s _ _ h.hr,h.ln,h.nd,fun i l e=>by
 obtain ⟨vs,h1,h2,h3⟩:=h.row i l e
 exact ⟨vs,s _ _ h1,h2,fun j v ev=>(h3 j v ev).same s⟩,h.nr⟩
theorem Mx.put (h:Mx K H r ls N f)(ei:ls[i]?=some l)(el:H l=some (.lst vs))(hv:cZ K H v x):Mx K (upd H l (.lst (vs.set j v))) r ls N (fun a b=>if a=i/\b=j then x else f a b):=by
 have t:bo H (upd H l (.lst (vs.set j v))):=bo.ks el bS.upd
 refine ⟨?_,h.ln,h.nd,fun a l' e=>?_,h.nr⟩
 ·rw [aj (fun z:r=l=>h.nr (by rw [z];exact aam ei))]
  exact h.hr
 ·obtain ⟨ws,h1,h2,h3⟩:=h.row a l' e
  by_cases c:l'=l
  ·subst c
   rw [el] at h1
   cases h1
   have ea:a=i:=d_ h.nd e ei
   subst ea
   refine ⟨_,ah,by rw [amT];exact h2,fun b u eu=>?_⟩
   rw [ad8] at eu
   by_cases cb:j=b
   ·rw [aaC cb] at eu
    rw [aaC ⟨rfl,cb.symm⟩]
    split at eu
    ·cases eu
     exact hv.aK t
    ·cases eu
   ·rw [aaA cb] at eu
    rw [aaA (fun z=>cb z.2.symm)]
    exact (h3 b u eu).aK t
  ·refine ⟨ws,by rw [aj c];exact h1,h2,fun b u eu=>?_⟩
   rw [aaA (fun z=>c ?_)]
   ·exact (h3 b u eu).aK t
   ·rw [z.1,ei] at e
    exact (ady e).symm
end
theorem BM :i∈(adG N).filter p ↔ i<N/\p i=true:=by rw [af_,ad9]
theorem jM {α:Type}{A:List α}{x i:α}(e:A[c]?=some x):i∈A.take (c+1) ↔ i∈A.take c\/i=x:=by
 rw [adU,e,ado]
 show _\/i∈[x] ↔ _
 rw [adi]
theorem FD {α:Type}{A:List α}(nd:A.Nodup){x:α}(e:A[c]?=some x):x∉A.take c:=fun z=>by
 obtain ⟨j,ej⟩:=adj z
 have hj:j<c:=by
  have:=(ir.mp ej).1
  rw [adm] at this
  omega
 rw [adX hj] at ej
 have:=d_ nd ej e
 omega
theorem ZJ (h:j<n):KI n (j:Int)=some j:=by
 unfold KI
 rw [aaC (by omega),aaC (by omega)]
 simp
theorem QZ (r:Rat):(!dq [.v (.int (qr r).1),.v (.int (qr r).2)] [.v (.int 0),.v (.int 1)])=decide (r≠0):=by
 by_cases c:r=0
 ·rw [c,dE]
  simp [dq,js,ni]
 ·have:(qr r).1≠0:=fun z=>c (mJ z)
  simp [dq,js,ni,c,this]
inductive vQ (K:Frag)(C:aaz)(vs:η)(H:Hp)(Q:VK)(E_:XK):Prop
|mk (a d bR:aaz)(pins:ν)(bars:τ)(kvs:γ)(gs:Μ)(ZK:υ)(_:vs=[.ref a,.ref d,.ref bR])(_:vw K H C a pins bars)(_:eC pins bars)(_:bars.length<=9)(_:H d=some (.dK kvs))(_:Paired (fun (kv:Key×V) r=>cZ K H kv.2 r) kvs gs)(_:gs.length=bars.length)(_:(∀r∈gs,Sz 31 r))(_:H bR=some (.lst (ZK.map V.ref)))(_:ZK.length=bars.length)(_:(∀(i:Nat)(l:aaz)(b:aV),ZK[i]?=some l->bars[i]?=some b->∃us,H l=some (.lst us)/\cH K H us (cf (c6 b) pins)))(_:∀(r:aaz)(ls:υ)(f:Nat->Nat->Rat)(H':Hp),ao H H' ->H r=none->(∀l∈ls,H l=none)->Mx K H' r ls (2*pins.length) f->(∀i j,i<2*pins.length->j<2*pins.length->f i j=xq pins (gs.zip bars) i j)->Q (.ref r) H')
theorem bV:av ["F","firm","bar_rows","many","rows","grip","row","acts","column","drawn","place"] zaD (ae dX):=sq
theorem tF (hN:∀H:Hp,bM K H aN [.int 0,.int 1])(jI:mg "NOUGHT"=some (.ref aN))(D:Def K mg "stiff_rows" dX zaD)(aZ:mg "len"=none)(bh:mg "range"=none)(gy:mg "zip"=none)(MP:bJ P w K mg base (aT P w) 1 C "pins" zae (jb K C))(jK:Fn P w K mg base (aT P w) 34 "sum_of" zab (iE K fun a b=>a+b))(cu:Fn P w K mg base (aT P w) 34 "product_of" zab (iE K fun a b=>a*b)):
  Fn P w K mg base (aT P w) 35 "stiff_rows" zaD (vQ K C):=by
 refine D.op bV fun f bZ A outer s H vs Q E hr h=>?_
 obtain ⟨a,d,bR,pins,bars,kvs,gs,ZK,rfl,R,g,ZL,hd,pg,lg,zg,hB,lB,rB,q⟩:=h
 have gl:=g.lp
 have lk:kvs.length=gs.length:=aaK pg
 obtain ⟨dx,pP,pW,pB,kP,kW,kB,F1,W1⟩:=R.ex
 have c2:oC 2 ((pins.length:Nat):Int):=⟨by decide+kernel,aav (intBits_le_64 (by omega) (by omega)) (by decide)⟩
 refine ⟨_,(aa (aF (i:=3) bV.nd (aw bQ af (aI aH rfl aZ cz (a9 (dR (k:=1) (pv 0) hr.mo (pY P w))))))
  (aa (q0 (i:=4) (tn:=["column"]) (fr:=["many"]) (caps:=[3]) bV.nd (bY rfl bh (a9 (pv 3))) (aw vb (b_ (a9 (dP (v:=.ref aN) rfl jI rfl))) (pv 1)))
  (aa (jZ (bg aaG rfl (QE rfl gy (pv 1) (a9 (pv 2))) (fM rfl (aY (bN (i:=5) bV.nd) (aY (bN (i:=6) bV.nd) de))) (aa (MX (i:=7) (tn:=["column"]) (fr:=["row"]) (caps:=[6]) bV.nd (bY rfl bh (a9 (pv 3))) (fun _ _ _ _=>(gB (i:=0) (show (["column","row"]:List Str).Nodup from by decide+kernel) rfl (agC rfl))) (fun _ _ _ _=>(Us (bx (MQ (K:=K) rfl hr.units) (bB (qM (K:=K) rfl) (pv 1) (pv 0)) (dP (v:=.ref aN) rfl jI rfl)))) (pv 0))
   (ag (bg aaG rfl (a_ (pv 7)) (bN (i:=8) bV.nd) (aa (aF (i:=9) bV.nd (aJ cu hr (aG (pv 5) (bB aQ (pv 6) (pv 8)))))
    (ag (bg aaG rfl (a_ (pv 7)) (bN (i:=10) bV.nd) (ag (zW (aJ jK hr (aG (bB aQ (bB aQ (pv 4) (pv 8)) (pv 10)) (aJ cu hr (aG (pv 9) (bB aQ (pv 6) (pv 10)))))) (zQ (bB aQ (pv 4) (pv 8)) (pv 10) set_list)))))))))))
  (ag (ay (pv 4)))))),?_⟩
 refine ⟨_,rfl,a,C,dx,_,_,_,rfl,F1.obj,rfl,MP,a,dx,pP,pW,pB,_,_,kP,kW,kB,rfl,F1,fun lp H1 s1 BE xp=>?_⟩
 rw [ip] at xp
 refine ⟨lp,_,rfl,.inl (aR.of xp),_,_,rfl,rfl,(by rw [be,be];exact c2),?_⟩
 have em:(2:Int)*((((pins.map (·.nm)).map V.str).length:Nat):Int)=((2*pins.length:Nat):Int):=by rw [be,be];omega
 rw [em]
 obtain ⟨N,eN⟩:∃N,N=2*pins.length:=⟨_,rfl⟩
 rw [<-eN] at q ⊢
 have ayf:N<=18:=by omega
 have big:(1000:Nat)<=aaD:=by decide
 refine ⟨_,rfl,(N:Int),rfl,by omega,by omega,fun r nr=>?_⟩
 refine yk (n:=N) (cap:=[some (.int (N:Int))]) (fun ys H'=>∃ls:List aaz,ys=ls.map V.ref/\ls.Nodup/\r∉ls/\∀l∈ls,H l=none/\H' l=some (.lst (adt N (.ref aN)))) nr (by omega) ⟨[],rfl,amg,by simp,fun l h=>by cases h⟩ ?_ ?_
 ·intro i ys H2 RR hi ly hJ s2 hD k
  obtain ⟨ls,rfl,nd,nf,hl⟩:=hJ
  refine ⟨z1L,?_⟩
  intro l5 n5;generalize eX:upd _ l5 _=H5;have ⟨s5,e5⟩:=nw n5 eX
  refine ⟨_,rfl,l5,_,_,rfl,rfl,e5,by omega,by omega,(by simp;omega),?_⟩
  intro l6 n6;generalize eX:upd _ l6 _=H6;have ⟨s6,e6⟩:=nw n6 eX
  have Nt:(adt ((N:Nat):Int).toNat [V.ref aN]).flatten=adt N (V.ref aN):=by simp
  rw [Nt] at e6
  have s26:=s5.trans s6
  have D5:=s5 _ _ hD
  refine k _ _ s26 ⟨ls++[l6],by simp,?_,?_,fun l hm=>?_⟩
  ·rw [afw]
   refine ⟨nd,by simp,fun a ha b hb z=>?_⟩
   have h1:=(hl a ha).2
   rw [z,adi.mp hb] at h1
   rw [s5 _ _ h1] at n6
   cases n6
  ·intro z
   rcases ado.mp z with z|z
   ·exact nf z
   ·rw [<-adi.mp z,D5] at n6
    cases n6
  ·rcases ado.mp hm with z|z
   ·refine ⟨(hl l z).1,?_⟩
    rw [aj (fun e:l=r=>nf (by rw [<-e];exact z))]
    exact s26 _ _ (hl l z).2
   ·have z:=adi.mp z
    subst z
    refine ⟨(s1.trans (s2.trans s5)).free n6,?_⟩
    rw [aj (fun e=>by rw [e,D5] at n6;cases n6)]
    exact e6
 intro ys H3 ly hJ s3 hD
 obtain ⟨ls,rfl,nd,nr',hl⟩:=hJ
 have xr:=s1.trans s3
 have nr0:=s1.free nr
 have ZM:Mx K H3 r ls N (fun _ _=>0):=by
  refine ⟨hD,by rw [<-ly,be],nd,fun i l e=>⟨_,(hl l (aam e)).2,by rw [adP],fun j v ev=>?_⟩,nr'⟩
  rw [adT] at ev
  split at ev
  ·cases ev
   exact ⟨aN,rfl,by rw [dE];exact hN _⟩
  ·cases ev
 have Tf:=xr _ _ hd
 have hB3:=xr _ _ hB
 refine ⟨_,rfl,d,rfl,⟨_,Tf⟩,_,rfl,bR,kvs,rfl,⟨_,aR.of hB3⟩,Tf,fun o=>?_⟩
 have ot:∀b o',b≠d->H3 b=some o' ->(upd H3 d (.fq o (.dK kvs))) b=some o':=fun b o' n e=>by rw [aj n];exact e
 have zK:(upd H3 d (.fq o (.dK kvs))) d=some (.fq o (.dK kvs)):=ah
 generalize upd H3 d (.fq o (.dK kvs))=H4 at ot zK ⊢
 have kO:∀b o',b≠d->H b=some o' ->H4 b=some o':=fun b o' n e=>ot b o' n (xr _ _ e)
 have nl0:∀l∈ls,H l=none:=fun l hm=>(hl l hm).1
 have dl:∀l∈ls,d≠l:=fun l hm z=>by rw [z,nl0 l hm] at hd;cases hd
 have rd:r≠d:=fun z=>by rw [z,hd] at nr0;cases nr0
 have mx4:Mx K H4 r ls N (fun _ _=>0):=by
  have t:bo H3 H4:=fun b xs e=>by
   rcases e with e|⟨o',e⟩
   ·exact .inl (ot _ _ (fun z=>by rw [z,Tf] at e;cases e) e)
   ·exact .inr ⟨o',ot _ _ (fun z=>by rw [z,Tf] at e;cases e) e⟩
  refine ⟨ot _ _ rd ZM.hr,ZM.ln,ZM.nd,fun i l e=>?_,ZM.nr⟩
  obtain ⟨vs,h1,h2,h3⟩:=ZM.row i l e
  exact ⟨vs,ot _ _ (adO (dl l (aam e))) h1,h2,fun j v ev=>(h3 j v ev).aK t⟩
 have tH:∀{H':Hp},(∀b o',b≠d->H b=some o' ->H' b=some o')->bo H H':=fun {H'} k b xs e=>by
  rcases e with e|⟨o',e⟩
  ·exact .inl (k _ _ (fun z=>by rw [z,hd] at e;cases e) e)
  ·exact .inr ⟨o',k _ _ (fun z=>by rw [z,hd] at e;cases e) e⟩
 refine MO (K:=K) (d:=d) (b:=bR) (o:=o) (kvs:=kvs) (ys:=ZK.map V.ref) (fun t σ H'=>Ex7 fun (o5 o6 o7 o8 o9 Nu:ω) (f:Nat->Nat->Rat)=>σ=[some (.ref a),some (.ref d),some (.ref bR),some (.int (N:Int)),some (.ref r),o5,o6,o7,o8,o9,Nu]/\(∀b o',b≠d->H b=some o' ->H' b=some o')/\H' d=some (.fq o (.dK kvs))/\Mx K H' r ls N f/\∀i j,i<N->j<N->f i j=xq pins ((gs.zip bars).take t) i j) (by rw [be];omega) ⟨none,none,none,none,none,none,fun _ _=>0,rfl,kO,zK,mx4,fun i j _ _=>rfl⟩ (fun i σ H' _ h=>by
   obtain ⟨_,_,_,_,_,_,_,_,k',d',_⟩:=h
   exact ⟨d',aR.of (k' _ _ (fun z=>by rw [z,hd] at hB;cases hB) hB)⟩) ?_ ?_
 ·rintro t k x y σ H5 p5 ek ey ⟨o5,o6,o7,o8,o9,Nu,f,rfl,kh,kd,mx,hf⟩ np
  have s5:=aA np (.tup [x,y])
  have e5:(upd H5 p5 (.tup [x,y])) p5=some (.tup [x,y]):=ah
  generalize upd H5 p5 (.tup [x,y])=H6 at s5 e5 ⊢
  have ht:t<bars.length:=by
   have:=(ir.mp ek).1
   omega
  obtain ⟨b,eb⟩:∃b,bars[t]?=some b:=⟨_,gE ht⟩
  have mb:=aam eb
  obtain ⟨g0,eg,ng⟩:=aE pg ek
  rw [Wp] at ey
  obtain ⟨l0,el0,rfl⟩:=ab_.mp ey
  obtain ⟨us,ZN,nus⟩:=rB t l0 b el0 eb
  have ln0:us.length=N:=by rw [nus.1,cM,eN]
  have Vs:l0≠d:=fun z=>by rw [z,hd] at ZN;cases ZN
  have kh6:∀b o',b≠d->H b=some o' ->H6 b=some o':=fun b o' n e=>s5 _ _ (kh b o' n e)
  have rat:∀i,i<N->(cf (c6 b) pins)[i]?=some (qr (gw pins b i))/\Sz 50 (gw pins b i):=fun i hi=>BK g mb (by omega)
  have num:∀{H':Hp},(∀b o',b≠d->H b=some o' ->H' b=some o')->∀i,i<N->∃u,us[i]?=some u/\cZ K H' u (gw pins b i):=fun {H'} kk i hi=>by
   have e:=gE (show i<us.length by omega)
   exact ⟨_,e,(nus.2 i _ _ e (rat i hi).1).aK (tH kk)⟩
  have ngg:∀{H':Hp},(∀b o',b≠d->H b=some o' ->H' b=some o')->cZ K H' x g0:=fun {H'} kk=>ng.aK (tH kk)
  have zg0:=zg g0 (aam eg)
  have gbt:(gs.zip bars)[t]?=some (g0,b):=by rw [afH];exact ⟨eg,eb⟩
  have zS:∀i j,i<N->j<N->Sz 8000000 (xq pins ((gs.zip bars).take t) i j):=fun i j hi hj=>(BL hi hj fun z hz=>by
   obtain ⟨n,en⟩:=adj (afx hz)
   rw [afH] at en
   exact ⟨zg _ (aam en.1),fun i hi=>(BK g (aam en.2) (by omega)).2⟩).up (by rw [adm];omega)
  refine ⟨p5,_,rfl,bM.of e5,rfl,_,_,rfl,_,_,rfl,rfl,_,rfl,(N:Int),rfl,by omega,by omega,fun lF nF=>?_⟩
  refine yj (n:=N) (cap:=[some (.ref l0)]) (fun i=>decide (gw pins b i≠0)) nF (by omega) (fun i H7 RR hi s7 kk=>?_) (fun i H7 RR rr=>⟨_,rfl,rr⟩) fun H7 s7 eF=>?_
  ·have k7:∀b o',b≠d->H b=some o' ->H7 b=some o':=fun b o' n e=>s7 _ _ (kh6 b o' n e)
   obtain ⟨u,eu,nu⟩:=num k7 i hi
   refine ⟨_,rfl,_,rfl,l0,us,(i:Int),u,rfl,rfl,aR.of (k7 _ _ Vs ZN),bL eu,_,_,.inl ⟨j0 (q:=qr (gw pins b i)) nu,j0 (q:=(0,1)) ⟨aN,rfl,hN _⟩⟩,rfl,DP,_,rfl,?_⟩
   rw [QZ]
   exact kk _ (ao.refl _)
  have k7:∀b o',b≠d->H b=some o' ->H7 b=some o':=fun b o' n e=>s7 _ _ (kh6 b o' n e)
  have mx7:=mx.same (s5.trans s7)
  have d7:=s7 _ _ (s5 _ _ kd)
  obtain ⟨A,eA⟩:∃A,A=(adG N).filter fun i=>decide (gw pins b i≠0):=⟨_,rfl⟩
  rw [<-eA] at eF
  have hA:∀i,i∈A ↔ i<N/\gw pins b i≠0:=fun i=>by rw [eA,BM,decide_eq_true_iff]
  have ndA:A.Nodup:=by rw [eA];exact amL.filter _
  have nFl:lF∉ls:=fun z=>by
   obtain ⟨n,en⟩:=adj z
   obtain ⟨vs,h1,_⟩:=mx.row n lF en
   rw [s5 _ _ h1] at nF
   cases nF
  obtain ⟨X,eX'⟩:∃X:Nat->Nat->Rat,∀i j,X i j=g0*gw pins b i*gw pins b j:=⟨_,fun _ _=>rfl⟩
  obtain ⟨S,eS⟩:∃S:Nat->Nat->Rat,∀i j,S i j=xq pins ((gs.zip bars).take t) i j:=⟨_,fun _ _=>rfl⟩
  have upk:∀{H':Hp} {l:aaz} {ob:HO},l∈ls->(∀b o',b≠d->H b=some o' ->H' b=some o')->∀b o',b≠d->H b=some o' ->(upd H' l ob) b=some o':=fun {H' l ob} hm kk b o' n e=>by
   rw [aj (fun z=>by rw [z,nl0 l hm] at e;cases e)]
   exact kk b o' n e
  refine ⟨_,rfl,lF,rfl,⟨_,aR.of eF⟩,bI (K:=K) (a:=lF) (xs:=A.map fun i:Nat=>V.int (i:Int)) (fun c σ H'=>HX fun (o8 o9 Nu:ω) (f:Nat->Nat->Rat)=>σ=[some (.ref a),some (.ref d),some (.ref bR),some (.int (N:Int)),some (.ref r),some x,some (.ref l0),some (.ref lF),o8,o9,Nu]/\(∀b o',b≠d->H b=some o' ->H' b=some o')/\H' d=some (.fq o (.dK kvs))/\H' lF=some (.lst (A.map fun i:Nat=>V.int (i:Int)))/\Mx K H' r ls N f/\∀i j,i<N->j<N->f i j=S i j+if i∈A.take c then X i j else 0) ⟨_,_,_,f,rfl,k7,d7,eF,mx7,fun i j hi hj=>by rw [hf i j hi hj,eS,aaA (by simp),amz]⟩ (fun c σ H' _ h=>by
    obtain ⟨_,_,_,_,_,_,_,h,_⟩:=h
    exact aR.of h) ?_ ?_⟩
  ·rintro c z σ H8 hz ⟨o8,o9,Nu,f1,rfl,k8,d8,eF8,mx8,hf8⟩
   rw [Wp] at hz
   obtain ⟨col,ec,rfl⟩:=ab_.mp hz
   have Nv:=(hA col).mp (aam ec)
   obtain ⟨u,eu,nu⟩:=num k8 col Nv.1
   have zc:=(rat col Nv.1).2
   refine ⟨_,rfl,_,rfl,_,rfl,l0,us,(col:Int),u,rfl,rfl,aR.of (k8 _ _ Vs ZN),bL eu,x,u,g0,gw pins b col,rfl,ngg k8,nu,zg0.up (by decide),zc.up (by decide),fun c9 H9 s9 e9=>?_⟩
   have k9:∀b o',b≠d->H b=some o' ->H9 b=some o':=fun b o' n e=>s9 _ _ (k8 b o' n e)
   obtain ⟨lc,elc⟩:∃l,ls[col]?=some l:=⟨_,gE (by rw [mx.ln];exact Nv.1)⟩
   have mlc:=aam elc
   refine ⟨_,rfl,lF,rfl,⟨_,aR.of (s9 _ _ eF8)⟩,bI (K:=K) (a:=lF) (xs:=A.map fun i:Nat=>V.int (i:Int)) (fun e σ H'=>EI fun (Nu:ω) (f:Nat->Nat->Rat)=>σ=[some (.ref a),some (.ref d),some (.ref bR),some (.int (N:Int)),some (.ref r),some x,some (.ref l0),some (.ref lF),some (.int (col:Int)),some (.ref c9),Nu]/\(∀b o',b≠d->H b=some o' ->H' b=some o')/\H' d=some (.fq o (.dK kvs))/\H' lF=some (.lst (A.map fun i:Nat=>V.int (i:Int)))/\cZ K H' (.ref c9) (g0*gw pins b col)/\Mx K H' r ls N f/\∀i j,i<N->j<N->f i j=S i j+if i∈A.take c\/(i=col/\j∈A.take e) then X i j else 0) ⟨_,f1,rfl,k9,s9 _ _ d8,s9 _ _ eF8,⟨c9,rfl,bM.of e9⟩,mx8.same s9,fun i j hi hj=>by rw [hf8 i j hi hj];simp⟩ (fun e σ H' _ h=>by
     obtain ⟨_,_,_,_,_,h,_⟩:=h
     exact aR.of h) ?_ ?_⟩
   ·rintro e z σ OF hz ⟨Nu,f2,rfl,ZO,d10,Vt,Vu,Nw,Ny⟩
    rw [Wp] at hz
    obtain ⟨pl,ep,rfl⟩:=ab_.mp hz
    have pF:=(hA pl).mp (aam ep)
    obtain ⟨u2,eu2,nu2⟩:=num ZO pl pF.1
    have zp:=(rat pl pF.1).2
    obtain ⟨vs,hv,lv,nv⟩:=Nw.row col lc elc
    have ev:=gE (show pl<vs.length by rw [lv];exact pF.1)
    have nvp:=nv pl _ ev
    have fv:f2 col pl=S col pl:=by
     rw [Ny col pl Nv.1 pF.1,aaA (fun z=>?_),amz]
     rcases z with z|z
     ·exact FD ndA ec z
     ·exact FD ndA ep z.2
    have er:i0 (ls.map V.ref) (col:Int)=some (.ref lc):=bL (by rw [Wp,elc];rfl)
    refine ⟨_,rfl,_,rfl,r,_,_,_,rfl,rfl,aR.of Nw.hr,er,_,rfl,lc,vs,(pl:Int),_,rfl,rfl,aR.of hv,bL ev,_,rfl,_,rfl,_,rfl,l0,us,(pl:Int),u2,rfl,rfl,aR.of (ZO _ _ Vs ZN),bL eu2,.ref c9,u2,_,gw pins b pl,rfl,Vu,nu2,(zg0.mul zc).up (by decide),zp.up (by decide),fun c11 LZ zI e11=>?_⟩
    refine ⟨vs[pl],.ref c11,f2 col pl,_,rfl,nvp.same zI,⟨c11,rfl,bM.of e11⟩,by rw [fv,eS];exact zS col pl Nv.1 pF.1,((zg0.mul zc).mul zp).up (by decide),fun c12 H12 lY e12=>?_⟩
    have oP:=zI.trans lY
    have ZP:=Nw.same oP
    refine ⟨_,rfl,_,rfl,r,_,_,_,rfl,rfl,aR.of ZP.hr,er,_,rfl,lc,vs,_,pl,rfl,rfl,oP _ _ hv,by rw [lv];exact ZJ pF.1,?_⟩
    have k12:∀b o',b≠d->H b=some o' ->H12 b=some o':=fun b o' n e=>oP _ _ (ZO b o' n e)
    have mxp:=ZP.put (j:=pl) elc (oP _ _ hv) ⟨c12,rfl,bM.of e12⟩
    refine ⟨_,_,rfl,upk mlc k12,?_,?_,?_,mxp,fun i j hi hj=>?_⟩
    ·rw [aj (dl lc mlc)]
     exact oP _ _ d10
    ·rw [aj (fun z=>nFl (by rw [z];exact mlc))]
     exact oP _ _ Vt
    ·exact (Vu.same oP).aK (bo.ks (oP _ _ hv) bS.upd)
    ·by_cases cc:i=col/\j=pl
     ·rw [aaC cc,fv,cc.1,cc.2,aaC (.inr ⟨rfl,(jM ep).mpr (.inr rfl)⟩),eX']
     ·rw [aaA cc,Ny i j hi hj]
      have eqv:(i∈A.take c\/(i=col/\j∈A.take (e+1))) ↔ (i∈A.take c\/(i=col/\j∈A.take e)):=by
       rw [jM ep]
       constructor
       ·rintro (h|⟨h1,h|h⟩)
        ·exact .inl h
        ·exact .inr ⟨h1,h⟩
        ·exact aaM ⟨h1,h⟩ cc
       ·rintro (h|⟨h1,h⟩)
        ·exact .inl h
        ·exact .inr ⟨h1,.inl h⟩
      simp only [eqv]
   ·rintro σ OF ⟨Nu,f2,rfl,ZO,d10,Vt,Vu,Nw,Ny⟩
    rw [be,adH] at Ny
    refine ⟨_,_,_,f2,rfl,ZO,d10,Vt,Nw,fun i j hi hj=>?_⟩
    rw [Ny i j hi hj]
    by_cases c1:i∈A.take c
    ·rw [aaC (.inl c1),aaC ((jM ec).mpr (.inl c1))]
    ·by_cases c2:i=col
     ·rw [aaC ((jM ec).mpr (.inr c2))]
      by_cases c3:j∈A
      ·rw [aaC (.inr ⟨c2,c3⟩)]
      ·rw [aaA (fun z=>z.elim c1 fun z=>c3 z.2)]
       have:gw pins b j=0:=ad6 fun z=>c3 ((hA j).mpr ⟨hj,z⟩)
       rw [eX',this,Rat.mul_zero]
     ·rw [aaA (fun z=>z.elim c1 fun z=>c2 z.1),aaA (fun z=>((jM ec).mp z).elim c1 c2)]
  ·rintro σ H8 ⟨o8,o9,Nu,f1,rfl,k8,d8,eF8,mx8,hf8⟩
   rw [be,adH] at hf8
   refine ⟨_,_,_,_,_,_,f1,rfl,k8,d8,mx8,fun i j hi hj=>?_⟩
   rw [hf8 i j hi hj,adU,gbt]
   show _=xq pins (((gs.zip bars).take t)++[(g0,b)]) i j
   rw [Nr,<-eS]
   show _=_+g0*gw pins b i*gw pins b j
   rw [<-eX']
   by_cases c1:i∈A
   ·rw [aaC c1]
   ·rw [aaA c1]
    have:gw pins b i=0:=ad6 fun z=>c1 ((hA i).mpr ⟨hi,z⟩)
    rw [eX',this,Rat.mul_zero,Rat.zero_mul]
 ·rintro σ H5 ⟨o5,o6,o7,o8,o9,Nu,f,rfl,kh,kd,mx,hf⟩
  refine ⟨d,o,kvs,kd,fun o' u' z=>(by have z':H d=some (.fq o' u'):=z;rw [hd] at z';cases z'),?_⟩
  have ln5:(gs.zip bars).take kvs.length=gs.zip bars:=adN (by rw [amV];omega)
  rw [ln5] at hf
  refine ⟨_,rfl,q r ls f _ (fun b o' e=>?_) nr0 nl0 ?_ hf⟩
  ·by_cases n:b=d
   ·subst n
    rw [hd] at e
    rw [ah]
    exact e
   ·rw [aj n]
    exact kh b o' n e
  ·have t:bo H5 (upd H5 d (.dK kvs)):=fun b xs e=>by
    rcases e with e|⟨o',e⟩
    ·exact .inl (by rw [aj (fun z=>by rw [z,kd] at e;cases e)];exact e)
    ·exact .inr ⟨o',by rw [aj (fun z=>by rw [z,kd] at e;cases e)];exact e⟩
   refine ⟨by rw [aj rd];exact mx.hr,mx.ln,mx.nd,fun i l e=>?_,mx.nr⟩
   obtain ⟨vs,h1,h2,h3⟩:=mx.row i l e
   exact ⟨vs,by rw [aj (adO (dl l (aam e)))];exact h1,h2,fun j v ev=>(h3 j v ev).aK t⟩
def kr (pins:ν):List (List (Int×Int)):=pins.flatMap fun p=>oa pins p
def dc (pins:ν):List (List (Int×Int)):=(kr pins).map fun qs=>qs++adt (aU pins) (0,1)
def fj (pins:ν)(gbs:List (Rat×aV)):List (List (Int×Int)):=(adG (2*pins.length)).map fun i=>((adG (2*pins.length)).map fun j=>qr (xq pins gbs i j))++((cR (kr pins) i).map vl).map fun r=>qr (-r)
theorem fF (pins:ν):(kr pins).length=aU pins:=gf pins pins
theorem vR (h:cH K H us qs)(h':cH K H vs rs):cH K H (us++vs) (qs++rs):=by
 have l:=h.1
 refine ⟨by rw [adl,adl,l,h'.1],fun i u q e1 e2=>?_⟩
 by_cases c:i<us.length
 ·rw [adq c] at e1
  rw [adq (by omega)] at e2
  exact h.2 i u q e1 e2
 ·rw [adv (by omega)] at e1 e2
  rw [l] at e1
  exact h'.2 _ u q e1 e2
theorem Vv {us:η}{rs:Μ}(h:Paired (cZ K H) us rs):cH K H us (rs.map qr):=⟨by rw [be];exact aaK h,fun i u q e1 e2=>by
 obtain ⟨r,er,hr⟩:=aE h e1
 rw [Wp,er] at e2
 cases e2
 exact hr⟩
theorem Kp (h:gZ K H bU fS)(sh:Shape T B m fS)(hj:j<m):cH K H (n_ bU j) (cR fS j):=by
 refine ⟨by simp [n_,cR,h.1],fun i u q e1 e2=>?_⟩
 unfold n_ at e1
 unfold cR at e2
 rw [Wp] at e1 e2
 obtain ⟨vs,ev,rfl⟩:=ab_.mp e1
 obtain ⟨qs,eq,rfl⟩:=ab_.mp e2
 have N:=h.2 i vs qs ev eq
 have hl:=(sh qs (aam eq)).1
 have lN:=N.1
 refine N.2 j _ _ ?_ ?_
 ·rw [adn,gE (by omega)];rfl
 ·rw [adn,gE (by omega)];rfl
theorem BN (n:Nat)(h:gZ K H bU fS):gZ K H (bU.take n) (fS.take n):=⟨by rw [adm,adm,h.1],fun i vs qs e1 e2=>by
 have hi:i<n:=by
  have:=(ir.mp e1).1
  rw [adm] at this
  omega
 rw [adX hi] at e1 e2
 exact h.2 i vs qs e1 e2⟩
theorem uQ (pins:ν)(bars:τ):(f' pins bars).take (aU pins)=kr pins:=by
 unfold f'
 rw [List.take_append_of_le_length (by rw [gf];exact aa_ _),adN (by rw [gf];exact aa_ _)]
 rfl
inductive lI (K:Frag)(C:aaz)(vs:η)(H:Hp)(Q:VK)(E_:XK):Prop
|mk (a d:aaz)(pins:ν)(bars:τ)(kvs:γ)(gs:Μ)(_:vs=[.ref a,.ref d])(_:vw K H C a pins bars)(_:eC pins bars)(_:bars.length<=9)(_:H d=some (.dK kvs))(_:Paired (fun (kv:Key×V) r=>cZ K H kv.2 r) kvs gs)(_:gs.length=bars.length)(_:(∀r∈gs,Sz 31 r))(_:∀(r:aaz)(ls:υ)(bU:Ζ)(H':Hp),ao H H' ->ig K H' r ls bU (dc pins++fj pins (gs.zip bars))->Q (.ref r) H')
theorem dk:av ["F","firm","drawn","ways","rows","stiff","row","column"] ["F","firm"] (ae e_):=sq
theorem vS (hN:∀H:Hp,bM K H aN [.int 0,.int 1])(jI:mg "NOUGHT"=some (.ref aN))(D:Def K mg "bend_rows" e_ ["F","firm"])(aZ:mg "len"=none)(gy:mg "zip"=none)(af3:Fn P w K mg base (aT P w) 38 "draw_rows" ["F"] (lE K C))(vT:Fn P w K mg base (aT P w) 35 "stiff_rows" zaD (vQ K C))(U8:Fn P w K mg base (aT P w) 1 "turned" zaK mI)(af4:Fn P w K mg base (aT P w) 1 "signs_turned" zaS (vN K)):
  Fn P w K mg base (aT P w) 39 "bend_rows" ["F","firm"] (lI K C):=by
 refine D.op dk fun f bZ A outer s H vs Q E hr h=>?_
 obtain ⟨a,d,pins,bars,kvs,gs,rfl,R,g,ZL,hd,pg,lg,zg,q⟩:=h
 have gl:=g.lp
 have lk:kvs.length=gs.length:=aaK pg
 have wl:aU pins<=2*pins.length:=mN pins g.lw
 have ql:(f' pins bars).length=aU pins+bars.length:=Kl pins bars
 have big:(1000:Nat)<=aaD:=by decide
 refine ⟨_,(aa (aF (i:=2) dk.nd (aJ af3 hr (a9 (pv 0))))
  (aa (aF (i:=3) dk.nd (aw cN (aI aH rfl aZ cz (a9 (pv 2))) (aI nJ rfl aZ cz (a9 (pv 1)))))
  (aa (q0 (i:=4) (tn:=["row"]) (fr:=["ways"]) (caps:=[3]) dk.nd (a_ (cW eJ (pv 2) eI (dI (pv 3)))) (aw jC (pv 0) (aw vb (b_ (a9 (dP (v:=.ref aN) rfl jI rfl))) (pv 1))))
  (aa (aF (i:=5) dk.nd (aJ vT hr (bK (pv 0) (pv 1) (cW eJ (pv 2) (dI (pv 3)) eI))))
  (aa (bg aaG rfl (vm rfl gy (aG (pv 5) (aJ U8 hr (aG (cW eJ (pv 2) eI (dI (pv 3))) (aI aH rfl aZ cz (a9 (pv 5))))))) (fM rfl (aY (bN (i:=6) dk.nd) (aY (bN (i:=7) dk.nd) de))) (ag (bX (qE abc abg abh fN (pv 4) (a9 (aw jC (pv 6) (aJ af4 hr (a9 (pv 7)))))))))
  (ag (ay (pv 4)))))))),?_⟩
 refine ⟨_,rfl,a,pins,bars,rfl,R,g,fun r0 KW tG H1 s1 nr0 RR=>?_⟩
 have ll0:KW.length=aU pins+bars.length:=by rw [RR.jw.2.1,RR.num.1,ql]
 have lv0:tG.length=aU pins+bars.length:=by rw [RR.num.1,ql]
 refine ⟨_,rfl,r0,_,rfl,.inl (aR.of RR.jw.1),_,rfl,d,kvs,rfl,.inl (s1 _ _ hd),_,_,rfl,rfl,?_⟩
 have em:(((KW.map V.ref).length:Nat):Int)-((kvs.length:Nat):Int)=((aU pins:Nat):Int):=by rw [be];omega
 rw [em]
 obtain ⟨W,eW⟩:∃W,W=aU pins:=⟨_,rfl⟩
 rw [<-eW]
 have ZQ:iA (KW.map V.ref) none (some (W:Int))=(KW.take W).map V.ref:=by rw [mG (by rw [be];omega),List.map_take]
 have af5:iA (KW.map V.ref) (some (W:Int)) none=(KW.drop W).map V.ref:=by rw [iV (by rw [be];omega),List.map_drop]
 have rowAt:∀i l,KW[i]?=some l->∃us qs,(f' pins bars)[i]?=some qs/\tG[i]?=some us/\H1 l=some (.lst us)/\cH K H1 us qs:=fun i l e=>by
  have hi:=(ir.mp e).1
  have e1:=gE (show i<tG.length by omega)
  have e2:=gE (show i<(f' pins bars).length by omega)
  exact ⟨_,_,e2,e1,RR.jw.2.2 i l _ e e1,RR.num.2 i _ _ e1 e2⟩
 refine ⟨_,rfl,_,rfl,_,rfl,r0,_,rfl,aR.of RR.jw.1,?_⟩
 rw [ZQ]
 intro lS nS;generalize eX:upd _ lS _=HS;have ⟨sS,eS⟩:=nw nS eX
 refine ⟨lS,rfl,⟨_,aR.of eS⟩,fun rD nD=>?_⟩
 refine qY (cap:=[some (.int (W:Int))]) (K:=K) (a:=lS) (xs:=(KW.take W).map V.ref) (fun ys H'=>∃(ls:υ)(bU:Ζ),ys=ls.map V.ref/\ig K H' rD ls bU ((dc pins).take ys.length)) nD (by rw [be,adm];omega) (fun H2 s2=>aR.of (s2 _ _ eS)) ⟨[],[],rfl,⟨ah,rfl,fun i l vs e=>by simp at e⟩,⟨rfl,fun i vs qs e=>by simp at e⟩,by simp⟩ ?_ ?_
 ·intro i x ys H2 RQ hx ly hJ s2 hD k
  obtain ⟨ls,bU,rfl,RJ⟩:=hJ
  rw [Wp] at hx
  obtain ⟨l,el,rfl⟩:=ab_.mp hx
  have hi:i<W:=by
   have:=(ir.mp el).1
   rw [adm] at this
   omega
  rw [adX hi] at el
  obtain ⟨us,qs,eq,_,hl,nu⟩:=rowAt i l el
  have lY:=sS.trans s2
  have lus:us.length<=20:=by
   have:=(lH g qs (aam eq)).1
   rw [nu.1,this]
   omega
  refine ⟨_,rfl,z1L,?_⟩
  intro l5 n5;generalize eX:upd _ l5 _=H5;have ⟨s5,e5⟩:=nw n5 eX
  refine ⟨_,rfl,l5,_,_,rfl,rfl,e5,by omega,by omega,(by simp;omega),?_⟩
  intro l6 n6;generalize eX:upd _ l6 _=H6;have ⟨s6,e6⟩:=nw n6 eX
  have Nt:(adt ((W:Nat):Int).toNat [V.ref aN]).flatten=adt W (V.ref aN):=by simp
  rw [Nt] at e6
  have Nf:=lY.trans (s5.trans s6)
  refine ⟨l,l6,_,_,rfl,rfl,Nf _ _ hl,e6,(by rw [adP];omega),?_⟩
  intro l7 n7;generalize eX:upd _ l7 _=H7;have ⟨s7,e7⟩:=nw n7 eX
  have s17:=Nf.trans s7
  have Vw:=s5.trans (s6.trans s7)
  have n0:cH K H7 (adt W (V.ref aN)) (adt W (0,1)):=⟨by simp,fun i u q e1 e2=>by
   rw [adT] at e1 e2
   split at e1
   ·rename_i c
    rw [aaC c] at e2
    cases e1
    cases e2
    exact ⟨aN,rfl,hN _⟩
   ·cases e1⟩
  have eA:(dc pins)[i]?=some (qs++adt W (0,1)):=by
   have:(kr pins)[i]?=some qs:=by rw [<-uQ pins bars,adX (by omega)];exact eq
   unfold dc
   rw [Wp,this,eW]
   rfl
  have hl7:l7≠rD:=fun z=>by rw [z,(s5.trans s6) _ _ hD] at n7;cases n7
  refine k _ _ Vw ⟨ls++[l7],bU++[us++adt W (V.ref aN)],by simp,?_⟩
  have ln:ls.length=i:=by rw [be] at ly;exact ly
  have:=(RJ.same Vw).push e7 hl7 (vR (nu.same s17) n0)
  rw [adl,be,afZ,ln,adU,eA]
  rw [be,ln] at this
  exact this
 intro ys H2 ly hJ s2 hD
 obtain ⟨ls2,af6,rfl,RJ⟩:=hJ
 have lA:(dc pins).length=W:=by unfold dc;rw [be,fF,eW]
 rw [ly,be,adm,adN (by omega)] at RJ
 have lY:=sS.trans s2
 have tw:=s1.trans lY
 refine ⟨_,rfl,_,rfl,_,rfl,_,rfl,_,rfl,r0,_,rfl,aR.of (lY _ _ RR.jw.1),?_⟩
 rw [af5]
 intro lT nT;generalize eX:upd _ lT _=HT;have ⟨sT,eT⟩:=nw nT eX
 have s0T:=tw.trans sT
 have s1T:=lY.trans sT
 try dsimp only [jq]
 refine ⟨a,d,lT,pins,bars,kvs,gs,KW.drop W,rfl,R.same s0T,g,ZL,s0T _ _ hd,Paired.cF pg fun _ _ z=>z.same s0T,lg,zg,eT,by rw [afy];omega,fun i l b el eb=>?_,fun r1 ls1 f H4 s4 n4 nl4 mx hf=>?_⟩
 ·rw [List.getElem?_drop] at el
  obtain ⟨us,qs,eq,_,hl,nu⟩:=rowAt (W+i) l el
  have:(f' pins bars)[W+i]?=some (cf (c6 b) pins):=by
   unfold f'
   rw [adv (by rw [gf,eW];exact Nat.le_add_right _ _),Wp,gf,show W+i-(pins.flatMap fun p=>p.ws).length=i by rw [eW];unfold aU;omega,eb]
   rfl
  rw [this] at eq
  cases eq
  exact ⟨us,s1T _ _ hl,nu.same s1T⟩
 obtain ⟨N,eN⟩:∃N,N=2*pins.length:=⟨_,rfl⟩
 rw [<-eN] at mx hf
 have OL:=s1T.trans s4
 have WI:=sT.trans s4
 have MT:jt H4 r0 KW tG:=RR.jw.same OL
 refine ⟨_,rfl,_,rfl,_,rfl,_,rfl,r0,_,rfl,aR.of MT.1,?_⟩
 rw [ZQ]
 intro lU nU;generalize eX:upd _ lU _=H5;have ⟨sU,eU⟩:=nw nU eX
 refine ⟨_,rfl,r1,_,rfl,.inl (aR.of (sU _ _ mx.hr)),?_⟩
 show mI [_,_] _ _ E0
 have lm:(((ls1.map V.ref).length:Nat):Int)=((N:Nat):Int):=by rw [be,mx.ln]
 have s15:=OL.trans sU
 have M5:jt H5 lU (KW.take W) (tG.take W):=⟨eU,by rw [adm,adm,ll0,lv0],fun i l vs e1 e2=>by
  have hi:i<W:=by
   have:=(ir.mp e1).1
   rw [adm] at this
   omega
  rw [adX hi] at e1 e2
  exact s15 _ _ (RR.jw.2.2 i l vs e1 e2)⟩
 have N1:gZ K H1 (tG.take W) (kr pins):=by
  have:=BN W RR.num
  rw [eW,uQ] at this
  rw [eW]
  exact this
 have shW:Shape 50 50 N (kr pins):=fun qs hq=>by
  rw [eN]
  exact lH g qs (by unfold f';exact adL _ hq)
 refine ⟨lU,KW.take W,tG.take W,((N:Nat):Int),aaQ (fun i:Int=>[V.ref lU,V.int i]) lm,M5,by omega,by omega,by rw [adm];omega,fun vs hv=>?_,fun c cs H6 s6 nc6 aga M6=>?_⟩
 ·obtain ⟨i,ei⟩:=adj hv
  have hi:=(ir.mp ei).1
  have e2:=gE (show i<(kr pins).length by rw [<-N1.1];exact hi)
  have h1:=(N1.2 i vs _ ei e2).1
  rw [h1,(shW _ (aam e2)).1]
  exact amj _
 rw [afQ] at M6
 have lcs:cs.length=N:=by rw [M6.2.1];unfold jn;rw [be,adV]
 have Nf:=s15.trans s6
 have EV:=sU.trans s6
 have s26:=WI.trans EV
 have mx6:=mx.same EV
 have R6:=RJ.same s26
 have rD4:=WI _ _ RJ.jw.1
 have r1D:r1≠rD:=fun z=>by rw [z,sT _ _ RJ.jw.1] at n4;cases n4
 have l1D:∀l∈ls1,l≠rD:=fun l hm z=>by
  have:=nl4 l hm
  rw [z,sT _ _ RJ.jw.1] at this
  cases this
 have lB:(fj pins (gs.zip bars)).length=N:=by unfold fj;rw [be,adV,eN]
 have rD5:=sU _ _ rD4
 have cD:∀i l,cs[i]?=some l->H6 l=some (.lst (n_ (tG.take W) i)):=fun i l e=>by
  have hi:=(ir.mp e).1
  refine M6.2.2 i l _ e ?_
  unfold jn
  rw [Wp,ad7 (by omega)]
  rfl
 have PM:∀i l,cs[i]?=some l->l≠rD:=fun i l e z=>by
  have:=aga l (aam e)
  rw [z,rD5] at this
  cases this
 have cnD:c≠rD:=fun z=>by rw [z,rD5] at nc6;cases nc6
 refine ⟨r1,c,rfl,⟨_,aR.of mx6.hr⟩,⟨_,aR.of M6.1⟩,?_⟩
 refine Qu (K:=K) (a:=r1) (b:=c) (xs:=ls1.map V.ref) (ys:=cs.map V.ref) (fun t σ H'=>HX fun (o6 o7:ω) (ls:υ) (bU:Ζ)=>σ=[some (.ref a),some (.ref d),some (.ref r0),some (.int (W:Int)),some (.ref rD),some (.ref r1),o6,o7]/\(∀b o,b≠rD->H6 b=some o->H' b=some o)/\ig K H' rD ls bU (dc pins++(fj pins (gs.zip bars)).take t)/\ls.length<=W+t) ⟨none,none,ls2,af6,rfl,fun _ _ _ e=>e,by rw [am7,afl];exact R6,by rw [RJ.jw.2.1,RJ.num.1,lA];exact aa_ _⟩ (fun i σ H' h=>by
   obtain ⟨_,_,_,_,_,k',_⟩:=h
   exact ⟨aR.of (k' _ _ r1D mx6.hr),aR.of (k' _ _ cnD M6.1)⟩) ?_ ?_
 ·rintro t x y σ H7 p7 ex ey ⟨o6,o7,ls,bU,rfl,k7,R7,ll⟩ np
  have s7:=aA np (.tup [x,y])
  have e7:(upd H7 p7 (.tup [x,y])) p7=some (.tup [x,y]):=ah
  generalize upd H7 p7 (.tup [x,y])=H8 at s7 e7 ⊢
  rw [Wp] at ex ey
  obtain ⟨l1,el1,rfl⟩:=ab_.mp ex
  obtain ⟨c1,ec1,rfl⟩:=ab_.mp ey
  have ht:t<N:=by
   have:=(ir.mp ec1).1
   omega
  obtain ⟨vs1,hv1,lv1,nv1⟩:=mx6.row t l1 el1
  have tt:bo H6 H7:=fun b xs e=>by
   rcases e with e|⟨o',e⟩
   ·exact .inl (k7 _ _ (fun z=>by rw [z,R6.jw.1] at e;cases e) e)
   ·exact .inr ⟨o',k7 _ _ (fun z=>by rw [z,R6.jw.1] at e;cases e) e⟩
  have hv8:=s7 _ _ (k7 _ _ (l1D l1 (aam el1)) hv1)
  have c1D:c1≠rD:=PM t c1 ec1
  have hc8:=s7 _ _ (k7 _ _ c1D (cD t c1 ec1))
  have R8:=R7.same s7
  have cn:cH K H1 (n_ (tG.take W) t) (cR (kr pins) t):=Kp N1 shW ht
  have cp:Paired (cZ K H8) (n_ (tG.take W) t) ((cR (kr pins) t).map vl):=Paired.cF (mO (cn.same Nf) (U6 shW ht)) fun _ _ z=>(z.aK tt).same s7
  refine ⟨p7,_,rfl,bM.of e7,rfl,_,_,rfl,_,_,rfl,rfl,_,rfl,.inl ⟨rfl,_,aR.of R8.jw.1⟩,_,rfl,_,rfl,c1,_,_,rfl,hc8,cp,(by unfold n_;rw [be,adm];omega),fun l9 us9 H9 s9 e9 p9=>?_⟩
  refine ⟨l1,l9,_,_,rfl,rfl,s9 _ _ hv8,e9,(by have:=aaK p9;rw [be,be] at this;unfold cR at this;rw [be,fF] at this;omega),?_⟩
  intro YU Vu;generalize eX:upd _ YU _=OF;have ⟨vj,WC⟩:=nw Vu eX
  have R10:=R8.same (s9.trans vj)
  refine ⟨rD,_,_,rfl,rfl,R10.jw.1,(by rw [be];omega),?_⟩
  have agd:YU≠rD:=fun z=>by rw [z,(R8.same s9).jw.1] at Vu;cases Vu
  have nv8:cH K OF vs1 ((adG N).map fun j=>qr (xq pins (gs.zip bars) t j)):=⟨by rw [be,adV];exact lv1,fun j u qq e1 e2=>by
   rw [Wp] at e2
   obtain ⟨j',ej,rfl⟩:=ab_.mp e2
   have hj:j<N:=by
    have:=(ir.mp e1).1
    omega
   rw [ad7 hj] at ej
   cases ej
   have:=nv1 j u e1
   rw [hf t j ht hj] at this
   exact ((this.aK tt).same s7).same (s9.trans vj)⟩
  have ns9:cH K OF us9 (((cR (kr pins) t).map vl).map fun r=>qr (-r)):=by
   have:=(Vv p9).same vj
   rw [adu] at this
   exact this
  have eB:(fj pins (gs.zip bars))[t]?=some (((adG N).map fun j=>qr (xq pins (gs.zip bars) t j))++((cR (kr pins) t).map vl).map fun r=>qr (-r)):=by
   unfold fj
   rw [Wp,<-eN,ad7 ht]
   rfl
  refine ⟨_,_,ls++[YU],bU++[vs1++us9],rfl,fun b o n e=>?_,?_,by rw [adl,afZ];omega⟩
  ·rw [aj n]
   exact vj _ _ (s9 _ _ (s7 _ _ (k7 _ _ n e)))
  ·rw [adU,eB,<-afT]
   exact R10.push WC agd (vR nv8 ns9)
 ·rintro σ H7 ⟨o6,o7,ls,bU,rfl,k7,R7,ll⟩
  rw [be,be,mx.ln,lcs,agM,adN (by omega)] at R7
  refine ⟨_,rfl,q rD ls bU H7 (fun b o e=>?_) R7⟩
  have s06:=s1.trans Nf
  exact k7 _ _ (fun z=>by rw [z,(s1.trans sS).free nD] at e;cases e) (s06 _ _ e)
inductive j9 (K:Frag)(vs:η)(H:Hp)(Q:VK)(E_:XK):Prop
|mk (d e:aaz)(kvs kL:γ)(xs:List (Str×Rat))(Ln:Θ)(_:vs=[.ref d,.ref e])(_:H d=some (.dK kvs))(_:Paired (fun (kv:Key×V)(x:Str×Rat)=>kv.1=.inr x.1/\cZ K H kv.2 x.2) kvs xs)(_:(xs.map (·.1)).Nodup)(_:H e=some (.dK kL))(_:d≠e)(_:xs.length<=14)(_:(∀x∈xs,Sz 31 x.2/\Sz 4000000 (Ln x.1)/\∃v,bF kL (.inr x.1)=some v/\cZ K H v (Ln x.1)))(_:∀(p:aaz)(kT:γ)(H':Hp),ao H H' ->H p=none->H' p=some (.dK kT)->Paired (fun (kv:Key×V)(x:Str×Rat)=>kv.1=.inr x.1/\cZ K H' kv.2 (x.2*Ln x.1)) kT xs->Q (.ref p) H')
theorem jf:av ["firm","longer","pulls","bar","grip"] zaN (ae gK):=sq
theorem BO (D:Def K mg "gripped" gK zaN)(cu:Fn P w K mg base (aT P w) 34 "product_of" zab (iE K fun a b=>a*b)):
  Fn P w K mg base (aT P w) 35 "gripped" zaN (j9 K):=by
 refine D.oo jf fun H hr h=>?_
 obtain ⟨d,e,kvs,kL,xs,Ln,rfl,hd,pk,nd,he,ne,lx,hx,q⟩:=h
 have lk:kvs.length=xs.length:=aaK pk
 refine ⟨_,(aa (aF (i:=2) jf.nd cL)
  (aa (jZ (bg aaG rfl (mw (pv 0)) (fM rfl (aY (bN (i:=3) jf.nd) (aY (bN (i:=4) jf.nd) de))) (ag (cE (bw hr) (pv 2) (pv 3) (aJ cu hr (aG (pv 4) (b6 (bw hr) (pv 1) (pv 3) (fun _ _=>rfl)))) rfl))))
  (ag (ay (pv 2))))),?_⟩
 intro p np
 have s1:=aA np (.dK [])
 have e1:(upd H p (.dK [])) p=some (.dK []):=ah
 generalize upd H p (.dK [])=H1 at s1 e1 ⊢
 have Ni:=s1 _ _ hd
 have pd:p≠d:=fun z=>by rw [z,hd] at np;cases np
 refine ⟨_,rfl,d,kvs,rfl,Ni,fun o=>?_⟩
 have k0:∀b o',b≠d->b≠p->H b=some o' ->(upd H1 d (.fq o (.dK kvs))) b=some o':=fun b o' n _ z=>by rw [aj n];exact s1 _ _ z
 have tH:∀{H':Hp},(∀b o',b≠d->b≠p->H b=some o' ->H' b=some o')->bo H H':=fun {H'} k b xs r=>by
  rcases r with r|⟨o',r⟩
  ·exact .inl (k _ _ (fun z=>by rw [z,hd] at r;cases r) (fun z=>by rw [z,np] at r;cases r) r)
  ·exact .inr ⟨o',k _ _ (fun z=>by rw [z,hd] at r;cases r) (fun z=>by rw [z,np] at r;cases r) r⟩
 refine jY (d:=d) (o:=o) (kvs:=kvs) (fun t σ H'=>EJ fun (o3 o4:ω) (kT:γ)=>σ=[some (.ref d),some (.ref e),some (.ref p),o3,o4]/\(∀b o',b≠d->b≠p->H b=some o' ->H' b=some o')/\H' d=some (.fq o (.dK kvs))/\H' p=some (.dK kT)/\Paired (fun (kv:Key×V) (x:Str×Rat)=>kv.1=.inr x.1/\cZ K H' kv.2 (x.2*Ln x.1)) kT (xs.take t)) ⟨none,none,[],rfl,k0,ah,by rw [aj pd];exact e1,.nil⟩ (fun t σ H' _ h=>by
   obtain ⟨_,_,_,_,_,h,_⟩:=h
   exact h) ?_ ?_
 ·rintro t k y σ H6 p7 uO ⟨o3,o4,kT,rfl,k6,Kj,hp6,pT⟩ n7
  obtain ⟨x,ex,rfl,ny⟩:∃x,xs[t]?=some x/\k=.inr x.1/\cZ K H y x.2:=by
   obtain ⟨x,ex,h1,h2⟩:=aE pk uO
   exact ⟨x,ex,h1,h2⟩
  have s7:=aA n7 (.tup [kV (.inr x.1),y])
  have e7:(upd H6 p7 (.tup [kV (.inr x.1),y])) p7=some (.tup [kV (.inr x.1),y]):=ah
  generalize upd H6 p7 (.tup [kV (.inr x.1),y])=H7 at s7 e7 ⊢
  have k7:∀b o',b≠d->b≠p->H b=some o' ->H7 b=some o':=fun b o' n m z=>s7 _ _ (k6 b o' n m z)
  obtain ⟨z1,z2,v,ev,nv⟩:=hx x (aam ex)
  have pe:e≠p:=fun z=>by rw [<-z,he] at np;cases np
  have dg:cG H7 e (.str x.1) (some v):=by
   have:=cG.k (k:=.inr x.1) (k7 _ _ (adO ne) pe he)
   rw [ev] at this
   exact this
  refine ⟨p7,_,rfl,bM.of e7,rfl,_,_,rfl,_,_,rfl,rfl,_,rfl,_,rfl,_,rfl,e,v,rfl,dg,y,v,x.2,Ln x.1,rfl,ny.aK (tH k7),nv.aK (tH k7),z1.up (by decide),z2.up (by decide),fun c8 H8 s8 e8=>?_⟩
  have hp8:=s8 _ _ (s7 _ _ hp6)
  have lT:=aaK pT
  rw [adm] at lT
  refine ⟨_,rfl,_,rfl,p,_,rfl,gP.k (k:=.inr x.1) hp8 (ac_ (show kT.length<=1000 by omega) (by decide)),?_⟩
  have fresh:(adR x.1:Key)∉kT.map (·.1):=fun z=>by
   obtain ⟨kv,Vr,ek⟩:=aat.mp z
   obtain ⟨j,ej⟩:=adj Vr
   obtain ⟨x',zF,h1,_⟩:=aE pT ej
   rw [h1] at ek
   have hj:j<t:=by
    have:=(ir.mp zF).1
    rw [adm] at this
    omega
   rw [adX hj] at zF
   have g1:(xs.map (·.1))[j]?=some x.1:=by rw [Wp,zF,<-adZ ek];rfl
   have g2:(xs.map (·.1))[t]?=some x.1:=by rw [Wp,ex];rfl
   have:=d_ nd g1 g2
   omega
  rw [dw _ (bP fresh)]
  have t8:bo H8 (upd H8 p (.dK (kT++[(.inr x.1,.ref c8)]))):=.dict hp8
  refine ⟨_,_,_,rfl,fun b o' n m z=>?_,?_,ah,?_⟩
  ·rw [aj m]
   exact s8 _ _ (k7 b o' n m z)
  ·rw [aj (adO pd)]
   exact s8 _ _ (s7 _ _ Kj)
  ·rw [adU,ex]
   refine oi (Paired.cF pT fun _ _ z=>⟨z.1,(z.2.same (s7.trans s8)).aK t8⟩) ⟨rfl,?_⟩
   exact cZ.aK ⟨c8,rfl,bM.of e8⟩ t8
 ·rintro σ H6 ⟨o3,o4,kT,rfl,k6,Kj,hp6,pT⟩
  refine ⟨d,o,kvs,Kj,fun o' u' z=>(by have z':H d=some (.fq o' u'):=z;rw [hd] at z';cases z'),?_⟩
  rw [adN (by omega)] at pT
  have t2:bo H6 (upd H6 d (.dK kvs)):=fun b xs r=>by
   rcases r with r|⟨o',r⟩
   ·exact .inl (by rw [aj (fun z=>by rw [z,Kj] at r;cases r)];exact r)
   ·exact .inr ⟨o',by rw [aj (fun z=>by rw [z,Kj] at r;cases r)];exact r⟩
  refine ⟨_,rfl,q p kT _ (fun b o' z=>?_) np (by rw [aj pd];exact hp6) (Paired.cF pT fun _ _ z=>⟨z.1,z.2.aK t2⟩)⟩
  by_cases n:b=d
  ·subst n
   rw [hd] at z
   rw [ah]
   exact z
  ·rw [aj n]
   exact k6 b o' n (fun m=>by rw [m,np] at z;cases z) z
theorem qp {α:Type}(f g:α->Rat):∀(l:List α)(u:Μ),sP (l.map fun j=>f j+g j) u=sP (l.map f) u+sP (l.map g) u
 | [],u=>by rw [adM,adM,adM,fV];grind
 | a::l,[]=>by simp [sP];grind
 | a::l,x::u=>by
  rw [aau,aau,aau,b9,b9,b9,qp f g l u]
  grind
theorem jg {α:Type}(c:Rat)(f:α->Rat):∀(l:List α)(u:Μ),sP (l.map fun j=>c*f j) u=c*sP (l.map f) u
 | [],u=>by rw [adM,adM,fV];grind
 | a::l,[]=>by simp [sP]
 | a::l,x::u=>by
  rw [aau,aau,b9,b9,jg c f l u]
  grind
theorem jh:∀(a b:Μ),sP a b=sP b a
 | [],b=>by cases b<;>simp [sP]
 | x::a,[]=>by simp [sP]
 | x::a,y::b=>by
  rw [b9,b9,jh a b]
  grind
theorem FE (l u:Μ):sP (l.map fun r=> -r) u= -(sP l u):=by
 have:=jg (-1) (fun r:Rat=>r) l u
 rw [List.map_id'] at this
 have e:(l.map fun r=> -r)=l.map fun r=> -1*r:=adp fun r _=>by grind
 rw [e,this]
 grind
theorem qt {α:Type}(c:α->Rat)(r:α->Nat->Rat)(l:List Nat)(u:Μ):∀bars:List α,sP (l.map fun j=>(bars.map fun b=>c b*r b j).sum) u=(bars.map fun b=>c b*sP (l.map (r b)) u).sum
 | []=>by
  have e:(l.map fun j=>(([]:List α).map fun b=>c b*r b j).sum)=l.map fun j=>0*(0:Rat):=adp fun j _=>by simp
  rw [e,jg,adM,ad5]
  grind
 | b::bs=>by
  have e:(l.map fun j=>((b::bs).map fun b=>c b*r b j).sum)=l.map fun j=>c b*r b j+(bs.map fun b=>c b*r b j).sum:=adp fun j _=>by rw [aau,adw]
  rw [e,qp,jg,qt c r l u bs,aau,adw]
theorem FF {α:Type}(r:α->Nat->Rat)(l:List Nat)(u:Μ):∀(y:Μ)(qs:List α),sP (l.map fun j=>sP y (qs.map fun q=>r q j)) u=sP y (qs.map fun q=>sP (l.map (r q)) u)
 | [],qs=>by
  have e:(l.map fun j=>sP [] (qs.map fun q=>r q j))=l.map fun j=>0*(0:Rat):=adp fun j _=>by rw [fV];grind
  rw [e,jg,fV]
  grind
 | a::y,[]=>by
  have e:(l.map fun j=>sP (a::y) (([]:List α).map fun q=>r q j))=l.map fun j=>0*(0:Rat):=adp fun j _=>by simp [sP]
  rw [e,jg]
  simp [sP]
 | a::y,q::qs=>by
  have e:(l.map fun j=>sP (a::y) ((q::qs).map fun q=>r q j))=l.map fun j=>a*r q j+sP y (qs.map fun q=>r q j):=adp fun j _=>by rw [aau,b9]
  rw [e,qp,jg,FF r l u y qs,aau,b9]
theorem sq_pos (x:Rat):0<=x*x:=by
 rcases Rat.le_total (a:=0) (b:=x) with h|h
 ·exact afY h h
 ·have h':0<= -x:=by grind
  have:=afY h' h'
  grind
theorem FG (G s:aV->Rat):∀bars:List aV,(∀b∈bars,0<G b)->(bars.map fun b=>G b*(s b*s b)).sum<=0->∀b∈bars,s b=0
 | [],_,_,b,hb=>by cases hb
 | c::bs,h,z,b,hb=>by
  rw [aau,adw] at z
  have g0:=h c adk
  have nn:∀l:List aV,(∀b∈l,0<G b)->0<=(l.map fun b=>G b*(s b*s b)).sum:=fun l=>by
   induction l with
   | nil=>intro _;rw [adM,ad5];exact Rat.le_refl
   | cons a l ih=>
    intro hl
    rw [aau,adw]
    have h1:=ih fun b hb=>hl b (aaw _ hb)
    have h2:0<=s a*s a:=sq_pos (s a)
    have h3:=afY (amA (hl a adk)) h2
    grind
  have n1:=nn bs fun b hb=>h b (aaw _ hb)
  have h2:0<=s c*s c:=sq_pos (s c)
  have h3:=afY (amA g0) h2
  have z1:G c*(s c*s c)=0:=by grind
  have zc:s c=0:=by
   rcases am1.mp z1 with e|e
   ·grind
   ·rcases am1.mp e with e|e<;>exact e
  rcases adD.mp hb with e|hb
  ·rw [e];exact zc
  ·exact FG G s bs (fun b hb=>h b (aaw _ hb)) (by grind) b hb
theorem vU (F:ι)(pins:ν):((adG (2*pins.length)).map fun j=>vl ((cf F pins).getD j (0,1)))=(cf F pins).map vl:=by
 refine adW fun j=>?_
 rw [Wp,Wp]
 by_cases c:j<2*pins.length
 ·rw [ad7 c,gE (by rw [cM];exact c)]
  show some (vl ((cf F pins).getD j (0,1)))=some _
  rw [adn,gE (by rw [cM];exact c)]
  rfl
 ·rw [aax (by rw [adV];omega),aax (by rw [cM];omega)]
  rfl
def uR (M:ψ)(pins:ν):List Rat:=pins.flatMap fun p=>[(M p.nm).1,(M p.nm).2]
theorem vV (M:ψ):∀pins:List aD,(uR M pins).length=2*pins.length
 | []=>rfl
 | p::ps=>by
  have:=vV M ps
  unfold uR at this ⊢
  rw [adA,adl,this]
  show 2+2*ps.length=2*(ps.length+1)
  omega
theorem BP (g:eC pins bars)(hb:b∈bars)(M:ψ):sP ((adG (2*pins.length)).map (gw pins b)) (uR M pins)= -(fk M b):=by
 obtain ⟨m1,m2,m3⟩:=g.ends b hb
 rw [show (adG (2*pins.length)).map (gw pins b)=(cf (c6 b) pins).map vl from vU (c6 b) pins]
 unfold uR
 rw [qk,EY g.np b m1 m2 m3]
theorem Nz (np:(pins.map (·.nm)).Nodup)(hp:p∈pins)(w:Rat×Rat)(M:ψ):sP ((cf (fK p.nm w) pins).map vl) (uR M pins)=dt w (M p.nm):=by
 unfold uR
 rw [qk,vL np hp]
theorem NA (hp:p∈pins){w:Rat×Rat}(hw:w∈p.ws):cf (fK p.nm w) pins∈kr pins:=by
 unfold kr oa
 exact aee.mpr ⟨p,hp,aat.mpr ⟨w,hw,rfl⟩⟩
theorem BQ {qs:ο}(h:qs∈kr pins):∃p∈pins,∃w∈p.ws,qs=cf (fK p.nm w) pins:=by
 unfold kr oa at h
 obtain ⟨p,hp,h⟩:=aee.mp h
 obtain ⟨w,hw,e⟩:=aat.mp h
 exact ⟨p,hp,w,hw,e.symm⟩
theorem oj {qs:ο}(h:qs∈kr pins):qs.length=2*pins.length:=by
 obtain ⟨p,_,w,_,rfl⟩:=BQ h
 exact cM _ _
def vW (pins:ν)(L:ι):List (Int×Int):=adt (aU pins) (0,1)++cf L pins
theorem v01:vl ((0,1):Int×Int)=0:=by decide+kernel
theorem NC (n:Nat):(adt n ((0,1):Int×Int)).map vl=(adt n ()).map fun _=>(0:Rat):=by rw [List.map_replicate,v01];simp
theorem mP (A B:Δ)(j:Nat):cR (A++B) j=cR A j++cR B j:=by unfold cR;rw [ads]
theorem iX (A:Δ)(j:Nat):(cR A j).length=A.length:=by unfold cR;rw [be]
section
variable {pins:ν}{bars:τ}{G:aV->Rat}{L:ι}
theorem yz (i j:Nat):xq pins (bars.map fun b=>(G b,b)) i j=(bars.map fun b=>G b*gw pins b i*gw pins b j).sum:=by
 unfold xq
 rw [adu]
 rfl
theorem yA (g:eC pins bars)(hx:∀(i:Nat)(qs:ο)(d:Int×Int),(dc pins++fj pins (bars.map fun b=>(G b,b)))[i]?=some qs->(vW pins L)[i]?=some d->g9 qs xs=vl d)
    (ex:xs.map vl=uR M pins++pins.flatMap fun p=>U p.nm) (lU:∀p∈pins,(U p.nm).length=p.ws.length)  (hT:∀b∈bars,T b.nm=G b*fk M b):(∀p∈pins,∀w∈p.ws,dt w (M p.nm)=0)/\rC pins bars T U L:=by
 have lA:(dc pins).length=aU pins:=by unfold dc;rw [be,fF]
 have lfU:(pins.flatMap fun p=>U p.nm).length=aU pins:=by
  unfold aU
  clear ex hx hT g
  induction pins with
  | nil=>rfl
  | cons q ps ih=>rw [adA,adA,adl,adl,ih (fun r hr=>lU r (aaw _ hr)) (by unfold dc;rw [be,fF]),lU q adk]
 refine ⟨fun p hp w hw=>?_,fun p hp=>?_⟩
 ·obtain ⟨i,ei⟩:=adj (NA hp hw)
  have hi:i<aU pins:=by rw [<-fF];exact (ir.mp ei).1
  have eA:(dc pins)[i]?=some (cf (fK p.nm w) pins++adt (aU pins) (0,1)):=by unfold dc;rw [Wp,ei];rfl
  have:=hx i _ (0,1) (by rw [adq (by omega)];exact eA) (by unfold vW;rw [adq (by rw [adP];exact hi),adT,aaC hi])
  rw [j7,ex,ads,fW _ _ (by rw [be,cM,vV]),Nz g.np hp,NC,jh ((adt (aU pins) ()).map _),iq,v01] at this
  grind
 ·obtain ⟨k,ek⟩:=adj hp
  have hk:=(ir.mp ek).1
  have one:∀(j:Nat)(c:Rat×Rat->Rat),j<2*pins.length->c (0,0)=0->(∀F,vl ((cf F pins).getD j (0,1))=c (mv F p.nm))->fX bars T U p c+c (mv L p.nm)=0:=fun j c hj c0 hc=>by
   have cs:=QV (bars:=bars) (T:=T) (L:=L) c0 g.np lU hp 1
   rw [<-Ko pins bars L ek j c hc,show f' pins bars++[cf L pins]=kr pins++(bars.map fun b=>cf (c6 b) pins)++[cf L pins] from rfl,mP,mP,ads,ads,fW _ _ (by rw [adl,adl,be,be,be,iX,iX,lfU,fF,be]),fW _ _ (by rw [be,iX,lfU,fF])] at cs
   have e2:sP (bars.map fun b=>T b.nm) ((cR (bars.map fun b=>cf (c6 b) pins) j).map vl)=(bars.map fun b=>T b.nm*gw pins b j).sum:=by
    unfold cR
    rw [adu,adu,BI]
    rfl
   have e3:sP [(1:Rat)] ((cR [cf L pins] j).map vl)=c (mv L p.nm):=by
    show sP [(1:Rat)] [vl ((cf L pins).getD j (0,1))]=_
    rw [b9,fV,hc]
    grind
   rw [e2,e3] at cs
   have eB:(fj pins (bars.map fun b=>(G b,b)))[j]?=some (((adG (2*pins.length)).map fun j'=>qr (xq pins (bars.map fun b=>(G b,b)) j j'))++((cR (kr pins) j).map vl).map fun r=>qr (-r)):=by
    unfold fj
    rw [Wp,ad7 hj]
    rfl
   obtain ⟨dj,lr⟩:∃d,(cf L pins)[j]?=some d:=⟨_,gE (show j<(cf L pins).length by rw [cM];exact hj)⟩
   have:=hx (aU pins+j) _ _ (by rw [adv (by omega),lA,ae'];exact eB) (by unfold vW;rw [adv (by rw [adP];omega),adP,ae'];exact lr)
   have hL:vl dj=c (mv L p.nm):=by
    rw [<-hc L,adn,lr]
    rfl
   rw [j7,ex,ads,fW _ _ (by rw [be,be,adV,vV]),adu,adu,hL] at this
   have f1:(adG (2*pins.length)).map (vl ∘ fun j'=>qr (xq pins (bars.map fun b=>(G b,b)) j j'))=(adG (2*pins.length)).map fun j'=>(bars.map fun b=>(G b*gw pins b j)*gw pins b j').sum:=adp fun j' _=>by
    show vl (qr _)=_
    rw [dy,yz]
   have f2:((cR (kr pins) j).map vl).map (vl ∘ fun r=>qr (-r))=((cR (kr pins) j).map vl).map fun r=> -r:=adp fun r _=>dy _
   rw [f1,f2,qt (fun b=>G b*gw pins b j) (gw pins),FE,jh ((cR (kr pins) j).map vl)] at this
   have f3:(bars.map fun b=>(G b*gw pins b j)*sP ((adG (2*pins.length)).map (gw pins b)) (uR M pins)).sum= -(bars.map fun b=>T b.nm*gw pins b j).sum:=by
    rw [<-sum_neg]
    refine aaQ amB (adp fun b hb=>?_)
    rw [BP g hb,hT b hb]
    grind
   rw [f3] at this
   grind
  exact ⟨one (2*k) (·.1) (by omega) rfl fun F=>(vM F ek).1,one (2*k+1) (·.2) (by omega) rfl fun F=>(vM F ek).2⟩
theorem BR (g:eC pins bars)(hG:∀b∈bars,0<G b)(h0:∀j,j<2*pins.length+aU pins->g9 ys (cR (dc pins++fj pins (bars.map fun b=>(G b,b))) j)=0)(h1:g9 ys (vW pins L)=1)
   {yw:Μ} (ey:ys.map vl=yw++uR M pins) (lw:yw.length=aU pins):BH pins bars M/\oO pins L M=1:=by
 have lA:(dc pins).length=aU pins:=by unfold dc;rw [be,fF]
 have way:∀qs∈kr pins,sP (qs.map vl) (uR M pins)=0:=fun qs hq=>by
  obtain ⟨k,ek⟩:=adj hq
  have hk:k<aU pins:=by rw [<-fF];exact (ir.mp ek).1
  have:=h0 (2*pins.length+k) (by omega)
  have eA:(cR (dc pins) (2*pins.length+k)).map vl=(kr pins).map fun _=>(0:Rat):=by
   unfold cR dc
   rw [adu,adu]
   refine adp fun qs hq=>?_
   show vl ((qs++adt (aU pins) (0,1)).getD (2*pins.length+k) (0,1))=0
   rw [adn,adv (by rw [oj hq];omega),oj hq,ae',adT,aaC hk]
   exact v01
  have eB:(cR (fj pins (bars.map fun b=>(G b,b))) (2*pins.length+k)).map vl=(qs.map vl).map fun r=> -r:=by
   have lq:=oj hq
   obtain ⟨p,_,w,_,rfl⟩:=BQ hq
   rw [<-vU (fK p.nm w) pins,adu]
   unfold cR fj
   rw [adu,adu]
   refine adp fun i hi=>?_
   show vl ((((adG (2*pins.length)).map fun j=>qr (xq pins (bars.map fun b=>(G b,b)) i j))++((cR (kr pins) i).map vl).map fun r=>qr (-r)).getD (2*pins.length+k) (0,1))= -(vl ((cf (fK p.nm w) pins).getD i (0,1)))
   rw [adn,adv (by rw [be,adV];omega),be,adV,ae',Wp,Wp]
   unfold cR
   rw [Wp,ek]
   exact dy _
  rw [j7,ey,mP,ads,fW _ _ (by rw [be,iX,lA,lw]),eA,eB,iq,jh,FE] at this
  grind
 have Vn:∀p∈pins,∀w∈p.ws,dt w (M p.nm)=0:=fun p hp w hw=>by rw [<-Nz g.np hp];exact way _ (NA hp hw)
 have col:∀j,j<2*pins.length->sP yw ((kr pins).map fun qs=>vl (qs.getD j (0,1)))+(bars.map fun b=>(G b* -(fk M b))*gw pins b j).sum=0:=fun j hj=>by
  have:=h0 j (by omega)
  have eA:(cR (dc pins) j).map vl=(kr pins).map fun qs=>vl (qs.getD j (0,1)):=by
   unfold cR dc
   rw [adu,adu]
   refine adp fun qs hq=>?_
   show vl ((qs++adt (aU pins) (0,1)).getD j (0,1))=_
   rw [adn,adq (by rw [oj hq];exact hj),<-adn]
  have eB:(cR (fj pins (bars.map fun b=>(G b,b))) j).map vl=(adG (2*pins.length)).map fun i=>(bars.map fun b=>(G b*gw pins b j)*gw pins b i).sum:=by
   unfold cR fj
   rw [adu,adu]
   refine adp fun i hi=>?_
   show vl ((((adG (2*pins.length)).map fun j=>qr (xq pins (bars.map fun b=>(G b,b)) i j))++((cR (kr pins) i).map vl).map fun r=>qr (-r)).getD j (0,1))=_
   rw [adn,adq (by rw [be,adV];exact hj),Wp,ad7 hj]
   show vl (qr _)=_
   rw [dy,yz]
   refine aaQ amB (adp fun b _=>?_)
   grind
  rw [j7,ey,mP,ads,fW _ _ (by rw [be,iX,lA,lw]),eA,eB,jh (uR M pins),qt (fun b=>G b*gw pins b j) (gw pins)] at this
  have f:(bars.map fun b=>(G b*gw pins b j)*sP ((adG (2*pins.length)).map (gw pins b)) (uR M pins)).sum=(bars.map fun b=>(G b* -(fk M b))*gw pins b j).sum:=by
   refine aaQ amB (adp fun b hb=>?_)
   rw [BP g hb]
   grind
  rw [f] at this
  exact this
 have all:sP ((adG (2*pins.length)).map fun j=>sP yw ((kr pins).map fun qs=>vl (qs.getD j (0,1)))+(bars.map fun b=>(G b* -(fk M b))*gw pins b j).sum) (uR M pins)=0:=by
  have e:((adG (2*pins.length)).map fun j=>sP yw ((kr pins).map fun qs=>vl (qs.getD j (0,1)))+(bars.map fun b=>(G b* -(fk M b))*gw pins b j).sum)=(adG (2*pins.length)).map fun _=>(0:Rat):=adp fun j hj=>col j (ad9.mp hj)
  rw [e,jh,iq]
 rw [qp,FF (fun (qs:ο) (j:Nat)=>vl (qs.getD j (0,1))),qt (fun b=>G b* -(fk M b)) (gw pins)] at all
 have e1:((kr pins).map fun q=>sP ((adG (2*pins.length)).map fun j=>vl (q.getD j (0,1))) (uR M pins))=(kr pins).map fun _=>(0:Rat):=adp fun q hq=>by
  obtain ⟨p,hp,w,hw,rfl⟩:=BQ hq
  rw [vU]
  exact way _ hq
 have e2:(bars.map fun b=>(G b* -(fk M b))*sP ((adG (2*pins.length)).map (gw pins b)) (uR M pins)).sum=(bars.map fun b=>G b*(fk M b*fk M b)).sum:=aaQ amB (adp fun b hb=>by rw [BP g hb];grind)
 rw [e1,iq,e2] at all
 refine ⟨⟨Vn,FG G (fk M) bars hG (by grind)⟩,?_⟩
 rw [j7,ey] at h1
 unfold vW at h1
 rw [ads,fW _ _ (by rw [be,adP,lw]),NC,iq,jh] at h1
 unfold uR at h1
 rw [qk] at h1
 unfold oO
 grind
end
theorem Q0 (h:Sm T B q)(h1:T<=T')(h2:B<=B'):Sm T' B' q:=⟨h.pos,h.low,aav h.top (adF (by decide) h1),aav h.bot (adF (by decide) h2)⟩
def mvL (M:ι):Prop:=∀x,Sz 1000 (mv M x).1/\Sz 1000 (mv M x).2
def gR (Go:Η)(x:Str):Rat:=(Go x).getD 1
theorem jk (Go:Η)(x:Str):fE (fun y=>(Go y).map qr) x=qr (gR Go x):=by
 show ((Go x).map qr).getD (1,1)=qr ((Go x).getD 1)
 cases Go x with
 | none=>
  show (1,1)=qr 1
  decide+kernel
 | some r=>rfl
theorem BS (h:0<r):0<(qr r).1:=by
 have p:=cA r
 have v:=dy r
 rcases afU (qr r).1 0 with z|z|z
 ·exfalso
  have:vl (qr r)<=0:=by
   unfold vl
   have h1:((qr r).1:Rat)<=0:=by
    have:=aff.mpr (Int.le_of_lt z)
    exact this
   have h2:(0:Rat)<((qr r).2:Rat):=by
    have:=afj.mpr p
    exact this
   rw [Rat.div_def]
   have h3:(0:Rat)<=((qr r).2:Rat)⁻¹:=amA (Rat.inv_pos.mpr h2)
   have:=afY (show (0:Rat)<= -((qr r).1:Rat) by grind) h3
   grind
  rw [v] at this
  grind
 ·exfalso
  have:=mJ z
  rw [this] at h
  exact aaM h agF
 ·exact z
theorem BU :∀{bars:τ},(bars.map nm).Nodup->∀f:aV->Rat,∃T:Str->Rat,∀b∈bars,T (nm b)=f b
 | [],_,_=>⟨fun _=>0,fun b hb=>by cases hb⟩
 | c::bs,nd,f=>by
  rw [aau,adQ] at nd
  obtain ⟨T,hT⟩:=BU nd.2 f
  refine ⟨fun x=>if x=nm c then f c else T x,fun b hb=>?_⟩
  rcases adD.mp hb with e|hb
  ·rw [e]
   show (if nm c=nm c then _ else _)=_
   rw [aaC rfl]
  ·show (if nm b=nm c then _ else _)=_
   rw [aaA (fun z:nm b=nm c=>nd.1 (by rw [<-z];exact aat.mpr ⟨b,hb,rfl⟩))]
   exact hT b hb
theorem Tq (h:Sm T B q)(h1:T<k)(h2:B<k):Sz k (vl q):=by
 have e:=Tn h
 have p1:q.1.natAbs<2^k:=ac_ h.top (af9 (by decide) h1)
 have p2:q.2.natAbs<2^k:=ac_ h.bot (af9 (by decide) h2)
 rw [e] at p1 p2
 exact ⟨intBits_le_iff.mpr p1,intBits_le_iff.mpr p2⟩
theorem NF (h:Sz k r):Sm k k (qr r):=⟨cA r,nN r,ad' (intBits_le_iff.mp h.top),ad' (intBits_le_iff.mp h.bot)⟩
theorem BV (g:eC pins bars)(lb:bars.length<=9){G:aV->Rat}(zG:∀b∈bars,Sz 31 (G b)):Shape 1200 1200 (2*pins.length+aU pins) (dc pins++fj pins (bars.map fun b=>(G b,b))):=fun qs hq=>by
 have s0:Sm 1200 1200 ((0,1):Int×Int):=⟨by decide,by decide,by decide+kernel,by decide+kernel⟩
 have wsm:∀qs∈kr pins,∀q∈qs,Sm 50 50 q:=fun qs hq=>(lH g qs (by unfold f';exact adL _ hq)).2
 rcases ado.mp hq with h|h
 ·unfold dc at h
  obtain ⟨MK,h',rfl⟩:=aat.mp h
  refine ⟨by rw [adl,oj h',adP],fun q hq=>?_⟩
  rcases ado.mp hq with h|h
  ·exact Q0 (wsm MK h' q h) (by decide) (by decide)
  ·rw [(amt.mp h).2]
   exact s0
 ·unfold fj at h
  obtain ⟨i,hi,rfl⟩:=aat.mp h
  have hi:=ad9.mp hi
  refine ⟨by rw [adl,be,be,be,iX,fF,adV],fun q hq=>?_⟩
  rcases ado.mp hq with h|h
  ·obtain ⟨j,hj,rfl⟩:=aat.mp h
   have hj:=ad9.mp hj
   refine Q0 (NF (BL hi hj fun x hx=>?_)) (by rw [be];omega) (by rw [be];omega)
   obtain ⟨b,hb,rfl⟩:=aat.mp hx
   exact ⟨zG b hb,fun i hi=>(BK g hb hi).2⟩
  ·obtain ⟨r,hr,rfl⟩:=aat.mp h
   obtain ⟨q',m6,rfl⟩:=aat.mp hr
   unfold cR at m6
   obtain ⟨MK,h',rfl⟩:=aat.mp m6
   have hl:=oj h'
   have e:MK.getD i (0,1)=MK[i]'(by omega):=by
    rw [adn,gE (by omega)]
    rfl
   have:=Tq (k:=60) (wsm MK h' _ (ad3 (show i<MK.length by omega))) (by decide) (by decide)
   rw [e]
   exact Q0 (NF this.neg) (by decide) (by decide)
theorem FH {α β:Type}(G:α->β):∀l:List α,(l.map G).zip l=l.map fun b=>(G b,b)
 | []=>rfl
 | b::bs=>by rw [aau,List.zip_cons_cons,FH G bs,aau]
inductive BW (K:Frag)(C:aaz)(vs:η)(H:Hp)(Q:VK)(E_:XK):Prop
|mk (a d e:aaz)(pins:ν)(bars:τ)(kG kL:γ)(Go:Η)(L:ι)(_:vs=[.ref a,.ref d,.ref e])(_:vw K H C a pins bars)(_:eC pins bars)(_:pins.length<=4)(_:bars.length<=9)(_:H d=some (.dK kG))(_:xo K H kG (fun x=>(Go x).map qr))(_:(∀kv∈kG,∃x∈bars.map (·.nm),kv.1=.inr x))(_:(∀x,0<gR Go x/\Sz 31 (gR Go x)))(_:H e=some (.dK kL))(_:My K H kL L)(_:mvL L)(_:(∀kv∈kL,∃x∈pins.map (·.nm),kv.1=.inr x))(_:(∀(M:ψ)(p dM:aaz)(kM:γ)(H':Hp),ao H H' ->H' p=some (.tup [.str "moves",.ref dM])->MoR K H H' pins dM kM M->BH pins bars M->oO pins L M=1->Q (.ref p) H'))(_:(∀(T:Θ)(U:Α)(Lx:Str->aaz)(M:ψ)(p dT dU dM:aaz)(kT kU kM:γ)(H':Hp),ao H H' ->H' p=some (.tup [.str "bent",.ref dT,.ref dU,.ref dM])->PPR K H H' pins bars dT dU kT kU T U Lx->MoR K H H' pins dM kM M->(∀p∈pins,∀w∈p.ws,dt w (M p.nm)=0)->(∀b∈bars,T b.nm=gR Go b.nm*fk M b)->rC pins bars T U L->(∀b∈bars,Sz 1600000 (T b.nm))->(∀p∈pins,∀u∈U p.nm,Sz 400000 u)->(∀p∈pins,Sz 400000 (M p.nm).1/\Sz 400000 (M p.nm).2)->Q (.ref p) H'))
theorem cP:av ["F","grips","load","loaded","firm","many","rows","ways","told","moves","pulls","pushes"] zaI (ae gJ):=sq
theorem BX (hN:∀H:Hp,bM K H aN [.int 0,.int 1])(jI:mg "NOUGHT"=some (.ref aN))(D:Def K mg "bend_of" gJ zaI)(aZ:mg "len"=none)
  (agi:Fn P w K mg base (aT P w) 3 "load_row" ["F","load"] (og K C)) (jN:Fn P w K mg base (aT P w) 3 "all_grips" zaO (je K C)) (yB:Fn P w K mg base (aT P w) 39 "bend_rows" ["F","firm"] (lI K C)) (agj:Fn P w K mg base (aT P w) 37 "solve_rows" zaF (qh K)) (ZR:Fn P w K mg base (aT P w) 2 "motion_from" zaw (rA K C)) (rG:Fn P w K mg base (aT P w) 37 "lengthenings" zaR (Nq K C)) (Kq:Fn P w K mg base (aT P w) 35 "gripped" zaN (j9 K)) (agk:Fn P w K mg base (aT P w) 3 "pulls_and_pushes" zaw (Vl K C)):
  Fn P w K mg base (aT P w) 40 "bend_of" zaI (BW K C):=by
 refine D.oo cP fun H hr h=>?_
 obtain ⟨a,d,e,pins,bars,kG,kL,Go,L,rfl,R,g,lp4,ZL,hd,hG,hk,hg,he,hP,zl,hkL,q1,q2⟩:=h
 have wl:aU pins<=2*pins.length:=mN pins g.lw
 have big:(1000:Nat)<=aaD:=by decide
 refine ⟨_,(aa (aF (i:=3) cP.nd (aJ agi hr (aG (pv 0) (pv 2))))
  (aa (aF (i:=4) cP.nd (aJ jN hr (aG (pv 0) (pv 1))))
  (aa (aF (i:=5) cP.nd (aI aH rfl aZ cz (a9 (pv 3))))
  (aa (aF (i:=6) cP.nd (aJ yB hr (aG (pv 0) (pv 4))))
  (aa (aF (i:=7) cP.nd (aw cN (aI aH rfl aZ cz (a9 (pv 6))) (pv 5)))
  (aa (aF (i:=8) cP.nd (aJ agj hr (bK (pv 6) (aw jC (aw vb (b_ (a9 (dP (v:=.ref aN) rfl jI rfl))) (pv 7)) (pv 3)) (aI aH rfl aZ cz (a9 (pv 6))))))
  (aa (bq (bx eR (aC (pv 8)) gi) (ag (ay (aS (aG gi (aJ ZR hr (aG (pv 0) (cW eJ (aC (pv 8)) (dI (pv 7)) eI))))))) aL)
  (aa (aF (i:=9) cP.nd (aJ ZR hr (aG (pv 0) (cW eJ (aC (pv 8)) eI (dI (pv 5))))))
  (aa (aF (i:=10) cP.nd (aJ Kq hr (aG (pv 4) (aJ rG hr (aG (pv 0) (pv 9))))))
  (aa (aF (i:=11) cP.nd (aC (aJ agk hr (aG (pv 0) (cW eJ (aC (pv 8)) (dI (pv 5)) eI)))))
  (ag (ay (aS (sM gi (bK (pv 10) (pv 11) (pv 9)))))))))))))))),?_⟩
 refine ⟨_,rfl,_,rfl,a,e,pins,bars,kL,L,rfl,R,by omega,he,hP,hkL,fun l us H1 s1 nl el nm=>?_⟩
 have R1:=R.same s1
 obtain ⟨dx,pP,pW,pB,kP,kW,kB,F1,W1⟩:=R1.ex
 have QY:=qj bars
 refine ⟨_,rfl,_,rfl,a,dx,pP,pW,pB,d,_,_,kP,kW,kB,kG,_,rfl,F1,s1 _ _ hd,hG.same s1,(by rw [QY];exact hk),(by rw [be];omega),(by rw [QY];exact g.nb),(fun x=>by rw [jk];exact BS (hg x).1),fun fm kf H2 s2 nf ef pf=>?_⟩
 rw [QY] at pf
 have tw:=s1.trans s2
 have lus:us.length=2*pins.length:=by rw [nm.1,cM]
 refine ⟨_,rfl,l,_,rfl,.inl (aR.of (s2 _ _ el)),?_⟩
 rw [lus]
 obtain ⟨G,eG⟩:∃G:aV->Rat,∀b,G b=gR Go b.nm:=⟨_,fun _=>rfl⟩
 have pgs:Paired (fun (kv:Key×V) r=>cZ K H2 kv.2 r) kf (bars.map G):=iR (by rw [aaK pf,be,be]) fun i kv r e1 e2=>by
  obtain ⟨x,ex,_,h2⟩:=aE pf e1
  rw [Wp] at e2 ex
  obtain ⟨b,eb,rfl⟩:=ab_.mp e2
  rw [eb] at ex
  have zF :b.nm=x:=ady ex
  rw [jk,<-zF,<-eG] at h2
  exact h2
 have zG:∀b∈bars,Sz 31 (G b):=fun b _=>by rw [eG];exact (hg b.nm).2
 refine ⟨_,rfl,_,rfl,a,fm,pins,bars,kf,bars.map G,rfl,R.same tw,g,ZL,ef,pgs,by rw [be],(fun r hr=>by obtain ⟨b,hb,rfl⟩:=aat.mp hr;exact zG b hb),fun r ls bU H3 s3 RR=>?_⟩
 rw [FH] at RR
 have xr:=tw.trans s3
 have lA:(dc pins).length=aU pins:=by unfold dc;rw [be,fF]
 have lB:(fj pins (bars.map fun b=>(G b,b))).length=2*pins.length:=by unfold fj;rw [be,adV]
 have lq:(dc pins++fj pins (bars.map fun b=>(G b,b))).length=aU pins+2*pins.length:=by rw [adl,lA,lB]
 have lls:ls.length=aU pins+2*pins.length:=by rw [RR.jw.2.1,RR.num.1,lq]
 refine ⟨_,rfl,r,_,rfl,.inl (aR.of RR.jw.1),_,rfl,_,_,rfl,rfl,?_⟩
 have em:(((ls.map V.ref).length:Nat):Int)-((2*pins.length:Nat):Int)=((aU pins:Nat):Int):=by rw [be];omega
 rw [em]
 refine ⟨_,rfl,z1L,?_⟩
 intro l5 n5;generalize eX:upd _ l5 _=H5;have ⟨s5,e5⟩:=nw n5 eX
 refine ⟨_,rfl,l5,_,_,rfl,rfl,e5,by omega,by omega,(by simp;omega),?_⟩
 intro l6 n6;generalize eX:upd _ l6 _=H6;have ⟨s6,e6⟩:=nw n6 eX
 have Nt:(adt ((aU pins:Nat):Int).toNat [V.ref aN]).flatten=adt (aU pins) (V.ref aN):=by simp
 rw [Nt] at e6
 have NG:=s5.trans s6
 have Nf:=s2.trans (s3.trans NG)
 refine ⟨_,rfl,l6,l,_,_,rfl,rfl,e6,Nf _ _ el,(by rw [adP];omega),?_⟩
 intro l7 n7;generalize eX:upd _ l7 _=H7;have ⟨s7,e7⟩:=nw n7 eX
 have s37:=NG.trans s7
 have s17:=Nf.trans s7
 have s07:=s1.trans s17
 have RR7:=RR.same s37
 refine ⟨_,rfl,r,_,rfl,.inl (aR.of RR7.jw.1),?_⟩
 show qh K [_,_,_] _ _ E0
 have lm:(((ls.map V.ref).length:Nat):Int)=((2*pins.length+aU pins:Nat):Int):=by rw [be,lls];omega
 have s0:Sm 1200 1200 ((0,1):Int×Int):=⟨by decide,by decide,by decide+kernel,by decide+kernel⟩
 have n0:cH K H7 (adt (aU pins) (V.ref aN)) (adt (aU pins) (0,1)):=⟨by simp,fun i u q e1 e2=>by
  rw [adT] at e1 e2
  split at e1
  ·rename_i c
   rw [aaC c] at e2
   cases e1
   cases e2
   exact ⟨aN,rfl,hN _⟩
  ·cases e1⟩
 have nd:cH K H7 (adt (aU pins) (V.ref aN)++us) (vW pins L):=vR n0 (nm.same s17)
 have ayP:2*pins.length+aU pins<=16:=by omega
 have zz:bb (1200+1200*(2*pins.length+aU pins+1)) (min (2*pins.length+aU pins+1) (dc pins++fj pins (bars.map fun b=>(G b,b))).length)<=390000:=by
  refine aav (vD _ (Nat.min_le_left _ _)) ?_
  unfold bb
  exact aav (aek (show 2*pins.length+aU pins+1+1<=18 by omega) (show 1200+1200*(2*pins.length+aU pins+1)+11<=21611 by omega)) (by decide)
 refine ⟨r,l7,2*pins.length+aU pins,ls,bU,_,_,vW pins L,1200,1200,390000,aaQ (fun i:Int=>[V.ref r,V.ref l7,V.int i]) lm,RR7.jw,RR7.num,e7,nd,(by rw [lq];unfold vW;rw [adl,adP,cM]),BV g ZL zG,fun q hq=>?_,by omega,by omega,by decide,by omega,by decide,zz,by decide,?_,?_⟩
 ·unfold vW at hq
  rcases ado.mp hq with h|h
  ·rw [(amt.mp h).2]
   exact s0
  ·obtain ⟨r,rfl,z⟩:=yy zl pins q h
   exact Q0 (NF z) (by decide) (by decide)
 ·intro p x nZ xs HA sA ep ex nx lx zx hx
  refine ⟨_,rfl,p,_,_,_,rfl,rfl,bM.of ep,rfl,rfl,_,rfl,bu (fun c=>aaM c (by simp [ni];decide+kernel)) (fun _=>?_)⟩
  have s0A:=s07.trans sA
  have pxs:=mO nx zx
  have lxs:nZ.length=2*pins.length+aU pins:=by rw [nx.1,lx]
  have lxm:(xs.map vl).length=2*pins.length+aU pins:=by rw [be,lx]
  have szx:∀r∈xs.map vl,Sz 390001 r:=fun r hr=>by
   obtain ⟨q,hq,rfl⟩:=aat.mp hr
   exact Tq (zx q hq) (by decide) (by decide)
  refine ⟨_,rfl,_,rfl,p,_,_,_,rfl,rfl,bM.of ep,rfl,_,rfl,_,rfl,x,_,rfl,aR.of ex,?_⟩
  rw [mG (by omega)]
  intro l8 n8;generalize eX:upd _ l8 _=H8;have ⟨s8,e8⟩:=nw n8 eX
  have p8:Paired (cZ K H8) (nZ.take (2*pins.length)) ((xs.map vl).take (2*pins.length)):=Paired.cF (jd (2*pins.length) pxs) fun _ _ z=>z.same s8
  have ZF:=s0A.trans s8
  refine ⟨a,l8,pins,bars,_,_,rfl,R.same ZF,g,e8,p8,by rw [adm];omega,fun M dM kM H9 s9 eM nM hM ks tM=>?_⟩
  have s09:=ZF.trans s9
  have s29:=s3.trans (s37.trans (sA.trans (s8.trans s9)))
  obtain ⟨Mo,ZS,ZT⟩:∃Mo:Str->Option (Rat×Rat),(∀x∈pins.map (·.nm),Mo x=some (M x))/\∀x,x∉pins.map (·.nm)->Mo x=none:=⟨fun x=>if x∈pins.map (·.nm) then some (M x) else none,fun x h=>aaC h,fun x h=>aaA h⟩
  have mvM:∀p∈pins,mv Mo p.nm=M p.nm:=fun p hp=>by
   unfold mv
   rw [ZS _ (aat.mpr ⟨p,hp,rfl⟩)]
   rfl
  have WJ:∀p∈pins,Sz 390001 (M p.nm).1/\Sz 390001 (M p.nm).2:=fun p hp=>by
   have mem:∀r∈(xs.map vl).take (2*pins.length),Sz 390001 r:=fun r hr=>szx r (afx hr)
   rw [eM] at mem
   exact ⟨mem _ (aee.mpr ⟨p,hp,adk⟩),mem _ (aee.mpr ⟨p,hp,aaw _ adk⟩)⟩
  have ptd:My K H9 kM Mo:=fun x=>by
   by_cases c:x∈pins.map (·.nm)
   ·obtain ⟨p',g8,rfl⟩:=aat.mp c
    obtain ⟨t,v1,v2,h1,h2,h3,h4⟩:=tM p' g8
    exact .inr ⟨_,_,h1,ZS _ c,⟨t,v1,v2,rfl,bM.of h2,h3,h4⟩⟩
   ·refine .inl ⟨bP fun z=>?_,ZT _ c⟩
    rw [ks] at z
    obtain ⟨p',g8,e'⟩:=aat.mp z
    exact c (by rw [<-adZ e'];exact aat.mpr ⟨p',g8,rfl⟩)
  have szo:∀x,Sz 700000 (mv Mo x).1/\Sz 700000 (mv Mo x).2:=fun x=>by
   by_cases c:x∈pins.map (·.nm)
   ·obtain ⟨p',g8,rfl⟩:=aat.mp c
    rw [mvM p' g8]
    exact ⟨(WJ p' g8).1.up (by decide),(WJ p' g8).2.up (by decide)⟩
   ·unfold mv
    rw [ZT _ c]
    exact ⟨d0 (by decide),d0 (by decide)⟩
  have U3:∀b∈bars,QX Mo b=fk M b:=fun b hb=>by
   obtain ⟨m1,m2,_⟩:=g.ends b hb
   unfold QX
   rw [mvM _ m1,mvM _ m2]
   rfl
  have lenZ:∀b∈bars,Sz 1560105 (fk M b):=fun b hb=>by
   obtain ⟨m1,m2,_⟩:=g.ends b hb
   have z1:=WJ _ m1
   have z2:=WJ _ m2
   have y1:=g.sz _ m1
   have y2:=g.sz _ m2
   exact (((y2.1.sub y1.1).mul (z2.1.sub z1.1)).add ((y2.2.1.sub y1.2.1).mul (z2.2.sub z1.2))).up (by decide)
  refine ⟨_,rfl,_,rfl,_,rfl,a,dM,pins,bars,kM,Mo,rfl,R.same s09,g,hM,ptd,szo,fun lg kLn OF vj ZU agn anU tL=>?_⟩
  show j9 K [_,_] _ _ E0
  obtain ⟨Ln,YI⟩:=BU (nm:=aV.nm) g.nb (fk M)
  have s0X:=s09.trans vj
  have s2X:=s29.trans vj
  have fmX:=s2X _ _ ef
  have pfx:Paired (fun (kv:Key×V) (x:Str×Rat)=>kv.1=.inr x.1/\cZ K OF kv.2 x.2) kf (bars.map fun b=>(b.nm,G b)):=iR (by rw [aaK pf,be,be]) fun i kv z e1 e2=>by
   obtain ⟨x,ex,h1,h2⟩:=aE pf e1
   rw [Wp] at e2 ex
   obtain ⟨b,eb,rfl⟩:=ab_.mp e2
   rw [eb] at ex
   have zF :b.nm=x:=ady ex
   rw [jk,<-zF,<-eG] at h2
   exact ⟨by rw [h1,<-zF],cZ.same h2 s2X⟩
  have nmx:(bars.map fun b=>(b.nm,G b)).map (·.1)=bars.map (·.nm):=by rw [adu];rfl
  refine ⟨fm,lg,kf,kLn,bars.map fun b=>(b.nm,G b),Ln,rfl,fmX,pfx,by rw [nmx];exact g.nb,agn,(fun z=>by rw [<-z,s29 _ _ ef] at ZU;cases ZU),(by rw [be];omega),fun z hz=>?_,fun dT kT LZ zI nT eT pT=>?_⟩
  ·obtain ⟨b,hb,rfl⟩:=aat.mp hz
   obtain ⟨v,h1,h2⟩:=tL b hb
   refine ⟨zG b hb,by rw [YI b hb];exact (lenZ b hb).up (by decide),v,h1,?_⟩
   rw [U3 b hb,<-YI b hb] at h2
   exact h2
  have Q3:=s8.trans (s9.trans (vj.trans zI))
  refine ⟨_,rfl,_,rfl,p,_,_,_,rfl,rfl,bM.of (Q3 _ _ ep),rfl,_,rfl,_,rfl,x,_,rfl,aR.of (Q3 _ _ ex),?_⟩
  rw [iV (by omega)]
  intro l12 YZ;generalize eX:upd _ l12 _=H12;have ⟨lY,e12⟩:=nw YZ eX
  have Q4:=s0A.trans (Q3.trans lY)
  have p12:Paired (cZ K H12) (nZ.drop (2*pins.length)) ((xs.map vl).drop (2*pins.length)):=Paired.cF (gC (2*pins.length) pxs) fun _ _ z=>z.same (Q3.trans lY)
  refine ⟨a,l12,pins,bars,_,_,rfl,R.same Q4,g,e12,p12,by rw [afy];omega,fun U Lx pp dT' dU kU H13 EC eU epp PU=>?_⟩
  refine ⟨pp,_,_,_,rfl,rfl,bM.of epp,rfl,_,rfl,_,rfl,_,rfl,z4L,?_⟩
  intro pt n14;generalize eX:upd _ pt _=H14;have ⟨OL,e14⟩:=nw n14 eX
  obtain ⟨T,hT⟩:=BU (nm:=aV.nm) g.nb fun b=>G b*fk M b
  have exM:xs.map vl=uR M pins++pins.flatMap fun p=>U p.nm:=by
   unfold uR
   rw [<-eM,<-eU,afs]
  obtain ⟨wk,ar⟩:=yA (L:=L) g hx exM PU.lU hT
  have FI:=lY.trans (EC.trans OL)
  have ZV:=EC.trans OL
  have ago:=Q4.trans ZV
  have Km:kT.map (·.1)=bars.map fun b=>(adR b.nm:Key):=by
   refine adW fun i=>?_
   rw [Wp,Wp]
   have lk:=aaK pT
   rw [be] at lk
   by_cases c:i<kT.length
   ·have e1:=gE c
    obtain ⟨z,ez,h1,_⟩:=aE pT e1
    rw [Wp] at ez
    obtain ⟨b,eb,rfl⟩:=ab_.mp ez
    rw [e1,eb]
    exact aaQ some h1
   ·rw [aax (by omega),aax (by omega)]
    rfl
  refine q2 T U Lx M pt dT dU dM kT kU kM H14 ago e14 ⟨s0X.free nT,Q4.free PU.nU,fun z=>?_,FI _ _ eT,OL _ _ PU.hU,Km,PU.Kn,fun b hb=>?_,fun p' g8 =>?_,PU.lU,PU.inj⟩ ⟨ZF.free nM,(vj.trans (zI.trans FI)) _ _ hM,ks,fun p' g8 =>?_⟩ wk (fun b hb=>by rw [hT b hb,eG]) ar (fun b hb=>?_) (fun p' g8 u hu=>?_) fun p' g8 =>⟨(WJ p' g8).1.up (by decide),(WJ p' g8).2.up (by decide)⟩
  ·have:=PU.nU
   rw [<-z,lY _ _ eT] at this
   cases this
  ·obtain ⟨i,ei⟩:=adj hb
   have pT2:Paired (fun (x:Str×Rat) (kv:Key×V)=>kv.1=.inr x.1/\cZ K LZ kv.2 (x.2*Ln x.1)) (bars.map fun b=>(b.nm,G b)) kT:=eV pT
   obtain ⟨v,h1,h2⟩:=i9 (R:=fun (x:Str×Rat) (kv:Key×V)=>cZ K LZ kv.2 (x.2*Ln x.1)) pT2 (by rw [nmx];exact g.nb) (aat.mpr ⟨b,hb,rfl⟩)
   refine ⟨v,h1,?_⟩
   have h3:cZ K LZ v (G b*Ln b.nm):=h2
   rw [YI b hb,<-hT b hb] at h3
   exact h3.same FI
  ·obtain ⟨iH,a1,a2,a3,a4⟩:=PU.tU p' g8
   exact ⟨iH,a1,Q4.free a2,OL _ _ a3,Paired.cF a4 fun _ _ z=>z.same OL⟩
  ·obtain ⟨t,v1,v2,h1,h2,h3,h4⟩:=tM p' g8
   have sx:=vj.trans (zI.trans FI)
   exact ⟨t,v1,v2,h1,sx _ _ h2,h3.same sx,h4.same sx⟩
  ·rw [hT b hb]
   exact ((zG b hb).mul (lenZ b hb)).up (by decide)
  ·have mem:∀r∈(xs.map vl).drop (2*pins.length),Sz 390001 r:=fun r hr=>szx r (List.mem_of_mem_drop hr)
   rw [eU] at mem
   exact (mem u (aee.mpr ⟨p',g8,hu⟩)).up (by decide)
 ·intro p y nZ ys HA sA ep ey ny ly zy JX hy1
  refine ⟨_,rfl,p,_,_,_,rfl,rfl,bM.of ep,rfl,rfl,_,rfl,bu (fun _=>?_) (fun c=>aaM (by simp [ni]) c)⟩
  have s0A:=s07.trans sA
  have py:=mO ny zy
  have lys:ys.length=aU pins+2*pins.length:=by rw [ly,lq]
  have ay4 :nZ.length=aU pins+2*pins.length:=by rw [ny.1,lys]
  refine ⟨_,rfl,_,rfl,p,_,_,_,rfl,rfl,bM.of ep,rfl,_,rfl,_,rfl,y,_,rfl,aR.of ey,?_⟩
  rw [iV (by omega)]
  intro l9 nB;generalize eX:upd _ l9 _=HB;have ⟨sB,eB⟩:=nw nB eX
  have pyB:Paired (cZ K HB) (nZ.drop (aU pins)) ((ys.map vl).drop (aU pins)):=Paired.cF (gC (aU pins) py) fun _ _ z=>z.same sB
  have s0B:=s0A.trans sB
  refine ⟨a,l9,pins,bars,_,_,rfl,R.same s0B,g,eB,pyB,by rw [afy,be];omega,fun M dM kM HC sC eM nM hM ks tM=>⟨z2L,?_⟩⟩
  intro pt nD;generalize eX:upd _ pt _=HD;have ⟨sD,eD⟩:=nw nD eX
  have eyM:ys.map vl=(ys.map vl).take (aU pins)++uR M pins:=by
   unfold uR
   rw [<-eM,afs]
  obtain ⟨mo,wk⟩:=BR (L:=L) g (fun b _=>by rw [eG];exact (hg b.nm).1) JX hy1 eyM (by rw [adm,be];omega)
  refine q1 M pt dM kM HD (s0B.trans (sC.trans sD)) eD ⟨s0B.free nM,sD _ _ hM,ks,fun p hp=>?_⟩ mo wk
  obtain ⟨t,v1,v2,h1,h2,h3,h4⟩:=tM p hp
  exact ⟨t,v1,v2,h1,sD _ _ h2,h3.same sD,h4.same sD⟩
def cell (ns:ξ)(k:Int):Int:=if k<(ns.length:Int) then (ns[k.toNat]?).getD 0 else ((((k+5)*(k+5)*48271).fmod 2147483647)*(((k+5)*(k+5)*48271).fmod 2147483647)).fmod 2147483629
theorem mQ {x m:Int}(h:0<m):0<=x.fmod m/\x.fmod m<m:=⟨afb x h,agl x h⟩
inductive lJ (K:Frag)(vs:η)(H:Hp)(Q:VK)(E_:XK):Prop
|mk (a:aaz)(ns:ξ)(k:Int)(_:vs=[.ref a,.int k])(_:aR K H a (ns.map V.int))(_:0<=k)(_:k<=1000)(_:Q (.int (cell ns k)) H)
theorem cell_in {ns:ξ}(h0:0<=k)(h:k<(ns.length:Int)):i0 (ns.map V.int) k=some (.int (cell ns k)):=by
 have hk:k.toNat<ns.length:=by omega
 have ek:k=((k.toNat:Nat):Int):=by omega
 have q:i0 (ns.map V.int) ((k.toNat:Nat):Int)=some (.int (cell ns k)):=bL (by
  unfold cell
  rw [aaC h,Wp,gE hk]
  rfl)
 rw [<-ek] at q
 exact q
theorem lK (h:i.natAbs<2^k):intBits i<=k:=intBits_le_iff.mpr h
theorem Tr:av ["_law_script","_law_k","_law_part"] zam (ae IT):=sq
theorem ZW (D:Def K mg "_law_cell_at" IT zam)(aZ:mg "len"=none):Fn P w K mg base CX 1 "_law_cell_at" zam (lJ K):=by
 refine D.oo Tr fun H hr h=>?_
 obtain ⟨a,ns,k,rfl,hS,h0,h1,q⟩:=h
 refine ⟨_,(aa (bq (bx qA (pv 1) (aI aH rfl aZ cz (a9 (pv 0)))) (ag (ay (bB aQ (pv 0) (pv 1)))) aL)
  (aa (aF (i:=2) Tr.nd (aw fw (aw bQ (aw bQ (aw bG (pv 1) af) (aw bG (pv 1) af)) af) af))
  (ag (ay (aw fw (aw bQ (pv 2) (pv 2)) af))))),?_⟩
 have hl:(ns.map V.int).length=ns.length:=be _
 refine ⟨_,rfl,_,rfl,a,_,rfl,.inl hS,_,_,rfl,rfl,_,rfl,?_⟩
 refine bu (fun c=>?_) (fun c=>?_)
 ·have c':k<(((ns.map V.int).length:Nat):Int):=aaU c
  rw [hl] at c'
  exact ⟨_,rfl,_,rfl,a,_,k,_,rfl,rfl,hS,cell_in h0 c',q⟩
 ·have c':¬ k<(((ns.map V.int).length:Nat):Int):=of_decide_eq_false (afX.mpr c)
  rw [hl] at c'
  have b5:intBits (k+5)<=11:=lK (by show _<2048;omega)
  have e1:=mQ (x:=(k+5)*(k+5)*48271) (m:=2147483647) (by decide)
  have bp:intBits (((k+5)*(k+5)*48271).fmod 2147483647)<=31:=lK (by show _<2147483648;omega)
  refine ⟨_,rfl,_,_,rfl,rfl,_,rfl,_,_,rfl,rfl,_,_,rfl,rfl,⟨aav b5 (by decide),aav b5 (by decide)⟩,_,_,rfl,rfl,⟨aav (aa1 b5 b5) (by decide),by decide+kernel⟩,_,_,rfl,rfl,nz (by decide),_,rfl,_,rfl,_,_,rfl,rfl,⟨aav bp (by decide),aav bp (by decide)⟩,_,_,rfl,rfl,nz (by decide),?_⟩
  have e:cell ns k=((((k+5)*(k+5)*48271).fmod 2147483647)*(((k+5)*(k+5)*48271).fmod 2147483647)).fmod 2147483629:=by
   unfold cell
   rw [aaA c']
  rw [e] at q
  exact q
def field (c p m:Int):Int:=(((c.fmod p+11)*48271).fmod p).fmod m
theorem aX (h:0<m):0<=field c p m/\field c p m<m:=mQ h
inductive f7 (vs:η)(H:Hp)(Q:VK)(E_:XK):Prop
|mk (c p m:Int)(_:vs=[.int c,.int p,.int m])(_:0<p)(_:p<=2000000)(_:0<m)(_:Q (.int (field c p m)) H)
theorem ZX:av zad zad (ae IU):=sq
theorem ZY (D:Def K mg "_law_field" IU zad):Fn P w K mg base CX 1 "_law_field" zad f7:=by
 refine D.oo ZX fun H hr h=>?_
 obtain ⟨c,p,m,rfl,hp,XY,hm,q⟩:=h
 refine ⟨_,(ag (ay (aw fw (aw fw (aw bQ (aw bG (aw fw (pv 0) (pv 1)) af) af) (pv 1)) (pv 2)))),?_⟩
 have e1:=mQ (x:=c) hp
 exact ⟨_,rfl,_,rfl,_,_,rfl,rfl,nz (by omega),_,_,rfl,rfl,_,_,rfl,rfl,⟨aav (lK (k:=22) (by show _<4194304;omega)) (by decide),by decide+kernel⟩,_,rfl,_,_,rfl,rfl,nz (by omega),_,rfl,_,_,rfl,rfl,nz (by omega),q⟩
inductive cx (vs:η)(H:Hp)(Q:VK)(E_:XK):Prop
|mk (t b:Int)(_:vs=[.int t,.int b])(_:0<b)(_:gives H Q (low t b))
theorem FJ:av ["_law_top","_law_bottom","_law_one","_law_other"] zag (ae IV):=sq
theorem ZZ (ht:P.given.tree=none)(D:Def K mg "_law_lowest" IV zag)(uM:mg "abs"=none):Fn P w K mg base (aT P w) 33 "_law_lowest" zag cx:=by
 refine D.oo FJ fun H hr h=>?_
 obtain ⟨t,b,rfl,hb,q⟩:=h
 refine ⟨_,(aa (aF (i:=2) FJ.nd (aI xA rfl uM S2 (a9 (pv 0))))
  (aa (aF (i:=3) FJ.nd (pv 1))
  (aa (qw aaG (bx ma (pv 3) af) (ag (Uc (i:=2) (j:=3) rfl FJ.nd rfl rfl (by decide) rfl rfl (aG (pv 3) (aw fw (pv 2) (pv 3))) rfl)))
  (ag (ay (aS (aG (aw (gQ ht (Ty.cy.py hr (by decide)) rfl rfl rfl rfl rfl) (pv 0) (pv 2)) (aw (gQ ht (Ty.cy.py hr (by decide)) rfl rfl rfl rfl rfl) (pv 1) (pv 2))))))))),?_⟩
 refine ⟨_,rfl,t,rfl,_,rfl,?_⟩
 refine xy (fun σ H'=>∃x y:Int,σ=[some (.int t),some (.int b),some (.int x),some (.int y)]/\H'=H/\0<=x/\0<=y/\ad1 x y=ad1 t b) (fun σ _=>match σ with|[_,_,_,some (.int y)]=>y.natAbs|_=>0) ⟨_,b,rfl,rfl,?_,by omega,?_⟩ ?_ ?_
 ·split<;>omega
 ·split
  ·exact Int.neg_gcd
  ·rfl
 ·rintro σ H' ⟨x,y,rfl,rfl,hx,hy,g⟩
  refine ⟨_,rfl,rfl,_,rfl,?_⟩
  refine bu (fun c=>?_) (fun c=>?_)
  ·have JX:y≠0:=by
    intro z
    subst z
    simp at c
   exact ⟨_,rfl,_,rfl,_,rfl,_,_,rfl,rfl,JX,_,_,rfl,⟨_,_,rfl,rfl,hy,afb _ (by omega),by rw [xM];exact g⟩,uq JX⟩
  ·have JX:y=0:=by
    have:=afX.mpr c
    simp at this
    exact this
   subst JX
   have e:x=sg t b:=by
    rw [ams] at g
    unfold sg
    rw [aaA (by omega)]
    unfold gz
    rw [<-g]
    omega
   subst e
   have hbn:b≠0:=by omega
   have c:=qH (t:=t) hbn
   refine ⟨_,rfl,_,rfl,_,_,rfl,rfl,c,_,rfl,_,rfl,_,_,rfl,rfl,c,z2L,fun p hp=>?_⟩
   exact q p _ (aA hp _) ah
 ·rintro σ H' Q1 Q2 h ⟨v,e1,e2,k,ek,z⟩
  exact ⟨v,e1,e2,k,ek,h _ _ z⟩
structure Ns (n:Nat)(q:Int×Int):Prop where
 top:q.1.natAbs<=2^n
 bot:q.2.natAbs<=2^n
theorem Ns.up (h:Ns m q)(l:m<=n):Ns n q:=⟨aav h.top (adF (by decide) l),aav h.bot (adF (by decide) l)⟩
def iu (K:Frag)(H:Hp)(v:V)(n:Nat)(r:Rat):Prop:=∃q:Int×Int,iS K H v q/\0<q.2/\vl q=r/\Ns n q
theorem iu.same (h:iu K H v n r)(s:ao H H'):iu K H' v n r:=by
 obtain ⟨q,h1,h2⟩:=h
 exact ⟨q,h1.same s,h2⟩
theorem iu.aK (h:iu K H v n r)(s:bo H H'):iu K H' v n r:=by
 obtain ⟨q,h1,h2⟩:=h
 exact ⟨q,h1.aK s,h2⟩
theorem iu.up (h:iu K H v m r)(l:m<=n):iu K H v n r:=by
 obtain ⟨q,h1,h2,h3,h4⟩:=h
 exact ⟨q,h1,h2,h3,h4.up l⟩
theorem fY (h:cZ K H v r)(z:Zb n r):iu K H v n r:=⟨qr r,h,cA r,dy r,⟨z.top,z.bot⟩⟩
theorem iY (h:Sz k r)(l:k<=n):Zb n r:=⟨ad' (adB (intBits_le_iff.mp h.top) (adF (by decide) l)),ad' (adB (intBits_le_iff.mp h.bot) (adF (by decide) l))⟩
def gx (x y:Int×Int):Int×Int:=(x.1*y.2+y.1*x.2,x.2*y.2)
def ku (x y:Int×Int):Int×Int:=(x.1*y.1,x.2*y.2)
theorem gh {a b:Int}(h1:a.natAbs<=2^m)(h2:b.natAbs<=2^n):(a*b).natAbs<=2^(m+n):=by
 rw [aeu,af8]
 exact aek h1 h2
theorem Q6 (hx:0<x.2)(hy:0<y.2)(zx:Ns m x)(zy:Ns n y):0<(gx x y).2/\vl (gx x y)=vl x+vl y/\Ns (m+n+1) (gx x y):=by
 refine ⟨aex hx hy,?_,?_,?_⟩
 ·unfold vl gx
  have z1:((x.2:Int):Rat)≠0:=cQ (adE hx)
  have z2:((y.2:Int):Rat)≠0:=cQ (adE hy)
  push_cast
  grind
 ·have h1:=gh zx.top zy.bot
  have h2:=gh zy.top zx.bot
  rw [agf n m] at h2
  have h3:=ae2 (x.1*y.2) (y.1*x.2)
  show (x.1*y.2+y.1*x.2).natAbs<=2^(m+n+1)
  rw [afz]
  omega
 ·exact aav (gh zx.bot zy.bot) (adF (by decide) (by omega))
theorem Q7 (hx:0<x.2)(hy:0<y.2)(zx:Ns m x)(zy:Ns n y):0<(ku x y).2/\vl (ku x y)=vl x*vl y/\Ns (m+n) (ku x y):=by
 refine ⟨aex hx hy,?_,gh zx.top zy.top,gh zx.bot zy.bot⟩
 unfold vl ku
 have z1:((x.2:Int):Rat)≠0:=cQ (adE hx)
 have z2:((y.2:Int):Rat)≠0:=cQ (adE hy)
 push_cast
 grind
inductive bO (K:Frag)(f:Int×Int->Int×Int->Int×Int)(vs:η)(H:Hp)(Q:VK)(E_:XK):Prop
|mk (u v:V)(x y:Int×Int)(m n:Nat)(_:vs=[u,v])(_:iS K H u x)(_:iS K H v y)(_:Ns m x)(_:Ns n y)(_:m+n<=130000000)(_:gives H Q (f x y))
theorem ix (h1:iu K H u m x)(h2:iu K H v n y)(l:m+n<=130000000)(k:∀(p:aaz)(H':Hp),ao H H' ->iu K H' (.ref p) (m+n+1) (x+y)->Q (.ref p) H'):bO K gx [u,v] H Q E:=by
 obtain ⟨q1,a1,a2,a3,a4⟩:=h1
 obtain ⟨q2,b1,b2,b3,b4⟩:=h2
 obtain ⟨c1,c2,c3⟩:=Q6 a2 b2 a4 b4
 exact ⟨u,v,q1,q2,m,n,rfl,a1,b1,a4,b4,l,fun p H' s e=>k p H' s ⟨gx q1 q2,⟨p,rfl,bM.of e⟩,c1,by rw [c2,a3,b3],c3⟩⟩
theorem j_ (h1:iu K H u m x)(h2:iu K H v n y)(l:m+n<=130000000)(k:∀(p:aaz)(H':Hp),ao H H' ->iu K H' (.ref p) (m+n) (x*y)->Q (.ref p) H'):bO K ku [u,v] H Q E:=by
 obtain ⟨q1,a1,a2,a3,a4⟩:=h1
 obtain ⟨q2,b1,b2,b3,b4⟩:=h2
 obtain ⟨c1,c2,c3⟩:=Q7 a2 b2 a4 b4
 exact ⟨u,v,q1,q2,m,n,rfl,a1,b1,a4,b4,l,fun p H' s e=>k p H' s ⟨ku q1 q2,⟨p,rfl,bM.of e⟩,c1,by rw [c2,a3,b3],c3⟩⟩
inductive iy (K:Frag)(vs:η)(H:Hp)(Q:VK)(E_:XK):Prop
|mk (u:V)(x:Int×Int)(_:vs=[u])(_:iS K H u x)(_:gives H Q (0-x.1,x.2))
theorem rH (h1:iu K H u m x)(k:∀(p:aaz)(H':Hp),ao H H' ->iu K H' (.ref p) m (-x)->Q (.ref p) H'):iy K [u] H Q E:=by
 obtain ⟨q1,a1,a2,a3,a4⟩:=h1
 refine ⟨u,q1,rfl,a1,fun p H' s e=>k p H' s ⟨(0-q1.1,q1.2),⟨p,rfl,bM.of e⟩,a2,?_,?_,a4.bot⟩⟩
 ·rw [<-a3]
  unfold vl
  push_cast
  grind
 ·have:=a4.top
  show (0-q1.1).natAbs<=2^m
  omega
theorem Z0:av zac zac (ae IW):=sq
theorem Z1 (D:Def K mg "_law_sum" IW zac):Fn P w K mg base (aT P w) 1 "_law_sum" zac (bO K gx):=by
 refine D.oo Z0 fun H hr h=>?_
 obtain ⟨u,v,x,y,m,n,rfl,⟨p1,rfl,h1⟩,⟨p2,rfl,h2⟩,zx,zy,l,q⟩:=h
 refine ⟨_,(ag (ay (aS (aG (aw bG (aw hW (aC (pv 0)) (aC (pv 1))) (aw hW (aC (pv 1)) (aC (pv 0)))) (aw hW (aC (pv 0)) (aC (pv 1))))))),_,rfl,p1,_,_,_,rfl,rfl,h1,ie,_,rfl,p2,_,_,_,rfl,rfl,h2,gX,_,_,rfl,rfl,f_ zx.top zy.bot (by omega),_,rfl,p2,_,_,_,rfl,rfl,h2,ie,_,rfl,p1,_,_,_,rfl,rfl,h1,gX,_,_,rfl,rfl,f_ zy.top zx.bot (by omega),_,_,rfl,rfl,_,rfl,p1,_,_,_,rfl,rfl,h1,gX,_,rfl,p2,_,_,_,rfl,rfl,h2,gX,_,_,rfl,rfl,f_ zx.bot zy.bot (by omega),z2L,?_⟩
 intro p3 n3;generalize eX:upd _ p3 _=H3;have ⟨s3,e3⟩:=nw n3 eX
 exact q p3 H3 s3 e3
theorem Z2:av zac zac (ae IX):=sq
theorem Z3 (D:Def K mg "_law_times" IX zac):Fn P w K mg base (aT P w) 1 "_law_times" zac (bO K ku):=by
 refine D.oo Z2 fun H hr h=>?_
 obtain ⟨u,v,x,y,m,n,rfl,⟨p1,rfl,h1⟩,⟨p2,rfl,h2⟩,zx,zy,l,q⟩:=h
 refine ⟨_,(ag (ay (aS (aG (aw hW (aC (pv 0)) (aC (pv 1))) (aw hW (aC (pv 0)) (aC (pv 1))))))),_,rfl,p1,_,_,_,rfl,rfl,h1,ie,_,rfl,p2,_,_,_,rfl,rfl,h2,ie,_,_,rfl,rfl,f_ zx.top zy.top (by omega),_,rfl,p1,_,_,_,rfl,rfl,h1,gX,_,rfl,p2,_,_,_,rfl,rfl,h2,gX,_,_,rfl,rfl,f_ zx.bot zy.bot (by omega),z2L,?_⟩
 intro p3 n3;generalize eX:upd _ p3 _=H3;have ⟨s3,e3⟩:=nw n3 eX
 exact q p3 H3 s3 e3
theorem Z4:av zaC zaC (ae IY):=sq
theorem Z5 (D:Def K mg "_law_turned" IY zaC):Fn P w K mg base (aT P w) 1 "_law_turned" zaC (iy K):=by
 refine D.oo Z4 fun H hr h=>?_
 obtain ⟨u,x,rfl,⟨p1,rfl,h1⟩,q⟩:=h
 refine ⟨_,(ag (ay (aS (aG (aw cN af (aC (pv 0))) (aC (pv 0)))))),_,rfl,p1,_,_,_,rfl,rfl,h1,ie,_,_,rfl,rfl,_,rfl,p1,_,_,_,rfl,rfl,h1,gX,z2L,?_⟩
 intro p3 n3;generalize eX:upd _ p3 _=H3;have ⟨s3,e3⟩:=nw n3 eX
 exact q p3 H3 s3 e3
def nameOf (st a k:Int):Str:=if st=0 then Txt.mul "p" (k+1) else if st=3 then Txt.mul "p" (14-k) else if st=1 then Txt.mul "p" a++⟨#[(i0 (aa6 "bcdefghijklm").cps.toList k).getD 0]⟩++Txt.mul "p" (5-a) else Txt.slice "12345" none (some a)++(toString k:String)
theorem yC:∀st:Fin 4,∀a:Fin 6,∀k:Fin 12,∀j:Fin 12,k≠j->nameOf (st.val:Int) (a.val:Int) (k.val:Int)≠nameOf (st.val:Int) (a.val:Int) (j.val:Int):=by decide+kernel
theorem Vx:∀n:Fin 20,MulOk "p" (n.val:Int):=by
 intro n
 unfold MulOk
 revert n
 decide+kernel
theorem Vy:∀k:Fin 12,i0 (aa6 "bcdefghijklm").cps.toList (k.val:Int)=some ((i0 (aa6 "bcdefghijklm").cps.toList (k.val:Int)).getD 0):=by decide+kernel
theorem NH:∀a:Fin 6,∀k:Fin 12,(Txt.mul "p" (a.val:Int)).length+(⟨#[(i0 (aa6 "bcdefghijklm").cps.toList (k.val:Int)).getD 0]⟩:Str).length<=1000/\
  (Txt.mul "p" (a.val:Int)++(⟨#[(i0 (aa6 "bcdefghijklm").cps.toList (k.val:Int)).getD 0]⟩:Str)).length+(Txt.mul "p" (5-(a.val:Int))).length<=1000/\(Txt.slice "12345" none (some (a.val:Int))).length+(aa6 (toString (k.val:Int))).length<=1000:=by decide+kernel
inductive vX (vs:η)(H:Hp)(Q:VK)(E_:XK):Prop
|mk (c k:Int)(_:vs=[.int c,.int k])(_:0<=k)(_:k<12)(_:Q (.str (nameOf (field c 3001 4) (field c 4001 6) k)) H)
theorem NI:av zaE zax (ae AZ):=sq
theorem Z6 (hM:pH CX)(D:Def K mg "_law_name" AZ zax)(NJ:mg "str"=none)(dH:Fn P w K mg base CX 1 "_law_field" zad f7):Fn P w K mg base CX 2 "_law_name" zax vX:=by
 refine D.op NI fun f bZ A outer s H vs Q E hr h=>?_
 obtain ⟨c,k,rfl,h0,h12,q⟩:=h
 have px:=jE (X:=jr CX P w K mg base zaE "_law_name" (ae AZ) f bZ A outer s H E) hM
 refine ⟨_,(aa (aF (i:=2) NI.nd (iM dH hr.mo px (bK (pv 0) af af)))
  (aa (aF (i:=3) NI.nd (iM dH hr.mo px (bK (pv 0) af af)))
  (aa (bq (bx eR (pv 2) af) (ag (ay (aw qd gi (aw bG (pv 1) af)))) aL)
  (aa (bq (bx eR (pv 2) af) (ag (ay (aw qd gi (aw cN af (pv 1))))) aL)
  (aa (bq (bx eR (pv 2) af) (ag (ay (aw kQ (aw kQ (aw qd gi (pv 3)) (bB Ui gi (pv 1))) (aw qd gi (aw cN af (pv 3)))))) aL)
  (ag (ay (aw kQ (cW Ux gi eI (dI (pv 3))) (dQ u3 rfl NJ XG (a9 (pv 1))))))))))),?_⟩
 have i1:=aX (c:=c) (p:=3001) (m:=4) (by decide)
 have i2:=aX (c:=c) (p:=4001) (m:=6) (by decide)
 refine ⟨_,rfl,_,_,_,rfl,by decide,by decide,by decide,_,rfl,_,_,_,rfl,by decide,by decide,by decide,?_⟩
 generalize field c 3001 4=st at i1 q ⊢
 generalize field c 4001 6=a at i2 q ⊢
 obtain ⟨kn,rfl⟩:∃n:Nat,k=(n:Int):=⟨k.toNat,by omega⟩
 obtain ⟨an,rfl⟩:∃n:Nat,a=(n:Int):=⟨a.toNat,by omega⟩
 have mk:∀i:Int,0<=i->i<20->MulOk "p" i:=fun i a b=>by
  have:=Vx ⟨i.toNat,by omega⟩
  rwa [show ((⟨i.toNat,by omega⟩:Fin 20).val:Int)=i by show ((i.toNat:Nat):Int)=i;omega] at this
 refine ⟨_,rfl,rfl,_,rfl,?_⟩
 refine bu (fun z=>?_) (fun z=>?_)
 ·have z':st=0:=by simpa [ni] using z
  subst z'
  exact ⟨_,rfl,_,_,rfl,rfl,_,_,rfl,rfl,mk _ (by omega) (by omega),q⟩
 have z':¬ st=0:=by simpa [ni] using z
 refine ⟨_,rfl,rfl,_,rfl,?_⟩
 refine bu (fun z2=>?_) (fun z2=>?_)
 ·have z2':st=3:=by simpa [ni] using z2
  subst z2'
  exact ⟨_,rfl,_,_,rfl,rfl,_,_,rfl,rfl,mk _ (by omega) (by omega),q⟩
 have z2':¬ st=3:=by simpa [ni] using z2
 have nl:=NH ⟨an,by omega⟩ ⟨kn,by omega⟩
 refine ⟨_,rfl,rfl,_,rfl,?_⟩
 refine bu (fun z3=>?_) (fun z3=>?_)
 ·have z3':st=1:=by simpa [ni] using z3
  subst z3'
  exact ⟨_,rfl,_,_,rfl,rfl,mk _ (by omega) (by omega),_,rfl,_,_,_,rfl,rfl,(by decide+kernel),Vy ⟨kn,by omega⟩,_,_,rfl,rfl,aav nl.1 (by decide),_,rfl,_,_,rfl,rfl,_,_,rfl,rfl,mk _ (by omega) (by omega),_,_,rfl,rfl,aav nl.2.1 (by decide),q⟩
 ·have z3':¬ st=1:=by simpa [ni] using z3
  refine ⟨_,rfl,_,rfl,_,rfl,(by decide+kernel),?_⟩
  have lg:(kn:Int).natAbs.log2<1920:=ac_ (Nat.log2_le_self _) (by show kn<1920;omega)
  refine ⟨_,rfl,_,rfl,lg,_,_,rfl,rfl,aav nl.2.2 (by decide),?_⟩
  have e:nameOf st (an:Int) (kn:Int)=Txt.slice "12345" none (some (an:Int))++aa6 (toString (kn:Int)):=by
   unfold nameOf
   rw [aaA z',aaA z2',aaA z3']
  rw [e] at q
  exact q
def lM (ws:Λ):Prop:=ws=[]\/(∃x y:Rat,ws=[(x,y)]/\¬ (x=0/\y=0)/\Sz 22 x/\Sz 22 y)\/ws=[(1,0),(0,1)]
theorem rJ (i:Int)(h:H p=some (.tup [.int i,.int 1])):cZ K H (.ref p) (i:Rat):=⟨p,rfl,by rw [nO];exact bM.of h⟩
theorem iZ (h:H p=some (.tup [.int (qr r).1,.int (qr r).2])):cZ K H (.ref p) r:=⟨p,rfl,bM.of h⟩
theorem uS (h:H p=some (.tup [u,v]))(h1:cZ K H u r)(h2:cZ K H v s):gu K H (.ref p) (r,s):=⟨p,u,v,rfl,bM.of h,h1,h2⟩
theorem jO {i:Int}(h:i.natAbs<1048576)(hk:20<=k):Sz k (i:Rat):=qX (adB h (show 2^20<=2^k from adF (by decide) hk)) (by omega)
theorem mR {t b:Int}(h:0<b)(h1:t.natAbs<1048576)(h2:b<1048576):Sz 20 ((t:Rat) / (b:Rat)):=vv (adE h) (intBits_le_iff.mpr (by show _<1048576;omega)) (intBits_le_iff.mpr (by show _<1048576;omega))
theorem NK {i:Int}(h:i<=500002):(i:Rat)<=500002:=by
 have:=aff.mpr h
 simpa using this
theorem FK {t b:Int}(hb:0<b)(h:t<=500002):(t:Rat) / (b:Rat)<=500002:=by
 have fC :(0:Rat)<(b:Rat):=by
  have:=afj.mpr hb
  simpa using this
 have h1:t<=500002*b:=by
  have:(500002:Int)*1<=500002*b:=Int.mul_le_mul_of_nonneg_left (by omega) (by decide)
  omega
 have h2:(t:Rat)<=500002*(b:Rat):=by
  have:=aff.mpr h1
  simpa using this
 have e:(t:Rat) / (b:Rat)*(b:Rat)=(t:Rat):=by
  have KN:(b:Rat)≠0:=by grind
  grind
 generalize (t:Rat) / (b:Rat)=z at e
 by_cases c:z<=500002
 ·exact c
 ·have c':500002<z:=by grind
  have:=Rat.mul_lt_mul_of_pos_right c' fC
  grind
inductive vY (K:Frag)(vs:η)(H:Hp)(Q:VK)(E_:XK):Prop
|mk (c k:Int)(_:vs=[.int c,.int k])(_:0<=k)(_:k<6)(_:∀(p:aaz)(x y:Rat)(H':Hp),ao H H' ->Sz 20 x->Sz 20 y->x<=500002->gu K H' (.ref p) (x,y)->Q (.ref p) H')
theorem FL:av ["_law_cell","_law_kind","_law_x","_law_bottoms"] zaA (ae I_):=sq
theorem Z7 (D:Def K mg "_law_spot" I_ zaA)(dH:Fn P w K mg base (aT P w) 1 "_law_field" zad f7)(lO:Fn P w K mg base (aT P w) 33 "_law_lowest" zag cx):Fn P w K mg base (aT P w) 34 "_law_spot" zaA (vY K):=by
 refine D.oo FL fun H hr h=>?_
 obtain ⟨c,k,rfl,k0,k6,q⟩:=h
 have L2:2<=aaD:=by decide
 refine ⟨_,(aa (bq (bx qA (pv 1) af) (ag (ay (aS (aG (aS (aG (aJ dH hr (bK (pv 0) af af)) af)) (aS (aG (aJ dH hr (bK (pv 0) af af)) af)))))) aL)
  (aa (bq (bx qA (pv 1) af) (aa (aF (i:=2) FL.nd (aJ lO hr (aG (aw cN (aJ dH hr (bK (pv 0) af af)) af) (aw bG af (aJ dH hr (bK (pv 0) af af))))))
   (ag (ay (aS (aG (pv 2) (aJ lO hr (aG (aw cN (aJ dH hr (bK (pv 0) af af)) af) (aw bG af (aJ dH hr (bK (pv 0) af af)))))))))) aL)
  (aa (aF (i:=3) FL.nd (bB aQ (b_ (aG (aS (aG af af)) (aS (aG (aw bG af (aJ dH hr (bK (pv 0) af af))) (aw bG af (aJ dH hr (bK (pv 0) af af))))))) (aw cN (pv 1) af)))
  (aa (aF (i:=2) FL.nd (aJ lO hr (aG (aw cN (aJ dH hr (bK (pv 0) af af)) af) (aC (pv 3)))))
  (ag (ay (aS (aG (pv 2) (aJ lO hr (aG (aw cN (aJ dH hr (bK (pv 0) af af)) af) (aC (pv 3)))))))))))),?_⟩
 refine ⟨_,rfl,_,_,rfl,rfl,_,rfl,?_⟩
 refine bu (fun _=>?_) (fun _=>?_)
 ·have i1:=aX (c:=c) (p:=1009) (m:=4) (by decide)
  have i2:=aX (c:=c) (p:=2003) (m:=4) (by decide)
  refine ⟨_,rfl,_,_,_,rfl,by decide,by decide,by decide,L2,?_⟩
  intro p1 n1;generalize eX:upd _ p1 _=H1;have ⟨s1,e1⟩:=nw n1 eX
  refine ⟨_,rfl,_,_,_,rfl,by decide,by decide,by decide,L2,?_⟩
  intro p2 n2;generalize eX:upd _ p2 _=H2;have ⟨s2,e2⟩:=nw n2 eX
  refine ⟨L2,?_⟩
  intro p3 n3;generalize eX:upd _ p3 _=H3;have ⟨s3,e3⟩:=nw n3 eX
  exact q p3 _ _ H3 ((s1.trans s2).trans s3) (jO (by omega) (by decide)) (jO (by omega) (by decide)) (NK (by omega)) (uS e3 (((rJ _ e1).same s2).same s3) ((rJ _ e2).same s3))
 refine ⟨_,rfl,_,_,rfl,rfl,_,rfl,?_⟩
 refine bu (fun _=>?_) (fun c4=>?_)
 ·have i1:=aX (c:=c) (p:=1009) (m:=13) (by decide)
  have i2:=aX (c:=c) (p:=3001) (m:=3) (by decide)
  have i3:=aX (c:=c) (p:=2003) (m:=13) (by decide)
  have i4:=aX (c:=c) (p:=4001) (m:=2) (by decide)
  refine ⟨_,rfl,_,_,_,rfl,by decide,by decide,by decide,_,_,rfl,rfl,_,rfl,_,_,_,rfl,by decide,by decide,by decide,_,_,rfl,rfl,_,_,rfl,by omega,fun p1 H1 s1 e1=>?_⟩
  rw [fP (by omega)] at e1
  refine ⟨_,rfl,_,rfl,_,_,_,rfl,by decide,by decide,by decide,_,_,rfl,rfl,_,rfl,_,_,_,rfl,by decide,by decide,by decide,_,_,rfl,rfl,_,_,rfl,by omega,fun p2 H2 s2 e2=>⟨L2,?_⟩⟩
  rw [fP (by omega)] at e2
  intro p3 n3;generalize eX:upd _ p3 _=H3;have ⟨s3,e3⟩:=nw n3 eX
  exact q p3 _ _ H3 ((s1.trans s2).trans s3) (mR (by omega) (by omega) (by omega)) (mR (by omega) (by omega) (by omega)) (FK (by omega) (by omega)) (uS e3 (((iZ e1).same s2).same s3) ((iZ e2).same s3))
 ·have c4':¬ k<4:=fun z=>c4 (aaS z)
  have i1:=aX (c:=c) (p:=1000003) (m:=1000003) (by decide)
  have i2:=aX (c:=c) (p:=3001) (m:=997) (by decide)
  have i3:=aX (c:=c) (p:=1000033) (m:=1000003) (by decide)
  have i4:=aX (c:=c) (p:=4001) (m:=997) (by decide)
  refine ⟨L2,?_⟩
  intro q1 m1;generalize eX:upd _ q1 _=J1;have ⟨t1,f1⟩:=nw m1 eX
  refine ⟨_,rfl,_,_,_,rfl,by decide,by decide,by decide,_,_,rfl,rfl,_,rfl,_,_,_,rfl,by decide,by decide,by decide,_,_,rfl,rfl,L2,?_⟩
  intro q2 m2;generalize eX:upd _ q2 _=J2;have ⟨t2,f2⟩:=nw m2 eX
  refine ⟨L2,?_⟩
  intro q3 m3;generalize eX:upd _ q3 _=J3;have ⟨t3,f3⟩:=nw m3 eX
  obtain ⟨pb,b1,b2,eb,fb,h1,h2,h3,h4⟩:∃(pb:aaz)(b1 b2:Int),i0 [V.ref q1,V.ref q2] (k-4)=some (.ref pb)/\J3 pb=some (.tup [.int b1,.int b2])/\0<b1/\b1<=997/\0<b2/\b2<=997:=by
   rcases (show k=4\/k=5 by omega) with e|e
   ·exact ⟨q1,1,1,by rw [e];rfl,t3 _ _ (t2 _ _ f1),by decide,by decide,by decide,by decide⟩
   ·exact ⟨q2,_,_,by rw [e];rfl,t3 _ _ f2,by omega,by omega,by omega,by omega⟩
  refine ⟨_,rfl,_,_,rfl,rfl,q3,_,_,_,rfl,rfl,aR.of f3,eb,_,rfl,_,_,_,rfl,by decide,by decide,by decide,_,_,rfl,rfl,_,rfl,pb,_,_,_,rfl,rfl,bM.of fb,ie,_,_,rfl,by omega,fun p1 H1 s1 e1=>?_⟩
  rw [fP (by omega)] at e1
  refine ⟨_,rfl,_,rfl,_,_,_,rfl,by decide,by decide,by decide,_,_,rfl,rfl,_,rfl,pb,_,_,_,rfl,rfl,bM.of (s1 _ _ fb),gX,_,_,rfl,by omega,fun p2 H2 s2 e2=>⟨L2,?_⟩⟩
  rw [fP (by omega)] at e2
  intro p3 n3;generalize eX:upd _ p3 _=H3;have ⟨s3,e3⟩:=nw n3 eX
  exact q p3 _ _ H3 ((t1.trans (t2.trans t3)).trans ((s1.trans s2).trans s3)) (mR (by omega) (by omega) (by omega)) (mR (by omega) (by omega) (by omega)) (FK (by omega) (by omega)) (uS e3 (((iZ e1).same s2).same s3) ((iZ e2).same s3))
inductive vZ (K:Frag)(vs:η)(H:Hp)(Q:VK)(E_:XK):Prop
|mk (c:Int)(_:vs=[.int c])(_:∀(l:aaz)(us:η)(ws:Λ)(H':Hp),lM ws->ao H H' ->H l=none->H' l=some (.lst us)->kj K H' us ws->Q (.ref l) H')
theorem Q8 :(qr r).1=0 ↔ r=0:=⟨mJ,fun e=>by rw [e,dE]⟩
theorem yD:av ["_law_cell","_law_kind","_law_x","_law_y"] zaT (ae JA):=sq
theorem Z8 (D:Def K mg "_law_ways" JA zaT)(dH:Fn P w K mg base (aT P w) 1 "_law_field" zad f7)(lO:Fn P w K mg base (aT P w) 33 "_law_lowest" zag cx):Fn P w K mg base (aT P w) 34 "_law_ways" zaT (vZ K):=by
 refine D.op yD fun f bZ A outer s H vs Q E hr h=>?_
 obtain ⟨c,rfl,q⟩:=h
 have L0:0<=aaD:=by decide
 have L1:1<=aaD:=by decide
 have L2:2<=aaD:=by decide
 refine ⟨_,(aa (aF (i:=1) yD.nd (aJ dH hr (bK (pv 0) af af)))
  (aa (bq (bx qA (pv 1) af) (ag (ay (b_ jA))) aL)
  (aa (bq (bx qA (pv 1) af) (ag (ay (b_ (aG (aS (aG (aS (aG af af)) (aS (aG af af)))) (aS (aG (aS (aG af af)) (aS (aG af af)))))))) aL)
  (aa (aF (i:=2) yD.nd (aJ lO hr (aG (aw cN (aJ dH hr (bK (pv 0) af af)) af) (aw bG af (aJ dH hr (bK (pv 0) af af))))))
  (aa (aF (i:=3) yD.nd (aS (aG (aw cN (aJ dH hr (bK (pv 0) af af)) af) af)))
  (aa (bq (PW.pt (zP (bx eR (aC (pv 2)) af) (u0 (bx eR (aC (pv 3)) af)))) (ag (aF (i:=3) yD.nd (aS (aG af af)))) aL)
  (ag (ay (b_ (a9 (aS (aG (pv 2) (pv 3))))))))))))),?_⟩
 refine ⟨_,rfl,_,_,_,rfl,by decide,by decide,by decide,_,rfl,_,_,rfl,rfl,_,rfl,?_⟩
 refine bu (fun _=>?_) (fun _=>?_)
 ·refine ⟨L0,?_⟩
  intro l nl;generalize eX:upd _ l _=H1;have ⟨s1,e1⟩:=nw nl eX
  exact q l [] [] H1 (.inl rfl) s1 nl e1 .nil
 refine ⟨_,rfl,_,_,rfl,rfl,_,rfl,?_⟩
 refine bu (fun _=>?_) (fun _=>?_)
 ·refine ⟨L2,?_⟩
  intro p1 n1;generalize eX:upd _ p1 _=H1;have ⟨s1,e1⟩:=nw n1 eX
  refine ⟨L2,?_⟩
  intro p2 n2;generalize eX:upd _ p2 _=H2;have ⟨s2,e2⟩:=nw n2 eX
  refine ⟨L2,?_⟩
  intro p3 n3;generalize eX:upd _ p3 _=H3;have ⟨s3,e3⟩:=nw n3 eX
  refine ⟨L2,?_⟩
  intro p4 n4;generalize eX:upd _ p4 _=H4;have ⟨s4,e4⟩:=nw n4 eX
  refine ⟨L2,?_⟩
  intro p5 n5;generalize eX:upd _ p5 _=H5;have ⟨s5,e5⟩:=nw n5 eX
  refine ⟨L2,?_⟩
  intro p6 n6;generalize eX:upd _ p6 _=H6;have ⟨s6,e6⟩:=nw n6 eX
  refine ⟨L2,?_⟩
  intro p7 n7;generalize eX:upd _ p7 _=H7;have ⟨s7,e7⟩:=nw n7 eX
  have sh:=s1.trans (s2.trans (s3.trans (s4.trans (s5.trans s6))))
  have w1:gu K H7 (.ref p3) (1,0):=EU vJ dE (s7 _ _ (s6 _ _ (s5 _ _ (s4 _ _ e3)))) (s7 _ _ (s6 _ _ (s5 _ _ (s4 _ _ (s3 _ _ (s2 _ _ e1)))))) (s7 _ _ (s6 _ _ (s5 _ _ (s4 _ _ (s3 _ _ e2)))))
  have w2:gu K H7 (.ref p6) (0,1):=EU dE vJ (s7 _ _ e6) (s7 _ _ (s6 _ _ (s5 _ _ e4))) (s7 _ _ (s6 _ _ e5))
  exact q p7 _ [(1,0),(0,1)] _ (.inr (.inr rfl)) (sh.trans s7) (sh.free n7) e7 (.cons w1 (.cons w2 .nil))
 have i1:=aX (c:=c) (p:=6007) (m:=7) (by decide)
 have i2:=aX (c:=c) (p:=7001) (m:=3) (by decide)
 have i3:=aX (c:=c) (p:=8009) (m:=7) (by decide)
 refine ⟨_,rfl,_,_,_,rfl,by decide,by decide,by decide,_,_,rfl,rfl,_,rfl,_,_,_,rfl,by decide,by decide,by decide,_,_,rfl,rfl,_,_,rfl,by omega,fun p1 H1 s1 e1=>?_⟩
 rw [fP (by omega)] at e1
 refine ⟨_,rfl,_,_,_,rfl,by decide,by decide,by decide,_,_,rfl,rfl,L2,?_⟩
 intro p2 n2;generalize eX:upd _ p2 _=H2;have ⟨s2,f2⟩:=nw n2 eX
 have e2:H2 p2=some (.tup [.int (qr ((field c 8009 7-3:Int):Rat)).1,.int (qr ((field c 8009 7-3:Int):Rat)).2]):=by rw [nO];exact f2
 have z1:=mR (t:=field c 6007 7-3) (b:=1+field c 7001 3) (by omega) (by omega) (by omega)
 have z2:Sz 20 ((field c 8009 7-3:Int):Rat):=jO (by omega) (by decide)
 generalize ((field c 6007 7-3:Int):Rat) / ((1+field c 7001 3:Int):Rat)=x at e1 z1 ⊢
 clear f2
 generalize ((field c 8009 7-3:Int):Rat)=y at e2 z2
 have GP :=s2 _ _ e1
 have lY:=s1.trans s2
 have fin:∀(v:V)(y':Rat)(H3:Hp),ao H2 H3->cZ K H3 v y' ->Sz 22 y' ->¬ (x=0/\y'=0)->∀(p:aaz)(l:aaz)(H5:Hp),ao H3 H5->H3 l=none->H5 p=some (.tup [.ref p1,v])->H5 l=some (.lst [.ref p])->Q (.ref l) H5:=fun v y' H3 s3 hv zy hn p l H5 s5 nl ep el=>
  q l [.ref p] [(x,y')] H5 (.inr (.inl ⟨x,y',rfl,hn,z1.up (by decide),zy⟩)) (lY.trans (s3.trans s5)) ((lY.trans s3).free nl) el (.cons (uS ep (((iZ GP).same s3).same s5) (hv.same s5)) .nil)
 refine ⟨_,rfl,p1,_,_,_,rfl,rfl,bM.of GP,ie,rfl,_,rfl,?_⟩
 refine bu (fun c1=>?_) (fun c1=>?_)
 ·have c1':x=0:=Q8.mp (by simpa using aaU c1)
  refine ⟨_,rfl,p2,_,_,_,rfl,rfl,bM.of e2,ie,rfl,_,rfl,?_⟩
  refine bu (fun c2=>?_) (fun c2=>?_)
  ·refine ⟨L2,?_⟩
   intro p3 n3;generalize eX:upd _ p3 _=H3;have ⟨s3,e3⟩:=nw n3 eX
   refine ⟨_,rfl,_,rfl,L2,?_⟩
   intro p4 n4;generalize eX:upd _ p4 _=H4;have ⟨s4,e4⟩:=nw n4 eX
   refine ⟨L1,?_⟩
   intro l5 n5;generalize eX:upd _ l5 _=H5;have ⟨s5,e5⟩:=nw n5 eX
   exact fin (.ref p3) 1 H3 s3 (rJ 1 e3) (jO (i:=1) (by decide) (by decide)) (fun z=>aaM z.2 (by decide)) p4 l5 H5 (s4.trans s5) (s4.free n5) (s5 _ _ e4) e5
  ·have c2':¬ y=0:=fun z=>c2 (by rw [z,dE];decide)
   refine ⟨_,rfl,_,rfl,L2,?_⟩
   intro p4 n4;generalize eX:upd _ p4 _=H4;have ⟨s4,e4⟩:=nw n4 eX
   refine ⟨L1,?_⟩
   intro l5 n5;generalize eX:upd _ l5 _=H5;have ⟨s5,e5⟩:=nw n5 eX
   exact fin (.ref p2) y H2 (ao.refl _) (iZ e2) (z2.up (by decide)) (fun z=>c2' z.2) p4 l5 H5 (s4.trans s5) (s4.free n5) (s5 _ _ e4) e5
 ·have c1':¬ x=0:=fun z=>c1 (by rw [z,dE];decide)
  refine Qh ?_
  refine ⟨_,rfl,_,rfl,L2,?_⟩
  intro p4 n4;generalize eX:upd _ p4 _=H4;have ⟨s4,e4⟩:=nw n4 eX
  refine ⟨L1,?_⟩
  intro l5 n5;generalize eX:upd _ l5 _=H5;have ⟨s5,e5⟩:=nw n5 eX
  exact fin (.ref p2) y H2 (ao.refl _) (iZ e2) (z2.up (by decide)) (fun z=>c1' z.1) p4 l5 H5 (s4.trans s5) (s4.free n5) (s5 _ _ e4) e5
inductive mS (K:Frag)(H:Hp)(d:aaz)(v:V)(p:aD):Prop
|mk (a l:aaz)(s:V)(us:η)(_:v=.ref a)(_:bM K H a [.str p.nm,s,.ref l])(_:gu K H s p.sp)(_:H l=some (.lst us))(_:kj K H us p.ws)(_:l≠d)
inductive jP (K:Frag)(H:Hp)(v:V)(p:aD):Prop
|mk (a l:aaz)(s:V)(us:η)(_:v=.ref a)(_:bM K H a [.str p.nm,s,.ref l])(_:gu K H s p.sp)(_:H l=some (.lst us))(_:kj K H us p.ws)
inductive lQ (K:Frag)(H:Hp)(pins:ν)(v:V)(b:aV):Prop
|mk (a:aaz)(i j:Nat)(_:v=.ref a)(_:bM K H a [.str b.nm,.int (i:Int),.int (j:Int)])(_:pins[i]?=some b.one)(_:pins[j]?=some b.other)
section
variable {K:Frag}{H H':Hp}{v:V}{p:aD}{d:aaz}
theorem mS.same (h:mS K H d v p)(s:ao H H'):mS K H' d v p:=by
 obtain ⟨a,l,sv,us,e,h1,h2,h3,h4,h5⟩:=h
 exact ⟨a,l,sv,us,e,Ty.ao.ck s h1,h2.same s,s _ _ h3,h4.same s,h5⟩
theorem mS.upd (h:mS K H d v p)(e:H d=some (.lst xs)):mS K (L2.upd H d o) d v p:=by
 obtain ⟨a,l,sv,us,ev,h1,h2,h3,h4,h5⟩:=h
 have t:bo H (L2.upd H d o):=.list e
 exact ⟨a,l,sv,us,ev,t.ck h1,h2.aK t,by rw [aj h5];exact h3,h4.aK t,h5⟩
theorem mS.r (h:mS K H d v p):jP K H v p:=by
 obtain ⟨a,l,sv,us,e,h1,h2,h3,h4,_⟩:=h
 exact ⟨a,l,sv,us,e,h1,h2,h3,h4⟩
theorem jP.same (h:jP K H v p)(s:ao H H'):jP K H' v p:=by
 obtain ⟨a,l,sv,us,e,h1,h2,h3,h4⟩:=h
 exact ⟨a,l,sv,us,e,Ty.ao.ck s h1,h2.same s,s _ _ h3,h4.same s⟩
theorem lQ.same (h:lQ K H pins v b)(s:ao H H'):lQ K H' pins v b:=by
 obtain ⟨a,i,j,e,h1,h2,h3⟩:=h
 exact ⟨a,i,j,e,Ty.ao.ck s h1,h2,h3⟩
end
structure kE (pins:ν):Prop where
 np:(pins.map (·.nm)).Nodup
 ns:(pins.map (·.sp)).Nodup
 sz:∀p∈pins,Sz 24 p.sp.1/\Sz 24 p.sp.2
 ws:∀p∈pins,lM p.ws
theorem lM.sz (h:lM ws):∀w∈ws,Sz 22 w.1/\Sz 22 w.2:=fun w hw=>by
 rcases h with rfl|⟨x,y,rfl,_,h1,h2⟩|rfl
 ·cases hw
 ·have:w=(x,y):=by simpa using hw
  rw [this]
  exact ⟨h1,h2⟩
 ·have e1:Sz 22 (1:Rat):=jO (k:=22) (i:=1) (by decide) (by decide)
  have e0:Sz 22 (0:Rat):=d0 (by decide)
  have:w=(1,0)\/w=(0,1):=by simpa using hw
  rcases this with rfl|rfl
  ·exact ⟨e1,e0⟩
  ·exact ⟨e0,e1⟩
theorem lM.len (h:lM ws):ws.length<=2:=by
 rcases h with rfl|⟨x,y,rfl,_⟩|rfl<;>simp
theorem kE.snoc (g:kE pins)(h1:p.nm∉pins.map (·.nm))(h2:p.sp∉pins.map (·.sp))(h3:Sz 24 p.sp.1/\Sz 24 p.sp.2)(h4:lM p.ws):kE (pins++[p]):=by
 refine ⟨?_,?_,fun q hq=>?_,fun q hq=>?_⟩
 ·rw [ads,afw]
  refine ⟨g.np,by simp,fun a ha b hb e=>h1 ?_⟩
  have:b=p.nm:=by simpa using hb
  rw [<-this,<-e]
  exact ha
 ·rw [ads,afw]
  refine ⟨g.ns,by simp,fun a ha b hb e=>h2 ?_⟩
  have:b=p.sp:=by simpa using hb
  rw [<-this,<-e]
  exact ha
 ·rcases ado.mp hq with z|z
  ·exact g.sz q z
  ·rw [adi.mp z]
   exact h3
 ·rcases ado.mp hq with z|z
  ·exact g.ws q z
  ·rw [adi.mp z]
   exact h4
structure rK (pins:ν)(bars:τ):Prop where
 nb:(bars.map (·.nm)).Nodup
 ends:∀b∈bars,b.one∈pins/\b.other∈pins/\b.one.nm≠b.other.nm
theorem jQ :∀{l₁:List α} {l₂:List β} {a:α} {b:β},Paired F l₁ l₂->F a b->Paired F (l₁++[a]) (l₂++[b])
 | _,_,_,_,.nil,h=>.cons h .nil
 | _,_,_,_,.cons h t,h'=>.cons h (jQ t h')
theorem jR (inv:L2.St->Hp->Prop)(h1:∀N:L2.St->Hp->Prop,(∀σ' H',inv σ' H' ->N σ' H')->t {D with nx:=N} σ H)(h2:∀σ' H',inv σ' H' ->u D σ' H'):Xc t u D σ H:=h1 _ h2
theorem Z9 (g:kE pins)(b:rK pins bars)(lp:pins.length<=9)(lb:bars.length<=14):eC pins bars:=
 ⟨g.np,b.nb,b.ends,fun p hp=>⟨(g.sz p hp).1,(g.sz p hp).2,(g.ws p hp).sz⟩,lp,lb,fun p hp=>(g.ws p hp).len⟩
theorem Z_:aaY "min"=some (.builtin "min"):=by decide+kernel
def cnt (pins:ν)(x:Rat):Nat:=(pins.filter fun p=>decide (x<=p.sp.1)).length
theorem NL (x:Rat):∀pins:List aD,cnt pins (x+1)<=cnt pins x
 | []=>aa_ _
 | p::ps=>by
  have ih:=NL x ps
  unfold cnt at ih ⊢
  rw [af1,af1]
  by_cases c:x+1<=p.sp.1
  ·have c2:x<=p.sp.1:=by grind
   rw [aaC (aaS c),aaC (aaS c2)]
   simpa using ih
  ·rw [aaA (by simpa using c)]
   split
   ·rw [adJ]
    omega
   ·exact ih
theorem NM :∀{pins:ν},(∃p∈pins,p.sp.1=x)->cnt pins (x+1)<cnt pins x
 | [],⟨p,h,_⟩=>by simp at h
 | p::ps,⟨q,hq,e⟩=>by
  unfold cnt
  rw [af1,af1]
  by_cases c0:p.sp.1=x
  ·have c:¬ x+1<=p.sp.1:=by grind
   have c2:x<=p.sp.1:=by grind
   rw [aaA (by simpa using c),aaC (aaS c2),adJ]
   have:=NL x ps
   unfold cnt at this
   omega
  ·have m6 :q∈ps:=by
    rcases adD.mp hq with z|z
    ·exact aaM (by rw [<-z];exact e) c0
    ·exact z
   have ih:=NM (pins:=ps) ⟨q,m6,e⟩
   unfold cnt at ih
   by_cases c:x+1<=p.sp.1
   ·have c2:x<=p.sp.1:=by grind
    rw [aaC (aaS c),aaC (aaS c2)]
    simpa using ih
   ·rw [aaA (by simpa using c)]
    split
    ·rw [adJ]
     omega
    ·exact ih
theorem Q9 (pins:ν)(x:Rat):cnt pins x<=pins.length:=af0 _ _
theorem Q_ (r:Rat):gx (qr r) (1,1)=qr (r+1):=by
 have e:gx (qr r) (1,1)=((qr r).1+(qr r).2,(qr r).2):=by
  unfold gx
  simp
 have g:ad1 ((qr r).1+(qr r).2) (qr r).2=1:=by
  have:=nN r
  rw [<-this]
  simp
 rw [e,uH (q:=((qr r).1+(qr r).2,(qr r).2)) (cA r) g]
 congr 1
 have z:=yb (r:=r)
 have v:=dy r
 unfold vl at v ⊢
 push_cast
 grind
theorem Z' (h:Sz k r):Ns k (qr r):=⟨ad' (intBits_le_iff.mp h.top),ad' (intBits_le_iff.mp h.bot)⟩
theorem Ra:∀i:Fin 10,∃N:Fin 5,i0 [V.int 0,.int 1,.int 2,.int 2,.int 3,.int 3,.int 3,.int 3,.int 4,.int 4] (i.val:Int)=some (.int (N.val:Int)):=by decide+kernel
theorem Rb:∀i:Fin 6,∃N:Fin 5,i0 [V.int 4,.int 4,.int 4,.int 4,.int 3,.int 2] (i.val:Int)=some (.int (N.val:Int)):=by decide+kernel
inductive v7 (K:Frag)(vs:η)(H:Hp)(Q:VK)(E_:XK):Prop
|mk (sA:aaz)(ns:ξ)(mo:Nat)(_:vs=[.ref sA,.int (mo:Int)])(_:aR K H sA (ns.map V.int))(_:∀(l:aaz)(us:η)(pins:ν)(H':Hp),ao H H' ->H l=none->H' l=some (.lst us)->Paired (jP K H') us pins->kE pins->pins.length<=4->Q (.ref l) H')
theorem mT:av ["_law_script","_law_most","_law_cell","_law_kind","_law_many","_law_pins_here","_law_k","_law_spot_here"] zay (ae JB):=sq
theorem aaa (D:Def K mg "_law_pins" JB zay)(bh:mg "range"=none)(NO:mg "min"=none)(om:Fn P w K mg base (aT P w) 1 "_law_cell_at" zam (lJ K))(dH:Fn P w K mg base (aT P w) 1 "_law_field" zad f7)
  (ags:Fn P w K mg base (aT P w) 34 "_law_spot" zaA (vY K)) (agt:Fn P w K mg base (aT P w) 34 "_law_ways" zaT (vZ K)) (Vz:Fn P w K mg base (aT P w) 2 "_law_name" zax vX) (lR:Fn P w K mg base (aT P w) 1 "_law_sum" zac (bO K gx)):
  Fn P w K mg base (aT P w) 35 "_law_pins" zay (v7 K):=by
 refine D.oo mT fun H hr h=>?_
 obtain ⟨sA,ns,mo,rfl,hS,q⟩:=h
 have L2:2<=aaD:=by decide
 have L3:3<=aaD:=by decide
 refine ⟨_,(aa (aF (i:=2) mT.nd (aJ om hr (aG (pv 0) af)))
  (aa (aF (i:=3) mT.nd (aJ dH hr (bK (pv 2) af af)))
  (aa (aF (i:=4) mT.nd (bB aQ (b_ (sM af (sM af (sM af (sM af (sM af (sM af (sM af (bK af af af))))))))) (aJ dH hr (bK (pv 2) af af))))
  (aa (aF (i:=4) mT.nd (aI (HW rfl) rfl NO Z_ (bK (pv 4) (bB aQ (b_ (sM af (sM af (sM af (bK af af af))))) (pv 3)) (pv 1))))
  (aa (aF (i:=5) mT.nd (b_ jA))
  (aa (bg aaG rfl (bY rfl bh (a9 (pv 4))) (bN (i:=6) mT.nd) (aa (aF (i:=7) mT.nd (aJ ags hr (aG (aJ om hr (aG (pv 0) (aw bG af (pv 6)))) (pv 3))))
   (aa (qw aaG (pU (Qt hr.units) (pv 7) (eK (tn:=["_law_pin"]) (fr:=[]) (caps:=[]) (a_ (pv 5)) (bB (dS (K:=K) rfl) (pv 0) af)) rfl) (ag (aF (i:=7) mT.nd (aS (aG (aJ lR hr (aG (aC (pv 7)) (aS (aG af af)))) (aC (pv 7)))))))
   (ag (bX (qE abc abg abh fN (pv 5) (a9 (aS (bK (aJ Vz hr (aG (pv 2) (pv 6))) (pv 7) (aJ agt hr (a9 (aJ om hr (aG (pv 0) (aw bG af (pv 6)))))))))))))))
  (ag (ay (pv 5))))))))),?_⟩
 refine ⟨_,rfl,sA,ns,0,rfl,hS,by decide,by decide,?_⟩
 generalize cell ns 0=c0
 have ik:=aX (c:=c0) (p:=2003) (m:=6) (by decide)
 refine ⟨_,rfl,_,_,_,rfl,by decide,by decide,by decide,?_⟩
 generalize field c0 2003 6=kind at ik ⊢
 obtain ⟨kn,rfl⟩:∃n:Nat,kind=(n:Int):=⟨kind.toNat,by omega⟩
 refine ⟨z10L,?_⟩
 intro t0 nt0;generalize eX:upd _ t0 _=H0;have ⟨st0,et0⟩:=nw nt0 eX
 have i1:=aX (c:=c0) (p:=1009) (m:=10) (by decide)
 refine ⟨_,rfl,_,_,_,rfl,by decide,by decide,by decide,?_⟩
 generalize field c0 1009 10=fi at i1 ⊢
 obtain ⟨fn,rfl⟩:∃n:Nat,fi=(n:Int):=⟨fi.toNat,by omega⟩
 obtain ⟨N1,eN1⟩:=Ra ⟨fn,by omega⟩
 refine ⟨t0,_,_,_,rfl,rfl,aR.of et0,eN1,_,rfl,z6L,?_⟩
 intro t1 nt1;generalize eX:upd _ t1 _=Hm;have ⟨st1,et1⟩:=nw nt1 eX
 obtain ⟨N2,eN2⟩:=Rb ⟨kn,by omega⟩
 refine ⟨_,rfl,t1,_,_,_,rfl,rfl,aR.of et1,eN2,_,rfl,_,_,_,rfl,fun m hm m1 m2 m3=>?_⟩
 obtain ⟨N,rfl⟩:∃n:Nat,m=(n:Int):=⟨m.toNat,by omega⟩
 have hN:N<=4:=by have:=N1.isLt;omega
 have aab:=st0.trans st1
 refine ⟨z0L,?_⟩
 intro lp np;generalize eX:upd _ lp _=H1;have ⟨sp,ep⟩:=nw np eX
 have s01:=aab.trans sp
 have BE:H lp=none:=aab.free np
 refine ⟨_,rfl,(N:Int),rfl,by omega,by omega,cJ (lo:=0) (n:=N) (fun i σ H'=>HX fun (o5 o6:ω) (us:η) (pins:ν)=>σ=[some (.ref sA),some (.int (mo:Int)),some (.int c0),some (.int (kn:Int)),some (.int (N:Int)),some (.ref lp),o5,o6]/\ao H H'/\H' lp=some (.lst us)/\Paired (mS K H' lp) us pins/\kE pins/\pins.length=i/\∀p∈pins,∃j,j<i/\p.nm=nameOf (field c0 3001 4) (field c0 4001 6) (j:Int)/\p.sp.1<=500010) ⟨none,none,[],[],rfl,s01,ep,.nil,⟨by simp,by simp,by simp,by simp⟩,rfl,by simp⟩ ?_ ?_⟩
 ·rintro i σ H2 hi ⟨o5,o6,us,pins,rfl,s2,e2,pp,gp,lpi,nm⟩
  have ei:(0:Int)+(i:Int)=(i:Int):=ad2 _
  rw [ei]
  have lu:us.length=pins.length:=aaK pp
  refine ⟨_,rfl,_,rfl,_,_,rfl,rfl,sA,ns,_,rfl,s2.seq hS,by omega,by omega,_,rfl,_,_,rfl,by omega,by omega,fun p3 x0 y0 H3 s3 zx zy xb h3=>?_⟩
  have s23:=s2.trans s3
  have h30:gu K H3 (.ref p3) (x0+((0:Nat):Rat),y0):=by
   have e:x0+((0:Nat):Rat)=x0:=by
    have:((0:Nat):Rat)=0:=by rfl
    rw [this]
    grind
   rw [e]
   exact h3
  dsimp only
  refine jR (fun σ' H'=>EI fun (sv:V) (x:Rat)=>σ' =[some (.ref sA),some (.int (mo:Int)),some (.int c0),some (.int (kn:Int)),some (.int (N:Int)),some (.ref lp),some (.int (i:Int)),some sv]/\ao H3 H'/\gu K H' sv (x,y0)/\(Sz 24 x/\x<=500010)/\(x,y0)∉pins.map (·.sp)) (fun Nx Kr=>?_) ?_
  ·refine ⟨fun m σ H'=>EI fun (sv:V) (j:Nat)=>σ=[some (.ref sA),some (.int (mo:Int)),some (.int c0),some (.int (kn:Int)),some (.int (N:Int)),some (.ref lp),some (.int (i:Int)),some sv]/\ao H3 H'/\gu K H' sv (x0+(j:Rat),y0)/\m=cnt pins (x0+(j:Rat))/\j+cnt pins (x0+(j:Rat))<=pins.length,⟨_,_,0,rfl,ao.refl _,h30,rfl,by have:=Q9 pins (x0+((0:Nat):Rat));omega⟩,?_⟩
   rintro m σ H4 ⟨sv,j,rfl,s4,h4,rfl,hj⟩
   have e4:=(s3.trans s4) _ _ e2
   have pp4:Paired (mS K H4 lp) us pins:=Paired.cF pp fun _ _ z=>z.same (s3.trans s4)
   have zj:Sz 24 (x0+(j:Rat)):=(zx.add (qX (i:=(j:Int)) (k:=3) (show _<8 by omega) (by decide))).up (by decide)
   refine ⟨_,rfl,_,rfl,lp,rfl,⟨_,aR.of e4⟩,fun D1 n1=>?_⟩
   refine dB (cap:=[]) (K:=K) (a:=lp) (xs:=us) (fun i v H=>∃p,pins[i]?=some p/\gu K H v p.sp) n1 (by rw [lu];exact ac_ (show pins.length<=1000 by omega) (by decide)) (fun H2 s2=>aR.of (s2 _ _ e4)) (fun _ _ _ _ _ h0 ks h=>by
     obtain ⟨p,h1,h2⟩:=h
     refine ⟨p,h1,h2.aK fun b xs r=>?_⟩
     rcases r with r|⟨o',r⟩
     ·exact .inl (ks _ _ (fun e=>by rw [e,h0] at r;cases r) r)
     ·exact .inr ⟨o',ks _ _ (fun e=>by rw [e,h0] at r;cases r) r⟩) ?_ ?_
   ·intro jj u H6 R hu s6 k
    obtain ⟨p,CW,hp⟩:=aE pp4 hu
    obtain ⟨a,l,sv,nZ,rfl,h1,h2,_⟩:=hp
    exact ⟨_,rfl,a,_,_,_,rfl,rfl,Ty.ao.ck s6 h1,rfl,k _ _ (ao.refl _) ⟨p,CW,h2.same s6⟩⟩
   intro ys H6 hy iD s6 hD
   have pq:kj K H6 ys (pins.map (·.sp)):=iR (by rw [be,hy,lu]) fun j u q' GP e2'=>by
    obtain ⟨p,h1,h2⟩:=iD j u GP
    rw [Wp,h1] at e2'
    cases e2'
    exact h2
   have h6:=h4.same s6
   refine ⟨(x0+(j:Rat),y0),D1,ys,_,rfl,aR.of hD,h6,pq,_,rfl,?_⟩
   refine bu (fun cc=>?_) (fun cc=>?_)
   ·have mem:(x0+(j:Rat),y0)∈pins.map (·.sp):=by simpa using cc
    obtain ⟨p,hp,CW⟩:=aat.mp mem
    have lt:=NM (x:=x0+(j:Rat)) ⟨p,hp,by rw [CW]⟩
    have ej:x0+(j:Rat)+1=x0+((j+1:Nat):Rat):=by
     push_cast
     grind
    rw [ej] at lt
    refine ⟨fun σ' H'=>∃(sv:V),σ' =[some (.ref sA),some (.int (mo:Int)),some (.int c0),some (.int (kn:Int)),some (.int (N:Int)),some (.ref lp),some (.int (i:Int)),some sv]/\ao H3 H'/\gu K H' sv (x0+((j+1:Nat):Rat),y0),fun σ' H' ⟨sv',h1,h2,h3⟩=>⟨_,lt,sv',j+1,h1,h2,h3,rfl,by omega⟩,?_⟩
    obtain ⟨sa,u1,u2,rfl,Rc,hn1,Wq⟩:=h6
    refine ⟨_,rfl,sa,_,_,_,rfl,rfl,Rc,ie,L2,?_⟩
    intro p7 n7;generalize eX:upd _ p7 _=H7;have ⟨s7,e7⟩:=nw n7 eX
    refine ⟨u1,.ref p7,qr (x0+(j:Rat)),(1,1),24,1,rfl,hn1.same s7,⟨p7,rfl,bM.of e7⟩,Z' zj,⟨by decide,by decide⟩,by decide,fun p8 H8 s8 e8=>?_⟩
    rw [Q_,ej] at e8
    refine ⟨_,rfl,sa,_,_,_,rfl,rfl,Ty.ao.ck (s7.trans s8) Rc,gX,L2,?_⟩
    intro p9 n9;generalize eX:upd _ p9 _=H9;have ⟨s9,e9⟩:=nw n9 eX
    have s69:=(s7.trans s8).trans s9
    exact ⟨.ref p9,rfl,(s4.trans s6).trans s69,uS e9 ((iZ e8).same s9) (Wq.same s69)⟩
   ·have fresh:(x0+(j:Rat),y0)∉pins.map (·.sp):=by simpa using cc
    exact Kr _ _ ⟨sv,x0+(j:Rat),rfl,s4.trans s6,h6,⟨zj,(by have Yi :((j:Int):Rat)<=((5:Int):Rat):=aff.mpr (by omega);have e1:((j:Int):Rat)=(j:Rat):=rfl;have e2:((5:Int):Rat)=5:=rfl;rw [e1,e2] at Yi;grind)⟩,fresh⟩
  rintro σ' H4 ⟨sv,x,rfl,s4,h4,⟨zx',xb'⟩,fresh⟩
  have WI:=s3.trans s4
  have OO:=s2.trans WI
  have e4:=WI _ _ e2
  have pp4:Paired (mS K H4 lp) us pins:=Paired.cF pp fun _ _ z=>z.same WI
  refine ⟨_,rfl,.inl ⟨rfl,_,aR.of e4⟩,_,rfl,_,rfl,_,_,rfl,by omega,by omega,_,rfl,_,rfl,_,rfl,_,_,rfl,rfl,sA,ns,_,rfl,OO.seq hS,by omega,by omega,_,rfl,fun l8 us8 ws H8 wk s8 n8 e8 p8=>⟨L3,?_⟩⟩
  intro p9 n9;generalize eX:upd _ p9 _=H9;have ⟨s9,e9⟩:=nw n9 eX
  have s49:=s8.trans s9
  have e49:=s49 _ _ e4
  have pp9:Paired (mS K H9 lp) us pins:=Paired.cF pp4 fun _ _ z=>z.same s49
  refine ⟨lp,_,_,rfl,rfl,e49,(by rw [lu];exact ac_ (show pins.length<=1000 by omega) (by decide)),?_⟩
  have zH:mS K H9 lp (.ref p9) ⟨nameOf (field c0 3001 4) (field c0 4001 6) (i:Int),(x,y0),ws⟩:=⟨p9,l8,sv,us8,rfl,bM.of e9,h4.same s49,s9 _ _ e8,p8.same s9,fun z=>by rw [z,e4] at n8;cases n8⟩
  refine ⟨_,_,_,pins++[⟨nameOf (field c0 3001 4) (field c0 4001 6) (i:Int),(x,y0),ws⟩],rfl,fun b o z=>?_,ah,jQ (Paired.cF pp9 fun _ _ z=>z.upd e49) (zH.upd e49),gp.snoc (fun z=>?_) fresh ⟨zx',zy.up (by decide)⟩ wk,by simp [lpi],fun p hp=>?_⟩
  ·rw [aj (ak z BE)]
   exact s49 _ _ (OO _ _ z)
  ·obtain ⟨p,hp,CW⟩:=aat.mp z
   obtain ⟨j,hj,ej,_⟩:=nm p hp
   have i3:=aX (c:=c0) (p:=3001) (m:=4) (by decide)
   have i4:=aX (c:=c0) (p:=4001) (m:=6) (by decide)
   have:=yC ⟨(field c0 3001 4).toNat,by omega⟩ ⟨(field c0 4001 6).toNat,by omega⟩ ⟨j,by omega⟩ ⟨i,by omega⟩ (fun z=>by
    have:=aaQ Fin.val z
    simp at this
    omega)
   refine this ?_
   show nameOf (((field c0 3001 4).toNat:Nat):Int) (((field c0 4001 6).toNat:Nat):Int) (j:Int)=nameOf (((field c0 3001 4).toNat:Nat):Int) (((field c0 4001 6).toNat:Nat):Int) (i:Int)
   rw [show (((field c0 3001 4).toNat:Nat):Int)=field c0 3001 4 by omega,show (((field c0 4001 6).toNat:Nat):Int)=field c0 4001 6 by omega,<-ej]
   exact CW
  ·rcases ado.mp hp with z|z
   ·obtain ⟨j,hj,ej,eb⟩:=nm p z
    exact ⟨j,by omega,ej,eb⟩
   ·rw [adi.mp z]
    exact ⟨i,by omega,rfl,xb'⟩
 ·rintro σ H2 ⟨o5,o6,us,pins,rfl,s2,e2,pp,gp,lpi,nm⟩
  refine ⟨_,rfl,q lp us pins H2 s2 BE e2 (Paired.cF pp fun _ _ z=>z.r) gp (by omega)⟩
inductive v9 (K:Frag)(vs:η)(H:Hp)(Q:VK)(E_:XK):Prop
|mk (sA pA:aaz)(ns:ξ)(us:η)(pins:ν)(_:vs=[.ref sA,.ref pA])(_:aR K H sA (ns.map V.int))(_:H pA=some (.lst us))(_:us.length=pins.length)(_:(pins.map (·.nm)).Nodup)(_:pins.length<=6)(_:∀(l:aaz)(iH :η)(bars:τ)(H':Hp),ao H H' ->H l=none->H' l=some (.lst iH)->Paired (lQ K H' pins) iH bars->rK pins bars->bars.length<=7->Q (.ref l) H')
theorem rK.snoc (g:rK pins bars)(h1:b.nm∉bars.map (·.nm))(h2:b.one∈pins/\b.other∈pins/\b.one.nm≠b.other.nm):rK pins (bars++[b]):=by
 refine ⟨?_,fun q hq=>?_⟩
 ·rw [ads,afw]
  refine ⟨g.nb,by simp,fun a ha c hc e=>h1 ?_⟩
  have:c=b.nm:=by simpa using hc
  rw [<-this,<-e]
  exact ha
 ·rcases ado.mp hq with z|z
  ·exact g.ends q z
  ·rw [adi.mp z]
   exact h2
theorem oQ:av ["_law_script","_law_pins_here","_law_cell","_law_many","_law_bars_here","_law_k","_law_one","_law_step"] zas (ae JC):=sq
theorem aac (D:Def K mg "_law_bars" JC zas)(bh:mg "range"=none)(aZ:mg "len"=none)(om:Fn P w K mg base (aT P w) 1 "_law_cell_at" zam (lJ K))(dH:Fn P w K mg base (aT P w) 1 "_law_field" zad f7)(Vz:Fn P w K mg base (aT P w) 2 "_law_name" zax vX):
  Fn P w K mg base (aT P w) 3 "_law_bars" zas (v9 K):=by
 refine D.oo oQ fun H hr h=>?_
 obtain ⟨sA,pA,ns,us,pins,rfl,hS,hp,lu,np,lp,q⟩:=h
 have L3:3<=aaD:=by decide
 refine ⟨_,(aa (aF (i:=2) oQ.nd (aJ om hr (aG (pv 0) af)))
  (aa (aF (i:=3) oQ.nd (aJ dH hr (bK (pv 2) af af)))
  (aa (bq (bx qA (aI aH rfl aZ cz (a9 (pv 1))) af) (ag (aF (i:=3) oQ.nd af)) aL)
  (aa (aF (i:=4) oQ.nd (b_ jA))
  (aa (bg aaG rfl (bY rfl bh (a9 (pv 3))) (bN (i:=5) oQ.nd) (aa (aF (i:=6) oQ.nd (aJ dH hr (bK (aJ om hr (aG (pv 0) (aw bG af (pv 5)))) af (aI aH rfl aZ cz (a9 (pv 1))))))
   (aa (aF (i:=7) oQ.nd (aw bG af (aJ dH hr (bK (aJ om hr (aG (pv 0) (aw bG af (pv 5)))) af (aw cN (aI aH rfl aZ cz (a9 (pv 1))) af)))))
   (ag (bX (qE abc abg abh fN (pv 4) (a9 (aS (bK (aJ Vz hr (aG (pv 2) (pv 5))) (pv 6) (aw fw (aw bG (pv 6) (pv 7)) (aI aH rfl aZ cz (a9 (pv 1)))))))))))))
  (ag (ay (pv 4)))))))),?_⟩
 refine ⟨_,rfl,sA,ns,1,rfl,hS,by decide,by decide,?_⟩
 generalize cell ns 1=c0
 have i1:=aX (c:=c0) (p:=1009) (m:=8) (by decide)
 refine ⟨_,rfl,_,_,_,rfl,by decide,by decide,by decide,?_⟩
 generalize field c0 1009 8=fi at i1 ⊢
 obtain ⟨fn,rfl⟩:∃n:Nat,fi=(n:Int):=⟨fi.toNat,by omega⟩
 dsimp only
 refine jR (fun σ' H'=>∃N:Nat,N<=7/\(0<N->2<=pins.length)/\σ' =[some (.ref sA),some (.ref pA),some (.int c0),some (.int (N:Int)),none,none,none,none]/\H'=H) (fun Nx Kr=>?_) ?_
 ·refine ⟨_,rfl,pA,_,rfl,.inl (aR.of hp),_,_,rfl,rfl,_,rfl,?_⟩
  refine bu (fun _=>?_) (fun c=>?_)
  ·exact Kr _ _ ⟨0,by omega,by omega,rfl,rfl⟩
  ·have c':¬ (us.length:Int)<2:=fun z=>c (aaS z)
   exact Kr _ _ ⟨fn,by omega,fun _=>by omega,rfl,rfl⟩
 rintro σ' Hy ⟨N,hN,Yx,rfl,rfl⟩
 refine ⟨z0L,?_⟩
 intro lb nb;generalize eX:upd _ lb _=H1;have ⟨sb,eb⟩:=nw nb eX
 refine ⟨_,rfl,(N:Int),rfl,by omega,by omega,cJ (lo:=0) (n:=N) (fun i σ H'=>Yv fun (o5 o6 o7:ω) (iH :η) (bars:τ)=>σ=[some (.ref sA),some (.ref pA),some (.int c0),some (.int (N:Int)),some (.ref lb),o5,o6,o7]/\ao Hy H'/\H' lb=some (.lst iH)/\Paired (lQ K H' pins) iH bars/\rK pins bars/\bars.length=i/\∀b∈bars,∃j,j<i/\b.nm=nameOf (field c0 3001 4) (field c0 4001 6) (j:Int)) ⟨none,none,none,[],[],rfl,sb,eb,.nil,⟨by simp,by simp⟩,rfl,by simp⟩ ?_ ?_⟩
 ·rintro i σ H2 hi ⟨o5,o6,o7,iH,bars,rfl,s2,e2,pb,gb,lbi,nm⟩
  have ei:(0:Int)+(i:Int)=(i:Int):=ad2 _
  rw [ei]
  have n2:2<=pins.length:=Yx (by omega)
  have lv:iH.length=bars.length:=aaK pb
  have sp:=aR.of (K:=K) (s2 _ _ hp)
  refine ⟨_,rfl,_,rfl,_,_,rfl,rfl,sA,ns,_,rfl,s2.seq hS,by omega,by omega,_,rfl,pA,_,rfl,.inl sp,_,_,_,rfl,by decide,by decide,by omega,?_⟩
  have j1:=aX (c:=cell ns (7+(i:Int))) (p:=1009) (m:=(us.length:Int)) (by omega)
  have j2:=aX (c:=cell ns (7+(i:Int))) (p:=2003) (m:=(us.length:Int)-1) (by omega)
  refine ⟨_,rfl,_,rfl,_,_,rfl,rfl,sA,ns,_,rfl,s2.seq hS,by omega,by omega,_,rfl,pA,_,rfl,.inl sp,_,_,rfl,rfl,_,_,_,rfl,by decide,by decide,by omega,_,_,rfl,rfl,?_⟩
  generalize field (cell ns (7+(i:Int))) 1009 (us.length:Int)=one at j1 ⊢
  generalize field (cell ns (7+(i:Int))) 2003 ((us.length:Int)-1)=step at j2 ⊢
  obtain ⟨on,rfl⟩:∃n:Nat,one=(n:Int):=⟨one.toNat,by omega⟩
  have oo:∃m:Nat,((on:Int)+(1+step)).fmod (us.length:Int)=(m:Int)/\m<us.length/\m≠on:=by
   have f:=mQ (x:=(on:Int)+(1+step)) (m:=(us.length:Int)) (by omega)
   refine ⟨(((on:Int)+(1+step)).fmod (us.length:Int)).toNat,by omega,by omega,fun z=>?_⟩
   have e:((on:Int)+(1+step)).fmod (us.length:Int)=(on:Int):=by omega
   rw [Int.fmod_eq_emod_of_nonneg _ (by omega)] at e
   by_cases c:(on:Int)+(1+step)<(us.length:Int)
   ·rw [amC (by omega) c] at e
    omega
   ·rw [<-Int.sub_emod_right,amC (by omega) (by omega)] at e
    omega
  obtain ⟨on2,e2',l2',ne2⟩:=oo
  refine ⟨_,rfl,.inl ⟨rfl,_,aR.of e2⟩,_,rfl,_,rfl,_,_,rfl,by omega,by omega,_,rfl,_,rfl,_,rfl,_,_,rfl,rfl,_,rfl,pA,_,rfl,.inl sp,_,_,rfl,rfl,nz (by omega),L3,?_⟩
  intro p9 n9;generalize eX:upd _ p9 _=H9;have ⟨s9,e9⟩:=nw n9 eX
  have e9:H9 p9=some (.tup [.str (nameOf (field c0 3001 4) (field c0 4001 6) (i:Int)),.int (on:Int),.int (((on:Int)+(1+step)).fmod (us.length:Int))]):=e9
  rw [e2'] at e9
  have e29:=s9 _ _ e2
  refine ⟨lb,_,_,rfl,rfl,e29,(by rw [lv];exact ac_ (show bars.length<=1000 by omega) (by decide)),?_⟩
  have l1:on<pins.length:=by omega
  have l2:on2<pins.length:=by omega
  have st:bo H9 (upd H9 lb (.lst (iH ++[.ref p9]))):=.list e29
  have ns9:∀(v:V)(b:aV),lQ K H2 pins v b->lQ K (upd H9 lb (.lst (iH ++[.ref p9]))) pins v b:=fun v b h=>by
   obtain ⟨a,i',j',e,h1,h2,h3⟩:=h.same s9
   exact ⟨a,i',j',e,st.ck h1,h2,h3⟩
  refine ⟨_,_,_,iH ++[.ref p9],bars++[⟨nameOf (field c0 3001 4) (field c0 4001 6) (i:Int),pins[on],pins[on2]⟩],rfl,fun b o z=>?_,ah,jQ (Paired.cF pb fun _ _ z=>ns9 _ _ z) ?_,gb.snoc (fun z=>?_) ⟨ad3 l1,ad3 l2,fun z=>?_⟩,by simp [lbi],fun b hb=>?_⟩
  ·rw [aj (ak z nb)]
   exact s9 _ _ (s2 _ _ z)
  ·exact ⟨p9,on,on2,rfl,st.ck (bM.of e9),gE l1,gE l2⟩
  ·obtain ⟨b,hb,CW⟩:=aat.mp z
   obtain ⟨j,hj,ej⟩:=nm b hb
   have i3:=aX (c:=c0) (p:=3001) (m:=4) (by decide)
   have i4:=aX (c:=c0) (p:=4001) (m:=6) (by decide)
   have:=yC ⟨(field c0 3001 4).toNat,by omega⟩ ⟨(field c0 4001 6).toNat,by omega⟩ ⟨j,by omega⟩ ⟨i,by omega⟩ (fun z=>by
    have:=aaQ Fin.val z
    simp at this
    omega)
   refine this ?_
   show nameOf (((field c0 3001 4).toNat:Nat):Int) (((field c0 4001 6).toNat:Nat):Int) (j:Int)=nameOf (((field c0 3001 4).toNat:Nat):Int) (((field c0 4001 6).toNat:Nat):Int) (i:Int)
   rw [show (((field c0 3001 4).toNat:Nat):Int)=field c0 3001 4 by omega,show (((field c0 4001 6).toNat:Nat):Int)=field c0 4001 6 by omega,<-ej]
   exact CW
  ·have q1:(pins.map (·.nm))[on]?=some pins[on].nm:=by rw [Wp,gE l1];rfl
   have q2:(pins.map (·.nm))[on2]?=some pins[on].nm:=by rw [Wp,gE l2];exact aaQ some z.symm
   exact ne2 ((aeC (by rw [be];omega) np).mp (q1.trans q2.symm)).symm
  ·rcases ado.mp hb with z|z
   ·obtain ⟨j,hj,ej⟩:=nm b z
    exact ⟨j,by omega,ej⟩
   ·rw [adi.mp z]
    exact ⟨i,by omega,rfl⟩
 ·rintro σ H2 ⟨o5,o6,o7,iH,bars,rfl,s2,e2,pb,gb,lbi,nm⟩
  exact ⟨_,rfl,q lb iH bars H2 s2 nb e2 pb gb (by omega)⟩
theorem Rf (v:V):aeO ("ways":Str) [(("way":Str),v)]=none:=by
 have h:(("ways":Str)=="way")=false:=by decide+kernel
 simp [aeO,h]
inductive rL (K:Frag)(C:aaz)(vs:η)(H:Hp)(Q:VK)(E_:XK):Prop
|mk (pA bA:aaz)(us iH :η)(pins:ν)(bars:τ)(_:vs=[.ref pA,.ref bA])(_:H pA=some (.lst us))(_:Paired (jP K H) us pins)(_:H bA=some (.lst iH))(_:Paired (lQ K H pins) iH bars)(_:kE pins)(_:rK pins bars)(_:pins.length<=9)(_:bars.length<=14)(_:∀(a:aaz)(H':Hp),ao H H' ->vw K H' C a pins bars->Q (.ref a) H')
theorem oR:av ["_law_pins_here","_law_bars_here","_law_frame_here","_law_name_here","_law_spot_here","_law_ways_here","_law_one","_law_other"] zaq (ae JD):=sq
theorem aad {C CR CF fI fR:aaz}(D:Def K mg "_law_frame" JD zaq)(aZ:mg "len"=none)(VA:Mk K C fI)(VB:mg "Frame"=some (.ref C))(agz:dm P w K mg base (aT P w) 1 fI fdI zae (vH K C))(VC:Binds K fdI zae [])
  (VD:mg "Roller"=some (.ref CR)) (VE:mg "Fixed"=some (.ref CF)) (VF:XN K CF) (VG:Mk K CR fR) (agA:dm P w K mg base (aT P w) 1 fR fdR zaH (vI K CR)) (VH:Binds K fdR zaH [])
  (wR:bJ P w K mg base (aT P w) 2 CR "ways" zae (mK K CR)) (wF:bJ P w K mg base (aT P w) 2 CF "ways" zae (mL K))
  (MPb:bJ P w K mg base (aT P w) 3 C "put_bar" zah (mM K C)) (MPp:bJ P w K mg base (aT P w) 3 C "put_pin" zav (fU P w K mg base C)) (MPd:AN P w K mg base (aT P w) 3 C "put_pin" zav [.none] (fU P w K mg base C)):
  Fn P w K mg base (aT P w) 4 "_law_frame" zaq (rL K C):=by
 refine D.op oR fun f bZ A outer s H vs Q E hr h=>?_
 obtain ⟨pA,bA,us,iH,pins,bars,rfl,hp,pp,hb,pb,gp,gb,lp6,lb8,q⟩:=h
 have lu:us.length=pins.length:=aaK pp
 refine ⟨_,(aa (aF (i:=2) oR.nd (LJ VA agz hr.mo rfl VB VC .nil (pY P w)))
  (aa (bg aaG rfl (a_ (pv 0)) (fM rfl (aY (bN (i:=3) oR.nd) (aY (bN (i:=4) oR.nd) (aY (bN (i:=5) oR.nd) de)))) (aa (bq (bx eR (aI aH rfl aZ cz (a9 (pv 5))) af) (ag (bX (Qs (k:=3) (pv 2) hr.mo (pY P w) (bK (pv 3) (aC (pv 4)) (aC (pv 4)))))) aL)
   (aa (bq (bx eR (aI aH rfl aZ cz (a9 (pv 5))) af) (ag (bX (fB (k:=3) (pv 2) hr.mo (pY P w) (sM (pv 3) (bK (aC (pv 4)) (aC (pv 4)) (Qb VG agA hr.mo rfl VD VH .nil (pY P w) (aG (aC (uK (pv 5))) (aC (uK (pv 5)))))))))) aL)
   (ag (bq (bx eR (aI aH rfl aZ cz (a9 (pv 5))) af) (ag (bX (fB (k:=3) (pv 2) hr.mo (pY P w) (sM (pv 3) (bK (aC (pv 4)) (aC (pv 4)) (Uw VF rfl VE)))))) aL)))))
  (aa (bg aaG rfl (a_ (pv 1)) (fM rfl (aY (bN (i:=3) oR.nd) (aY (bN (i:=6) oR.nd) (aY (bN (i:=7) oR.nd) de)))) (ag (bX (fB (k:=3) (pv 2) hr.mo (pY P w) (bK (pv 3) (aC (bB aQ (pv 0) (pv 6))) (aC (bB aQ (pv 0) (pv 7))))))))
  (ag (ay (pv 2)))))),?_⟩
 intro a dx na ndx nad
 have sF:ao H (upd (upd H dx (.own a)) a (.ins C dx [])):=fun b o e=>by rw [aj (ak e na),aj (ak e ndx)];exact e
 refine ⟨a,dx,rfl,ah,fun pP pW pB H1 k1 nP nW nB R1=>⟨rfl,?_⟩⟩
 have s1:ao H H1:=fun b o e=>k1 b o (ak e na) (sF _ _ e)
 have nP:=nQ sF nP
 have nW:=nQ sF nW
 have nB:=nQ sF nB
 refine ⟨_,rfl,pA,rfl,⟨_,aR.of (s1 _ _ hp)⟩,bI (K:=K) (a:=pA) (xs:=us) (fun i σ H'=>Yv fun (o4 o5 o6:ω) (kP kW:γ)=>σ=[some (.ref pA),some (.ref bA),some (.ref a),o4,o5,o6,none,none]/\ao H H'/\gI K H' C a dx pP pW pB ((pins.take i).map fun p=>(p.nm,yc p.sp)) [] kP kW []/\zJ K H' ((pins.take i).map fun p=>(p.nm,p.ws)) kW) ⟨none,none,none,[],[],rfl,s1,R1,.nil⟩ (fun i σ H' _ h=>by
   obtain ⟨_,_,_,_,_,_,s,_⟩:=h
   exact aR.of (s _ _ hp)) ?_ ?_⟩
 ·rintro i u σ H2 hu ⟨o4,o5,o6,kP,kW,rfl,s2,R2,W2⟩
  obtain ⟨p,ep,NP⟩:=aE pp hu
  have mp:p∈pins:=aam ep
  obtain ⟨ta,l,sv,ws,rfl,h1,h2,h3,h4⟩:=NP.same s2
  obtain ⟨sa,x1,y1,rfl,Rc,hn1,Wq⟩:=h2
  refine ⟨ta,_,rfl,h1,rfl,_,_,rfl,_,_,rfl,_,_,rfl,rfl,?_⟩
  have tk:=take_snoc ep
  have il:i<pins.length:=(ir.mp ep).1
  have nlP:l≠pP:=fun z=>by rw [z,R2.pl] at h3;cases h3
  have nlW:l≠pW:=fun z=>by rw [z,R2.wy] at h3;cases h3
  have fin:∀(hv:V)(H5:Hp)(Q5:VK)(E5:XK),ao H2 H5->Tg P w K mg base H5 hv p.ws->
    (∀H' Ng ya,ao H H' ->H' l=some (.lst ws)->gI K H' C a dx pP pW pB ((pins.take (i+1)).map fun p=>(p.nm,yc p.sp)) [] Ng ya []->zJ K H' ((pins.take (i+1)).map fun p=>(p.nm,p.ws)) ya ->Q5 .cS H')->fU P w K mg base C [.ref a,.str p.nm,x1,y1,hv] H5 Q5 E5:=fun hv H5 Q5 E5 s5 hY fin=>by
   refine ⟨a,dx,pP,pW,pB,_,_,kP,kW,_,_,p.nm,x1,y1,hv,yc p.sp,p.ws,rfl,R2.same s5,W2.same s5,by rw [adu,adu];rfl,hn1.same s5,Wq.same s5,fun z=>?_,fun z hz e=>?_,?_,hY,fun H' Ng ya k' R' W'=>?_⟩
   ·rw [adu] at z
    obtain ⟨p',g8,e'⟩:=aat.mp z
    exact gS (nm:=aD.nm) gp.np ep g8 e'
   ·obtain ⟨p',g8,e'⟩:=aat.mp hz
    rw [<-e'] at e
    have e1:=aaQ anB e
    have e2:=aaQ anC e
    have e3:p'.sp=p.sp:=al_ (lj e1) (lj e2)
    obtain ⟨j,hj,ej⟩:=ad0.mp g8
    rw [afW] at ej
    rw [adm] at hj
    have q1:(pins.map (·.sp))[j]?=some p.sp:=by rw [Wp,gE (by omega),ej,<-e3];rfl
    have q2:(pins.map (·.sp))[i]?=some p.sp:=by rw [Wp,ep];rfl
    have:=(aeC (by rw [be];omega) gp.ns).mp (q1.trans q2.symm)
    omega
   ·rw [be,adm]
    omega
   ·refine fin H' Ng ya (fun b o z=>k' b o (ak z nP) (ak z nW) (s5 _ _ (s2 _ _ z))) (k' _ _ nlP nlW (s5 _ _ h3)) ?_ ?_
    ·rw [tk,ads]
     exact R'
    ·rw [tk,ads]
     exact W'
  have l2:=aR.of (K:=K) h3
  have lw:ws.length=p.ws.length:=aaK h4
  refine ⟨_,rfl,l,_,rfl,.inl l2,rfl,_,rfl,?_⟩
  rcases gp.ws p mp with hw|⟨wx,wy,hw,wn,_,_⟩|hw
  ·rw [hw] at lw
   refine bu (fun _=>?_) (fun c=>by rw [lw] at c;simp at c)
   refine ⟨_,rfl,a,C,dx,_,_,_,rfl,R2.obj,rfl,MPd,_,rfl,_,rfl,sa,_,_,_,rfl,rfl,Rc,ie,_,rfl,sa,_,_,_,rfl,rfl,Rc,gX,?_⟩
   dsimp only [jq]
   refine fin .cS H2 _ _ (ao.refl _) (.inl ⟨rfl,hw⟩) fun H' Ng ya s' l' R' W'=>?_
   have l':=aR.of (K:=K) l'
   refine ⟨_,rfl,l,_,rfl,.inl l',rfl,_,rfl,bu (fun c=>by rw [lw] at c;simp at c) (fun _=>?_)⟩
   refine ⟨_,rfl,l,_,rfl,.inl l',rfl,_,rfl,bu (fun c=>by rw [lw] at c;simp at c) (fun _=>?_)⟩
   exact ⟨_,_,_,Ng,ya,rfl,s',R',W'⟩
  ·rw [hw] at lw h4
   obtain ⟨w0,rfl⟩:=List.length_eq_one_iff.mp lw
   have hw0:gu K H2 w0 (wx,wy):=by
    cases h4 with
    | cons h _=>exact h
   obtain ⟨wa,y2,y3,rfl,KJ,Wu,hm2⟩:=hw0
   refine bu (fun c=>by simp at c) (fun _=>?_)
   refine ⟨_,rfl,l,_,rfl,.inl l2,rfl,_,rfl,bu (fun _=>?_) (fun c=>aaM rfl c)⟩
   refine ⟨_,rfl,a,C,dx,_,_,_,rfl,R2.obj,rfl,MPp,_,rfl,_,rfl,sa,_,_,_,rfl,rfl,Rc,ie,_,rfl,sa,_,_,_,rfl,rfl,Rc,gX,_,rfl,l,_,_,_,rfl,rfl,l2,rfl,wa,_,_,_,rfl,rfl,KJ,ie,_,rfl,l,_,_,_,rfl,rfl,l2,rfl,wa,_,_,_,rfl,rfl,KJ,gX,?_⟩
   intro kg d1 nh1 nd1 ne1
   have s4:ao H2 (upd (upd H2 d1 (.own kg)) kg (.ins CR d1 [])):=fun b o e=>by rw [aj (ak e nh1),aj (ak e nd1)];exact e
   have e4:(upd (upd H2 d1 (.own kg)) kg (.ins CR d1 [])) kg =some (.ins CR d1 []):=ah
   generalize upd (upd H2 d1 (.own kg)) kg (.ins CR d1 [])=H4 at s4 e4 ⊢
   refine ⟨kg,d1,y2,y3,wx,wy,rfl,e4,Wu.same s4,hm2.same s4,wn,fun p5 n5=>⟨rfl,?_⟩⟩
   have KN:p5≠kg :=fun z=>by rw [z,e4] at n5;cases n5
   have s5:ao H2 (upd (upd H4 p5 (.tup [y2,y3])) kg (.ins CR d1 [("way",.ref p5)])):=fun b o e=>by
    have z:b≠kg :=fun z=>by rw [z,nh1] at e;cases e
    rw [aj z]
    exact aA n5 _ _ _ (s4 _ _ e)
   have e5:(upd (upd H4 p5 (.tup [y2,y3])) kg (.ins CR d1 [("way",.ref p5)])) kg =some (.ins CR d1 [("way",.ref p5)]):=ah
   have t5:(upd (upd H4 p5 (.tup [y2,y3])) kg (.ins CR d1 [("way",.ref p5)])) p5=some (.tup [y2,y3]):=by rw [aj KN,ah]
   generalize upd (upd H4 p5 (.tup [y2,y3])) kg (.ins CR d1 [("way",.ref p5)])=H5 at s5 e5 t5 ⊢
   have agE:gu K H5 (.ref p5) (wx,wy):=uS t5 (Wu.same s5) (hm2.same s5)
   dsimp only [jq]
   refine fin (.ref kg) H5 _ _ s5 (.inr ⟨kg,CR,d1,_,zae,mK K CR,rfl,e5,Rf _,wR,fun H6 e6 t6 Q' an=>⟨kg,d1,p5,(wx,wy),rfl,e6,agE.aK t6,by rw [hw] at an;exact an⟩⟩) fun H' Ng ya s' l' R' W'=>?_
   refine ⟨_,rfl,l,_,rfl,.inl (aR.of (K:=K) l'),rfl,_,rfl,bu (fun c=>by simp at c) (fun _=>?_)⟩
   exact ⟨_,_,_,Ng,ya,rfl,s',R',W'⟩
  ·rw [hw] at lw
   refine bu (fun c=>by rw [lw] at c;simp at c) (fun _=>?_)
   refine ⟨_,rfl,l,_,rfl,.inl l2,rfl,_,rfl,bu (fun c=>by rw [lw] at c;simp at c) (fun _=>?_)⟩
   refine ⟨_,rfl,l,_,rfl,.inl l2,rfl,_,rfl,bu (fun _=>?_) (fun c=>by rw [lw] at c;simp at c)⟩
   refine ⟨_,rfl,a,C,dx,_,_,_,rfl,R2.obj,rfl,MPp,_,rfl,_,rfl,sa,_,_,_,rfl,rfl,Rc,ie,_,rfl,sa,_,_,_,rfl,rfl,Rc,gX,?_⟩
   intro kg d1 nh1 nd1 ne1
   have s4:ao H2 (upd (upd H2 d1 (.own kg)) kg (.ins CF d1 [])):=fun b o e=>by rw [aj (ak e nh1),aj (ak e nd1)];exact e
   have e4:(upd (upd H2 d1 (.own kg)) kg (.ins CF d1 [])) kg =some (.ins CF d1 []):=ah
   generalize upd (upd H2 d1 (.own kg)) kg (.ins CF d1 [])=H4 at s4 e4 ⊢
   dsimp only [jq]
   refine fin (.ref kg) H4 _ _ s4 (.inr ⟨kg,CF,d1,_,zae,mL K,rfl,e4,rfl,wF,fun H6 _ _ Q' an=>⟨kg,rfl,by rw [hw] at an;exact an⟩⟩) fun H' Ng ya s' l' R' W'=>?_
   exact ⟨_,_,_,Ng,ya,rfl,s',R',W'⟩
 ·rintro σ H2 ⟨o4,o5,o6,kP,kW,rfl,s2,R2,W2⟩
  rw [lu,adH] at R2 W2
  have lv:iH.length=bars.length:=aaK pb
  refine ⟨_,rfl,bA,rfl,⟨_,aR.of (s2 _ _ hb)⟩,bI (K:=K) (a:=bA) (xs:=iH) (fun i σ H'=>HX fun (o3 o7 o8:ω) (kB:γ)=>σ=[some (.ref pA),some (.ref bA),some (.ref a),o3,o5,o6,o7,o8]/\ao H H'/\gI K H' C a dx pP pW pB (pins.map fun p=>(p.nm,yc p.sp)) ((bars.take i).map fun b=>(b.nm,b.one.nm,b.other.nm)) kP kW kB/\zJ K H' (pins.map fun p=>(p.nm,p.ws)) kW) ⟨_,none,none,[],rfl,s2,R2,W2⟩ (fun i σ H' _ h=>by
    obtain ⟨_,_,_,_,_,s,_⟩:=h
    exact aR.of (s _ _ hb)) ?_ ?_⟩
  ·rintro i u σ H3 hu ⟨o3,o7,o8,kB,rfl,s3,R3,W3⟩
   obtain ⟨b,ebr,KY⟩:=aE pb hu
   have mb:b∈bars:=aam ebr
   obtain ⟨ta,i1,j1,rfl,h1,g1,g2⟩:=KY.same s3
   obtain ⟨m1,m2,m3⟩:=gb.ends b mb
   have tk:=take_snoc ebr
   have il:i<bars.length:=(ir.mp ebr).1
   have aae :∀(k:Nat)(p:aD),pins[k]?=some p->∃(c la:aaz)(sv:V),i0 us (k:Int)=some (.ref c)/\bM K H3 c [.str p.nm,sv,.ref la]:=fun k p ek=>by
    obtain ⟨u',eu',hu'⟩:=aE (eV pp) ek
    obtain ⟨c,la,sv,ws,rfl,q1,_⟩:=jP.same hu' s3
    exact ⟨c,la,sv,bL eu',q1⟩
   obtain ⟨c1,la1,sv1,ea1,q1⟩:=aae _ _ g1
   obtain ⟨c2,la2,sv2,ea2,q2⟩:=aae _ _ g2
   refine ⟨ta,_,rfl,h1,rfl,_,_,rfl,_,_,rfl,_,_,rfl,rfl,?_⟩
   have lp3:=aR.of (K:=K) (s3 _ _ hp)
   refine ⟨_,rfl,a,C,dx,_,_,_,rfl,R3.obj,rfl,MPb,_,rfl,_,rfl,_,rfl,pA,_,_,_,rfl,rfl,lp3,ea1,c1,_,_,_,rfl,rfl,q1,rfl,_,rfl,_,rfl,pA,_,_,_,rfl,rfl,lp3,ea2,c2,_,_,_,rfl,rfl,q2,rfl,?_⟩
   refine ⟨a,dx,pP,pW,pB,_,_,kP,kW,kB,b.nm,b.one.nm,b.other.nm,rfl,R3,fun z=>?_,?_,?_,m3,?_,fun H' kB' k' R'=>?_⟩
   ·rw [adu] at z
    obtain ⟨b',fC,e'⟩:=aat.mp z
    exact gS (nm:=aV.nm) gb.nb ebr fC e'
   ·rw [adu]
    exact aat.mpr ⟨_,m1,rfl⟩
   ·rw [adu]
    exact aat.mpr ⟨_,m2,rfl⟩
   ·rw [be,adm]
    omega
   ·refine ⟨_,_,_,kB',rfl,fun c o z=>k' c o (ak z nB) (s3 _ _ z),?_,?_⟩
    ·rw [tk,ads]
     exact R'
    ·refine Paired.cF W3 fun p' kv z=>⟨z.1,?_⟩
     obtain ⟨l',nZ,z1,z2,z3⟩:=z.2
     refine ⟨l',nZ,z1,k' _ _ (fun z=>by rw [z,R3.br] at z2;cases z2) z2,z3.aK fun c xs r=>?_⟩
     rcases r with r|⟨o',r⟩
     ·exact .inl (k' _ _ (fun e=>by rw [e,R3.br] at r;cases r) r)
     ·exact .inr ⟨o',k' _ _ (fun e=>by rw [e,R3.br] at r;cases r) r⟩
  ·rintro σ H3 ⟨o3,o7,o8,kB,rfl,s3,R3,W3⟩
   rw [lv,adH] at R3
   exact ⟨_,rfl,q a H3 s3 ⟨dx,pP,pW,pB,kP,kW,kB,R3,W3⟩⟩
def ax (k:Int)(p:Rat×Rat):Rat:=if k=0 then p.1 else p.2
theorem NQ (hk:k=0\/k=1)(h:gu K H v p):∃(a:aaz)(xs:η)(u:V),v=.ref a/\bM K H a xs/\i0 xs k=some u/\cZ K H u (ax k p):=by
 obtain ⟨a,u1,u2,rfl,hq,h1,h2⟩:=h
 rcases hk with rfl|rfl
 ·exact ⟨a,_,u1,rfl,hq,rfl,h1⟩
 ·exact ⟨a,_,u2,rfl,hq,rfl,h2⟩
theorem NR (h:Sz n p.1/\Sz n p.2):Sz n (ax k p):=by
 unfold ax
 split
 ·exact h.1
 ·exact h.2
theorem NS {us:η}{pins:ν}{k:Nat}(pp:Paired (jP K H) us pins)(e:pins[k]?=some p):∃(c la:aaz)(sv:V),i0 us (k:Int)=some (.ref c)/\bM K H c [.str p.nm,sv,.ref la]/\gu K H sv p.sp:=by
 obtain ⟨u',eu',hu'⟩:=aE (eV pp) e
 obtain ⟨c,la,sv,ws,rfl,q1,q2,_⟩:jP K H u' p:=hu'
 exact ⟨c,la,sv,bL eu',q1,q2⟩
inductive BY (K:Frag)(vs:η)(H:Hp)(Q:VK)(E_:XK):Prop
|mk (pA:aaz)(us:η)(pins:ν)(u:V)(b:aV)(k:Int)(_:vs=[.ref pA,u,.int k])(_:H pA=some (.lst us))(_:Paired (jP K H) us pins)(_:kE pins)(_:lQ K H pins u b)(_:(k=0\/k=1))(_:∀(v:V)(H':Hp),ao H H' ->iu K H' v 49 (ax k b.other.sp-ax k b.one.sp)->Q v H')
theorem aaf:av zal zal (ae JE):=sq
theorem aag (D:Def K mg "_law_arm" JE zal)(lR:Fn P w K mg base (aT P w) 1 "_law_sum" zac (bO K gx))(NT:Fn P w K mg base (aT P w) 1 "_law_turned" zaC (iy K)):
  Fn P w K mg base (aT P w) 2 "_law_arm" zal (BY K):=by
 refine D.oo aaf fun H hr h=>?_
 obtain ⟨pA,us,pins,u,b,k,rfl,hp,pp,gp,⟨ta,i,j,rfl,hb,e1,e2⟩,hk,q⟩:=h
 refine ⟨_,(ag (ay (aJ lR hr (aG (bB nh (aC (bB aQ (pv 0) (aC (pv 1)))) (pv 2)) (aJ NT hr (a9 (bB nh (aC (bB aQ (pv 0) (aC (pv 1)))) (pv 2)))))))),?_⟩
 obtain ⟨c1,l1,sv1,ea1,q1,r1⟩:=NS pp e1
 obtain ⟨c2,l2,sv2,ea2,q2,r2⟩:=NS pp e2
 obtain ⟨a1,xs1,u1,rfl,t1,v1,n1⟩:=NQ hk r1
 obtain ⟨a2,xs2,u2,rfl,t2,v2,n2⟩:=NQ hk r2
 have z1:=NR (k:=k) (gp.sz _ (aam e1))
 have z2:=NR (k:=k) (gp.sz _ (aam e2))
 have lp:=aR.of (K:=K) hp
 refine ⟨_,rfl,_,rfl,ta,_,_,_,rfl,rfl,hb,rfl,pA,_,_,_,rfl,rfl,lp,ea2,c2,_,_,_,rfl,rfl,q2,rfl,_,rfl,a2,_,_,_,rfl,rfl,t2,v2,_,rfl,_,rfl,ta,_,_,_,rfl,rfl,hb,rfl,pA,_,_,_,rfl,rfl,lp,ea1,c1,_,_,_,rfl,rfl,q1,rfl,_,rfl,a1,_,_,_,rfl,rfl,t1,v1,?_⟩
 dsimp only [jq]
 show iy K [_] _ _ E0
 refine rH (fY n1 (iY z1 (aa_ _))) fun p3 H3 s3 n3=>?_
 show bO K gx [_,_] _ _ E0
 refine ix ((fY n2 (iY z2 (aa_ _))).same s3) n3 (by decide) fun p4 H4 s4 n4=>?_
 refine q (.ref p4) H4 (s3.trans s4) ?_
 rw [Rat.sub_eq_add_neg]
 exact n4
inductive BZ (K:Frag)(vs:η)(H:Hp)(Q:VK)(E_:XK):Prop
|mk (l1 l2:aaz)(u1 u2 v1 v2:V)(x1 x2 y1 y2:Rat)(m n:Nat)(_:vs=[.ref l1,.ref l2])(_:(aR K H l1 [u1,u2]\/bM K H l1 [u1,u2]))(_:(aR K H l2 [v1,v2]\/bM K H l2 [v1,v2]))(_:iu K H u1 m x1)(_:iu K H u2 m x2)(_:iu K H v1 n y1)(_:iu K H v2 n y2)(_:m+n<=30000000)(_:∀(v:V)(H':Hp),ao H H' ->iu K H' v (m+n+(m+n)+1) (x1*y1+x2*y2)->Q v H')
theorem aah:av zac zac (ae JJ):=sq
theorem aai (D:Def K mg "_law_dot" JJ zac)(lR:Fn P w K mg base (aT P w) 1 "_law_sum" zac (bO K gx))(yE:Fn P w K mg base (aT P w) 1 "_law_times" zac (bO K ku)):
  Fn P w K mg base (aT P w) 2 "_law_dot" zac (BZ K):=by
 refine D.oo aah fun H hr h=>?_
 obtain ⟨l1,l2,u1,u2,v1,v2,x1,x2,y1,y2,m,n,rfl,h1,h2,a1,a2,b1,b2,le,q⟩:=h
 refine ⟨_,(ag (ay (aJ lR hr (aG (aJ yE hr (aG (bB ED (pv 0) af) (bB ED (pv 1) af))) (aJ yE hr (aG (bB ED (pv 0) af) (bB ED (pv 1) af))))))),_,rfl,l1,_,_,_,rfl,rfl,h1,rfl,_,rfl,l2,_,_,_,rfl,rfl,h2,rfl,?_⟩
 dsimp only [jq]
 show bO K ku [_,_] _ _ E0
 refine j_ a1 b1 (by omega) fun p3 H3 s3 n3=>?_
 refine ⟨_,rfl,l1,_,_,_,rfl,rfl,(h1.imp s3.seq (Ty.ao.ck s3)),rfl,_,rfl,l2,_,_,_,rfl,rfl,(h2.imp s3.seq (Ty.ao.ck s3)),rfl,?_⟩
 dsimp only [jq]
 show bO K ku [_,_] _ _ E0
 refine j_ (a2.same s3) (b2.same s3) (by omega) fun p4 H4 s4 n4=>?_
 show bO K gx [_,_] _ _ E0
 refine ix (n3.same s4) n4 (by omega) fun p5 H5 s5 n5=>?_
 exact q (.ref p5) H5 (s3.trans (s4.trans s5)) n5
structure Found (K:Frag)(H:Hp)(fA:aaz)(ls:υ)(F:Nat->Rat×Rat)(B:Nat):Prop where
 hf:H fA=some (.lst (ls.map V.ref))
 nd:ls.Nodup
 nf:fA∉ls
 row:∀(i:Nat)(l:aaz),ls[i]?=some l->∃v1 v2,H l=some (.lst [v1,v2])/\iu K H v1 B (F i).1/\iu K H v2 B (F i).2
def KL (ls:υ)(H H':Hp):Prop:=∀b o,b∉ls->H b=some o->H' b=some o
theorem Found.same (h:Found K H fA ls F B)(s:ao H H'):Found K H' fA ls F B:=⟨s _ _ h.hf,h.nd,h.nf,fun i l e=>by
 obtain ⟨v1,v2,a,b,c⟩:=h.row i l e
 exact ⟨v1,v2,s _ _ a,b.same s,c.same s⟩⟩
theorem Found.up (h:Found K H fA ls F B)(l:B<=B'):Found K H fA ls F B':=⟨h.hf,h.nd,h.nf,fun i x e=>by
 obtain ⟨v1,v2,a,b,c⟩:=h.row i x e
 exact ⟨v1,v2,a,b.up l,c.up l⟩⟩
theorem Found.aK (h:Found K H fA ls F B)(k:KL ls H H'):bo H H':=fun b xs r=>by
 have key:∀o,H b=some o->(∀ys,o≠.lst ys)->H' b=some o:=fun o e n=>k b o (fun m=>by
  obtain ⟨i,ei⟩:=adj m
  obtain ⟨v1,v2,a,_⟩:=h.row i b ei
  rw [a] at e
  exact n _ (ady e).symm) e
 rcases r with r|⟨o',r⟩
 ·exact .inl (key _ r fun ys z=>nomatch z)
 ·exact .inr ⟨o',key _ r fun ys z=>nomatch z⟩
def ft (F:Nat->Rat×Rat)(k:Nat)(a:Int)(d:Rat):Nat->Rat×Rat:=fun i=>if i=k then (if a=0 then ((F i).1+d,(F i).2) else ((F i).1,(F i).2+d)) else F i
theorem v_ (ha:a=0\/a=1)(hc:c=0\/c=1)(i:Nat):ax c (ft F k a d i)=ax c (F i)+if i=k/\c=a then d else 0:=by
 unfold ft ax
 by_cases hi:i=k
 ·subst hi
  rcases ha with rfl|rfl<;>rcases hc with rfl|rfl<;>simp<;>grind
 ·simp [hi]
  grind
inductive B_ (K:Frag)(vs:η)(H:Hp)(Q:VK)(E_:XK):Prop
|mk (fA:aaz)(ls:υ)(F:Nat->Rat×Rat)(B:Nat)(k:Nat)(a:Int)(v:V)(m:Nat)(d:Rat)(_:vs=[.ref fA,.int (k:Int),.int a,v])(_:Found K H fA ls F B)(_:k<ls.length)(_:(a=0\/a=1))(_:iu K H v m d)(_:B+m<=130000000)(_:∀(H':Hp),KL ls H H' ->Found K H' fA ls (ft F k a d) (B+m+1)->Q .cS H')
theorem aaj:av zaf zaf (ae JF):=sq
theorem aak (D:Def K mg "_law_add" JF zaf)(lR:Fn P w K mg base (aT P w) 1 "_law_sum" zac (bO K gx)):
  Fn P w K mg base (aT P w) 2 "_law_add" zaf (B_ K):=by
 refine D.oo aaj fun H hr h=>?_
 obtain ⟨fA,ls,F,B,k,a,v,m,d,rfl,hF,hk,ha,nv,le,q⟩:=h
 refine ⟨_,(ag (zW (aJ lR hr (aG (bB aQ (bB aQ (pv 0) (pv 1)) (pv 2)) (pv 3))) (zQ (bB aQ (pv 0) (pv 1)) (pv 2) set_list))),?_⟩
 obtain ⟨l,el⟩:∃l,ls[k]?=some l:=⟨_,gE hk⟩
 obtain ⟨v1,v2,hl,n1,n2⟩:=hF.row k l el
 have ek:i0 (ls.map V.ref) (k:Int)=some (.ref l):=bL (by rw [Wp,el];rfl)
 have lm:l∈ls:=aam el
 have lf:l≠fA:=fun z=>hF.nf (z▸lm)
 obtain ⟨u,ea,nu⟩:∃u,i0 [v1,v2] a=some u/\iu K H u B (ax a (F k)):=by
  rcases ha with rfl|rfl
  ·exact ⟨v1,rfl,n1⟩
  ·exact ⟨v2,rfl,n2⟩
 refine ⟨_,rfl,_,rfl,fA,_,_,_,rfl,rfl,aR.of hF.hf,ek,_,rfl,l,_,_,_,rfl,rfl,aR.of hl,ea,_,rfl,?_⟩
 dsimp only [jq]
 show bO K gx [_,_] _ _ E0
 refine ix nu nv le fun p3 H3 s3 n3=>?_
 obtain ⟨j,ej,hj⟩:∃j,KI [v1,v2].length a=some j/\((a=0/\j=0)\/(a=1/\j=1)):=by
  rcases ha with rfl|rfl
  ·exact ⟨0,rfl,.inl ⟨rfl,rfl⟩⟩
  ·exact ⟨1,rfl,.inr ⟨rfl,rfl⟩⟩
 refine ⟨_,rfl,_,rfl,fA,_,_,_,rfl,rfl,aR.of (s3 _ _ hF.hf),ek,_,rfl,l,_,_,j,rfl,rfl,s3 _ _ hl,ej,?_⟩
 have F3:=hF.same s3
 have kl:KL ls H (upd H3 l (.lst ([v1,v2].set j (.ref p3)))):=fun b o nb e=>by
  rw [aj (fun z=>nb (by rw [z];exact lm))]
  exact s3 _ _ e
 have k3:KL ls H3 (upd H3 l (.lst ([v1,v2].set j (.ref p3)))):=fun b o nb e=>by
  rw [aj (fun z=>nb (by rw [z];exact lm))]
  exact e
 have st:=F3.aK k3
 refine q _ kl ⟨?_,hF.nd,hF.nf,fun i l' e=>?_⟩
 ·rw [aj (adO lf)]
  exact F3.hf
 ·by_cases c:i=k
  ·subst c
   rw [el] at e
   cases e
   refine ⟨([v1,v2].set j (.ref p3))[0]?.getD .cS,([v1,v2].set j (.ref p3))[1]?.getD .cS,?_,?_,?_⟩
   ·rw [ah]
    rcases hj with ⟨_,rfl⟩|⟨_,rfl⟩<;>rfl
   ·unfold ft
    rw [aaC rfl]
    rcases hj with ⟨rfl,rfl⟩|⟨rfl,rfl⟩
    ·exact n3.aK st
    ·exact ((n1.same s3).aK st).up (by omega)
   ·unfold ft
    rw [aaC rfl]
    rcases hj with ⟨rfl,rfl⟩|⟨rfl,rfl⟩
    ·exact ((n2.same s3).aK st).up (by omega)
    ·exact n3.aK st
  ·obtain ⟨w1,w2,g1,g2,g3⟩:=F3.row i l' e
   have nl:l'≠l:=fun z=>c (d_ hF.nd e (z▸el))
   refine ⟨w1,w2,?_,?_,?_⟩
   ·rw [aj nl]
    exact g1
   ·unfold ft
    rw [aaA c]
    exact (g2.aK st).up (by omega)
   ·unfold ft
    rw [aaA c]
    exact (g3.aK st).up (by omega)
theorem cg {ys:η}:i0 (x::ys) 0=some x:=bL (xs:=x::ys) (j:=0) rfl
structure VI (K:Frag)(H:Hp)(pA bA:aaz)(us vs:η)(pins:ν)(bars:τ):Prop where
 hp:H pA=some (.lst us)
 pp:Paired (jP K H) us pins
 gp:kE pins
 hb:H bA=some (.lst vs)
 pb:Paired (lQ K H pins) vs bars
 en:∀b∈bars,b.one.nm≠b.other.nm
 lp:pins.length<=9
 lb:bars.length<=14
theorem VI.same (h:VI K H pA bA us vs pins bars)(s:ao H H'):VI K H' pA bA us vs pins bars:=⟨s _ _ h.hp,Paired.cF h.pp fun _ _ z=>z.same s,h.gp,s _ _ h.hb,Paired.cF h.pb fun _ _ z=>z.same s,h.en,h.lp,h.lb⟩
structure LFo (K:Frag)(H:Hp)(tA uA:aaz)(kT kU:γ)(pins:ν)(bars:τ)(T:Θ)(U:Α)(N:Nat):Prop where
 ht:H tA=some (.dK kT)
 pt:∀b∈bars,∃v,bF kT (.inr b.nm)=some v/\iu K H v N (T b.nm)
 hu:H uA=some (.dK kU)
 pu:∀p∈pins,∃la ys,bF kU (.inr p.nm)=some (.ref la)/\H la=some (.lst ys)/\Paired (fun v r=>iu K H v N r) ys (U p.nm)
 lU:∀p∈pins,(U p.nm).length=p.ws.length
 hN:N<=1000000
theorem KL.same (hn:∀l∈ls,H l=none)(s:ao H H6)(k:KL ls H6 H7):ao H H7:=fun b o e=>k b o (fun m=>by rw [hn b m] at e;cases e) (s b o e)
def mU (T:Θ)(bs:τ)(a:Int)(p:aD):Rat:=(bs.map fun b=>T b.nm*ax a (mv (c6 b) p.nm)).sum
theorem CA :mU T (bs++[b]) a p=mU T bs a p+T b.nm*ax a (mv (c6 b) p.nm):=by
 unfold mU
 rw [ads,afO,aau,adM,adw,ad5]
 grind
theorem NU {pins:ν}(nd:(pins.map (·.nm)).Nodup){i j:Nat}(hi:pins[i]?=some p)(hj:pins[j]?=some q)(e:p.nm=q.nm):i=j:=d_ nd (x:=q.nm) (by rw [Wp,hi,<-e];rfl) (by rw [Wp,hj];rfl)
theorem NV {pins:ν}(nd:(pins.map (·.nm)).Nodup)(hb:b.one.nm≠b.other.nm){i i1 i2:Nat}(hi:pins[i]?=some p)(h1:pins[i1]?=some b.one)(h2:pins[i2]?=some b.other)(t:Rat)(k:Int):
  (if i=i1 then t*(ax k b.other.sp-ax k b.one.sp) else 0)+(if i=i2 then -(t*(ax k b.other.sp-ax k b.one.sp)) else 0)=t*ax k (mv (c6 b) p.nm):=by
 have YZ:i1≠i2:=fun z=>by rw [z,h2] at h1;exact hb (by rw [ady h1])
 unfold mv c6
 by_cases c1:i=i1
 ·subst c1
  rw [h1] at hi
  cases hi
  rw [aaC rfl,aaA YZ,aaC rfl]
  show _=t*ax k (ju b.one b.other)
  unfold ax ju
  split<;>grind
 ·rw [aaA c1,aaA (fun z=>c1 (NU nd hi h1 z))]
  by_cases c2:i=i2
  ·subst c2
   rw [h2] at hi
   cases hi
   rw [aaC rfl,aaC rfl]
   show _=t*ax k (ju b.other b.one)
   unfold ax ju
   split<;>grind
  ·rw [aaA c2,aaA (fun z=>c2 (NU nd hi h2 z))]
   show (0:Rat)+0=t*ax k (0,0)
   unfold ax
   split<;>grind
inductive rM (K:Frag)(vs:η)(H:Hp)(Q:VK)(E_:XK):Prop
|mk (pA bA tA uA:aaz)(us ws:η)(kT kU:γ)(pins:ν)(bars:τ)(T:Θ)(U:Α)(N:Nat)(_:vs=[.ref pA,.ref bA,.ref tA,.ref uA])(_:VI K H pA bA us ws pins bars)(_:LFo K H tA uA kT kU pins bars T U N)(_:∀(fA:aaz)(ls:υ)(F:Nat->Rat×Rat)(H':Hp),ao H H' ->ls.length=pins.length->Found K H' fA ls F (1+92*(N+51))->(∀(i:Nat)(p:aD),pins[i]?=some p->(F i).1=fX bars T U p (·.1)/\(F i).2=fX bars T U p (·.2))->Q (.ref fA) H')
theorem oT:av ["_law_pins_here","_law_bars_here","_law_pulls_here","_law_pushes_here","_law_found","_law_bar","_law_axis","_law_draw","_law_k","_law_j"] zaa (ae JG):=sq
theorem aal (D:Def K mg "_law_forces" JG zaa)(aZ:mg "len"=none)(bh:mg "range"=none)(yE:Fn P w K mg base (aT P w) 1 "_law_times" zac (bO K ku))(NT:Fn P w K mg base (aT P w) 1 "_law_turned" zaC (iy K))(agK:Fn P w K mg base (aT P w) 2 "_law_arm" zal (BY K))(VJ:Fn P w K mg base (aT P w) 2 "_law_add" zaf (B_ K)):
  Fn P w K mg base (aT P w) 3 "_law_forces" zaa (rM K):=by
 refine D.oo oT fun H hr h=>?_
 obtain ⟨pA,bA,tA,uA,us,ws,kT,kU,pins,bars,T,U,N,rfl,fr,fo,q⟩:=h
 have L2:2<=aaD:=by decide
 have hN:=fo.hN
 have lp:=fr.lp
 have lb:=fr.lb
 have lu:us.length=pins.length:=aaK fr.pp
 have lw:ws.length=bars.length:=aaK fr.pb
 refine ⟨_,(aa (q0 (i:=4) (tn:=["_law_pin"]) (fr:=[]) (caps:=[]) oT.nd (a_ (pv 0)) (b_ (aG (aS (aG af af)) (aS (aG af af)))))
  (aa (bg aaG rfl (a_ (pv 1)) (bN (i:=5) oT.nd) (ag (bg aaG rfl (bY rfl bh (a9 af)) (bN (i:=6) oT.nd) (aa (aF (i:=7) oT.nd (aJ yE hr (aG (b6 (bw hr) (pv 2) (aC (pv 5)) (fun _ _=>rfl)) (aJ agK hr (bK (pv 0) (pv 5) (pv 6))))))
    (aa (bX (aJ VJ hr (sM (pv 4) (bK (aC (pv 5)) (pv 6) (pv 7)))))
    (ag (bX (aJ VJ hr (sM (pv 4) (bK (aC (pv 5)) (pv 6) (aJ NT hr (a9 (pv 7)))))))))))))
  (aa (bg aaG rfl (bY rfl bh (a9 (aI aH rfl aZ cz (a9 (pv 0))))) (bN (i:=8) oT.nd) (ag (bg aaG rfl (bY rfl bh (a9 (aI aH rfl aZ cz (a9 (aC (bB aQ (pv 0) (pv 8))))))) (bN (i:=9) oT.nd) (ag (bg aaG rfl (bY rfl bh (a9 af)) (bN (i:=6) oT.nd) (ag (bX (aJ VJ hr (sM (pv 4) (bK (pv 8) (pv 6) (aJ yE hr (aG (bB aQ (b6 (bw hr) (pv 3) (aC (bB aQ (pv 0) (pv 8))) (fun _ _=>rfl)) (pv 9)) (bB nh (bB aQ (aC (bB aQ (pv 0) (pv 8))) (pv 9)) (pv 6))))))))))))))
  (ag (ay (pv 4)))))),?_⟩
 refine ⟨_,rfl,pA,rfl,⟨_,aR.of fr.hp⟩,fun fA n1=>?_⟩
 refine qY (cap:=[]) (K:=K) (a:=pA) (xs:=us) (fun ys H'=>∃ls:List aaz,ys=ls.map V.ref/\ls.Nodup/\fA∉ls/\∀l∈ls,H l=none/\∃p q:aaz,H' l=some (.lst [.ref p,.ref q])/\H' p=some (.tup [.int 0,.int 1])/\H' q=some (.tup [.int 0,.int 1])) n1 (by rw [lu];exact ac_ (show pins.length<=100 by omega) (by decide)) (fun H2 s2=>aR.of (s2 _ _ fr.hp)) ⟨[],rfl,amg,by simp,fun l h=>by cases h⟩ ?_ ?_
 ·intro i x ys H2 R hx ly hJ s2 hD k
  obtain ⟨ls,rfl,nd,nf,hl⟩:=hJ
  refine ⟨L2,?_⟩
  intro p3 n3;generalize eX:upd _ p3 _=H3;have ⟨s3,e3⟩:=nw n3 eX
  refine ⟨L2,?_⟩
  intro p4 n4;generalize eX:upd _ p4 _=H4;have ⟨s4,e4⟩:=nw n4 eX
  refine ⟨L2,?_⟩
  intro l5 n5;generalize eX:upd _ l5 _=H5;have ⟨s5,e5⟩:=nw n5 eX
  have s25:=s3.trans (s4.trans s5)
  have D5:=s25 _ _ hD
  have D4:=s4 _ _ (s3 _ _ hD)
  refine k _ _ s25 ⟨ls++[l5],by simp,?_,?_,fun l hm=>?_⟩
  ·rw [afw]
   refine ⟨nd,by simp,fun a ha b hb z=>?_⟩
   have fC :b=l5:=by simpa using hb
   obtain ⟨_,p,q,h1,_⟩:=hl a ha
   rw [z,fC] at h1
   rw [s4 _ _ (s3 _ _ h1)] at n5
   cases n5
  ·intro z
   rcases ado.mp z with z|z
   ·exact nf z
   ·rw [<-adi.mp z,D4] at n5
    cases n5
  ·rcases ado.mp hm with z|z
   ·obtain ⟨h0,p,q,h1,h2,h3⟩:=hl l z
    refine ⟨h0,p,q,?_,?_,?_⟩
    ·rw [aj (fun e:l=fA=>nf (by rw [<-e];exact z))]
     exact s25 _ _ h1
    ·rw [aj (fun e=>by rw [e,hD] at h2;cases h2)]
     exact s25 _ _ h2
    ·rw [aj (fun e=>by rw [e,hD] at h3;cases h3)]
     exact s25 _ _ h3
   ·have z:=adi.mp z
    subst z
    refine ⟨(s2.trans (s3.trans s4)).free n5,p3,p4,?_,?_,?_⟩
    ·rw [aj (fun e=>by rw [e,D4] at n5;cases n5)]
     exact e5
    ·rw [aj (fun e=>by rw [e,hD] at n3;cases n3)]
     exact s5 _ _ (s4 _ _ e3)
    ·rw [aj (fun e=>by rw [e,s3 _ _ hD] at n4;cases n4)]
     exact s5 _ _ e4
 intro ys H2 ly hJ s2 hD
 obtain ⟨ls,rfl,nd,nf,hl⟩:=hJ
 have hn:∀l∈ls,H l=none:=fun l m=>(hl l m).1
 have ll:ls.length=pins.length:=by rw [<-lu,<-ly,be]
 have z0:∀(p:aaz)(H':Hp),H' p=some (.tup [.int 0,.int 1])->iu K H' (.ref p) 1 0:=fun p H' e=>⟨(0,1),⟨p,rfl,bM.of e⟩,by decide,by decide+kernel,by decide,by decide⟩
 have F0:Found K H2 fA ls (fun _=>(0,0)) (1+0*(4*(N+51))):=⟨hD,nd,nf,fun i l e=>by
  obtain ⟨_,p,q,h1,h2,h3⟩:=hl l (aam e)
  rw [afG]
  exact ⟨_,_,h1,z0 p _ h2,z0 q _ h3⟩⟩
 refine ⟨_,rfl,bA,rfl,⟨_,aR.of (s2 _ _ fr.hb)⟩,bI (K:=K) (a:=bA) (xs:=ws) (fun t σ H'=>HX fun (F:Nat->Rat×Rat) (o5 o6 o7:ω)=>σ=[some (.ref pA),some (.ref bA),some (.ref tA),some (.ref uA),some (.ref fA),o5,o6,o7,none,none]/\ao H H'/\Found K H' fA ls F (1+t*(4*(N+51)))/\∀(i:Nat)(p:aD),pins[i]?=some p->∀a:Int,(a=0\/a=1)->ax a (F i)=mU T (bars.take t) a p) ⟨_,none,none,none,rfl,s2,F0,fun i p _ a _=>?_⟩ (fun t σ H' _ h=>by
   obtain ⟨_,_,_,_,_,s',_⟩:=h
   exact aR.of (s' _ _ fr.hb)) ?_ ?_⟩
 ·show ax a (0,0)=0
  unfold ax
  split<;>rfl
 ·rintro t bv σ H3 hbv ⟨F,o5,o6,o7,rfl,s3,F3,hF⟩
  have htw:t<ws.length:=(ir.mp hbv).1
  obtain ⟨b,eb,KY⟩:=aE fr.pb hbv
  have mb:b∈bars:=aam eb
  obtain ⟨tv,etv,htv⟩:=fo.pt b mb
  have bt:t*(4*(N+51))<=13*(4*(N+51)):=adz _ (by omega)
  generalize hB:1+t*(4*(N+51))=B at F3
  refine ⟨(2:Int),rfl,by decide,by decide,cJ (lo:=0) (n:=2) (fun k σ H'=>EJ fun (F:Nat->Rat×Rat) (o6 o7:ω)=>σ=[some (.ref pA),some (.ref bA),some (.ref tA),some (.ref uA),some (.ref fA),some bv,o6,o7,none,none]/\ao H H'/\Found K H' fA ls F (B+k*(2*(N+51)))/\∀(i:Nat)(p:aD),pins[i]?=some p->∀a:Int,(a=0\/a=1)->ax a (F i)=mU T (bars.take t) a p+if a<(k:Int) then T b.nm*ax a (mv (c6 b) p.nm) else 0) ⟨F,o6,o7,rfl,s3,by rw [afG];exact F3,fun i p e a ha=>?_⟩ ?_ ?_⟩
  ·rw [hF i p e a ha,aaA (by rcases ha with rfl|rfl<;>decide)]
   grind
  ·rintro k σ H4 hk ⟨F,o6,o7,rfl,s4,F4,hF⟩
   have ek:(0:Int)+(k:Int)=(k:Int):=ad2 _
   rw [ek]
   have Wy:(k:Int)=0\/(k:Int)=1:=by omega
   have WK:=fr.same s4
   have bk:k*(2*(N+51))<=1*(2*(N+51)):=adz _ (by omega)
   obtain ⟨ta,i1,i2,eta,hbt,e1,e2⟩:=KY.same s4
   have xQ:i1<ls.length:=by rw [ll];exact (ir.mp e1).1
   have UA:i2<ls.length:=by rw [ll];exact (ir.mp e2).1
   have dgt:cG H4 tA (.str b.nm) (some tv):=by
    have:=cG.k (k:=.inr b.nm) (s4 _ _ fo.ht)
    rw [etv] at this
    exact this
   subst eta
   refine ⟨_,rfl,_,rfl,ta,_,_,_,rfl,rfl,hbt,cg,tA,tv,rfl,dgt,_,rfl,_,rfl,_,rfl,pA,us,pins,_,b,(k:Int),rfl,WK.hp,WK.pp,fr.gp,KY.same s4,Wy,fun v5 H5 s5 n5=>?_⟩
   dsimp only [jq]
   show bO K ku [_,_] _ _ E0
   refine j_ ((htv.same s4).same s5) n5 (by omega) fun p6 H6 s6 n6=>?_
   have s06:=s4.trans (s5.trans s6)
   have F6:=F4.same (s5.trans s6)
   refine ⟨_,rfl,_,rfl,ta,_,_,_,rfl,rfl,Ty.ao.ck (s5.trans s6) hbt,rfl,_,rfl,_,rfl,fA,ls,F,_,i1,(k:Int),_,_,_,rfl,F6,xQ,Wy,n6,by omega,fun H7 k7 F7=>?_⟩
   have s07:=KL.same hn s06 k7
   have n7:=n6.aK (F6.aK k7)
   refine ⟨_,rfl,_,rfl,ta,_,_,_,rfl,rfl,(F6.aK k7).ck (Ty.ao.ck (s5.trans s6) hbt),rfl,_,rfl,_,rfl,?_⟩
   dsimp only [jq]
   show iy K [_] _ _ E0
   refine rH n7 fun p8 H8 s8 n8=>?_
   have F8:=F7.same s8
   refine ⟨fA,ls,_,_,i2,(k:Int),_,_,_,rfl,F8,UA,Wy,n8,by omega,fun H9 k9 F9=>?_⟩
   have s09:=KL.same hn (s07.trans s8) k9
   refine ⟨_,_,_,rfl,s09,F9.up (by rw [aec];omega),fun i p e a ha=>?_⟩
   rw [v_ Wy ha,v_ Wy ha,hF i p e a ha]
   have bp:=NV fr.gp.np (fr.en b mb) e e1 e2 (T b.nm) (k:Int)
   by_cases ca:a=(k:Int)
   ·subst ca
    rw [aaA (c:=(k:Int)<(k:Int)) (by omega),aaC (c:=(k:Int)<((k+1:Nat):Int)) (by omega),<-bp]
    simp only [and_true]
    grind
   ·have c1:¬ (i=i1/\a=(k:Int)):=fun z=>ca z.2
    have c2:¬ (i=i2/\a=(k:Int)):=fun z=>ca z.2
    rw [aaA c1,aaA c2]
    by_cases cl:a<(k:Int)
    ·rw [aaC cl,aaC (c:=a<((k+1:Nat):Int)) (by omega)]
     grind
    ·rw [aaA cl,aaA (c:=a<((k+1:Nat):Int)) (by omega)]
     grind
  ·rintro σ H4 ⟨F,o6,o7,rfl,s4,F4,hF⟩
   refine ⟨F,_,_,_,rfl,s4,F4.up (by rw [aec,<-hB];omega),fun i p e a ha=>?_⟩
   rw [take_snoc eb,CA,hF i p e a ha,aaC (by rcases ha with rfl|rfl<;>decide)]
 ·rintro σ H3 ⟨F,o5,o6,o7,rfl,s3,F3,hF⟩
  rw [lw] at F3
  rw [lw,adH] at hF
  have bl:bars.length*(4*(N+51))<=14*(4*(N+51)):=adz _ (by omega)
  generalize hB:1+bars.length*(4*(N+51))=B at F3
  have en2:((us.length:Nat):Int).toNat=us.length:=by omega
  refine ⟨_,rfl,pA,_,rfl,.inl (aR.of (s3 _ _ fr.hp)),((us.length:Nat):Int),rfl,by omega,by omega,cJ (lo:=0) (n:=((us.length:Nat):Int).toNat) (fun k σ H'=>Ex6 fun (F:Nat->Rat×Rat) (o5 o6 o7 o8 o9:ω)=>σ=[some (.ref pA),some (.ref bA),some (.ref tA),some (.ref uA),some (.ref fA),o5,o6,o7,o8,o9]/\ao H H'/\Found K H' fA ls F (B+k*(4*(N+51)))/\∀(i:Nat)(p:aD),pins[i]?=some p->∀a:Int,(a=0\/a=1)->ax a (F i)=mU T bars a p+if i<k then sP (U p.nm) (p.ws.map (ax a)) else 0) ⟨F,o5,o6,o7,none,none,rfl,s3,by rw [afG];exact F3,fun i p e a ha=>?_⟩ ?_ ?_⟩
  ·rw [hF i p e a ha,aaA (by omega)]
   grind
  ·rintro k σ H4 hk ⟨F,o5,o6,o7,o8,o9,rfl,s4,F4,hF⟩
   have ek:(0:Int)+(k:Int)=(k:Int):=ad2 _
   rw [ek]
   have hku:k<us.length:=by omega
   obtain ⟨p,ep,NP⟩:=aE fr.pp (gE hku)
   have mp:p∈pins:=aam ep
   obtain ⟨la,ys,exv,hla,py⟩:=fo.pu p mp
   have lup:=fo.lU p mp
   have lwp:=(fr.gp.ws p mp).len
   have ly:ys.length=(U p.nm).length:=aaK py
   have aku:i0 us (k:Int)=some us[k]:=bL (gE hku)
   obtain ⟨pa,l,sv,iH,epa,h1,h2,h3,h4⟩:=NP
   rw [epa] at aku
   have lv:iH.length=p.ws.length:=aaK h4
   have kp:k<pins.length:=by omega
   have bk:k*(4*(N+51))<=8*(4*(N+51)):=adz _ (by omega)
   generalize hB2:B+k*(4*(N+51))=B2 at F4
   have en3:((iH.length:Nat):Int).toNat=iH.length:=by omega
   refine ⟨_,rfl,_,rfl,pA,_,_,_,rfl,rfl,aR.of (s4 _ _ fr.hp),aku,pa,_,_,_,rfl,rfl,Ty.ao.ck s4 h1,rfl,l,_,rfl,.inl (aR.of (s4 _ _ h3)),((iH.length:Nat):Int),rfl,by omega,by omega,cJ (lo:=0) (n:=((iH.length:Nat):Int).toNat) (fun j σ H'=>EJ fun (F:Nat->Rat×Rat) (o6 o9:ω)=>σ=[some (.ref pA),some (.ref bA),some (.ref tA),some (.ref uA),some (.ref fA),o5,o6,o7,some (.int (k:Int)),o9]/\ao H H'/\Found K H' fA ls F (B2+j*(2*(N+51)))/\∀(i:Nat)(p:aD),pins[i]?=some p->∀a:Int,(a=0\/a=1)->ax a (F i)=mU T bars a p+if i<k then sP (U p.nm) (p.ws.map (ax a)) else if i=k then sP ((U p.nm).take j) ((p.ws.take j).map (ax a)) else 0) ⟨F,o6,o9,rfl,s4,by rw [afG];exact F4,fun i p e a ha=>?_⟩ ?_ ?_⟩
   ·rw [hF i p e a ha,am7,fV]
    split<;>simp
   ·rintro j σ H5 hj ⟨F,o6,o9,rfl,s5,F5,hF⟩
    have ek:(0:Int)+(j:Int)=(j:Int):=ad2 _
    rw [ek]
    have hj1:j<iH.length:=by omega
    have hj2:j<ys.length:=by omega
    obtain ⟨x,ex,hx⟩:=aE py (gE hj2)
    obtain ⟨wq,ewq,hwq⟩:=aE h4 (gE hj1)
    have zw:=(fr.gp.ws p mp).sz wq (aam ewq)
    have axj:i0 ys (j:Int)=some ys[j]:=bL (gE hj2)
    have awj:i0 iH (j:Int)=some iH[j]:=bL (gE hj1)
    have bj:j*(2*(N+51))<=1*(2*(N+51)):=adz _ (by omega)
    generalize hB3:B2+j*(2*(N+51))=B3 at F5
    refine ⟨(2:Int),rfl,by decide,by decide,cJ (lo:=0) (n:=2) (fun c σ H'=>EI fun (F:Nat->Rat×Rat) (o6:ω)=>σ=[some (.ref pA),some (.ref bA),some (.ref tA),some (.ref uA),some (.ref fA),o5,o6,o7,some (.int (k:Int)),some (.int (j:Int))]/\ao H H'/\Found K H' fA ls F (B3+c*(N+51))/\∀(i:Nat)(p:aD),pins[i]?=some p->∀a:Int,(a=0\/a=1)->ax a (F i)=(mU T bars a p+if i<k then sP (U p.nm) (p.ws.map (ax a)) else if i=k then sP ((U p.nm).take j) ((p.ws.take j).map (ax a)) else 0)+if i=k/\a<(c:Int) then x*ax a wq else 0) ⟨F,o6,rfl,s5,by rw [afG];exact F5,fun i p e a ha=>?_⟩ ?_ ?_⟩
    ·rw [hF i p e a ha,aaA (c:=i=k/\a<((0:Nat):Int)) (fun z=>by rcases ha with rfl|rfl<;>exact aaM z.2 (by decide))]
     grind
    ·rintro c σ H6 hc ⟨F,o6,rfl,s6,F6,hF⟩
     have ek:(0:Int)+(c:Int)=(c:Int):=ad2 _
     rw [ek]
     have hc2:(c:Int)=0\/(c:Int)=1:=by omega
     have bc:c*(N+51)<=1*(N+51):=adz _ (by omega)
     obtain ⟨wa,zs,u,ewa,KJ,awc,nwc⟩:=NQ hc2 (hwq.same s6)
     rw [ewa] at awj
     have dgu:cG H6 uA (.str p.nm) (some (.ref la)):=by
      have:=cG.k (k:=.inr p.nm) (s6 _ _ fo.hu)
      rw [exv] at this
      exact this
     refine ⟨_,rfl,_,rfl,_,rfl,_,rfl,_,rfl,_,rfl,pA,_,_,_,rfl,rfl,aR.of (s6 _ _ fr.hp),aku,pa,_,_,_,rfl,rfl,Ty.ao.ck s6 h1,cg,uA,_,rfl,dgu,_,rfl,la,_,_,_,rfl,rfl,aR.of (s6 _ _ hla),axj,_,rfl,_,rfl,pA,_,_,_,rfl,rfl,aR.of (s6 _ _ fr.hp),aku,pa,_,_,_,rfl,rfl,Ty.ao.ck s6 h1,rfl,_,rfl,l,_,_,_,rfl,rfl,aR.of (s6 _ _ h3),awj,_,rfl,wa,_,_,_,rfl,rfl,KJ,awc,?_⟩
     dsimp only [jq]
     show bO K ku [_,_] _ _ E0
     refine j_ (hx.same s6) (fY nwc (iY (NR zw) (aa_ _))) (by omega) fun p7 H7 s7 n7=>?_
     refine ⟨fA,ls,F,_,k,(c:Int),_,_,_,rfl,F6.same s7,by omega,hc2,n7,by omega,fun H8 k8 F8=>?_⟩
     refine ⟨_,_,rfl,KL.same hn (s6.trans s7) k8,F8.up (by rw [aec];omega),fun i p' e a ha=>?_⟩
     rw [v_ hc2 ha,hF i p' e a ha]
     by_cases ci:i=k
     ·by_cases ca:a=(c:Int)
      ·subst ca
       rw [aaA (c:=i=k/\(c:Int)<(c:Int)) (fun z=>by omega),aaC (c:=i=k/\(c:Int)=(c:Int)) ⟨ci,rfl⟩,aaC (c:=i=k/\(c:Int)<((c+1:Nat):Int)) ⟨ci,by omega⟩]
       grind
      ·rw [aaA (c:=i=k/\a=(c:Int)) (fun z=>ca z.2)]
       by_cases cl:a<(c:Int)
       ·rw [aaC (c:=i=k/\a<(c:Int)) ⟨ci,cl⟩,aaC (c:=i=k/\a<((c+1:Nat):Int)) ⟨ci,by omega⟩]
        grind
       ·rw [aaA (c:=i=k/\a<(c:Int)) (fun z=>cl z.2),aaA (c:=i=k/\a<((c+1:Nat):Int)) (fun z=>by have:=z.2;omega)]
        grind
     ·rw [aaA (c:=i=k/\a<(c:Int)) (fun z=>ci z.1),aaA (c:=i=k/\a=(c:Int)) (fun z=>ci z.1),aaA (c:=i=k/\a<((c+1:Nat):Int)) (fun z=>ci z.1)]
      grind
    ·rintro σ H6 ⟨F,o6,rfl,s6,F6,hF⟩
     refine ⟨F,_,_,rfl,s6,F6.up (by rw [aec,<-hB3];omega),fun i p' e a ha=>?_⟩
     rw [hF i p' e a ha]
     by_cases ci:i=k
     ·subst ci
      rw [ep] at e
      cases e
      rw [aaA (aeg _),aaC rfl,aaA (aeg _),aaC rfl,aaC (c:=i=i/\a<((2:Nat):Int)) ⟨rfl,by rcases ha with rfl|rfl<;>decide⟩]
      rw [take_snoc ex,take_snoc ewq,ads,fW _ _ (by rw [be,adm,adm];omega),aau,adM,b9,fV]
      grind
     ·rw [aaA (c:=i=k/\a<((2:Nat):Int)) (fun z=>ci z.1),aaA ci,aaA ci]
      grind
   ·rintro σ H5 ⟨F,o6,o9,rfl,s5,F5,hF⟩
    rw [en3] at F5 hF
    refine ⟨F,_,_,_,_,_,rfl,s5,F5.up (by
     have:iH.length*(2*(N+51))<=2*(2*(N+51)):=adz _ (by omega)
     rw [aec,<-hB2]
     omega),fun i p' e a ha=>?_⟩
    rw [hF i p' e a ha]
    by_cases ci:i=k
    ·subst ci
     rw [ep] at e
     cases e
     rw [aaA (aeg _),aaC rfl,aaC (adY _),adN (by omega),adN (by omega)]
    ·rw [aaA ci]
     by_cases cl:i<k
     ·rw [aaC cl,aaC (by omega)]
     ·rw [aaA cl,aaA (by omega)]
  ·rintro σ H4 ⟨F,o5,o6,o7,o8,o9,rfl,s4,F4,hF⟩
   rw [en2,lu] at F4 hF
   have bp:pins.length*(4*(N+51))<=9*(4*(N+51)):=adz _ (by omega)
   refine ⟨_,rfl,q fA ls F H4 s4 ll (F4.up (by omega)) fun i p e=>?_⟩
   have hi:=(ir.mp e).1
   have a0:=hF i p e 0 (.inl rfl)
   have a1:=hF i p e 1 (.inr rfl)
   rw [aaC hi] at a0 a1
   unfold fX
   unfold mU at a0 a1
   have e0:ax 0=fun p:Rat×Rat=>p.1:=rfl
   have e1:ax 1=fun p:Rat×Rat=>p.2:=rfl
   rw [e0] at a0
   rw [e1] at a1
   exact ⟨a0.trans (Rat.add_comm _ _),a1.trans (Rat.add_comm _ _)⟩
structure Ts (K:Frag)(H:Hp)(pins:ν)(d:aaz)(kM:γ)(M:ψ)(N:Nat):Prop where
 hM:H d=some (.dK kM)
 keys:kM.map (·.1)=pins.map (fun p=>(adR p.nm:Key))
 tM:∀p∈pins,∃t v1 v2,bF kM (.inr p.nm)=some (.ref t)/\H t=some (.tup [v1,v2])/\cZ K H v1 (M p.nm).1/\cZ K H v2 (M p.nm).2
 zb:∀p∈pins,Zb N (M p.nm).1/\Zb N (M p.nm).2
 hN:N<=6000000
theorem Ts.same (h:Ts K H pins d kM M N)(s:ao H H'):Ts K H' pins d kM M N:=⟨s _ _ h.hM,h.keys,fun p hp=>by
 obtain ⟨t,v1,v2,a,b,c,d⟩:=h.tM p hp
 exact ⟨t,v1,v2,a,s _ _ b,c.same s,d.same s⟩,h.zb,h.hN⟩
theorem Ts.get (h:Ts K H pins d kM M N)(hp:p∈pins):∃t v1 v2,cG H d (.str p.nm) (some (.ref t))/\H t=some (.tup [v1,v2])/\cZ K H v1 (M p.nm).1/\cZ K H v2 (M p.nm).2:=by
 obtain ⟨t,v1,v2,a,b,c,d⟩:=h.tM p hp
 refine ⟨t,v1,v2,?_,b,c,d⟩
 have:=cG.k (k:=.inr p.nm) h.hM
 rw [a] at this
 exact this
theorem agN:aa4 K (.type "int") (.type "int")=some true:=by unfold aa4;rw [aaC (by decide)]
theorem agO:aa4 K (.type "int") (.type "bool")=some false:=LW ⟨by decide,fun _=>⟨by decide+kernel,by decide+kernel⟩⟩
theorem Rg (x:Int×Int):dq [.v (.int x.1),.v (.int x.2)] [.v (.int x.1),.v (.int x.2)]=true:=by
 simp [dq,js,ni]
inductive jS (K:Frag)(vs:η)(H:Hp)(Q:VK)(E_:XK):Prop
|mk (u:V)(r:Rat)(_:vs=[u])(_:cZ K H u r)(_:∀H',ao H H' ->Q (.bl true) H')
theorem Tt:av ["_law_x","_law_part"] zaQ (ae IZ):=sq
theorem aan (D:Def K mg "_law_number" IZ zaQ)(aZ:mg "len"=none)(bf:mg "isinstance"=none)(NW:mg "int"=none)(CB:mg "bool"=none)(gF:mg "tuple"=none)
  (lO:Fn P w K mg base (aT P w) 33 "_law_lowest" zag cx):Fn P w K mg base (aT P w) 34 "_law_number" zaQ (jS K):=by
 refine D.oo Tt fun H hr h=>?_
 obtain ⟨_,r,rfl,⟨p1,rfl,h1⟩,q⟩:=h
 have hp:=cA r
 have hg:=nN r
 generalize qr r=x at h1 hp hg
 refine ⟨_,(aa (bq (PW.pt (jx (eO (dJ (aI HH rfl bf cj (aG (pv 0) (mj rfl gF vg))))) (iz (bx ma (aI aH rfl aZ cz (a9 (pv 0))) af)))) (ag (ay gL)) aL)
  (aa (bg aaG rfl (Ud (pv 0)) (bN (i:=1) Tt.nd) (ag (bq (PW.pt (jx (eO (dJ (aI f9 rfl bf cj (aG (pv 1) (mj rfl NW XF))))) (iz (dJ (aI f9 rfl bf cj (aG (pv 1) (mj rfl CB Up))))))) (ag (ay gL)) aL)))
  (ag (ay (Lr (pS LC (aC (pv 0)) af (qB _)) (Lq (pS (DN hr.units) (aJ lO hr (aG (aC (pv 0)) (aC (pv 0)))) (pv 0) (qB _)))))))),?_⟩
 refine ⟨_,rfl,p1,_,rfl,h1,_,rfl,bu (fun c=>nomatch c) (fun _=>?_)⟩
 refine ⟨_,rfl,p1,_,rfl,.inr h1,rfl,_,rfl,DK rfl ?_⟩
 refine ⟨_,rfl,p1,rfl,⟨_,h1⟩,P0 (K:=K) (a:=p1) (xs:=[.int x.1,.int x.2]) (fun i σ H'=>∃o,σ=[some (.ref p1),o]/\H'=H) ⟨none,rfl,rfl⟩ (fun i σ H' _ ⟨o,_,e⟩=>by rw [e];exact h1) ?_ ?_⟩
 ·rintro i z σ H' hi ⟨o,rfl,rfl⟩
  obtain ⟨n,rfl⟩:∃n,z=V.int n:=by
   match i,hi with
   | 0,hi=>exact ⟨_,(ady hi).symm⟩
   | 1,hi=>exact ⟨_,(ady hi).symm⟩
  refine ⟨_,rfl,_,_,_,true,rfl,rfl,.int n,agN,_,rfl,bu (fun c=>nomatch c) (fun _=>?_)⟩
  refine ⟨_,rfl,_,_,_,false,rfl,rfl,.int n,agO,_,rfl,bu (fun c=>nomatch c) (fun _=>?_)⟩
  exact ⟨_,rfl,rfl⟩
 ·rintro σ H' ⟨o,rfl,rfl⟩
  refine ⟨_,rfl,p1,_,_,_,rfl,rfl,h1,gX,_,_,rfl,rfl,_,rfl,bu (fun _=>?_) (fun c=>aaM (aaS hp) c)⟩
  refine ⟨_,rfl,p1,_,_,_,rfl,rfl,h1,ie,_,rfl,p1,_,_,_,rfl,rfl,h1,gX,_,_,rfl,hp,fun p2 H2 s2 e2=>?_⟩
  rw [mi hp hg] at e2
  refine ⟨_,rfl,_,_,.inl ⟨j0 (q:=x) ⟨p2,rfl,bM.of e2⟩,j0 (q:=x) ⟨p1,rfl,Ty.ao.ck s2 h1⟩⟩,rfl,DP,?_⟩
  rw [Rg x]
  exact q _ s2
theorem aao:aa4 K (.type "tuple") (.type "tuple")=some true:=by unfold aa4;rw [aaC (by decide)]
theorem VL:aa4 K (.type "dict") (.type "dict")=some true:=by unfold aa4;rw [aaC (by decide)]
theorem agP:aa4 K (.type "list") (.type "list")=some true:=by unfold aa4;rw [aaC (by decide)]
theorem rN :∀ws:List Str,ke K H (ws.map fun w=>Da.v (.str w)) (ws.map V.str)
 | []=>by unfold ke;trivial
 | w::ws=>by
  rw [aau,aau]
  unfold ke
  refine ⟨?_,rN ws⟩
  unfold Is
  exact ⟨rfl,rfl⟩
theorem FN:∀ws:List Str,dq (ws.map fun w=>Da.v (.str w)) (ws.map fun w=>Da.v (.str w))=true
 | []=>by simp [dq]
 | w::ws=>by
  rw [aau]
  unfold dq
  rw [FN ws]
  simp [js,ni]
theorem FO:∀ws:List Str,fu (ws.map fun w=>Da.v (.str w)) (ws.map fun w=>Da.v (.str w))=true
 | []=>by simp [fu]
 | w::ws=>by
  rw [aau]
  unfold fu
  rw [FO ws]
  simp [alike]
theorem yF:∀ws:List Str,k_ (ws.map fun w=>Da.v (.str w))<=60
 | []=>by simp [k_]
 | w::ws=>by
  rw [aau]
  unfold k_
  have:=yF ws
  simp only [dep]
  omega
theorem wc {ws:ς}(e1:H p=some (.lst (ws.map V.str)))(e2:H p2=some (.lst (ws.map V.str)))(q:Q (.bl false) H):DM K (.ref p) (.ref p2) H Q:=by
 refine ⟨ws.map fun w=>Da.v (.str w),ws.map fun w=>Da.v (.str w),.inr ⟨?_,?_⟩,FO ws,yF ws,by rw [FN];exact q⟩
 ·unfold Is
  exact ⟨p,_,rfl,aR.of e1,rN ws⟩
 ·unfold Is
  exact ⟨p2,_,rfl,aR.of e2,rN ws⟩
theorem rO {us:η}{nm:α->Str}{cap:L2.St}(n1:H D1=none)(ha:H a=some (.lst us))(pr:Paired (fun u z=>∃c ys,u=.ref c/\bM K H c (.str (nm z)::ys)) us zs)(l:zs.length<=1000)(k:∀H',ao H H' ->H' D1=some (.lst ((zs.map nm).map V.str))->R (.ref D1) H'):
  nq D1 (cV 0) ki (P1 (LM K) (PV 0) (tC (V.int 0))) (PZ K a) (none::cap) H R:=by
 have lu:us.length=zs.length:=aaK pr
 refine dB (K:=K) (a:=a) (xs:=us) (fun i v _=>∃z,zs[i]?=some z/\v=.str (nm z)) n1 (by rw [lu];exact ac_ l (by decide)) (fun H2 s2=>aR.of (s2 _ _ ha)) (fun _ _ _ _ _ _ _ h=>h) ?_ ?_
 ·intro i u H2 R hu s2 k
  obtain ⟨z,ez,c,ys,rfl,h1⟩:=aE pr hu
  exact ⟨_,rfl,c,_,_,_,rfl,rfl,Ty.ao.ck s2 h1,cg,k _ _ (ao.refl _) ⟨z,ez,rfl⟩⟩
 ·intro ys H2 hy iD s2 hD
  refine k H2 s2 ?_
  rw [hD]
  congr 2
  refine adW fun i=>?_
  rw [adu,Wp]
  by_cases c:i<ys.length
  ·obtain ⟨p,e1,e2⟩:=iD i ys[i] (gE c)
   rw [gE c,e1,e2]
   rfl
  ·rw [aax (by omega),aax (by omega)]
   rfl
theorem oK {α:Type}{nm:α->Str}{kM:γ}{zs:List α}(h:kM.map (·.1)=zs.map (fun p=>(adR (nm p):Key))):(kM.map fun kv=>kV kv.1)=(zs.map nm).map V.str:=by
 have:(kM.map fun kv=>kV kv.1)=(kM.map (·.1)).map kV:=by rw [adu];rfl
 rw [this,h,adu,adu]
 rfl
theorem rP {us:η}{pins:ν}(h:Paired (jP K H) us pins):Paired (fun u (z:aD)=>∃c ys,u=.ref c/\bM K H c (.str z.nm::ys)) us pins:=Paired.cF h fun _ _ ⟨a,l,s,us,e,h1,_,_,_⟩=>⟨a,_,e,h1⟩
theorem CC {us:η}{bars:τ}(h:Paired (lQ K H pins) us bars):Paired (fun u (z:aV)=>∃c ys,u=.ref c/\bM K H c (.str z.nm::ys)) us bars:=Paired.cF h fun _ _ ⟨a,i,j,e,h1,_,_⟩=>⟨a,_,e,h1⟩
theorem yG {ys:η}(h:∀(i:Nat)(v:V),ys[i]?=some v->v=.bl true):∃bs:List Bool,ys=bs.map V.bl/\bs.all id=true:=by
 induction ys with
 | nil=>exact ⟨[],rfl,rfl⟩
 | cons y ys ih=>
  obtain ⟨bs,e,h2⟩:=ih fun i v e=>h (i+1) v (by simpa using e)
  exact ⟨true::bs,by rw [h 0 y rfl,e];rfl,by simp [h2]⟩
structure Rh (K:Frag)(H:Hp)(pins:ν)(bars:τ)(dT dU:aaz)(kT kU:γ)(T:Θ)(U:Α)(N:Nat):Prop where
 hT:H dT=some (.dK kT)
 hU:H dU=some (.dK kU)
 Km:kT.map (·.1)=bars.map (fun b=>(adR b.nm:Key))
 Kn:kU.map (·.1)=pins.map (fun p=>(adR p.nm:Key))
 tT:∀b∈bars,∃v,bF kT (.inr b.nm)=some v/\cZ K H v (T b.nm)
 tU:∀p∈pins,∃la vs,bF kU (.inr p.nm)=some (.ref la)/\H la=some (.lst vs)/\Paired (cZ K H) vs (U p.nm)
 lU:∀p∈pins,(U p.nm).length=p.ws.length
 zT:∀b∈bars,Zb N (T b.nm)
 zU:∀p∈pins,∀u∈U p.nm,Zb N u
theorem Rh.same (h:Rh K H pins bars dT dU kT kU T U N)(s:ao H H'):Rh K H' pins bars dT dU kT kU T U N:=⟨s _ _ h.hT,s _ _ h.hU,h.Km,h.Kn,fun b hb=>by
 obtain ⟨v,a,b⟩:=h.tT b hb
 exact ⟨v,a,b.same s⟩,fun p hp=>by
 obtain ⟨la,vs,a,b,c⟩:=h.tU p hp
 exact ⟨la,vs,a,s _ _ b,Paired.cF c fun _ _ z=>z.same s⟩,h.lU,h.zT,h.zU⟩
theorem Rh.aap (h:Rh K H pins bars dT dU kT kU T U N)(hb:b∈bars):∃v,cG H dT (.str b.nm) (some v)/\cZ K H v (T b.nm):=by
 obtain ⟨v,a,c⟩:=h.tT b hb
 refine ⟨v,?_,c⟩
 have:=cG.k (k:=.inr b.nm) h.hT
 rw [a] at this
 exact this
theorem Rh.agQ (h:Rh K H pins bars dT dU kT kU T U N)(hp:p∈pins):∃la vs,cG H dU (.str p.nm) (some (.ref la))/\H la=some (.lst vs)/\Paired (cZ K H) vs (U p.nm):=by
 obtain ⟨la,vs,a,b,c⟩:=h.tU p hp
 refine ⟨la,vs,?_,b,c⟩
 have:=cG.k (k:=.inr p.nm) h.hU
 rw [a] at this
 exact this
inductive CD (K:Frag)(vs:η)(H:Hp)(Q:VK)(E_:XK):Prop
|mk (pA bA dT dU:aaz)(us ws:η)(pins:ν)(bars:τ)(kT kU:γ)(T:Θ)(U:Α)(N:Nat)(_:vs=[.ref pA,.ref bA,.ref dT,.ref dU])(_:VI K H pA bA us ws pins bars)(_:Rh K H pins bars dT dU kT kU T U N)(_:∀H',ao H H' ->Q (.bl true) H')
theorem FP:av ["_law_pins_here","_law_bars_here","_law_pulls_here","_law_pushes_here","_law_name_here","_law_spot_here","_law_ways_here"] zaa (ae JH):=sq
theorem aaq (D:Def K mg "_law_are_forces" JH zaa)(bf:mg "isinstance"=none)(iF:mg "dict"=none)(cC:mg "list"=none)(aZ:mg "len"=none)(FQ:mg "all"=none)(CG:Fn P w K mg base (aT P w) 34 "_law_number" zaQ (jS K)):
  Fn P w K mg base (aT P w) 35 "_law_are_forces" zaa (CD K):=by
 refine D.op FP fun f bZ A outer s H vs Q E hr h=>?_
 obtain ⟨pA,bA,dT,dU,us,ws,pins,bars,kT,kU,T,U,N,rfl,fr,pl,q⟩:=h
 have lp:=fr.lp
 have lb:=fr.lb
 have lw:ws.length=bars.length:=aaK fr.pb
 refine ⟨_,(aa (bq (PW.pt (jx (eO (dJ (aI f9 rfl bf cj (aG (pv 2) (mj rfl iF AG))))) (iz (bx (qb hr.units) (dQ (fO rfl) rfl cC i7 (a9 (pv 2))) (eK (tn:=["_law_bar"]) (fr:=[]) (caps:=[]) (a_ (pv 1)) (bB (dS (K:=K) rfl) (pv 0) af)))))) (ag (ay gL)) aL)
  (aa (bq (PW.pt (jx (eO (dJ (aI f9 rfl bf cj (aG (pv 3) (mj rfl iF AG))))) (iz (bx (qb hr.units) (dQ (fO rfl) rfl cC i7 (a9 (pv 3))) (eK (tn:=["_law_pin"]) (fr:=[]) (caps:=[]) (a_ (pv 0)) (bB (dS (K:=K) rfl) (pv 0) af)))))) (ag (ay gL)) aL)
  (aa (bq (eO (dJ (aI (uv rfl) rfl FQ S3 (a9 (eK (tn:=["_law_bar"]) (fr:=["_law_pulls_here"]) (caps:=[2]) (a_ (pv 1)) (ym CG hr (a9 (b6 (bw hr) (pv 1) (bB (dS (K:=K) rfl) (pv 0) af) (fun _ _=>rfl))))))))) (ag (ay gL)) aL)
  (aa (bg aaG rfl (a_ (pv 0)) (fM rfl (aY (bN (i:=4) FP.nd) (aY (bN (i:=5) FP.nd) (aY (bN (i:=6) FP.nd) de)))) (aa (bq (PW.pt (jx (eO (dJ (aI f9 rfl bf cj (aG (b6 (bw hr) (pv 3) (pv 4) (fun _ _=>rfl)) (mj rfl cC i7))))) (iz (bx ma (aI aH rfl aZ cz (a9 (b6 (bw hr) (pv 3) (pv 4) (fun _ _=>rfl)))) (aI aH rfl aZ cz (a9 (pv 6))))))) (ag (ay gL)) aL)
   (ag (bq (eO (dJ (aI (uv rfl) rfl FQ S3 (a9 (eK (tn:=zaC) (fr:=[]) (caps:=[]) (a_ (b6 (bw hr) (pv 3) (pv 4) (fun _ _=>rfl))) (ym CG hr (a9 (pv 0)))))))) (ag (ay gL)) aL))))
  (ag (ay gL)))))),?_⟩
 refine ⟨_,rfl,_,_,_,true,rfl,rfl,.dK pl.hT,VL,_,rfl,bu (fun c=>nomatch c) (fun _=>?_)⟩
 refine ⟨_,rfl,dT,_,rfl,.inl pl.hT,?_⟩
 intro l1 n1;generalize eX:upd _ l1 _=H1;have ⟨s1,e1⟩:=nw n1 eX
 rw [oK (nm:=aV.nm) pl.Km] at e1
 have fr1:=fr.same s1
 refine ⟨_,rfl,bA,rfl,⟨_,aR.of fr1.hb⟩,fun D2 n2=>?_⟩
 refine rO (nm:=aV.nm) n2 fr1.hb (CC fr1.pb) (by omega) fun H2 s2 e2=>?_
 refine wc (s2 _ _ e1) e2 ?_
 refine ⟨_,rfl,bu (fun c=>nomatch c) (fun _=>?_)⟩
 have tw:=s1.trans s2
 refine ⟨_,rfl,_,_,_,true,rfl,rfl,.dK (tw _ _ pl.hU),VL,_,rfl,bu (fun c=>nomatch c) (fun _=>?_)⟩
 refine ⟨_,rfl,dU,_,rfl,.inl (tw _ _ pl.hU),?_⟩
 intro l3 n3;generalize eX:upd _ l3 _=H3;have ⟨s3,e3⟩:=nw n3 eX
 rw [oK (nm:=aD.nm) pl.Kn] at e3
 have xr:=tw.trans s3
 have OE:=fr.same xr
 refine ⟨_,rfl,pA,rfl,⟨_,aR.of OE.hp⟩,fun D4 n4=>?_⟩
 refine rO (nm:=aD.nm) n4 OE.hp (rP OE.pp) (by omega) fun H4 s4 e4=>?_
 refine wc (s4 _ _ e3) e4 ?_
 refine ⟨_,rfl,bu (fun c=>nomatch c) (fun _=>?_)⟩
 have OO:=xr.trans s4
 refine ⟨_,rfl,bA,rfl,⟨_,aR.of (OO _ _ fr.hb)⟩,fun D5 n5=>?_⟩
 refine dB (cap:=[some (.ref dT)]) (K:=K) (a:=bA) (xs:=ws) (fun _ v _=>v=.bl true) n5 (by rw [lw];exact ac_ (show bars.length<=100 by omega) (by decide)) (fun H5 s5=>aR.of (s5 _ _ (OO _ _ fr.hb))) (fun _ _ _ _ _ _ _ h=>h) ?_ ?_
 ·intro i u H5 R hu s5 k
  obtain ⟨b,eb,c,i1,i2,rfl,h1,_⟩:=aE fr.pb hu
  have ON:=OO.trans s5
  obtain ⟨v,dg,nv⟩:=(pl.same ON).aap (aam eb)
  exact ⟨_,rfl,_,rfl,c,_,_,_,rfl,rfl,Ty.ao.ck ON h1,rfl,dT,_,rfl,dg,v,_,rfl,nv,fun H6 s6=>k _ _ s6 rfl⟩
 intro ys H5 hy iD s5 hD
 obtain ⟨bs,eb,ea⟩:=yG iD
 refine ⟨D5,bs,rfl,by rw [<-eb];exact aR.of hD,?_⟩
 rw [ea]
 refine ⟨_,rfl,bu (fun c=>nomatch c) (fun _=>?_)⟩
 have ON:=OO.trans s5
 refine ⟨_,rfl,pA,rfl,⟨_,aR.of (ON _ _ fr.hp)⟩,bI (K:=K) (a:=pA) (xs:=us) (fun i σ H'=>EJ fun (o4 o5 o6:ω)=>σ=[some (.ref pA),some (.ref bA),some (.ref dT),some (.ref dU),o4,o5,o6]/\ao H H') ⟨none,none,none,rfl,ON⟩ (fun i σ H' _ h=>by
   obtain ⟨_,_,_,_,s⟩:=h
   exact aR.of (s _ _ fr.hp)) ?_ ?_⟩
 ·rintro i u σ H6 hu ⟨o4,o5,o6,rfl,s6⟩
  obtain ⟨p,ep,NP⟩:=aE fr.pp hu
  have mp:p∈pins:=aam ep
  obtain ⟨ta,l,sv,iH,rfl,h1,h2,h3,h4⟩:=NP.same s6
  refine ⟨ta,_,rfl,h1,rfl,_,_,rfl,_,_,rfl,_,_,rfl,rfl,?_⟩
  obtain ⟨la,xs,dg,et,pu⟩:=(pl.same s6).agQ mp
  have lw:iH.length=p.ws.length:=aaK h4
  have lx:xs.length=(U p.nm).length:=aaK pu
  have lup:=pl.lU p mp
  have lwp:=(fr.gp.ws p mp).len
  refine ⟨_,rfl,_,rfl,dU,_,rfl,dg,_,_,_,true,rfl,rfl,.lst et,agP,_,rfl,bu (fun c=>nomatch c) (fun _=>?_)⟩
  refine ⟨_,rfl,_,rfl,dU,_,rfl,dg,la,_,rfl,.inl (aR.of et),_,rfl,l,_,rfl,.inl (aR.of h3),rfl,_,rfl,bu (fun c=>aaM (show (xs.length:Int)=(iH.length:Int) by omega) (fun e=>by rw [e] at c;simp at c)) (fun _=>?_)⟩
  refine ⟨_,rfl,_,rfl,dU,_,rfl,dg,la,rfl,⟨_,aR.of et⟩,fun D7 n7=>?_⟩
  refine dB (cap:=[]) (K:=K) (a:=la) (xs:=xs) (fun _ v _=>v=.bl true) n7 (ac_ (show xs.length<=100 by omega) (by decide)) (fun H7 s7=>aR.of (s7 _ _ et)) (fun _ _ _ _ _ _ _ h=>h) ?_ ?_
  ·intro j x H7 R hx s7 k
   obtain ⟨r,er,nr⟩:=aE pu hx
   exact ⟨_,rfl,x,r,rfl,nr.same s7,fun H8 s8=>k _ _ s8 rfl⟩
  intro ys H7 hy iD s7 hD
  obtain ⟨bs,eb,ea⟩:=yG iD
  refine ⟨D7,bs,rfl,by rw [<-eb];exact aR.of hD,?_⟩
  rw [ea]
  refine ⟨_,rfl,bu (fun c=>nomatch c) (fun _=>?_)⟩
  exact ⟨_,_,_,rfl,s6.trans s7⟩
 ·rintro σ H6 ⟨o4,o5,o6,rfl,s6⟩
  exact q H6 s6
inductive NX (K:Frag)(vs:η)(H:Hp)(Q:VK)(E_:XK):Prop
|mk (pA dM:aaz)(us:η)(pins:ν)(kM:γ)(M:ψ)(N:Nat)(_:vs=[.ref pA,.ref dM])(_:H pA=some (.lst us))(_:Paired (jP K H) us pins)(_:pins.length<=100)(_:Ts K H pins dM kM M N)(_:∀H',ao H H' ->Q (.bl true) H')
theorem FR:av ["_law_pins_here","_law_motion","_law_name_here","_law_spot_here","_law_ways_here"] zat (ae JI):=sq
theorem aar (D:Def K mg "_law_is_motion" JI zat)(bf:mg "isinstance"=none)(iF:mg "dict"=none)(cC:mg "list"=none)(gF:mg "tuple"=none)(aZ:mg "len"=none)(CG:Fn P w K mg base (aT P w) 34 "_law_number" zaQ (jS K)):
  Fn P w K mg base (aT P w) 35 "_law_is_motion" zat (NX K):=by
 refine D.op FR fun f bZ A outer s H vs Q E hr h=>?_
 obtain ⟨pA,dM,us,pins,kM,M,N,rfl,hp,pp,lp,mo,q⟩:=h
 refine ⟨_,(aa (bq (PW.pt (jx (eO (dJ (aI f9 rfl bf cj (aG (pv 1) (mj rfl iF AG))))) (iz (bx (qb hr.units) (dQ (fO rfl) rfl cC i7 (a9 (pv 1))) (eK (tn:=["_law_pin"]) (fr:=[]) (caps:=[]) (a_ (pv 0)) (bB (dS (K:=K) rfl) (pv 0) af)))))) (ag (ay gL)) aL)
  (aa (bg aaG rfl (a_ (pv 0)) (fM rfl (aY (bN (i:=2) FR.nd) (aY (bN (i:=3) FR.nd) (aY (bN (i:=4) FR.nd) de)))) (aa (bq (PW.pt (jx (eO (dJ (aI f9 rfl bf cj (aG (b6 (bw hr) (pv 1) (pv 2) (fun _ _=>rfl)) (mj rfl gF vg))))) (iz (bx ma (aI aH rfl aZ cz (a9 (b6 (bw hr) (pv 1) (pv 2) (fun _ _=>rfl)))) af)))) (ag (ay gL)) aL)
   (ag (bq (PW.pt (jx (eO (dJ (aJ CG hr (a9 (aC (b6 (bw hr) (pv 1) (pv 2) (fun _ _=>rfl))))))) (iz (eO (dJ (aJ CG hr (a9 (aC (b6 (bw hr) (pv 1) (pv 2) (fun _ _=>rfl)))))))))) (ag (ay gL)) aL))))
  (ag (ay gL)))),?_⟩
 refine ⟨_,rfl,_,_,_,true,rfl,rfl,.dK mo.hM,VL,_,rfl,bu (fun c=>nomatch c) (fun _=>?_)⟩
 refine ⟨_,rfl,dM,_,rfl,.inl mo.hM,?_⟩
 intro l1 n1;generalize eX:upd _ l1 _=H1;have ⟨s1,e1⟩:=nw n1 eX
 rw [oK (nm:=aD.nm) mo.keys] at e1
 have pp1:Paired (jP K H1) us pins:=Paired.cF pp fun _ _ z=>z.same s1
 refine ⟨_,rfl,pA,rfl,⟨_,aR.of (s1 _ _ hp)⟩,fun D2 n2=>?_⟩
 refine rO (nm:=aD.nm) n2 (s1 _ _ hp) (rP pp1) (by omega) fun H2 s2 e2=>?_
 refine wc (s2 _ _ e1) e2 ?_
 refine ⟨_,rfl,bu (fun c=>nomatch c) (fun _=>?_)⟩
 have tw:=s1.trans s2
 refine ⟨_,rfl,pA,rfl,⟨_,aR.of (tw _ _ hp)⟩,bI (K:=K) (a:=pA) (xs:=us) (fun i σ H'=>EJ fun (o2 o3 o4:ω)=>σ=[some (.ref pA),some (.ref dM),o2,o3,o4]/\ao H H') ⟨none,none,none,rfl,tw⟩ (fun i σ H' _ h=>by
   obtain ⟨_,_,_,_,s⟩:=h
   exact aR.of (s _ _ hp)) ?_ ?_⟩
 ·rintro i u σ H4 hu ⟨o2,o3,o4,rfl,s4⟩
  obtain ⟨p,ep,NP⟩:=aE pp hu
  have mp:p∈pins:=aam ep
  obtain ⟨ta,l,sv,ws,rfl,h1,h2,h3,h4⟩:=NP.same s4
  refine ⟨ta,_,rfl,h1,rfl,_,_,rfl,_,_,rfl,_,_,rfl,rfl,?_⟩
  obtain ⟨t,v1,v2,dg,et,m1,m2⟩:=(mo.same s4).get mp
  refine ⟨_,rfl,_,rfl,dM,_,rfl,dg,_,_,_,true,rfl,rfl,.tup et,aao,_,rfl,bu (fun c=>nomatch c) (fun _=>?_)⟩
  refine ⟨_,rfl,_,rfl,dM,_,rfl,dg,t,_,rfl,.inr (bM.of et),rfl,_,rfl,DK rfl ?_⟩
  refine ⟨_,rfl,_,rfl,dM,_,rfl,dg,t,_,_,_,rfl,rfl,bM.of et,ie,_,_,rfl,m1,fun H5 s5=>?_⟩
  refine ⟨_,rfl,bu (fun c=>nomatch c) (fun _=>?_)⟩
  obtain ⟨t,v1,v2,dg,et,m1,m2⟩:=(mo.same (s4.trans s5)).get mp
  refine ⟨_,rfl,_,rfl,dM,_,rfl,dg,t,_,_,_,rfl,rfl,bM.of et,gX,_,_,rfl,m2,fun H6 s6=>?_⟩
  refine ⟨_,rfl,bu (fun c=>nomatch c) (fun _=>?_)⟩
  exact ⟨_,_,_,rfl,s4.trans (s5.trans s6)⟩
 ·rintro σ H4 ⟨o2,o3,o4,rfl,s4⟩
  exact q H4 s4
structure Ri (K:Frag)(H:Hp)(d:aaz)(kvs:γ)(pins:ν)(L:ι):Prop where
 hd:H d=some (.dK kvs)
 pt:My K H kvs L
 nk:(kvs.map (·.1)).Nodup
 ks:∀kv∈kvs,∃x∈pins.map (·.nm),kv.1=.inr x
 sz:mvL L
 ll:kvs.length<=100
theorem Ri.same (h:Ri K H d kvs pins L)(s:ao H H'):Ri K H' d kvs pins L:=⟨s _ _ h.hd,h.pt.same s,h.nk,h.ks,h.sz,h.ll⟩
theorem Ri.at (h:Ri K H d kvs pins L){t:Nat}(e:kvs[t]?=some (k,y)):∃x,k=.inr x/\x∈pins.map (·.nm)/\gu K H y (mv L x):=by
 obtain ⟨x,hx,ek⟩:=h.ks _ (aam e)
 have ek':k=.inr x:=ek
 subst ek'
 refine ⟨x,rfl,hx,?_⟩
 have ev:=mF h.nk e
 rcases h.pt x with ⟨z,_⟩|⟨v,p,z1,z2,z3⟩
 ·rw [ev] at z
  cases z
 ·rw [ev] at z1
  cases z1
  unfold mv
  rw [z2]
  exact z3
theorem NY {f:Θ}:∀{ks names:ς},ks.Nodup->names.Nodup->(∀x∈ks,x∈names)->(∀x∈names,x∉ks->f x=0)->(ks.map f).sum=(names.map f).sum:=by
 have agS:∀{f:Θ} {l:ς},(∀x∈l,f x=0)->(l.map f).sum=0:=fun {f l} h=>by
  induction l with
  | nil=>rfl
  | cons a l ih=>
   rw [aau,adw,h a adk,ih fun x hx=>h x (aaw _ hx)]
   grind
 have pull:∀{f:Θ} {k:Str} {l:ς},l.Nodup->k∈l->(l.map f).sum=f k+(l.map fun x=>if x=k then 0 else f x).sum:=fun {f k l} nd hk=>by
  induction l with
  | nil=>cases hk
  | cons a l ih=>
   rw [adQ] at nd
   rw [aau,aau,adw,adw]
   by_cases c:a=k
   ·subst c
    rw [aaC rfl]
    have e:(l.map fun x=>if x=a then 0 else f x)=l.map f:=adp fun x hx=>aaA (fun z=>nd.1 (by rw [<-z];exact hx))
    rw [e]
    grind
   ·have hk':k∈l:=by
     rcases adD.mp hk with z|z
     ·exact aaM z.symm c
     ·exact z
    rw [ih nd.2 hk',aaA c]
    grind
 intro ks
 induction ks generalizing f with
 | nil=>
  intro names _ _ _ h
  rw [agS fun x hx=>h x hx (by simp)]
  rfl
 | cons k ks ih=>
  intro names nk nn sub h
  rw [adQ] at nk
  rw [aau,adw,pull nn (sub k adk)]
  congr 1
  rw [<-ih (f:=fun x=>if x=k then 0 else f x) nk.2 nn (fun x hx=>sub x (aaw _ hx)) fun x hx nx=>?_]
  ·exact aaQ amB (adp fun x hx=>(aaA (fun z:x=k=>nk.1 (by rw [<-z];exact hx))).symm)
  ·show (if x=k then 0 else f x)=0
   by_cases c:x=k
   ·rw [aaC c]
   ·rw [aaA c]
    exact h x hx (by
     intro z
     rcases adD.mp z with z|z
     ·exact c z
     ·exact nx z)
def lV:Key->Str
 | .inr x=>x
 | .inl _=> ""
theorem Ri.sum (h:Ri K H d kvs pins L)(np:(pins.map (·.nm)).Nodup)(M:ψ):(kvs.map fun kv=>dt (mv L (lV kv.1)) (M (lV kv.1))).sum=oO pins L M:=by
 have nk:(kvs.map fun kv=>lV kv.1).Nodup:=by
  have e:(kvs.map fun kv=>lV kv.1)=(kvs.map (·.1)).map lV:=by rw [adu];rfl
  rw [e]
  unfold am6
  rw [agx]
  refine agD (fun {a b} ha hb ne e=>ne ?_) h.nk
  obtain ⟨ka,hka,rfl⟩:=aat.mp ha
  obtain ⟨kb,hkb,rfl⟩:=aat.mp hb
  obtain ⟨x,_,ex⟩:=h.ks ka hka
  obtain ⟨y,_,ey⟩:=h.ks kb hkb
  rw [ex,ey] at e ⊢
  exact aaQ adR e
 have s:=NY (f:=fun x=>dt (mv L x) (M x)) nk np (fun x hx=>by
  obtain ⟨kv,Vr,rfl⟩:=aat.mp hx
  obtain ⟨y,hy,ey⟩:=h.ks kv Vr
  rw [ey]
  exact hy) fun x hx nx=>by
   rcases h.pt x with ⟨_,z⟩|⟨v,p,z1,_,_⟩
   ·unfold mv
    rw [z]
    exact j8 _
   ·exact aaM (aat.mpr ⟨_,x9 z1,rfl⟩) nx
 rw [adu,adu] at s
 exact s
inductive CH (K:Frag)(vs:η)(H:Hp)(Q:VK)(E_:XK):Prop
|mk (d dM:aaz)(kvs kM:γ)(pins:ν)(L:ι)(M:ψ)(N:Nat)(_:vs=[.ref d,.ref dM])(_:Ri K H d kvs pins L)(_:(pins.map (·.nm)).Nodup)(_:Ts K H pins dM kM M N)(_:dM≠d)(_:kvs.length<=9)(_:N<=1000000)(_:∀(v:V)(H':Hp),ao H H' ->iu K H' v (1+9*(2*N+2002)) (oO pins L M)->Q v H')
theorem yH:av ["_law_load","_law_motion","_law_total","_law_name_here","_law_drawn"] zaz (ae JK):=sq
theorem aas (D:Def K mg "_law_work" JK zaz)(lR:Fn P w K mg base (aT P w) 1 "_law_sum" zac (bO K gx))(agT:Fn P w K mg base (aT P w) 2 "_law_dot" zac (BZ K)):
  Fn P w K mg base (aT P w) 3 "_law_work" zaz (CH K):=by
 refine D.oo yH fun H hr h=>?_
 obtain ⟨d,dM,kvs,kM,pins,L,M,N,rfl,ld,np,mo,ne,lk,hN,q⟩:=h
 have L2:2<=aaD:=by decide
 have sm:=ld.sum np M
 refine ⟨_,(aa (aF (i:=2) yH.nd (aS (aG af af)))
  (aa (jZ (bg aaG rfl (mw (pv 0)) (fM rfl (aY (bN (i:=3) yH.nd) (aY (bN (i:=4) yH.nd) de))) (ag (aF (i:=2) yH.nd (aJ lR hr (aG (pv 2) (aJ agT hr (aG (pv 4) (b6 (bw hr) (pv 1) (pv 3) (fun _ _=>rfl))))))))))
  (ag (ay (pv 2))))),?_⟩
 refine ⟨L2,?_⟩
 intro t1 n1;generalize eX:upd _ t1 _=H1;have ⟨s1,e1⟩:=nw n1 eX
 have WL:=ld.same s1
 have mo1:=mo.same s1
 have t0:iu K H1 (.ref t1) (1+0*(2*N+2002)) ((kvs.take 0).map fun kv=>dt (mv L (lV kv.1)) (M (lV kv.1))).sum:=by
  rw [afG]
  exact ⟨(0,1),⟨t1,rfl,bM.of e1⟩,by decide,(show vl ((0,1):Int×Int)=0 by decide+kernel),by decide,by decide⟩
 refine ⟨_,rfl,d,kvs,rfl,WL.hd,fun o=>?_⟩
 have st:∀{H':Hp},bS d H1 H' ->bo H1 H':=fun {H'} k b xs r=>by
  rcases r with r|⟨o',r⟩
  ·exact .inl (k _ _ (fun e=>by rw [e,WL.hd] at r;cases r) r)
  ·exact .inr ⟨o',k _ _ (fun e=>by rw [e,WL.hd] at r;cases r) r⟩
 have k0:bS d H1 (upd H1 d (.fq o (.dK kvs))):=fun b o' n e=>by rw [aj n];exact e
 refine jY (d:=d) (o:=o) (kvs:=kvs) (fun t σ H'=>EJ fun (tv:V) (o3 o4:ω)=>σ=[some (.ref d),some (.ref dM),some tv,o3,o4]/\bS d H1 H'/\H' d=some (.fq o (.dK kvs))/\iu K H' tv (1+t*(2*N+2002)) ((kvs.take t).map fun kv=>dt (mv L (lV kv.1)) (M (lV kv.1))).sum) ⟨.ref t1,none,none,rfl,k0,ah,t0.aK (st k0)⟩ (fun t σ H' _ h=>by
   obtain ⟨_,_,_,_,_,h,_⟩:=h
   exact h) ?_ ?_
 ·rintro t k y σ H6 p7 uO ⟨tv,o3,o4,rfl,k6,Kj,nt⟩ n7
  have ht:t<kvs.length:=(ir.mp uO).1
  obtain ⟨x,rfl,hx,hv⟩:=WL.at uO
  obtain ⟨p,mp,rfl⟩:=aat.mp hx
  have s7:=aA n7 (.tup [kV (.inr p.nm),y])
  have e7:(upd H6 p7 (.tup [kV (.inr p.nm),y])) p7=some (.tup [kV (.inr p.nm),y]):=ah
  generalize upd H6 p7 (.tup [kV (.inr p.nm),y])=H7 at s7 e7 ⊢
  have k7:bS d H1 H7:=fun b o' n e=>s7 _ _ (k6 b o' n e)
  refine ⟨p7,_,rfl,bM.of e7,rfl,_,_,rfl,_,_,rfl,rfl,?_⟩
  obtain ⟨tm,v1,v2,dg,et,m1,m2⟩:=mo1.tM p mp
  have dg7:cG H7 dM (.str p.nm) (some (.ref tm)):=by
   have:=cG.k (k:=.inr p.nm) (k7 _ _ ne mo1.hM)
   rw [dg] at this
   exact this
  have et7:H7 tm=some (.tup [v1,v2]):=k7 _ _ (fun e=>by rw [e,WL.hd] at et;cases et) et
  obtain ⟨da,u1,u2,rfl,hdq,Ni,hd2⟩:=hv.aK (st k7)
  have zd:=ld.sz p.nm
  have zm:=mo.zb p mp
  refine ⟨_,rfl,_,rfl,_,rfl,_,rfl,dM,_,rfl,dg7,?_⟩
  dsimp only [jq]
  refine ⟨da,tm,u1,u2,v1,v2,_,_,_,_,1000,N,rfl,.inr hdq,.inr (bM.of et7),fY Ni (iY zd.1 (aa_ _)),fY hd2 (iY zd.2 (aa_ _)),fY (m1.aK (st k7)) zm.1,fY (m2.aK (st k7)) zm.2,by omega,fun v8 H8 s8 n8=>?_⟩
  show bO K gx [_,_] _ _ E0
  have bt:t*(2*N+2002)<=8*(2*N+2002):=adz _ (by omega)
  refine ix ((nt.same s7).same s8) n8 (by omega) fun p9 H9 s9 n9=>?_
  refine ⟨_,_,_,rfl,fun b o' n e=>s9 _ _ (s8 _ _ (k7 b o' n e)),s9 _ _ (s8 _ _ (s7 _ _ Kj)),?_⟩
  have ew:((kvs.take (t+1)).map fun kv=>dt (mv L (lV kv.1)) (M (lV kv.1))).sum=((kvs.take t).map fun kv=>dt (mv L (lV kv.1)) (M (lV kv.1))).sum+((mv L p.nm).1*(M p.nm).1+(mv L p.nm).2*(M p.nm).2):=by
   rw [take_snoc uO,ads,afO,aau,adM,adw,ad5]
   show _+(dt (mv L p.nm) (M p.nm)+0)=_
   unfold dt
   grind
  rw [ew]
  exact n9.up (by rw [aec];omega)
 ·rintro σ H6 ⟨tv,o3,o4,rfl,k6,Kj,nt⟩
  refine ⟨d,o,kvs,Kj,fun o' u' z=>(by have z':H d=some (.fq o' u'):=z;rw [ld.hd] at z';cases z'),?_⟩
  have s2:ao H1 (upd H6 d (.dK kvs)):=fun b o' e=>by
   by_cases n:b=d
   ·subst n
    rw [WL.hd] at e
    rw [ah]
    exact e
   ·rw [aj n]
    exact k6 b o' n e
  have t2:iu K (upd H6 d (.dK kvs)) tv (1+kvs.length*(2*N+2002)) ((kvs.take kvs.length).map fun kv=>dt (mv L (lV kv.1)) (M (lV kv.1))).sum:=nt.aK fun b xs r=>by
   rcases r with r|⟨o',r⟩
   ·exact .inl (by rw [aj (fun e=>by rw [e,Kj] at r;cases r)];exact r)
   ·by_cases c:b=d
    ·rw [c,Kj] at r
     cases r
    ·exact .inr ⟨o',by rw [aj c];exact r⟩
  generalize upd H6 d (.dK kvs)=H8 at s2 t2 ⊢
  rw [adH,sm] at t2
  have bt:kvs.length*(2*N+2002)<=9*(2*N+2002):=adz _ lk
  exact ⟨_,rfl,q tv H8 (s1.trans s2) (t2.up (by omega))⟩
inductive wd (K:Frag)(vs:η)(H:Hp)(Q:VK)(E_:XK):Prop
|mk (u v:V)(m n:Nat)(r:Rat)(_:vs=[u,v])(_:iu K H u m r)(_:iu K H v n r)(_:m+n<=130000000)(_:Q (.bl true) H)
theorem yI:av zac zac (ae fQ):=sq
theorem yJ (D:Def K mg "_law_same" fQ zac):Fn P w K mg base (aT P w) 1 "_law_same" zac (wd K):=by
 refine D.oo yI fun H hr h=>?_
 obtain ⟨u,v,m,n,r,rfl,⟨x,⟨p1,rfl,h1⟩,x2,x3,zx⟩,⟨y,⟨p2,rfl,h2⟩,y2,y3,zy⟩,l,q⟩:=h
 refine ⟨_,(ag (ay (pS eR (aw hW (aC (pv 0)) (aC (pv 1))) (aw hW (aC (pv 1)) (aC (pv 0))) (qB _)))),_,rfl,p1,_,_,_,rfl,rfl,h1,ie,_,rfl,p2,_,_,_,rfl,rfl,h2,gX,_,_,rfl,rfl,f_ zx.top zy.bot (by omega),_,rfl,p2,_,_,_,rfl,rfl,h2,ie,_,rfl,p1,_,_,_,rfl,rfl,h1,gX,_,_,rfl,rfl,f_ zy.top zx.bot (by omega),rfl,?_⟩
 have e:x.1*y.2=y.1*x.2:=by
  have z1:((x.2:Int):Rat)≠0:=cQ (adE x2)
  have z2:((y.2:Int):Rat)≠0:=cQ (adE y2)
  have k:vl x=vl y:=by rw [x3,y3]
  unfold vl at k
  have:((x.1*y.2:Int):Rat)=((y.1*x.2:Int):Rat):=by
   push_cast
   grind
  exact afN.mp this
 have e':decide (V.int (x.1*y.2)=V.int (y.1*x.2))=true:=aaS (by rw [e])
 rw [<-e'] at q
 exact q
theorem e9:(10:Int)^(9:Int).toNat=1000000000:=by decide+kernel
theorem p9:Xm 10 9:=⟨by decide,by decide,by decide⟩
theorem mV {t b:Int}(ht:0<t)(hb:0<b)(h1:t<1073741824)(h2:b<1073741824)(e:H p=some (.tup [.int (low t b).1,.int (low t b).2])):cZ K H (.ref p) ((t:Rat) / (b:Rat))/\0<(t:Rat) / (b:Rat)/\Sz 31 ((t:Rat) / (b:Rat)):=by
 rw [fP (adE hb)] at e
 refine ⟨iZ e,?_,vv (adE hb) (intBits_le_iff.mpr (by show _<2147483648;omega)) (intBits_le_iff.mpr (by show _<2147483648;omega))⟩
 rw [Rat.div_def]
 exact Rat.mul_pos (afj.mpr ht) (Rat.inv_pos.mpr (afj.mpr hb))
theorem qu (hb:0<b)(h:t=1\/b=1):low t b=(t,b):=mi hb (by rcases h with rfl|rfl<;>simp)
structure FT (K:Frag)(H0 H:Hp)(d:aaz)(kG:γ)(bars:τ)(Go:Η)(n:Nat):Prop where
 s:ao H0 H
 hd:H d=some (.dK kG)
 nm:xo K H kG (fun x=>(Go x).map qr)
 ks:∀kv∈kG,∃x∈bars.map (·.nm),kv.1=.inr x
 ps:∀x,0<gR Go x/\Sz 31 (gR Go x)
 ll:kG.length<=n
theorem FT.same (h:FT K H0 H d kG bars Go n)(s:ao H H'):FT K H0 H' d kG bars Go n:=⟨h.s.trans s,s _ _ h.hd,h.nm.same s,h.ks,h.ps,h.ll⟩
theorem FT.up (h:FT K H0 H d kG bars Go m)(l:m<=n):FT K H0 H d kG bars Go n:=⟨h.s,h.hd,h.nm,h.ks,h.ps,aav h.ll l⟩
theorem FT.put (h:FT K H0 H d kG bars Go n)(n0:H0 d=none)(hb:b∈bars)(hv:cZ K H v r/\0<r/\Sz 31 r):FT K H0 (upd H d (.dK (putK kG (.inr b.nm) v))) d (putK kG (.inr b.nm) v) bars (fun x=>if x=b.nm then some r else Go x) (n+1):=by
 have hd:=h.hd
 have t6:bo H (upd H d (.dK (putK kG (.inr b.nm) v))):=fun a zs r=>by
  rcases r with r|⟨o',r⟩
  ·exact .inl (by rw [aj (fun e=>by rw [e,hd] at r;cases r)];exact r)
  ·exact .inr ⟨o',by rw [aj (fun e=>by rw [e,hd] at r;cases r)];exact r⟩
 refine ⟨fun a o z=>?_,ah,?_,HK (fun k:Key=>∃x∈bars.map (·.nm),k=adR x) h.ks ⟨b.nm,aat.mpr ⟨b,hb,rfl⟩,rfl⟩,fun x=>?_,aav (g_ _ _ _) (Nat.succ_le_succ h.ll)⟩
 ·rw [aj (ak z n0)]
  exact h.s _ _ z
 ·have:=(h.nm.put (x:=b.nm) (v:=v) (q:=qr r) hv.1).aK t6
  have e:(fun nm=>if nm=b.nm then some (qr r) else (Go nm).map qr)=fun x=>(if x=b.nm then some r else Go x).map qr:=funext fun x=>by
   by_cases c:x=b.nm
   ·rw [aaC c,aaC c]
    rfl
   ·rw [aaA c,aaA c]
  rw [e] at this
  exact this
 ·show 0<(if x=b.nm then some r else Go x).getD 1/\Sz 31 ((if x=b.nm then some r else Go x).getD 1)
  by_cases c:x=b.nm
  ·rw [aaC c]
   exact hv.2
  ·rw [aaA c]
   exact h.ps x
inductive rQ (K:Frag)(vs:η)(H:Hp)(Q:VK)(E_:XK):Prop
|mk (sA bA:aaz)(ns:ξ)(ws:η)(pins:ν)(bars:τ)(_:vs=[.ref sA,.ref bA])(_:aR K H sA (ns.map V.int))(_:H bA=some (.lst ws))(_:Paired (lQ K H pins) ws bars)(_:bars.length<=14)(_:∀(d:aaz)(kG:γ)(Go:Η)(H':Hp),H d=none->FT K H H' d kG bars Go 56->Q (.ref d) H')
theorem fG:av ["_law_script","_law_bars_here","_law_grips_here","_law_k","_law_cell","_law_way"] zau (ae fe):=sq
theorem we (D:Def K mg "_law_grips" fe zau)(aZ:mg "len"=none)(bh:mg "range"=none)(om:Fn P w K mg base (aT P w) 1 "_law_cell_at" zam (lJ K))(dH:Fn P w K mg base (aT P w) 1 "_law_field" zad f7)(lO:Fn P w K mg base (aT P w) 33 "_law_lowest" zag cx):
  Fn P w K mg base (aT P w) 34 "_law_grips" zau (rQ K):=by
 refine D.oo fG fun H hr h=>?_
 obtain ⟨sA,bA,ns,ws,pins,bars,rfl,hS,hb,pb,lb,q⟩:=h
 have L2:2<=aaD:=by decide
 have lw:ws.length=bars.length:=aaK pb
 refine ⟨_,(aa (aF (i:=2) fG.nd cL)
  (aa (bg aaG rfl (bY rfl bh (a9 (aI aH rfl aZ cz (a9 (pv 1))))) (bN (i:=3) fG.nd) (aa (aF (i:=4) fG.nd (aJ om hr (aG (pv 0) (aw bG af (pv 3)))))
   (aa (aF (i:=5) fG.nd (aJ dH hr (bK (pv 4) af af)))
   (aa (bq (bx eR (pv 5) af) (ag (cE (bw hr) (pv 2) (aC (bB aQ (pv 1) (pv 3))) (aJ lO hr (aG (aw bG af (aJ dH hr (bK (pv 4) af af))) (aw bG af (aJ dH hr (bK (pv 4) af af))))) rfl)) aL)
   (aa (bq (bx eR (pv 5) af) (ag (cE (bw hr) (pv 2) (aC (bB aQ (pv 1) (pv 3))) (aS (aG (aw bG af (aJ dH hr (bK (pv 4) af af))) af)) rfl)) aL)
   (aa (bq (bx eR (pv 5) af) (ag (cE (bw hr) (pv 2) (aC (bB aQ (pv 1) (pv 3))) (aS (aG af (aw bG af (aJ dH hr (bK (pv 4) af af))))) rfl)) aL)
   (ag (bq (PW.pt (zP (bx LC (pv 5) af) (u0 (bx eR (aw fw (pv 3) af) af)))) (ag (cE (bw hr) (pv 2) (aC (bB aQ (pv 1) (pv 3))) (bB aQ (b_ (aG (aS (aG (aw bG af (aw fw (pv 4) (aw Lz af af))) af)) (aS (aG af (aw bG af (aw fw (pv 4) (aw Lz af af))))))) (aw cN (pv 5) af)) rfl)) aL))))))))
  (ag (ay (pv 2))))),?_⟩
 intro d n1;generalize eX:upd _ d _=H1;have ⟨s1,e1⟩:=nw n1 eX
 refine ⟨_,rfl,bA,_,rfl,.inl (aR.of (s1 _ _ hb)),((ws.length:Nat):Int),rfl,by omega,by omega,cJ (lo:=0) (n:=((ws.length:Nat):Int).toNat) (fun i σ H'=>Yv fun (o3 o4 o5:ω) (kG:γ) (Go:Η)=>σ=[some (.ref sA),some (.ref bA),some (.ref d),o3,o4,o5]/\FT K H H' d kG bars Go (4*i)) ⟨none,none,none,[],fun _=>none,rfl,s1,e1,fun nm=>.inl ⟨rfl,rfl⟩,fun kv h=>(nomatch h),fun x=>⟨(by decide:(0:Rat)<1),qX (i:=1) (k:=31) (by decide) (by decide)⟩,aa_ _⟩ ?_ ?_⟩
 ·rintro i σ H2 hi ⟨o3,o4,o5,kG,Go,rfl,g2⟩
  have ek:(0:Int)+(i:Int)=(i:Int):=ad2 _
  rw [ek]
  have xQ:i<ws.length:=by omega
  refine ⟨_,rfl,_,rfl,_,_,rfl,rfl,sA,ns,_,rfl,g2.s.seq hS,by omega,by omega,?_⟩
  generalize cell ns (32+(i:Int))=c
  refine ⟨_,rfl,_,_,_,rfl,by decide,by decide,by decide,?_⟩
  have iw:=aX (c:=c) (p:=1009) (m:=4) (by decide)
  generalize field c 1009 4=way at iw ⊢
  have i1:=aX (c:=c) (p:=2003) (m:=9) (by decide)
  have i2:=aX (c:=c) (p:=3001) (m:=4) (by decide)
  have i3:=aX (c:=c) (p:=4001) (m:=90) (by decide)
  have i4:=aX (c:=c) (p:=4001) (m:=30) (by decide)
  obtain ⟨b,eb,KY⟩:=aE pb (gE xQ)
  have mb:b∈bars:=aam eb
  obtain ⟨ta,j1,j2,eu,h1,_⟩:=KY
  have ai:i0 ws (i:Int)=some (.ref ta):=bL (by rw [gE xQ,eu])
  dsimp only
  refine jR (fun σ' H'=>EI fun (kG:γ) (Go:Η)=>σ' =[some (.ref sA),some (.ref bA),some (.ref d),some (.int (i:Int)),some (.int c),some (.int way)]/\FT K H H' d kG bars Go (4*i+1)) (fun Nx Kr=>?_) ?_
  ·refine ⟨_,rfl,rfl,_,rfl,?_⟩
   refine bu (fun _=>?_) (fun _=>?_)
   ·refine ⟨_,rfl,_,_,_,rfl,by decide,by decide,by decide,_,_,rfl,rfl,_,rfl,_,_,_,rfl,by decide,by decide,by decide,_,_,rfl,rfl,_,_,rfl,by omega,fun p4 H4 s4 e4=>?_⟩
    have g5:=g2.same s4
    exact ⟨_,rfl,_,rfl,_,rfl,bA,_,_,_,rfl,rfl,aR.of (g5.s _ _ hb),ai,ta,_,_,_,rfl,rfl,Ty.ao.ck g5.s h1,cg,d,_,rfl,gP.k (k:=.inr b.nm) g5.hd (ac_ (show kG.length<=1000 by have:=g5.ll;omega) (by decide)),Kr _ _ ⟨_,_,rfl,g5.put n1 mb (mV (by omega) (by omega) (by omega) (by omega) e4)⟩⟩
   ·exact Kr _ _ ⟨kG,Go,rfl,g2.up (by omega)⟩
  rintro σ' H3 ⟨kG,Go,rfl,g3⟩
  refine jR (fun σ' H'=>EI fun (kG:γ) (Go:Η)=>σ' =[some (.ref sA),some (.ref bA),some (.ref d),some (.int (i:Int)),some (.int c),some (.int way)]/\FT K H H' d kG bars Go (4*i+2)) (fun Nx Kr=>?_) ?_
  ·refine ⟨_,rfl,rfl,_,rfl,?_⟩
   refine bu (fun _=>?_) (fun _=>?_)
   ·refine ⟨_,rfl,_,_,_,rfl,by decide,by decide,by decide,_,_,rfl,rfl,L2,?_⟩
    intro p4 n4;generalize eX:upd _ p4 _=H4;have ⟨s4,e4⟩:=nw n4 eX
    have g5:=g3.same s4
    exact ⟨_,rfl,_,rfl,_,rfl,bA,_,_,_,rfl,rfl,aR.of (g5.s _ _ hb),ai,ta,_,_,_,rfl,rfl,Ty.ao.ck g5.s h1,cg,d,_,rfl,gP.k (k:=.inr b.nm) g5.hd (ac_ (show kG.length<=1000 by have:=g5.ll;omega) (by decide)),Kr _ _ ⟨_,_,rfl,g5.put n1 mb (mV (t:=10+field c 4001 90) (b:=1) (by omega) (by omega) (by omega) (by omega) (by rw [qu (by decide) (.inr rfl)];exact e4))⟩⟩
   ·exact Kr _ _ ⟨kG,Go,rfl,g3.up (by omega)⟩
  rintro σ' H3 ⟨kG,Go,rfl,g3⟩
  refine jR (fun σ' H'=>EI fun (kG:γ) (Go:Η)=>σ' =[some (.ref sA),some (.ref bA),some (.ref d),some (.int (i:Int)),some (.int c),some (.int way)]/\FT K H H' d kG bars Go (4*i+3)) (fun Nx Kr=>?_) ?_
  ·refine ⟨_,rfl,rfl,_,rfl,?_⟩
   refine bu (fun _=>?_) (fun _=>?_)
   ·refine ⟨_,rfl,_,_,_,rfl,by decide,by decide,by decide,_,_,rfl,rfl,L2,?_⟩
    intro p4 n4;generalize eX:upd _ p4 _=H4;have ⟨s4,e4⟩:=nw n4 eX
    have g5:=g3.same s4
    exact ⟨_,rfl,_,rfl,_,rfl,bA,_,_,_,rfl,rfl,aR.of (g5.s _ _ hb),ai,ta,_,_,_,rfl,rfl,Ty.ao.ck g5.s h1,cg,d,_,rfl,gP.k (k:=.inr b.nm) g5.hd (ac_ (show kG.length<=1000 by have:=g5.ll;omega) (by decide)),Kr _ _ ⟨_,_,rfl,g5.put n1 mb (mV (t:=1) (b:=1+field c 4001 30) (by omega) (by omega) (by omega) (by omega) (by rw [qu (by omega) (.inl rfl)];exact e4))⟩⟩
   ·exact Kr _ _ ⟨kG,Go,rfl,g3.up (by omega)⟩
  rintro σ' H3 ⟨kG,Go,rfl,g3⟩
  refine ⟨_,rfl,_,_,rfl,rfl,_,rfl,?_⟩
  refine bu (fun cw=>?_) (fun _=>?_)
  ·refine ⟨_,rfl,_,_,rfl,rfl,nz (by decide),rfl,_,rfl,?_⟩
   refine bu (fun _=>?_) (fun _=>?_)
   ·have cw':1<way:=aaU cw
    have f1:=mQ (x:=c) (m:=(10:Int)^(9:Int).toNat) (by decide)
    refine ⟨_,rfl,_,_,rfl,rfl,p9,_,_,rfl,rfl,nz (by decide),_,_,rfl,rfl,L2,?_⟩
    intro p4 n4;generalize eX:upd _ p4 _=H4;have ⟨s4,e4⟩:=nw n4 eX
    refine ⟨_,rfl,_,_,rfl,rfl,p9,_,_,rfl,rfl,nz (by decide),_,_,rfl,rfl,L2,?_⟩
    intro p5 n5;generalize eX:upd _ p5 _=H5;have ⟨s5,e5⟩:=nw n5 eX
    refine ⟨L2,?_⟩
    intro l6 n6;generalize eX:upd _ l6 _=H6;have ⟨s6,e6⟩:=nw n6 eX
    have s56:=s5.trans s6
    have g5:=g3.same (s4.trans s56)
    rw [e9] at f1 e4 e5
    have dn:∃(x:aaz)(r:Rat),i0 [V.ref p4,V.ref p5] (way-2)=some (.ref x)/\(cZ K H6 (.ref x) r/\0<r/\Sz 31 r):=by
     rcases (by omega:way=2\/way=3) with rfl|rfl
     ·exact ⟨p4,_,rfl,mV (t:=1+c.fmod 1000000000) (b:=1) (by omega) (by omega) (by omega) (by omega) (by rw [qu (by decide) (.inr rfl)];exact s56 _ _ e4)⟩
     ·exact ⟨p5,_,rfl,mV (t:=1) (b:=1+c.fmod 1000000000) (by omega) (by omega) (by omega) (by omega) (by rw [qu (by omega) (.inl rfl)];exact s6 _ _ e5)⟩
    obtain ⟨x,r,ex,hx⟩:=dn
    exact ⟨_,rfl,_,_,rfl,rfl,l6,_,_,_,rfl,rfl,aR.of e6,ex,_,rfl,_,rfl,_,rfl,bA,_,_,_,rfl,rfl,aR.of (g5.s _ _ hb),ai,ta,_,_,_,rfl,rfl,Ty.ao.ck g5.s h1,cg,d,_,rfl,gP.k (k:=.inr b.nm) g5.hd (ac_ (show kG.length<=1000 by have:=g5.ll;omega) (by decide)),_,_,_,_,_,rfl,(g5.put n1 mb hx).up (by omega)⟩
   ·exact ⟨_,_,_,_,_,rfl,g3.up (by omega)⟩
  ·exact Qh ⟨_,_,_,_,_,rfl,g3.up (by omega)⟩
 ·rintro σ H2 ⟨o3,o4,o5,kG,Go,rfl,g2⟩
  exact ⟨_,rfl,q d kG Go H2 n1 (g2.up (by omega))⟩
theorem CI {α β:Type}{nm:α->Str}(b0:β){l:List α}(nd:(l.map nm).Nodup)(f:Nat->β):∃T:Str->β,∀(i:Nat)(x:α),l[i]?=some x->T (nm x)=f i:=by
 classical
 refine ⟨fun s=>if h:∃i,(l.map nm)[i]?=some s then f h.choose else b0,fun i x e=>?_⟩
 have e':(l.map nm)[i]?=some (nm x):=by rw [Wp,e];rfl
 have h:∃i,(l.map nm)[i]?=some (nm x):=⟨i,e'⟩
 show (if h:∃i,(l.map nm)[i]?=some (nm x) then f h.choose else b0)=f i
 rw [dif_pos h]
 exact aaQ f (d_ nd h.choose_spec e')
theorem jm (hd:H d=some (.dK k)):bo H (upd H d (.dK k')):=fun a zs r=>by
 rcases r with r|⟨o',r⟩
 ·exact .inl (by rw [aj (fun e=>by rw [e,hd] at r;cases r)];exact r)
 ·exact .inr ⟨o',by rw [aj (fun e=>by rw [e,hd] at r;cases r)];exact r⟩
structure zN {α:Type}(H:Hp)(d:aaz)(kT:γ)(nm:α->Str)(l:List α)(R:Hp->V->α->Prop):Prop where
 hd:H d=some (.dK kT)
 ky:kT.map (·.1)=l.map (fun x=>(adR (nm x):Key))
 tv:∀x∈l,∃v,bF kT (.inr (nm x))=some v/\R H v x
theorem zN.same {R:Hp->V->α->Prop}(h:zN H d kT nm l R)(m:∀v x,R H v x->R H' v x)(s:ao H H'):zN H' d kT nm l R:=⟨s _ _ h.hd,h.ky,fun x hx=>by
 obtain ⟨v,a,b⟩:=h.tv x hx
 exact ⟨v,a,m v x b⟩⟩
theorem zN.len {R:Hp->V->α->Prop}(h:zN H d kT nm l R):kT.length=l.length:=by
 have:=aaQ aeV h.ky
 rw [be,be] at this
 exact this
theorem zN.get {R:Hp->V->α->Prop}(h:zN H d kT nm l R)(hx:x∈l):∃v,cG H d (.str (nm x)) (some v)/\R H v x:=by
 obtain ⟨v,a,c⟩:=h.tv x hx
 refine ⟨v,?_,c⟩
 have:=cG.k (k:=.inr (nm x)) h.hd
 rw [a] at this
 exact this
theorem zN.put {l:List α}(nd:(l.map nm).Nodup)(e:l[i]?=some x)(h:zN H d kT nm (l.take i) R)(m:∀v' y,R H v' y->R (upd H d (.dK (putK kT (.inr (nm x)) v))) v' y)(hv:R H v x):zN (upd H d (.dK (putK kT (.inr (nm x)) v))) d (putK kT (.inr (nm x)) v) nm (l.take (i+1)) R:=by
 refine ⟨ah,?_,fun y hy=>?_⟩
 ·rw [dw _ (bP (by
   rw [h.ky]
   intro z
   obtain ⟨p',g8,e'⟩:=aat.mp z
   exact gS (nm:=nm) nd e g8 (by injection e'))),ads,h.ky,take_snoc e,ads]
  rfl
 ·rw [jF]
  by_cases c:nm y=nm x
  ·have ey:y=x:=by
    obtain ⟨j,ej⟩:=adj (afx hy)
    have:=d_ nd (x:=nm x) (i:=j) (j:=i) (by rw [Wp,ej,<-c];rfl) (by rw [Wp,e];rfl)
    rw [this,e] at ej
    exact (ady ej).symm
   subst ey
   rw [aaC rfl]
   exact ⟨v,rfl,m _ _ hv⟩
  ·rw [aaA (fun z=>c (by injection z))]
   rw [take_snoc e] at hy
   rcases ado.mp hy with z|z
   ·obtain ⟨v',a,b⟩:=h.tv y z
    exact ⟨v',a,m _ _ b⟩
   ·exact aaM (aaQ nm (adi.mp z)) c
theorem Rj {t b:Int}(h:0<b)(h1:t.natAbs<2048)(h2:b<2048):Sz 11 ((t:Rat) / (b:Rat)):=vv (adE h) (intBits_le_iff.mpr (by show _<2048;omega)) (intBits_le_iff.mpr (by show _<2048;omega))
inductive rR (K:Frag)(vs:η)(H:Hp)(Q:VK)(E_:XK):Prop
|mk (sA bA:aaz)(st:Int)(ns:ξ)(ws:η)(pins:ν)(bars:τ)(_:vs=[.ref sA,.ref bA,.int st])(_:aR K H sA (ns.map V.int))(_:H bA=some (.lst ws))(_:Paired (lQ K H pins) ws bars)(_:bars.length<=14)(_:(bars.map (·.nm)).Nodup)(_:0<=st)(_:st<=900)(_:∀(d:aaz)(kT:γ)(T:Θ)(H':Hp),ao H H' ->H d=none->zN H' d kT (·.nm) bars (fun H v b=>cZ K H v (T b.nm))->(∀b∈bars,Sz 11 (T b.nm))->Q (.ref d) H')
theorem gG:av ["_law_script","_law_bars_here","_law_start","_law_pulls_here","_law_k","_law_cell"] zan (ae ff):=sq
theorem wg (D:Def K mg "_law_pulls" ff zan)(aZ:mg "len"=none)(bh:mg "range"=none)(om:Fn P w K mg base (aT P w) 1 "_law_cell_at" zam (lJ K))(dH:Fn P w K mg base (aT P w) 1 "_law_field" zad f7)(lO:Fn P w K mg base (aT P w) 33 "_law_lowest" zag cx):
  Fn P w K mg base (aT P w) 34 "_law_pulls" zan (rR K):=by
 refine D.oo gG fun H hr h=>?_
 obtain ⟨sA,bA,st,ns,ws,pins,bars,rfl,hS,hb,pb,lb,nb,st0,st1,q⟩:=h
 have lw:ws.length=bars.length:=aaK pb
 obtain ⟨T,hT⟩:=CI (nm:=aV.nm) (0:Rat) nb fun i=>((field (cell ns (st+(i:Int))) 4001 2001-1000:Int):Rat) / ((1+field (cell ns (st+(i:Int))) 5003 9:Int):Rat)
 refine ⟨_,(aa (aF (i:=3) gG.nd cL)
  (aa (bg aaG rfl (bY rfl bh (a9 (aI aH rfl aZ cz (a9 (pv 1))))) (bN (i:=4) gG.nd) (aa (aF (i:=5) gG.nd (aJ om hr (aG (pv 0) (aw bG (pv 2) (pv 4)))))
   (ag (cE (bw hr) (pv 3) (aC (bB aQ (pv 1) (pv 4))) (aJ lO hr (aG (aw cN (aJ dH hr (bK (pv 5) af af)) af) (aw bG af (aJ dH hr (bK (pv 5) af af))))) rfl))))
  (ag (ay (pv 3))))),?_⟩
 intro d n1;generalize eX:upd _ d _=H1;have ⟨s1,e1⟩:=nw n1 eX
 have en:((ws.length:Nat):Int).toNat=bars.length:=by omega
 refine ⟨_,rfl,bA,_,rfl,.inl (aR.of (s1 _ _ hb)),((ws.length:Nat):Int),rfl,by omega,by omega,cJ (lo:=0) (n:=((ws.length:Nat):Int).toNat) (fun i σ H'=>EJ fun (o4 o5:ω) (kT:γ)=>σ=[some (.ref sA),some (.ref bA),some (.int st),some (.ref d),o4,o5]/\ao H H'/\zN H' d kT (·.nm) (bars.take i) (fun H v b=>cZ K H v (T b.nm))) ⟨none,none,[],rfl,s1,e1,by simp,fun x hx=>by simp at hx⟩ ?_ ?_⟩
 ·rintro i σ H2 hi ⟨o4,o5,kT,rfl,s2,di⟩
  have ek:(0:Int)+(i:Int)=(i:Int):=ad2 _
  rw [ek]
  have xQ:i<ws.length:=by omega
  obtain ⟨b,eb,KY⟩:=aE pb (gE xQ)
  obtain ⟨ta,j1,j2,eu,h1,_⟩:=KY
  have ai:i0 ws (i:Int)=some (.ref ta):=bL (by rw [gE xQ,eu])
  have tb:=hT i b eb
  refine ⟨_,rfl,_,rfl,_,rfl,_,_,rfl,rfl,sA,ns,_,rfl,s2.seq hS,by omega,by omega,?_⟩
  generalize cell ns (st+(i:Int))=c at tb ⊢
  have i1:=aX (c:=c) (p:=4001) (m:=2001) (by decide)
  have i2:=aX (c:=c) (p:=5003) (m:=9) (by decide)
  refine ⟨_,rfl,_,_,_,rfl,by decide,by decide,by decide,_,_,rfl,rfl,_,rfl,_,_,_,rfl,by decide,by decide,by decide,_,_,rfl,rfl,_,_,rfl,by omega,fun p4 H4 s4 e4=>?_⟩
  rw [fP (by omega),<-tb] at e4
  have di4:=di.same (fun _ _ z=>z.same s4) s4
  have lk:=di4.len
  rw [adm] at lk
  exact ⟨_,rfl,_,rfl,_,rfl,bA,_,_,_,rfl,rfl,aR.of (s4 _ _ (s2 _ _ hb)),ai,ta,_,_,_,rfl,rfl,Ty.ao.ck (s2.trans s4) h1,cg,d,_,rfl,gP.k (k:=.inr b.nm) di4.hd (ac_ (show kT.length<=1000 by omega) (by decide)),_,_,_,rfl,fun b o z=>(by rw [aj (ak z n1)];exact s4 _ _ (s2 _ _ z)),di4.put nb eb (fun _ _ z=>z.aK (jm di4.hd)) (iZ e4)⟩
 ·rintro σ H2 ⟨o4,o5,kT,rfl,s2,di⟩
  rw [en,adH] at di
  refine ⟨_,rfl,q d kT T H2 s2 n1 di fun b hb=>?_⟩
  obtain ⟨i,ei⟩:=adj hb
  rw [hT i b ei]
  generalize cell ns (st+(i:Int))=c
  have i1:=aX (c:=c) (p:=4001) (m:=2001) (by decide)
  have i2:=aX (c:=c) (p:=5003) (m:=9) (by decide)
  exact Rj (by omega) (by omega) (by omega)
theorem oU :∀(n:Nat) {us:η} {zs:List α},Paired R us zs->Paired R (us.take n) (zs.take n)
 | 0,_,_,_=>by simpa using Paired.nil
 | n+1,_,_,.nil=>by simpa using Paired.nil
 | n+1,_,_,.cons h t=>by
  rw [amm,amm]
  exact .cons h (oU n t)
def UsR (K:Frag)(U:Α)(H:Hp)(v:V)(p:aD):Prop:=∃la ys,v=.ref la/\H la=some (.lst ys)/\Paired (cZ K H) ys (U p.nm)
theorem UsR.same (h:UsR K U H v p)(s:ao H H'):UsR K U H' v p:=by
 obtain ⟨la,ys,a,b,c⟩:=h
 exact ⟨la,ys,a,s _ _ b,Paired.cF c fun _ _ z=>z.same s⟩
inductive oq (K:Frag)(vs:η)(H:Hp)(Q:VK)(E_:XK):Prop
|mk (sA pA:aaz)(st:Int)(ns:ξ)(us:η)(pins:ν)(_:vs=[.ref sA,.ref pA,.int st])(_:aR K H sA (ns.map V.int))(_:H pA=some (.lst us))(_:Paired (jP K H) us pins)(_:kE pins)(_:pins.length<=9)(_:0<=st)(_:st<=900)(_:∀(d:aaz)(kU:γ)(U:Α)(H':Hp),ao H H' ->H d=none->zN H' d kU (·.nm) pins (UsR K U)->(∀p∈pins,(U p.nm).length=p.ws.length)->(∀p∈pins,∀u∈U p.nm,Sz 11 u)->Q (.ref d) H')
theorem eE:av ["_law_script","_law_pins_here","_law_start","_law_pushes_here","_law_k","_law_cell","_law_some"] zao (ae dY):=sq
theorem tI (D:Def K mg "_law_pushes" dY zao)(aZ:mg "len"=none)(bh:mg "range"=none)(om:Fn P w K mg base (aT P w) 1 "_law_cell_at" zam (lJ K))(dH:Fn P w K mg base (aT P w) 1 "_law_field" zad f7):
  Fn P w K mg base (aT P w) 2 "_law_pushes" zao (oq K):=by
 refine D.oo eE fun H hr h=>?_
 obtain ⟨sA,pA,st,ns,us,pins,rfl,hS,hp,pp,gp,lp,st0,st1,q⟩:=h
 have L2:2<=aaD:=by decide
 have lu:us.length=pins.length:=aaK pp
 obtain ⟨U,hU⟩:=CI (nm:=aD.nm) ([]:List Rat) gp.np fun i=>([((field (cell ns (st+(i:Int))) 6007 201-100:Int):Rat),((field (cell ns (st+(i:Int))) 7001 401-200:Int):Rat)]).take ((pins[i]?.map fun p=>p.ws.length).getD 0)
 refine ⟨_,(aa (aF (i:=3) eE.nd cL)
  (aa (bg aaG rfl (bY rfl bh (a9 (aI aH rfl aZ cz (a9 (pv 1))))) (bN (i:=4) eE.nd) (aa (aF (i:=5) eE.nd (aJ om hr (aG (pv 0) (aw bG (pv 2) (pv 4)))))
   (aa (aF (i:=6) eE.nd (b_ (aG (aS (aG (aw cN (aJ dH hr (bK (pv 5) af af)) af) af)) (aS (aG (aw cN (aJ dH hr (bK (pv 5) af af)) af) af)))))
   (ag (cE (bw hr) (pv 3) (aC (bB aQ (pv 1) (pv 4))) (cW eJ (pv 6) eI (dI (aI aH rfl aZ cz (a9 (aC (bB aQ (pv 1) (pv 4))))))) rfl)))))
  (ag (ay (pv 3))))),?_⟩
 intro d n1;generalize eX:upd _ d _=H1;have ⟨s1,e1⟩:=nw n1 eX
 have en:((us.length:Nat):Int).toNat=pins.length:=by omega
 refine ⟨_,rfl,pA,_,rfl,.inl (aR.of (s1 _ _ hp)),((us.length:Nat):Int),rfl,by omega,by omega,cJ (lo:=0) (n:=((us.length:Nat):Int).toNat) (fun i σ H'=>HX fun (o4 o5 o6:ω) (kU:γ)=>σ=[some (.ref sA),some (.ref pA),some (.int st),some (.ref d),o4,o5,o6]/\ao H H'/\zN H' d kU (·.nm) (pins.take i) (UsR K U)) ⟨none,none,none,[],rfl,s1,e1,by simp,fun x hx=>by simp at hx⟩ ?_ ?_⟩
 ·rintro i σ H2 hi ⟨o4,o5,o6,kU,rfl,s2,di⟩
  have ek:(0:Int)+(i:Int)=(i:Int):=ad2 _
  rw [ek]
  have xQ:i<us.length:=by omega
  obtain ⟨p,ep,NP⟩:=aE pp (gE xQ)
  have mp:=aam ep
  obtain ⟨ta,l,sv,iH,eu,h1,h2,h3,h4⟩:=NP.same s2
  have ai:i0 us (i:Int)=some (.ref ta):=bL (by rw [gE xQ,eu])
  have lv:iH.length=p.ws.length:=aaK h4
  have lwp:=(gp.ws p mp).len
  have tb:=hU i p ep
  rw [ep] at tb
  refine ⟨_,rfl,_,rfl,_,rfl,_,_,rfl,rfl,sA,ns,_,rfl,s2.seq hS,by omega,by omega,?_⟩
  generalize cell ns (st+(i:Int))=c0 at tb ⊢
  refine ⟨_,rfl,_,_,_,rfl,by decide,by decide,by decide,_,_,rfl,rfl,L2,?_⟩
  intro p5 n5;generalize eX:upd _ p5 _=H5;have ⟨s5,e5⟩:=nw n5 eX
  refine ⟨_,rfl,_,_,_,rfl,by decide,by decide,by decide,_,_,rfl,rfl,L2,?_⟩
  intro p6 n6;generalize eX:upd _ p6 _=H6;have ⟨s6,e6⟩:=nw n6 eX
  refine ⟨L2,?_⟩
  intro l7 n7;generalize eX:upd _ l7 _=H7;have ⟨s7,e7⟩:=nw n7 eX
  have Vw:=s5.trans (s6.trans s7)
  refine ⟨_,rfl,_,rfl,_,rfl,pA,_,_,_,rfl,rfl,aR.of (Vw _ _ (s2 _ _ hp)),ai,ta,_,_,_,rfl,rfl,Ty.ao.ck Vw h1,rfl,l,_,rfl,.inl (aR.of (Vw _ _ h3)),_,rfl,l7,_,rfl,aR.of e7,?_⟩
  rw [mG (show iH.length<=[V.ref p5,V.ref p6].length by show iH.length<=2;omega)]
  intro la n8;generalize eX:upd _ la _=H8;have ⟨s8,e8⟩:=nw n8 eX
  have s28:=Vw.trans s8
  have di8:=di.same (fun _ _ z=>z.same s28) s28
  have lk:=di8.len
  rw [adm] at lk
  refine ⟨_,rfl,_,rfl,_,rfl,pA,_,_,_,rfl,rfl,aR.of (s28 _ _ (s2 _ _ hp)),ai,ta,_,_,_,rfl,rfl,Ty.ao.ck s28 h1,cg,d,_,rfl,gP.k (k:=.inr p.nm) di8.hd (ac_ (show kU.length<=1000 by omega) (by decide)),?_⟩
  have two:Paired (cZ K H8) [V.ref p5,V.ref p6] [((field c0 6007 201-100:Int):Rat),((field c0 7001 401-200:Int):Rat)]:=.cons (rJ _ (s8 _ _ (s7 _ _ (s6 _ _ e5)))) (.cons (rJ _ (s8 _ _ (s7 _ _ e6))) .nil)
  refine ⟨_,_,_,_,rfl,fun b o z=>(by rw [aj (ak z n1)];exact s28 _ _ (s2 _ _ z)),di8.put gp.np ep (fun _ _ ⟨a,ys,z1,z2,z3⟩=>⟨a,ys,z1,by rw [aj (fun e=>by rw [e,di8.hd] at z2;cases z2)];exact z2,Paired.cF z3 fun _ _ z=>z.aK (jm di8.hd)⟩) ⟨la,_,rfl,e8,?_⟩⟩
  rw [tb,lv]
  exact oU _ two
 ·rintro σ H2 ⟨o4,o5,o6,kU,rfl,s2,di⟩
  rw [en,adH] at di
  refine ⟨_,rfl,q d kU U H2 s2 n1 di (fun p hp=>?_) fun p hp u hu=>?_⟩
  ·obtain ⟨i,ei⟩:=adj hp
   have lwp:=(gp.ws p hp).len
   rw [hU i p ei,ei,adm]
   show min p.ws.length 2=p.ws.length
   omega
  ·obtain ⟨i,ei⟩:=adj hp
   rw [hU i p ei] at hu
   generalize cell ns (st+(i:Int))=c at hu
   have i1:=aX (c:=c) (p:=6007) (m:=201) (by decide)
   have i2:=aX (c:=c) (p:=7001) (m:=401) (by decide)
   have sm:∀i:Int,i.natAbs<2048->Sz 11 (i:Rat):=fun i h=>qX h (by decide)
   rcases adD.mp (afx hu) with z|z
   ·rw [z]
    exact sm _ (by omega)
   ·rw [adi.mp z]
    exact sm _ (by omega)
theorem NZ {α:Type}{f:α->Rat}:∀{l:List α},(∀x∈l,Sz k (f x))->Sz (l.length*(k+1)+1) (l.map f).sum
 | [],_=>by
  rw [adM,ad5]
  exact d0 (by simp)
 | x::l,h=>by
  rw [aau,adw,adJ]
  refine ((h x adk).add (NZ fun y hy=>h y (aaw _ hy))).up ?_
  rw [aec]
  omega
theorem Tu :∀{us ws:Μ},(∀u∈us,Sz k u)->(∀w∈ws,Sz m w)->Sz (us.length*(k+m+1)+1) (sP us ws)
 | [],ws,_,_=>by
  rw [fV]
  exact d0 (by simp)
 | u::us,[],_,_=>by
  have:sP (u::us) []=0:=by simp [sP]
  rw [this]
  exact d0 (by simp)
 | u::us,w::ws,h1,h2=>by
  rw [b9,adJ]
  refine (((h1 u adk).mul (h2 w adk)).add (Tu (us:=us) (ws:=ws) (fun y hy=>h1 y (aaw _ hy)) fun y hy=>h2 y (aaw _ hy))).up ?_
  rw [aec]
  omega
theorem yK (g:eC pins bars)(zT:∀b∈bars,Sz 11 (T b.nm))(zU:∀p∈pins,∀u∈U p.nm,Sz 11 u)(lU:∀p∈pins,(U p.nm).length=p.ws.length)(hp:p∈pins)(hc:∀{n:Nat} {w:Rat×Rat},Sz n w.1/\Sz n w.2->Sz n (c w)):Sz 1000 (fX bars T U p c):=by
 unfold fX
 have z1:Sz ((U p.nm).length*(11+22+1)+1) (sP (U p.nm) (p.ws.map c)):=Tu (zU p hp) fun w hw=>by
  obtain ⟨w',YR,rfl⟩:=aat.mp hw
  exact hc ((g.sz p hp).2.2 w' YR)
 have z2:Sz (bars.length*(61+1)+1) (bars.map fun b=>T b.nm*c (mv (c6 b) p.nm)).sum:=NZ fun b hb=>((zT b hb).mul (hc (BJ g hb p.nm))).up (by decide)
 have l1:=g.lw p hp
 have l2:=g.lb
 have l3:=lU p hp
 have m1:(U p.nm).length*(11+22+1)<=2*34:=adz 34 (by omega)
 have m2:bars.length*(61+1)<=14*62:=adz 62 l2
 exact (z1.add z2).up (by omega)
def yL (bars:τ)(T:Θ)(U:Α)(p:aD):Rat×Rat:=(-(fX bars T U p (·.1)), -(fX bars T U p (·.2)))
theorem FU (h:0<q.2)(e:vl q=r):low (0-q.1) q.2=qr (-r):=by
 rw [fP (adE h),<-e]
 congr 1
 unfold vl
 push_cast
 grind
inductive wj (K:Frag)(vs:η)(H:Hp)(Q:VK)(E_:XK):Prop
|mk (pA bA tA uA:aaz)(us ws:η)(kT kU:γ)(pins:ν)(bars:τ)(T:Θ)(U:Α)(N:Nat)(_:vs=[.ref pA,.ref bA,.ref tA,.ref uA])(_:VI K H pA bA us ws pins bars)(_:LFo K H tA uA kT kU pins bars T U N)(_:eC pins bars)(_:(∀b∈bars,Sz 11 (T b.nm)))(_:(∀p∈pins,∀u∈U p.nm,Sz 11 u))(_:∀(d:aaz)(kvs:γ)(L:ι)(H':Hp),ao H H' ->Ri K H' d kvs pins L->kvs.length<=9->rC pins bars T U L->Q (.ref d) H')
theorem dO:av ["_law_pins_here","_law_bars_here","_law_pulls_here","_law_pushes_here","_law_found","_law_load","_law_k","_law_x"] zaa (ae dD):=sq
theorem rS (D:Def K mg "_law_load_by" dD zaa)(aZ:mg "len"=none)(bh:mg "range"=none)(agU:Fn P w K mg base (aT P w) 3 "_law_forces" zaa (rM K))(lO:Fn P w K mg base (aT P w) 33 "_law_lowest" zag cx):
  Fn P w K mg base (aT P w) 34 "_law_load_by" zaa (wj K):=by
 refine D.oo dO fun H hr h=>?_
 obtain ⟨pA,bA,tA,uA,us,ws,kT,kU,pins,bars,T,U,N,rfl,fr,fo,g,zT,zU,q⟩:=h
 have L2:2<=aaD:=by decide
 have lp:=fr.lp
 have lu:us.length=pins.length:=aaK fr.pp
 refine ⟨_,(aa (aF (i:=4) dO.nd (aJ agU hr (sM (pv 0) (bK (pv 1) (pv 2) (pv 3)))))
  (aa (aF (i:=5) dO.nd cL)
  (aa (bg aaG rfl (bY rfl bh (a9 (aI aH rfl aZ cz (a9 (pv 0))))) (bN (i:=6) dO.nd) (aa (aF (i:=7) dO.nd (aJ lO hr (aG (aw cN af (aC (uK (bB aQ (pv 4) (pv 6))))) (aC (uK (bB aQ (pv 4) (pv 6)))))))
   (ag (cE (bw hr) (pv 5) (aC (bB aQ (pv 0) (pv 6))) (aS (aG (pv 7) (aJ lO hr (aG (aw cN af (aC (uK (bB aQ (pv 4) (pv 6))))) (aC (uK (bB aQ (pv 4) (pv 6)))))))) rfl))))
  (ag (ay (pv 5)))))),?_⟩
 refine ⟨_,rfl,_,rfl,_,rfl,_,rfl,pA,bA,tA,uA,us,ws,kT,kU,pins,bars,T,U,N,rfl,fr,fo,fun fA ls F H1 s1 ll hF eF=>?_⟩
 intro d nd;generalize eX:upd _ d _=H2;have ⟨s2,e2⟩:=nw nd eX
 have tw:=s1.trans s2
 have enb:((us.length:Nat):Int).toNat=pins.length:=by omega
 refine ⟨_,rfl,pA,_,rfl,.inl (aR.of (tw _ _ fr.hp)),((us.length:Nat):Int),rfl,by omega,by omega,cJ (lo:=0) (n:=((us.length:Nat):Int).toNat) (fun i σ H'=>EJ fun (o6 o7:ω) (kvs:γ)=>σ=[some (.ref pA),some (.ref bA),some (.ref tA),some (.ref uA),some (.ref fA),some (.ref d),o6,o7]/\ao H1 H'/\zN H' d kvs (·.nm) (pins.take i) (fun H v p=>gu K H v (yL bars T U p))) ⟨none,none,[],rfl,s2,e2,by simp,fun x hx=>by simp at hx⟩ ?_ ?_⟩
 ·rintro i σ H3 hi ⟨o6,o7,kvs,rfl,s3,di⟩
  have ek:(0:Int)+(i:Int)=(i:Int):=ad2 _
  rw [ek]
  have xr:=s1.trans s3
  have hiu:i<us.length:=by omega
  obtain ⟨p,ep,NP⟩:=aE fr.pp (gE hiu)
  obtain ⟨ta,lw,sv,iH,eu,h1,_,_,_⟩:=NP.same xr
  have ai:i0 us (i:Int)=some (.ref ta):=bL (by rw [gE hiu,eu])
  have F3:=hF.same s3
  obtain ⟨lr,elr⟩:∃lr,ls[i]?=some lr:=⟨_,gE (by omega)⟩
  obtain ⟨w1,w2,hlr,⟨q1,⟨a1,rfl,m1⟩,b1,c1,_⟩,⟨q2,⟨a2,rfl,m2⟩,b2,c2,_⟩⟩:=F3.row i lr elr
  obtain ⟨f1,f2⟩:=eF i p ep
  have etl:i0 (ls.map V.ref) (i:Int)=some (.ref lr):=bL (by rw [Wp,elr];rfl)
  have lf:=aR.of (K:=K) F3.hf
  have lrq:=aR.of (K:=K) hlr
  refine ⟨_,rfl,_,rfl,fA,_,_,_,rfl,rfl,lf,etl,lr,_,_,_,rfl,rfl,lrq,rfl,a1,_,_,_,rfl,rfl,m1,ie,_,_,rfl,rfl,_,rfl,_,rfl,fA,_,_,_,rfl,rfl,lf,etl,lr,_,_,_,rfl,rfl,lrq,rfl,a1,_,_,_,rfl,rfl,m1,gX,_,_,rfl,b1,fun p4 H4 s4 e4=>?_⟩
  rw [FU b1 (c1.trans f1)] at e4
  have lf4:=aR.of (K:=K) (s4 _ _ F3.hf)
  have lr4:=aR.of (K:=K) (s4 _ _ hlr)
  have m24:=Ty.ao.ck s4 m2
  refine ⟨_,rfl,_,rfl,_,rfl,fA,_,_,_,rfl,rfl,lf4,etl,lr,_,_,_,rfl,rfl,lr4,rfl,a2,_,_,_,rfl,rfl,m24,ie,_,_,rfl,rfl,_,rfl,_,rfl,fA,_,_,_,rfl,rfl,lf4,etl,lr,_,_,_,rfl,rfl,lr4,rfl,a2,_,_,_,rfl,rfl,m24,gX,_,_,rfl,b2,fun p5 H5 s5 e5=>?_⟩
  rw [FU b2 (c2.trans f2)] at e5
  refine ⟨L2,?_⟩
  intro p6 n6;generalize eX:upd _ p6 _=H6;have ⟨s6,e6⟩:=nw n6 eX
  have NG:=s4.trans (s5.trans s6)
  have Tv:=di.same (fun _ _ z=>z.same NG) NG
  have lk:=Tv.len
  rw [adm] at lk
  exact ⟨_,rfl,_,rfl,_,rfl,pA,_,_,_,rfl,rfl,aR.of ((xr.trans NG) _ _ fr.hp),ai,ta,_,_,_,rfl,rfl,Ty.ao.ck NG h1,cg,d,_,rfl,gP.k (k:=.inr p.nm) Tv.hd (ac_ (show kvs.length<=100 by omega) (by decide)),_,_,_,rfl,fun b o z=>(by rw [aj (ak z nd)];exact NG _ _ (s3 _ _ z)),Tv.put fr.gp.np ep (fun _ _ z=>z.aK (jm Tv.hd)) ⟨p6,_,_,rfl,bM.of e6,iZ (s6 _ _ (s5 _ _ e4)),iZ (s6 _ _ e5)⟩⟩
 ·rintro σ H3 ⟨o6,o7,kvs,rfl,s3,di⟩
  rw [enb,adH] at di
  have lk:=di.len
  have ky:=di.ky
  have nk:(kvs.map (·.1)).Nodup:=by
   rw [ky]
   have:(pins.map fun p=>(adR p.nm:Key))=(pins.map (·.nm)).map adR:=by rw [adu];rfl
   rw [this]
   exact amD _ (fun a b n z=>n (by injection z)) fr.gp.np
  obtain ⟨L,hL⟩:=CI (nm:=aD.nm) ((0,0):Rat×Rat) fr.gp.np fun i=>(pins[i]?.map (yL bars T U)).getD (0,0)
  have eL:∀p∈pins,L p.nm=yL bars T U p:=fun p hp=>by
   obtain ⟨i,e⟩:=adj hp
   rw [hL i p e,e]
   rfl
  have mvp:∀p∈pins,mv (fun x=>if x∈pins.map (·.nm) then some (L x) else none) p.nm=yL bars T U p:=fun p hp=>by
   show (if p.nm∈pins.map (·.nm) then some (L p.nm) else none).getD (0,0)=_
   rw [aaC (aat.mpr ⟨p,hp,rfl⟩)]
   exact eL p hp
  refine ⟨_,rfl,q d kvs (fun x=>if x∈pins.map (·.nm) then some (L x) else none) H3 (s1.trans s3) ⟨di.hd,fun x=>?_,nk,fun kv Vr=>?_,fun x=>?_,by omega⟩ (by omega) fun p hp=>?_⟩
  ·by_cases c:x∈pins.map (·.nm)
   ·obtain ⟨p,mp,rfl⟩:=aat.mp c
    obtain ⟨v,a,b⟩:=di.tv p mp
    exact .inr ⟨v,L p.nm,a,aaC c,by rw [eL p mp];exact b⟩
   ·refine .inl ⟨bP (fun z=>c ?_),aaA c⟩
    rw [ky] at z
    obtain ⟨p,mp,e⟩:=aat.mp z
    exact aat.mpr ⟨p,mp,by injection e⟩
  ·have:kv.1∈kvs.map (·.1):=aat.mpr ⟨kv,Vr,rfl⟩
   rw [ky] at this
   obtain ⟨p',mp,e⟩:=aat.mp this
   exact ⟨p'.nm,aat.mpr ⟨p',mp,rfl⟩,e.symm⟩
  ·by_cases c:x∈pins.map (·.nm)
   ·obtain ⟨p,mp,rfl⟩:=aat.mp c
    rw [mvp p mp]
    exact ⟨(yK g zT zU fo.lU mp (fun h=>h.1)).neg,(yK g zT zU fo.lU mp (fun h=>h.2)).neg⟩
   ·show Sz 1000 ((if x∈pins.map (·.nm) then some (L x) else none).getD (0,0)).1/\Sz 1000 ((if x∈pins.map (·.nm) then some (L x) else none).getD (0,0)).2
    rw [aaA c]
    exact ⟨d0 (by decide),d0 (by decide)⟩
  ·rw [mvp p hp]
   unfold yL
   constructor<;>grind
def oV (x y:Int×Int):Int×Int:=low (x.1*y.2) (x.2*y.1)
inductive wm (K:Frag)(vs:η)(H:Hp)(Q:VK)(E_:XK):Prop
|mk (u v:V)(x y:Int×Int)(_:vs=[u,v])(_:iS K H u x)(_:iS K H v y)(_:mB 4000 x)(_:mB 4000 y)(_:y.1≠0)(_:gives H Q (oV x y))
theorem rT:av zab zab (ae cO):=sq
theorem rV (hM:pH CX)(D:Def K mg "quotient_of" cO zab)(ra:Fn P w K mg base CX 33 "lowest_terms" zap fg):Fn P w K mg base CX 34 "quotient_of" zab (wm K):=by
 refine D.op rT fun f bZ A outer s H vs Q E hr h=>?_
 obtain ⟨u,v,x,y,rfl,⟨p1,rfl,h1⟩,⟨p2,rfl,h2⟩,k1,k2,n,q⟩:=h
 have px:=jE (X:=jr CX P w K mg base zab "quotient_of" (ae cO) f bZ A outer s H E) hM
 refine ⟨_,(aa (bq (bx eR (aC (pv 1)) af) (ag (cU)) aL)
  (ag (ay (iM ra hr.mo px (aG (aw bQ (aC (pv 0)) (aC (pv 1))) (aw bQ (aC (pv 0)) (aC (pv 1)))))))),?_⟩
 have b1:=k1.top
 have b2:=k1.bot
 have b3:=k2.top
 have b4:=k2.bot
 have c:∀{i j:Int},intBits i<=4000->intBits j<=4000->oC i j:=fun a b=>⟨aav a (by decide),aav b (by decide)⟩
 refine ⟨_,rfl,p2,_,_,_,rfl,rfl,h2,ie,rfl,_,rfl,?_⟩
 refine bu (fun z=>?_) (fun z=>?_)
 ·have z':y.1=0:=by
   have:=aaU z
   simpa using this
  exact aaM z' n
 ·exact ⟨_,rfl,p1,_,_,_,rfl,rfl,h1,ie,_,rfl,p2,_,_,_,rfl,rfl,h2,gX,_,_,rfl,rfl,c b1 b4,_,rfl,p1,_,_,_,rfl,rfl,h1,gX,_,rfl,p2,_,_,_,rfl,rfl,h2,ie,_,_,rfl,rfl,c b2 b3,_,_,rfl,afL (adE k1.pos) n,q⟩
theorem bits_add (ha:intBits a<=k)(hb:intBits b<=k):intBits (a+b)<=k+1:=by
 rw [aho] at ha hb ⊢
 have:=ae2 a b
 rw [afz]
 omega
theorem mB.up (h:mB k q)(kl:k<=l):mB l q:=⟨h.pos,aav h.top kl,aav h.bot kl⟩
theorem wo (hx:mB k x)(hy:mB l y):mB (k+l) (mulQ x y):=
 q5 (mC hx hy) (aa1 hx.top hy.top) (aa1 hx.bot hy.bot)
theorem yM (hx:mB k x)(hy:mB l y)(n:y.1≠0):mB (k+l) (oV x y):=
 q5 (afL (adE hx.pos) n) (aa1 hx.top hy.bot) (aa1 hx.bot hy.top)
theorem Rk (hx:mB k x)(hy:mB l y):mB (k+l+1) (addQ x y):=
 q5 (mC hx hy) (bits_add (aa1 hx.top hy.bot) (by rw [agf];exact aa1 hy.top hx.bot)) (agw (aa1 hx.bot hy.bot))
theorem ou {q:Int×Int}(h:0<q.2):(q.2:Rat)≠0:=by
 intro e
 have:q.2=0:=by exact_mod_cast e
 omega
theorem VM (hx:0<x.2)(hy:0<y.2):vl (addQ x y)=vl x+vl y:=by
 unfold addQ
 rw [lh (adE (aex hx hy))]
 have:=ou hx
 have:=ou hy
 unfold vl
 push_cast
 grind
theorem VN (hx:0<x.2)(hy:0<y.2):vl (mulQ x y)=vl x*vl y:=by
 unfold mulQ
 rw [lh (adE (aex hx hy))]
 have:=ou hx
 have:=ou hy
 unfold vl
 push_cast
 grind
theorem Rl (hx:0<x.2)(hy:0<y.2)(n:y.1≠0):vl (oV x y)=vl x / vl y:=by
 unfold oV
 rw [lh (afL (adE hx) n)]
 have:=ou hx
 have:=ou hy
 have:(y.1:Rat)≠0:=by intro e;exact n (by exact_mod_cast e)
 unfold vl
 push_cast
 grind
def stQ (G Pl:χ)(x:Str):Int×Int:=oV (mulQ (eQ Pl x) (eQ Pl x)) (fE G x)
def kF (G Pl:χ)(xs:ς):Int×Int:=xs.foldl (fun acc x=>addQ acc (stQ G Pl x)) (0,1)
structure lW (G Pl:χ):Prop where
 g:∀x,mB 40 (fE G x)
 gp:∀x,0<(fE G x).1
 p:∀x,mB 40 (eQ Pl x)
theorem lW.st (h:lW G Pl)(x:Str):mB 120 (stQ G Pl x):=yM (wo (h.p x) (h.p x)) (h.g x) (adE (h.gp x))
theorem lX :kF G Pl (xs++[x])=addQ (kF G Pl xs) (stQ G Pl x):=by
 unfold kF
 rw [amx]
 rfl
theorem N0:mB 1 (0,1):=⟨by decide,by decide,by decide⟩
theorem lW.sum (h:lW G Pl):∀(n:Nat)(xs:ς),xs.length=n->mB (121*n+1) (kF G Pl xs):=by
 intro n
 induction n with
 | zero=>
  intro xs e
  obtain rfl:=ae_.mp e
  exact N0
 | succ n ih=>
  intro xs e
  have ne:xs≠[]:=by intro z;subst z;cases e
  have e1:xs=xs.dropLast++[xs.getLast ne]:=(agc ne).symm
  rw [e1,lX]
  have:=Rk (ih xs.dropLast (by rw [amk];omega)) (h.st (xs.getLast ne))
  exact this.up (by omega)
theorem rW {F:V->Str->Prop}:∀{kf:γ} {xs:ς},Paired (fun (kv:Key×V) x=>kv.1=.inr x/\F kv.2 x) kf xs->kf.map (·.1)=xs.map adR
 | _,_,.nil=>rfl
 | _,_,.cons h t=>by rw [aau,aau,h.1,rW t]
theorem N3 {F:V->Str->Prop}{kf:γ}{xs:ς}(h:Paired (fun (kv:Key×V) x=>kv.1=.inr x/\F kv.2 x) kf xs)(hx:x∈xs)(nd:xs.Nodup):∃v,bF kf (.inr x)=some v/\F v x:=by
 obtain ⟨i,ei⟩:=adj hx
 have hi:=(ir.mp ei).1
 have lk:=aaK h
 obtain ⟨x',ex,e1,e2⟩:=aE h (gE (show i<kf.length by omega))
 rw [ei] at ex
 obtain rfl:=ady ex
 have nk:(kf.map (·.1)).Nodup:=by
  rw [rW h]
  exact amD _ (fun a b n z=>n (by injection z)) nd
 exact ⟨_,mF nk (show kf[i]?=some (.inr x,kf[i].2) by rw [gE (by omega),<-e1]),e2⟩
inductive rX (K:Frag)(C:aaz)(vs:η)(H:Hp)(Q:VK)(E_:XK):Prop
|mk (a dx pP pW pB d e:aaz)(ps:Ι)(bs:Β)(kP kW kB kvs kus:γ)(G Pl:χ)(_:vs=[.ref a,.ref d,.ref e])(_:gI K H C a dx pP pW pB ps bs kP kW kB)(_:H d=some (.dK kvs))(_:xo K H kvs G)(_:H e=some (.dK kus))(_:xo K H kus Pl)(_:(∀kv∈kvs,∃x∈bs.map (·.1),kv.1=.inr x))(_:bs.length<=20)(_:(bs.map (·.1)).Nodup)(_:lW G Pl)(_:gives H Q (oV (kF G Pl (bs.map (·.1))) (2,1)))
theorem d3:av ["F","grips","pulls","firm","twice","bar","pull"] zaG (ae eY):=sq
theorem wu (hN:∀H:Hp,bM K H aN [.int 0,.int 1])(jI:mg "NOUGHT"=some (.ref aN))(D:Def K mg "stored_of" eY zaG)(MB:bJ P w K mg base (aT P w) 1 C "bars" zae (ja K C))
  (jN:Fn P w K mg base (aT P w) 3 "all_grips" zaO (je K C)) (jK:Fn P w K mg base (aT P w) 34 "sum_of" zab (i_ K addQ)) (cu:Fn P w K mg base (aT P w) 34 "product_of" zab (i_ K mulQ))
  (kH:Fn P w K mg base (aT P w) 34 "quotient_of" zab (wm K)):Fn P w K mg base (aT P w) 35 "stored_of" zaG (rX K C):=by
 refine D.oo d3 fun H hr h=>?_
 obtain ⟨a,dx,pP,pW,pB,d,e,ps,bs,kP,kW,kB,kvs,kus,G,Pl,rfl,R,hd,hG,he,hP,hk,hl,nb,gd,q⟩:=h
 refine ⟨_,(aa (aF (i:=3) d3.nd (aJ jN hr (aG (pv 0) (pv 1))))
  (aa (aF (i:=4) d3.nd (dP (v:=.ref aN) rfl jI rfl))
  (aa (bg aaG rfl (a_ (dR (k:=1) (pv 0) hr.mo (EK P w))) (bN (i:=5) d3.nd) (aa (aF (i:=6) d3.nd (iQ (bw hr) (pv 2) (pv 5) (dP (v:=.ref aN) rfl jI rfl) ⟨rfl,rfl,rfl,rfl⟩))
   (ag (aF (i:=4) d3.nd (aJ jK hr (aG (pv 4) (aJ kH hr (aG (aJ cu hr (aG (pv 6) (pv 6))) (b6 (bw hr) (pv 3) (pv 5) (fun _ _=>rfl))))))))))
  (ag (ay (aJ kH hr (aG (pv 4) (aS (aG af af))))))))),?_⟩
 refine ⟨_,rfl,_,rfl,a,dx,pP,pW,pB,d,ps,bs,kP,kW,kB,kvs,G,rfl,R,hd,hG,hk,by omega,nb,gd.gp,fun fm kf H1 s1 nf ef hf=>?_⟩
 have R1:=R.same s1
 refine ⟨_,rfl,a,C,dx,_,_,_,rfl,R1.obj,rfl,MB,a,dx,pP,pW,pB,ps,bs,kP,kW,kB,rfl,R1,fun l H3 s3 nl el=>?_⟩
 have EC:ao H H3:=fun b o z=>s3 _ _ (s1 _ _ z)
 refine ⟨l,rfl,⟨_,aR.of el⟩,bI (K:=K) (a:=l) (xs:=(bs.map (·.1)).map V.str) (fun i σ H'=>EJ fun (v:V) (o5 o6:ω)=>σ=[some (.ref a),some (.ref d),some (.ref e),some (.ref fm),some v,o5,o6]/\ao H3 H'/\iS K H' v (kF G Pl ((bs.map (·.1)).take i)))
  ⟨.ref aN,none,none,rfl,fun b o z=>z,aN,rfl,hN _⟩ (fun i σ H' _ h=>by
   obtain ⟨_,_,_,_,h,_⟩:=h
   exact aR.of (h _ _ el)) ?_ ?_⟩
 ·rintro i z σ H4 hi ⟨v,o5,o6,rfl,s4,n4⟩
  rw [Wp] at hi
  obtain ⟨x,ex,rfl⟩:=ab_.mp hi
  have hil:i<(bs.map (·.1)).length:=(ir.mp ex).1
  have hx:x∈bs.map (·.1):=aam ex
  have azP :i<bs.length:=by rw [be] at hil;exact hil
  have e4:=s4 _ _ (EC _ _ he)
  have P4:=(hP.same EC).same s4
  have p4:=P4.AO (x:=x) (v:=.ref aN) (q:=(0,1)) ⟨aN,rfl,hN H4⟩
  refine ⟨_,rfl,e,rfl,.inl ⟨_,.inl e4⟩,_,rfl,_,cG.k (k:=.inr x) e4,?_⟩
  have p4':iS K H4 ((bF kus (.inr x)).getD (.ref aN)) (eQ Pl x):=p4
  generalize (bF kus (.inr x)).getD (.ref aN)=pv at p4' ⊢
  have ko:=gd.p x
  refine ⟨_,rfl,_,rfl,_,rfl,pv,pv,_,_,rfl,p4',p4',ko.up (by decide),ko.up (by decide),fun p5 H5 s5 h5=>?_⟩
  obtain ⟨gv,eg,ng⟩:=N3 (F:=fun v x=>iS K H1 v (fE G x)) hf hx nb
  have f5:=s5 _ _ (s4 _ _ (s3 _ _ ef))
  have ng5:=((ng.same s3).same s4).same s5
  refine ⟨_,rfl,_,rfl,fm,gv,rfl,(by rw [<-eg];exact cG.k (k:=.inr x) f5),.ref p5,gv,_,_,rfl,⟨p5,rfl,bM.of h5⟩,ng5,(wo ko ko).up (by decide),(gd.g x).up (by decide),adE (gd.gp x),fun p6 H6 s6 h6=>?_⟩
  have hs:mB 4000 (kF G Pl ((bs.map (·.1)).take i)):=(gd.sum i _ (by rw [adm];omega)).up (by omega)
  refine ⟨v,.ref p6,_,_,rfl,(n4.same s5).same s6,⟨p6,rfl,bM.of h6⟩,hs.up (by decide),(gd.st x).up (by decide),fun p7 H7 s7 h7=>?_⟩
  refine ⟨_,_,_,rfl,fun b o z=>s7 _ _ (s6 _ _ (s5 _ _ (s4 _ _ z))),p7,rfl,?_⟩
  rw [adU,ex,show (some x).toList=[x] from rfl,lX]
  exact bM.of h7
 ·rintro σ H4 ⟨v,o5,o6,rfl,s4,n4⟩
  rw [adN (by simp)] at n4
  have hs:mB 4000 (kF G Pl (bs.map (·.1))):=(gd.sum bs.length _ (by rw [be])).up (by omega)
  refine ⟨_,rfl,z2L,fun p nt=>?_⟩
  have s5:=aA nt (.tup [.int 2,.int 1])
  refine ⟨v,.ref p,_,(2,1),rfl,n4.same s5,⟨p,rfl,bM.of ah⟩,hs,⟨by decide,by decide,by decide⟩,by decide,fun p6 H6 s6 h6=>?_⟩
  exact q p6 H6 (fun b o z=>s6 _ _ (s5 _ _ (s4 _ _ (EC _ _ z)))) h6
def cY (bars:τ)(Go:Η)(T:Θ):Rat:=(bars.map fun b=>T b.nm*T b.nm*(1 / (2*gR Go b.nm))).sum
inductive rY (K:Frag)(vs:η)(H:Hp)(Q:VK)(E_:XK):Prop
|mk (bA gA tA:aaz)(ws:η)(kG kT:γ)(pins:ν)(bars:τ)(Go:Η)(T:Θ)(N:Nat)(_:vs=[.ref bA,.ref gA,.ref tA])(_:H bA=some (.lst ws))(_:Paired (lQ K H pins) ws bars)(_:bars.length<=7)(_:H gA=some (.dK kG))(_:xo K H kG (fun x=>(Go x).map qr))(_:(∀x,0<gR Go x/\Sz 31 (gR Go x)))(_:H tA=some (.dK kT))(_:(∀b∈bars,∃v,bF kT (.inr b.nm)=some v/\iu K H v N (T b.nm)))(_:N<=1700000)(_:∀(v:V)(H':Hp),ao H H' ->iu K H' v (1+7*(2*N+40)) (cY bars Go T)->Q v H')
theorem dF:av ["_law_bars_here","_law_grips_here","_law_pulls_here","_law_total","_law_bar","_law_pull","_law_grip"] zai (ae dZ):=sq
theorem tJ (D:Def K mg "_law_stored" dZ zai)(lR:Fn P w K mg base (aT P w) 1 "_law_sum" zac (bO K gx))(yE:Fn P w K mg base (aT P w) 1 "_law_times" zac (bO K ku)):
  Fn P w K mg base (aT P w) 2 "_law_stored" zai (rY K):=by
 refine D.op dF fun f bZ A outer s H vs Q E hr h=>?_
 obtain ⟨bA,gA,tA,ws,kG,kT,pins,bars,Go,T,N,rfl,hb,pb,lb,hg,ng,pg,ht,hT,lN,q⟩:=h
 have L2:2<=aaD:=by decide
 have lw:ws.length=bars.length:=aaK pb
 refine ⟨_,(aa (aF (i:=3) dF.nd (aS (aG af af)))
  (aa (bg aaG rfl (a_ (pv 0)) (bN (i:=4) dF.nd) (aa (aF (i:=5) dF.nd (b6 (bw hr) (pv 2) (aC (pv 4)) (fun _ _=>rfl)))
   (aa (aF (i:=6) dF.nd (iQ (bw hr) (pv 1) (aC (pv 4)) (aS (aG af af)) ⟨rfl,rfl,rfl,rfl⟩))
   (ag (aF (i:=3) dF.nd (aJ lR hr (aG (pv 3) (aJ yE hr (aG (aJ yE hr (aG (pv 5) (pv 5))) (aS (aG (aC (pv 6)) (aw bQ af (aC (pv 6))))))))))))))
  (ag (ay (pv 3))))),?_⟩
 refine ⟨L2,?_⟩
 intro t1 n1;generalize eX:upd _ t1 _=H1;have ⟨s1,e1⟩:=nw n1 eX
 have t0:iu K H1 (.ref t1) (1+0*(2*N+40)) (cY (bars.take 0) Go T):=by
  rw [afG]
  exact ⟨(0,1),⟨t1,rfl,bM.of e1⟩,by decide,(show vl ((0,1):Int×Int)=0 by decide+kernel),by decide,by decide⟩
 refine ⟨_,rfl,bA,rfl,⟨_,aR.of (s1 _ _ hb)⟩,bI (K:=K) (a:=bA) (xs:=ws) (fun i σ H'=>HX fun (tv:V) (o4 o5 o6:ω)=>σ=[some (.ref bA),some (.ref gA),some (.ref tA),some tv,o4,o5,o6]/\ao H H'/\iu K H' tv (1+i*(2*N+40)) (cY (bars.take i) Go T)) ⟨.ref t1,none,none,none,rfl,s1,t0⟩ (fun i σ H' _ h=>by
   obtain ⟨_,_,_,_,_,s,_⟩:=h
   exact aR.of (s _ _ hb)) ?_ ?_⟩
 ·rintro i u σ H2 hu ⟨tv,o4,o5,o6,rfl,s2,nt⟩
  have hi:=(ir.mp hu).1
  obtain ⟨b,eb,KY⟩:=aE pb hu
  have mb:b∈bars:=aam eb
  obtain ⟨ta,j1,j2,rfl,h1,_⟩:=KY
  obtain ⟨pv,epv,npv⟩:=hT b mb
  have dg:cG H2 tA (.str b.nm) (some pv):=by
   have:=cG.k (k:=.inr b.nm) (s2 _ _ ht)
   rw [epv] at this
   exact this
  refine ⟨_,rfl,_,rfl,ta,_,_,_,rfl,rfl,Ty.ao.ck s2 h1,cg,tA,pv,rfl,dg,_,rfl,gA,rfl,.inl ⟨_,.inl (s2 _ _ hg)⟩,_,rfl,ta,_,_,_,rfl,rfl,Ty.ao.ck s2 h1,cg,L2,?_⟩
  intro p3 n3;generalize eX:upd _ p3 _=H3;have ⟨s3,e3⟩:=nw n3 eX
  have xr:=s2.trans s3
  have gk:iS K H3 ((bF kG (.inr b.nm)).getD (.ref p3)) (qr (gR Go b.nm)):=by
   rw [<-jk]
   exact (ng.same xr).AO (x:=b.nm) (v:=.ref p3) (q:=(1,1)) ⟨p3,rfl,bM.of e3⟩
  refine ⟨_,cG.k (k:=.inr b.nm) (xr _ _ hg),?_⟩
  generalize (bF kG (.inr b.nm)).getD (.ref p3)=gv at gk ⊢
  obtain ⟨ga,rfl,hga⟩:=gk
  have gp:=pg b.nm
  have gz:=gp.2
  have gt:=BS gp.1
  have gv:=dy (gR Go b.nm)
  have gb:=cA (gR Go b.nm)
  have z1:=gz.top
  have z2:=gz.bot
  generalize qr (gR Go b.nm)=g at hga gt gv gb z1 z2
  have np3:=npv.same xr
  refine ⟨_,rfl,_,rfl,_,rfl,?_⟩
  show bO K ku [_,_] _ _ E0
  refine j_ np3 np3 (by omega) fun p4 H4 s4 n4=>?_
  have hg4:=Ty.ao.ck s4 hga
  refine ⟨_,rfl,ga,_,_,_,rfl,rfl,hg4,gX,_,rfl,ga,_,_,_,rfl,rfl,hg4,ie,_,_,rfl,rfl,⟨by decide,aav z1 (by decide)⟩,L2,?_⟩
  intro p5 n5;generalize eX:upd _ p5 _=H5;have ⟨s5,e5⟩:=nw n5 eX
  have w1:=intBits_le_iff.mp z1
  have w2:=intBits_le_iff.mp z2
  have n5':iu K H5 (.ref p5) 33 (1 / (2*gR Go b.nm)):=⟨(g.2,2*g.1),⟨p5,rfl,bM.of e5⟩,by show 0<2*g.1;omega,?_,by show g.2.natAbs<=8589934592;omega,by show (2*g.1).natAbs<=8589934592;omega⟩
  ·show bO K ku [_,_] _ _ E0
   refine j_ (n4.same s5) n5' (by omega) fun p6 H6 s6 n6=>?_
   show bO K gx [_,_] _ _ E0
   have NG:=s4.trans (s5.trans s6)
   have bt:i*(2*N+40)<=6*(2*N+40):=adz _ (by omega)
   refine ix ((nt.same s3).same NG) n6 (by omega) fun p7 H7 s7 n7=>?_
   have ew:cY (bars.take (i+1)) Go T=cY (bars.take i) Go T+T b.nm*T b.nm*(1 / (2*gR Go b.nm)):=by
    unfold cY
    rw [take_snoc eb,ads,afO,aau,adM,adw,ad5]
    grind
   exact ⟨_,_,_,_,rfl,xr.trans (NG.trans s7),by rw [ew];exact n7.up (by rw [aec];omega)⟩
  rw [<-gv]
  unfold vl
  have z1:((g.1:Int):Rat)≠0:=cQ (adE gt)
  have z2:((g.2:Int):Rat)≠0:=cQ (adE gb)
  push_cast
  grind
 ·rintro σ H2 ⟨tv,o4,o5,o6,rfl,s2,nt⟩
  rw [lw,adH] at nt
  have bt:bars.length*(2*N+40)<=7*(2*N+40):=adz _ lb
  exact ⟨_,rfl,q tv H2 s2 (nt.up (by omega))⟩
theorem oW (hg:∀x,0<gR Go x):∀{bars:τ},(∀b∈bars,T b.nm=gR Go b.nm*fk M b)->cY bars Go T+cY bars Go T=(bars.map fun b=>T b.nm*fk M b).sum
 | [],_=>by
  show (0:Rat)+0=0
  grind
 | b::bs,h=>by
  have ih:=oW hg fun b' hb=>h b' (aaw _ hb)
  have e:=h b adk
  have z:gR Go b.nm≠0:=fun z=>aaM (hg b.nm) (by rw [z];exact agF)
  unfold cY at ih ⊢
  rw [aau,aau,adw,adw,<-ih]
  have:T b.nm*T b.nm*(1 / (2*gR Go b.nm))+T b.nm*T b.nm*(1 / (2*gR Go b.nm))=T b.nm*fk M b:=by
   rw [e]
   grind
  grind
theorem oX (hg:∀x,0<gR Go x):∀{bars:τ},(∀b∈bars,T b.nm=gR Go b.nm*fk M b)->cY bars Go T+cY bars Go (fun x=>D x+ -T x)+(bars.map fun b=>D b.nm*fk M b).sum=cY bars Go D+(bars.map fun b=>T b.nm*fk M b).sum
 | [],_=>by
  show (0:Rat)+0+0=0+0
  grind
 | b::bs,h=>by
  have ih:=oX (D:=D) hg fun b' hb=>h b' (aaw _ hb)
  have e:=h b adk
  have z:gR Go b.nm≠0:=fun z=>aaM (hg b.nm) (by rw [z];exact agF)
  unfold cY at ih ⊢
  rw [aau,aau,aau,aau,aau,adw,adw,adw,adw,adw]
  have:T b.nm*T b.nm*(1 / (2*gR Go b.nm))+(D b.nm+ -T b.nm)*(D b.nm+ -T b.nm)*(1 / (2*gR Go b.nm))+D b.nm*fk M b=D b.nm*D b.nm*(1 / (2*gR Go b.nm))+T b.nm*fk M b:=by
   rw [e]
   grind
  grind
theorem N4 (h:lW G Pl):∀xs:List Str,vl (kF G Pl xs)=(xs.map fun x=>vl (eQ Pl x)*vl (eQ Pl x) / vl (fE G x)).sum:=by
 have:∀(n:Nat)(xs:ς),xs.length=n->vl (kF G Pl xs)=(xs.map fun x=>vl (eQ Pl x)*vl (eQ Pl x) / vl (fE G x)).sum:=by
  intro n
  induction n with
  | zero=>
   intro xs e
   obtain rfl:=ae_.mp e
   show vl ((0,1):Int×Int)=0
   decide+kernel
  | succ n ih=>
   intro xs e
   have ne:xs≠[]:=by intro z;subst z;cases e
   have e1:xs=xs.dropLast++[xs.getLast ne]:=(agc ne).symm
   have l1:xs.dropLast.length=n:=by rw [amk];omega
   have k:=ih xs.dropLast l1
   have o:=h.sum n xs.dropLast l1
   generalize xs.getLast ne=x at e1
   rw [e1,lX,VM o.pos (h.st x).pos,k,ads,afO,aau,adM,adw,ad5]
   unfold stQ
   rw [Rl (wo (h.p x) (h.p x)).pos (h.g x).pos (adE (h.gp x)),VN (h.p x).pos (h.p x).pos]
   grind
 exact fun xs=>this _ xs rfl
theorem N5 (h:0<q.2):oV q (2,1)=qr (vl q / 2):=by
 unfold oV
 rw [fP (by show q.2*2≠0;omega)]
 congr 1
 unfold vl
 have z:((q.2:Int):Rat)≠0:=cQ (adE h)
 push_cast
 grind
theorem fZ:av ["_law_script","_law_pins_here","_law_bars_here","_law_frame_here","_law_grips_here","_law_drawn","_law_load","_law_told","_law_more","_law_bar","_law_least","_law_beyond","_law_other"] ["_law_script"] (ae mz):=sq
theorem VO (F:qG K "law" "law" mz f fd)(bf:mg "isinstance"=none)(gF:mg "tuple"=none)(aZ:mg "len"=none)
  (agW:Fn P w K mg base (aT P w) 35 "_law_pins" zay (v7 K)) (agX:Fn P w K mg base (aT P w) 3 "_law_bars" zas (v9 K)) (agY:Fn P w K mg base (aT P w) 4 "_law_frame" zaq (rL K C))
  (yN:Fn P w K mg base (aT P w) 34 "_law_grips" zau (rQ K)) (yO:Fn P w K mg base (aT P w) 34 "_law_pulls" zan (rR K)) (wz:Fn P w K mg base (aT P w) 2 "_law_pushes" zao (oq K))
  (tK:Fn P w K mg base (aT P w) 34 "_law_load_by" zaa (wj K)) (Ks:Fn P w K mg base (aT P w) 40 "bend_of" zaI (BW K C)) (agZ:Fn P w K mg base (aT P w) 35 "_law_are_forces" zaa (CD K)) (ag0:Fn P w K mg base (aT P w) 35 "_law_is_motion" zat (NX K))
  (lR:Fn P w K mg base (aT P w) 1 "_law_sum" zac (bO K gx)) (NT:Fn P w K mg base (aT P w) 1 "_law_turned" zaC (iy K)) (mW:Fn P w K mg base (aT P w) 2 "_law_stored" zai (rY K)) (ag1:Fn P w K mg base (aT P w) 3 "_law_work" zaz (CH K)) (rZ:Fn P w K mg base (aT P w) 1 "_law_same" zac (wd K))
  (yP:Fn P w K mg base (aT P w) 35 "stored_of" zaG (rX K C)) (CG:Fn P w K mg base (aT P w) 34 "_law_number" zaQ (jS K)):
  dm P w K mg base (aT P w) 42 f fd ["_law_script"] (LX K):=by
 refine F.okG fZ (fun vs H Q E h=>?_) (fun bZ A outer s H vs Q E hr h=>?_)
 ·obtain ⟨a,ns,rfl,_⟩:=h
  rfl
 obtain ⟨sA,ns,rfl,hS,hn,hb,q⟩:=h
 refine ⟨_,(aa (aF (i:=1) fZ.nd (aJ agW hr (aG (pv 0) af)))
  (aa (aF (i:=2) fZ.nd (aJ agX hr (aG (pv 0) (pv 1))))
  (aa (aF (i:=3) fZ.nd (aJ agY hr (aG (pv 1) (pv 2))))
  (aa (aF (i:=4) fZ.nd (aJ yN hr (aG (pv 0) (pv 2))))
  (aa (aF (i:=5) fZ.nd (aJ yO hr (bK (pv 0) (pv 2) af)))
  (aa (aF (i:=6) fZ.nd (aJ tK hr (sM (pv 1) (bK (pv 2) (pv 5) (aJ wz hr (bK (pv 0) (pv 1) af))))))
  (aa (aF (i:=7) fZ.nd (aJ Ks hr (bK (pv 3) (pv 4) (pv 6))))
  (aa (bq (PW.pt (jx (eO (dJ (aI f9 rfl bf cj (aG (pv 7) (mj rfl gF vg))))) (jx (bx ma (aI aH rfl aZ cz (a9 (pv 7))) af) (iz (bx ma (aC (pv 7)) gi))))) (ag (ay gL)) aL)
  (aa (bq (PW.pt (jx (eO (dJ (aJ agZ hr (sM (pv 1) (bK (pv 2) (aC (pv 7)) (aC (pv 7))))))) (iz (eO (dJ (aJ ag0 hr (aG (pv 1) (aC (pv 7))))))))) (ag (ay gL)) aL)
  (aa (aF (i:=8) fZ.nd cL)
  (aa (bg aaG rfl (a_ (pv 2)) (bN (i:=9) fZ.nd) (ag (cE (bw hr) (pv 8) (aC (pv 9)) (aJ lR hr (aG (b6 (bw hr) (pv 5) (aC (pv 9)) (fun _ _=>rfl)) (aJ NT hr (a9 (b6 (bw hr) (aC (pv 7)) (aC (pv 9)) (fun _ _=>rfl)))))) rfl)))
  (aa (aF (i:=10) fZ.nd (aJ mW hr (bK (pv 2) (pv 4) (aC (pv 7)))))
  (aa (aF (i:=11) fZ.nd (aJ mW hr (bK (pv 2) (pv 4) (pv 8))))
  (aa (bq (eO (dJ (aJ rZ hr (aG (aJ ag1 hr (aG (pv 6) (aC (pv 7)))) (aJ lR hr (aG (pv 10) (pv 10))))))) (ag (ay gL)) aL)
  (aa (aF (i:=12) fZ.nd (aJ yP hr (bK (pv 3) (pv 4) (pv 5))))
  (ag (ay (Lr (aJ CG hr (a9 (pv 12))) (Lq (aJ rZ hr (aG (pv 12) (aJ lR hr (aG (pv 10) (pv 11)))))))))))))))))))))))),?_⟩
 refine ⟨_,rfl,sA,ns,4,rfl,hS,fun lP us pins H1 s1 nP eP pp gp lp=>?_⟩
 have lu:us.length=pins.length:=aaK pp
 refine ⟨_,rfl,_,rfl,sA,lP,ns,us,pins,rfl,s1.seq hS,eP,lu,gp.np,by omega,fun lB vs bars H2 s2 nB eB pb gb lb=>?_⟩
 have pp2:Paired (jP K H2) us pins:=Paired.cF pp fun _ _ z=>z.same s2
 have eP2:=s2 _ _ eP
 refine ⟨_,rfl,_,rfl,lP,lB,us,vs,pins,bars,rfl,eP2,pp2,eB,pb,gp,gb,by omega,by omega,fun fA H3 s3 R=>?_⟩
 have g:=Z9 gp gb (by omega) (by omega)
 have OE:VI K H3 lP lB us vs pins bars:=⟨s3 _ _ eP2,Paired.cF pp2 fun _ _ z=>z.same s3,gp,s3 _ _ eB,Paired.cF pb fun _ _ z=>z.same s3,fun b hb=>(gb.ends b hb).2.2,by omega,by omega⟩
 have xr:=s1.trans (s2.trans s3)
 refine ⟨_,rfl,_,rfl,sA,lB,ns,vs,pins,bars,rfl,xr.seq hS,OE.hb,OE.pb,by omega,fun gA kG Go H4 nG g4=>?_⟩
 have s4:=g4.s
 have WK:=OE.same s4
 have OO:=xr.trans s4
 refine ⟨_,rfl,_,rfl,sA,lB,20,ns,vs,pins,bars,rfl,OO.seq hS,WK.hb,WK.pb,by omega,gb.nb,by decide,by decide,fun dA kD D H5 s5 nD di zD=>?_⟩
 have SN:=WK.same s5
 have ON:=OO.trans s5
 refine ⟨_,rfl,_,rfl,_,rfl,_,rfl,_,rfl,sA,lP,28,ns,us,pins,rfl,ON.seq hS,SN.hp,SN.pp,gp,by omega,by decide,by decide,fun uA kU U0 H6 s6 nU du lU zU=>?_⟩
 have fr6:=SN.same s6
 have Tv:=di.same (fun _ _ z=>z.same s6) s6
 have fo:LFo K H6 dA uA kD kU pins bars D U0 11:=⟨Tv.hd,fun b hb=>by
  obtain ⟨v,a,c⟩:=Tv.tv b hb
  exact ⟨v,a,fY c (iY (zD b hb) (aa_ _))⟩,du.hd,fun p hp=>by
  obtain ⟨v,a,la,ys,rfl,b,c⟩:=du.tv p hp
  exact ⟨la,ys,a,b,oh (aaK c) fun i u e=>by
   obtain ⟨r,er,h⟩:=aE c e
   exact ⟨r,er,fY h (iY (zU p hp r (aam er)) (aa_ _))⟩⟩,lU,by decide⟩
 refine ⟨lP,lB,dA,uA,us,vs,kD,kU,pins,bars,D,U0,11,rfl,fr6,fo,g,zD,zU,fun lA kL L H7 s7 ld ll Tw=>?_⟩
 have s37:=s4.trans (s5.trans (s6.trans s7))
 have g7:=g4.same (s5.trans (s6.trans s7))
 have R7:=R.same s37
 refine ⟨_,rfl,_,rfl,_,rfl,fA,gA,lA,pins,bars,kG,kL,Go,L,rfl,R7,g,lp,by omega,g7.hd,g7.nm,g7.ks,g7.ps,ld.hd,ld.pt,ld.sz,ld.ks,fun M p dM kM H' _ _ _ mo wk=>(Np g Tw mo wk).elim,fun T U Lx M p dT dU dM kT kU kM H8 s8 ep PR MR hw hT rest zT zV zM=>?_⟩
 have WM:=bM.of (K:=K) ep
 refine ⟨_,rfl,_,_,_,true,rfl,rfl,.tup ep,aao,_,rfl,bu (fun c=>nomatch c) (fun _=>?_)⟩
 refine ⟨_,rfl,p,_,rfl,.inr WM,rfl,_,rfl,DK rfl ?_⟩
 refine ⟨_,rfl,p,_,_,_,rfl,rfl,WM,cg,rfl,_,rfl,DK rfl ?_⟩
 have fr8:=fr6.same (s7.trans s8)
 have pl:Rh K H8 pins bars dT dU kT kU T U 1600000:=⟨PR.hT,PR.hU,PR.Km,PR.Kn,PR.tT,fun p hp=>by
  obtain ⟨vs,a,_,b,c⟩:=PR.tU p hp
  exact ⟨_,vs,a,b,c⟩,PR.lU,fun b hb=>iY (zT b hb) (aa_ _),fun p hp u hu=>iY (zV p hp u hu) (by decide)⟩
 refine ⟨_,rfl,_,rfl,_,rfl,p,_,_,_,rfl,rfl,WM,rfl,_,rfl,p,_,_,_,rfl,rfl,WM,rfl,lP,lB,dT,dU,us,vs,pins,bars,kT,kU,T,U,1600000,rfl,fr8,pl,fun H9 s9=>?_⟩
 refine ⟨_,rfl,bu (fun c=>nomatch c) (fun _=>?_)⟩
 have fr9:=fr8.same s9
 have mo8:Ts K H8 pins dM kM M 400000:=⟨MR.hM,MR.keys,MR.tM,fun p hp=>⟨iY (zM p hp).1 (aa_ _),iY (zM p hp).2 (aa_ _)⟩,by decide⟩
 refine ⟨_,rfl,_,rfl,p,_,_,_,rfl,rfl,Ty.ao.ck s9 WM,rfl,lP,dM,us,pins,kM,M,400000,rfl,fr9.hp,fr9.pp,by omega,mo8.same s9,fun Ha sa=>?_⟩
 refine ⟨_,rfl,bu (fun c=>nomatch c) (fun _=>?_)⟩
 have Rm:=s9.trans sa
 intro mA nM;generalize eX:upd _ mA _=Hb;have ⟨vj,WC⟩:=nw nM eX
 have s8b:=Rm.trans vj
 have sab:ao H6 Ha:=s7.trans (s8.trans Rm)
 have s0a:ao H Ha:=ON.trans (s6.trans sab)
 have diA:=Tv.same (fun _ _ z=>z.same sab) sab
 have plA:=pl.same Rm
 have frA:=fr6.same sab
 have spA:bM K Ha p _:=Ty.ao.ck Rm WM
 refine ⟨_,rfl,lB,rfl,⟨_,aR.of (vj _ _ frA.hb)⟩,bI (K:=K) (a:=lB) (xs:=vs) (fun i σ H'=>EI fun (o9:ω) (kX:γ)=>σ=[some (.ref sA),some (.ref lP),some (.ref lB),some (.ref fA),some (.ref gA),some (.ref dA),some (.ref lA),some (.ref p),some (.ref mA),o9,none,none,none]/\ao Ha H'/\zN H' mA kX (·.nm) (bars.take i) (fun H v b=>iu K H v 1600012 (D b.nm+ -T b.nm))) ⟨none,[],rfl,vj,WC,by simp,fun x hx=>by simp at hx⟩ (fun i σ H' _ h=>by
   obtain ⟨_,_,_,s,_⟩:=h
   exact aR.of (s _ _ frA.hb)) ?_ ?_⟩
 ·rintro i u σ Hc hu ⟨o9,kX,rfl,sc,dx⟩
  have hi:=(ir.mp hu).1
  obtain ⟨b,eb,KY⟩:=aE frA.pb hu
  have mb:b∈bars:=aam eb
  obtain ⟨ta,j1,j2,rfl,h1,_⟩:=KY.same sc
  obtain ⟨v1,dg1,m1⟩:=(diA.same (fun _ _ z=>z.same sc) sc).get mb
  obtain ⟨v2,dg2,m2⟩:=(plA.same sc).aap mb
  refine ⟨_,rfl,_,rfl,ta,_,_,_,rfl,rfl,h1,cg,dA,v1,rfl,dg1,_,rfl,p,_,_,_,rfl,rfl,Ty.ao.ck sc spA,rfl,_,rfl,ta,_,_,_,rfl,rfl,h1,cg,dT,v2,rfl,dg2,rH (fY m2 (pl.zT b mb)) fun p4 H4 s4 n4=>?_⟩
  show bO K gx [_,_] _ _ E0
  refine ix ((fY m1 (iY (zD b mb) (aa_ _))).same s4) n4 (by decide) fun p5 H5 s5 n5=>?_
  have KU:=s4.trans s5
  have d5:=dx.same (fun _ _ z=>z.same KU) KU
  have lk:=d5.len
  rw [adm] at lk
  have t5:=jm (k':=putK kX (.inr b.nm) (.ref p5)) d5.hd
  exact ⟨_,rfl,_,rfl,ta,_,_,_,rfl,rfl,Ty.ao.ck KU h1,cg,mA,_,rfl,gP.k (k:=.inr b.nm) d5.hd (ac_ (show kX.length<=1000 by omega) (by decide)),_,_,rfl,fun b o z=>(by rw [aj (ak z nM)];exact KU _ _ (sc _ _ z)),d5.put gb.nb eb (fun _ _ z=>z.aK t5) (n5.up (by decide))⟩
 rintro σ Hc ⟨o9,kX,rfl,sc,dx⟩
 have lv:vs.length=bars.length:=aaK frA.pb
 rw [lv,adH] at dx
 have frC:=frA.same sc
 have gc:=g7.same (s8.trans (Rm.trans sc))
 have plC:=plA.same sc
 have dC:=diA.same (fun _ _ z=>z.same sc) sc
 have spC:=Ty.ao.ck sc spA
 refine ⟨_,rfl,_,rfl,_,rfl,p,_,_,_,rfl,rfl,spC,rfl,lB,gA,dT,vs,kG,kT,pins,bars,Go,T,1600000,rfl,frC.hb,frC.pb,lb,gc.hd,gc.nm,gc.ps,plC.hT,(fun b hb=>by
  obtain ⟨v,a,c⟩:=plC.tT b hb
  exact ⟨v,a,fY c (pl.zT b hb)⟩),by decide,fun vl1 Hd sd nl=>?_⟩
 have frD:=frC.same sd
 have gd:=gc.same sd
 have dxd:=dx.same (fun _ _ z=>z.same sd) sd
 refine ⟨_,rfl,_,rfl,_,rfl,lB,gA,mA,vs,kG,kX,pins,bars,Go,fun x=>D x+ -T x,1600012,rfl,frD.hb,frD.pb,lb,gd.hd,gd.nm,gd.ps,dxd.hd,dxd.tv,by decide,fun vl2 He se nb=>?_⟩
 have sae:ao Ha He:=sc.trans (sd.trans se)
 have ldE:=ld.same (s8.trans (Rm.trans sae))
 have moE:=mo8.same (Rm.trans sae)
 have nlE:=nl.same se
 refine ⟨_,rfl,_,rfl,p,_,_,_,rfl,rfl,Ty.ao.ck sae spA,rfl,lA,dM,kL,kM,pins,L,M,400000,rfl,ldE,gp.np,moE,fun z=>(by have:=MR.nM;rw [z,ld.hd] at this;cases this),ll,by decide,fun wv Hf sf nw'=>?_⟩
 refine ⟨_,rfl,_,rfl,?_⟩
 show bO K gx [_,_] _ _ E0
 refine ix (nlE.same sf) (nlE.same sf) (by decide) fun p6 Hg sg n6=>?_
 have Rn:∀x,0<gR Go x:=fun x=>(g4.ps x).1
 have w1:=Vp g rest hw
 have w2:=Vp g Tw hw
 rw [oW Rn hT,<-w1] at n6
 refine ⟨_,_,_,_,_,rfl,nw'.same sg,n6,by decide,_,rfl,bu (fun c=>nomatch c) (fun _=>?_)⟩
 have sag:ao Ha Hg:=sae.trans (sf.trans sg)
 have R9:=R7.same (s8.trans (Rm.trans sag))
 obtain ⟨dx',pP,pW,pB,kP,kW,kB,F1,W1⟩:=R9.ex
 have QY:=qj bars
 have gg:=g7.same (s8.trans (Rm.trans sag))
 have dG:=diA.same (fun _ _ z=>z.same sag) sag
 have ppD:xo K Hg kD fun x=>if x∈bars.map (·.nm) then some (qr (D x)) else none:=fun x=>by
  by_cases c:x∈bars.map (·.nm)
  ·obtain ⟨b,mb,rfl⟩:=aat.mp c
   obtain ⟨v,a,h⟩:=dG.tv b mb
   exact .inr ⟨v,_,a,aaC c,h⟩
  ·refine .inl ⟨bP (fun z=>c ?_),aaA c⟩
   rw [dG.ky] at z
   obtain ⟨b,mb,e⟩:=aat.mp z
   exact aat.mpr ⟨b,mb,by injection e⟩
 have pD:∀b∈bars,eQ (fun x=>if x∈bars.map (·.nm) then some (qr (D x)) else none) b.nm=qr (D b.nm):=fun b hb=>by
  show (if b.nm∈bars.map (·.nm) then some (qr (D b.nm)) else none).getD (0,1)=_
  rw [aaC (aat.mpr ⟨b,hb,rfl⟩)]
  rfl
 have gd':lW (fun y=>(Go y).map qr) fun x=>if x∈bars.map (·.nm) then some (qr (D x)) else none:=⟨fun x=>by
  rw [jk]
  exact (jJ (g4.ps x).2).up (by decide),fun x=>by
  rw [jk]
  exact BS (Rn x),fun x=>by
  by_cases c:x∈bars.map (·.nm)
  ·obtain ⟨b,mb,rfl⟩:=aat.mp c
   rw [pD b mb]
   exact (jJ (zD b mb)).up (by decide)
  ·show mB 40 ((if x∈bars.map (·.nm) then some (qr (D x)) else none).getD (0,1))
   rw [aaA c]
   exact N0.up (by decide)⟩
 refine ⟨_,rfl,_,rfl,_,rfl,fA,dx',pP,pW,pB,gA,dA,_,_,kP,kW,kB,kG,kD,_,_,rfl,F1,gg.hd,gg.nm,dG.hd,ppD,(by rw [QY];exact gg.ks),(by rw [be];omega),(by rw [QY];exact gb.nb),gd',fun p7 Hh sh e7=>?_⟩
 rw [QY] at e7
 have o7:=(yM (gd'.sum bars.length (bars.map (·.nm)) (by rw [be])) (⟨by decide,by decide,by decide⟩:mB 2 ((2,1):Int×Int)) (by decide)).up (show _<=4000 by omega)
 rw [N5 (gd'.sum _ _ rfl).pos,N4 gd'] at e7 o7
 have eD:((bars.map (·.nm)).map fun x=>vl (eQ (fun x=>if x∈bars.map (·.nm) then some (qr (D x)) else none) x)*vl (eQ (fun x=>if x∈bars.map (·.nm) then some (qr (D x)) else none) x) / vl (fE (fun y=>(Go y).map qr) x)).sum / 2=cY bars Go D:=by
  have:((bars.map (·.nm)).map fun x=>vl (eQ (fun x=>if x∈bars.map (·.nm) then some (qr (D x)) else none) x)*vl (eQ (fun x=>if x∈bars.map (·.nm) then some (qr (D x)) else none) x) / vl (fE (fun y=>(Go y).map qr) x))=bars.map fun b=>2*(D b.nm*D b.nm*(1 / (2*gR Go b.nm))):=by
   rw [adu]
   refine adp fun b hb=>?_
   show vl (eQ _ b.nm)*vl (eQ _ b.nm) / vl (fE _ b.nm)=_
   rw [pD b hb,jk,dy,dy]
   have z:gR Go b.nm≠0:=fun z=>aaM (Rn b.nm) (by rw [z];exact agF)
   grind
  rw [this,qm]
  unfold cY
  grind
 rw [eD] at e7 o7
 have n7:cZ K Hh (.ref p7) (cY bars Go D):=iZ e7
 have z7:iu K Hh (.ref p7) 4000 (cY bars Go D):=fY n7 (iY ⟨o7.top,o7.bot⟩ (aa_ _))
 refine ⟨_,rfl,_,_,rfl,n7,fun Hi si=>⟨_,rfl,aeL ?_⟩⟩
 have sei:=sf.trans (sg.trans (sh.trans si))
 refine ⟨_,rfl,_,rfl,_,rfl,?_⟩
 show bO K gx [_,_] _ _ E0
 refine ix (nlE.same sei) (nb.same sei) (by decide) fun p8 Hj sj n8=>?_
 have es:=oX (D:=D) Rn hT
 rw [<-w1,<-w2] at es
 have W9 :cY bars Go T+cY bars Go (fun x=>D x+ -T x)=cY bars Go D:=by grind
 rw [W9] at n8
 exact ⟨_,_,_,_,_,rfl,(z7.same si).same sj,n8,by decide,q _⟩
end
theorem all_mk {l:PySem.W.OpenLaw}{w:World}{K:Frag}{h:Heap}{mg:θ}{fa:aaz}(X:K.In h)(G:h.Ns aaN mg)(hfa:mg "law"=some (.ref fa))
  (N6:HXx K "sum_of" gW) (ag7:HXx K "difference_of" AX) (wA:HXx K "product_of" dh) (tO:HXx K "quotient_of" cO) (aha:HXx K "lowest_terms" yn) (ahe:HXx K "greatest_shared" HZ) (r8:HXx K "lengthenings" cX) (ahi:HXx K "arm_between" H_) (ahm:HXx K "pair_difference" AY) (so:HXx K "pair_product" cB) (ahq:HXx K "pair_row" IA) (ahu:HXx K "load_row" IC) (wG:HXx K "check_bars" dW) (ahy:HXx K "bar_row" ID) (ahC:HXx K "draw_rows" IE) (ahG:HXx K "pulls_and_pushes" IF) (ahK:HXx K "motion_from" IG) (ahO:HXx K "signs_turned" IH) (ahS:HXx K "solve_rows" II) (ahW:HXx K "turned" IJ) (ah0:HXx K "whole_row" IK) (ah4:HXx K "solution_of" IL) (ah8:HXx K "reduced" IM) (aib:HXx K "first_not_nought" IP) (aif:HXx K "cleared" IQ) (aik:HXx K "divided" IS) (Kv:HXx K "bend_of" gJ) (yR:HXx K "stored_of" eY) (yV:HXx K "all_grips" eZ) (Kz:HXx K "gripped" gK) (yZ:HXx K "bend_rows" e_) (wN:HXx K "stiff_rows" dX) (aio:HXx K "_law_cell_at" IT) (ais:HXx K "_law_field" IU) (aiw:HXx K "_law_lowest" IV) (aiA:HXx K "_law_sum" IW) (aiE:HXx K "_law_times" IX) (aiI:HXx K "_law_turned" IY) (CL:HXx K "_law_same" fQ) (aiM:HXx K "_law_name" AZ) (aiQ:HXx K "_law_number" IZ) (aiU:HXx K "_law_spot" I_) (aiY:HXx K "_law_ways" JA) (ai2:HXx K "_law_pins" JB) (ai6:HXx K "_law_bars" JC) (ai':HXx K "_law_frame" JD) (ajd:HXx K "_law_arm" JE) (ajh:HXx K "_law_add" JF) (ajl:HXx K "_law_forces" JG) (ajp:HXx K "_law_are_forces" JH) (ajt:HXx K "_law_is_motion" JI) (ajx:HXx K "_law_dot" JJ) (ajB:HXx K "_law_work" JK) (za:HXx K "_law_grips" fe) (zi:HXx K "_law_pulls" ff) (wX:HXx K "_law_pushes" dY) (tY:HXx K "_law_load_by" dD) (w6:HXx K "_law_stored" dZ) (abQ:nsIn K aaN "law"=some (some (.ref TL))) (abR:K.lookup TL=some ⟨ajF,ajG,.func (fnOf "law" "law" (au mz) (aq mz) (ae mz) .none V6 V7 V8 V9 Ot V_),ajH⟩) (abS:codeIn K Ot "law"=true) (abT:keepIn K (.ref TL)=true) (ajI:nsIn K aaN "MOST_PINS"=some (some (.int 24 atR))) (ajJ:nsIn K aaN "MOST_BARS"=some (some (.int 60 atU))) (ajK:nsIn K aaN "NOUGHT"=some (some (.ref V'))) (ajL:K.lookup V'=some ⟨.type "tuple",atV,.seq #[.int 0 ajM,.int 1 ajN] atW,atX⟩) (ajO:nsIn K aaN "ONE"=some (some (.ref Wa))) (ajP:K.lookup Wa=some ⟨.type "tuple",atY,.seq #[.int 1 ajQ,.int 1 ajR] atZ,at3⟩) (ajS:nsIn K aaN "NO_MOVE"=some (some (.ref Wb))) (ajT:K.lookup Wb=some ⟨.type "tuple",at4,.seq #[.ref abU,.ref abV] at5,at6⟩) (ajU:K.lookup abU=some ⟨.type "tuple",at7,.seq #[.int 0 ajV,.int 1 ajW] at8,at9⟩) (ajX:K.lookup abV=some ⟨.type "tuple",aua,.seq #[.int 0 ajY,.int 1 ajZ] aub,auc⟩) (xc:nsIn K aaN "ValueError"=some none) (abW:nsIn K aaN "abs"=some none) (abX:nsIn K aaN "all"=some none) (abY:nsIn K aaN "any"=some none) (Wc:nsIn K aaN "bool"=some none) (Wd:nsIn K aaN "dict"=some none) (zu:nsIn K aaN "enumerate"=some none) (abZ:nsIn K aaN "int"=some none) (xf:nsIn K aaN "isinstance"=some none) (ab0:nsIn K aaN "len"=some none) (We:nsIn K aaN "list"=some none) (ab1:nsIn K aaN "min"=some none) (Sj:nsIn K aaN "range"=some none) (ab2:nsIn K aaN "str"=some none) (Sk:nsIn K aaN "tuple"=some none) (ab3:nsIn K aaN "zip"=some none) (aj0:nsIn K aaN "YardError"=some (some (.ref aj1))) (CP:nsIn K aaN "NoNumber"=some (some (.ref CQ))) (aj2:nsIn K aaN "NoWay"=some (some (.ref aj3))) (aj4:nsIn K aaN "PinThere"=some (some (.ref aj5))) (aj6:nsIn K aaN "SpotTaken"=some (some (.ref aj7))) (aj8:nsIn K aaN "NoPin"=some (some (.ref aj9))) (aj':nsIn K aaN "BarThere"=some (some (.ref aka))) (akb:nsIn K aaN "NoBar"=some (some (.ref akc))) (akd:nsIn K aaN "NoLength"=some (some (.ref ake))) (akf:nsIn K aaN "TooMany"=some (some (.ref akg))) (Ou:nsIn K aaN "NoGrip"=some (some (.ref Ov))) (akh:nsIn K aaN "Frame"=some (some (.ref bW))) (aki:nsIn K aaN "Hold"=some (some (.ref pR))) (akj:nsIn K aaN "Roller"=some (some (.ref kz))) (akk:nsIn K aaN "Fixed"=some (some (.ref oy))) (ab4:abm K bW Str.empty=true) (ab5:abt K bW=true) (ab6:abF K bW=true) (ab7:aaR K (.ref bW) "__setattr__"=some (some (.builtin "object.__setattr__"))) (ab8:abo K bW=true) (ab9:keepIn K (.ref bW)=true) (ab':HXy K bW "__init__" "Frame.__init__" JL) (akn:aaR K (.ref bW) "put_pin"=some (some (.ref Sl))) (ako:ahh K (.ref Sl)=true) (akp:K.lookup Sl=some ⟨aum,aun,.func (fnOf "put_pin" "Frame.put_pin" (au pI) (aq pI) (ae pI) (.ref Ox) TM TN TQ TR Oy TU),auo⟩) (ace:K.lookup Ox=some ⟨aup,akq,.seq #[.none] auq,akr⟩) (aks:codeIn K Oy "Frame.put_pin"=true) (acf:keepIn K (.ref Sl)=true) (akt:HXy K bW "put_bar" "Frame.put_bar" JM) (aky:HXy K bW "check_bar" "Frame.check_bar" JN) (akC:HXy K bW "check_pin" "Frame.check_pin" JO) (akG:HXy K bW "pins" "Frame.pins" JP) (akK:HXy K bW "bars" "Frame.bars" JQ) (akO:HXy K bW "place" "Frame.place" JR) (akS:HXy K bW "ways" "Frame.ways" JS) (akW:HXy K bW "ends" "Frame.ends" JT) (acy:abm K pR Str.empty=true) (acz:abt K pR=true) (acA:abF K pR=true) (acB:aaR K (.ref pR) "__setattr__"=some (some (.builtin "object.__setattr__"))) (acC:abo K pR=true) (acD:keepIn K (.ref pR)=true) (acE:aaR K (.ref pR) "__init__"=some (some (.builtin "object.__init__"))) (ak0:HXy K pR "ways" "Hold.ways" QF) (acH:abm K kz Str.empty=true) (acI:abt K kz=true) (acJ:abF K kz=true) (acK:aaR K (.ref kz) "__setattr__"=some (some (.builtin "object.__setattr__"))) (acL:abo K kz=true) (acM:keepIn K (.ref kz)=true) (acN:HXy K kz "__init__" "Roller.__init__" JU) (ak6:HXy K kz "ways" "Roller.ways" JV) (acT:abm K oy Str.empty=true) (acU:abt K oy=true) (acV:abF K oy=true) (acW:aaR K (.ref oy) "__setattr__"=some (some (.builtin "object.__setattr__"))) (acX:abo K oy=true) (acY:keepIn K (.ref oy)=true) (acZ:aaR K (.ref oy) "__init__"=some (some (.builtin "object.__init__"))) (ak':HXy K oy "ways" "Fixed.ways" JW) (OA:aaR K (.ref bW) "pin_places"=some none) (Wf:aaR K (.ref bW) "pin_ways"=some none) (Wg:aaR K (.ref bW) "bar_ends"=some none) (TV:aaR K (.ref kz) "way"=some none) (ht:l.prog.given.tree=none):
  ∃fd:FuncData,(∀(s:aaH)(v:Value),BindsTo s fd ⟨[v],[]⟩ [("_law_script",v)])/\∀base:Heap,K.In base->base.Ns aaN mg->dm l.prog w K mg base (aT l.prog w) 42 fa fd ["_law_script"] (LX K):=by
 have e:=hfa.symm.trans (mg_of X G abQ)
 cases e
 obtain ⟨ab',aca,akl,akm,acd⟩:=ab'
 obtain ⟨akt,akv,akw,akx,ach⟩:=akt
 obtain ⟨aky,akz,akA,akB,acj⟩:=aky
 obtain ⟨akC,akD,akE,akF,acm⟩:=akC
 obtain ⟨akG,akH,akI,akJ,aco⟩:=akG
 obtain ⟨akK,akL,akM,akN,acq⟩:=akK
 obtain ⟨akO,akP,akQ,akR,acs⟩:=akO
 obtain ⟨akS,akT,akU,akV,acv⟩:=akS
 obtain ⟨akW,akX,akY,akZ,acx⟩:=akW
 obtain ⟨ak0,ak1,ak2,ak3,acG⟩:=ak0
 obtain ⟨acN,acO,ak4,ak5,acQ⟩:=acN
 obtain ⟨ak6,ak7,ak8,ak9,acS⟩:=ak6
 obtain ⟨ak',ala,alb,alc,ac1⟩:=ak'
 have OB:Def K mg _ _ ["one","other"]:=fH X G N6
 have ald:Def K mg _ _ ["one","other"]:=fH X G ag7
 have xg:Def K mg _ _ ["one","other"]:=fH X G wA
 have uc:Def K mg _ _ ["one","other"]:=fH X G tO
 have ale:Def K mg _ _ ["top","bottom"]:=fH X G aha
 have alf:Def K mg _ _ ["one","other"]:=fH X G ahe
 have sI:Def K mg _ _ ["F","motion"]:=fH X G r8
 have alg:Def K mg _ _ ["F","one","other"]:=fH X G ahi
 have alh:Def K mg _ _ ["one","other"]:=fH X G ahm
 have sJ:Def K mg _ _ ["one","other"]:=fH X G so
 have ali:Def K mg _ _ ["F","draws"]:=fH X G ahq
 have alj:Def K mg _ _ ["F","load"]:=fH X G ahu
 have xh:Def K mg _ _ ["F","told"]:=fH X G wG
 have alk:Def K mg _ _ ["F","one","other"]:=fH X G ahy
 have alm:Def K mg _ _ ["F"]:=fH X G ahC
 have aln:Def K mg _ _ ["F","numbers"]:=fH X G ahG
 have alo:Def K mg _ _ ["F","numbers"]:=fH X G ahK
 have alp:Def K mg _ _ ["numbers"]:=fH X G ahO
 have alq:Def K mg _ _ ["rows","due","many"]:=fH X G ahS
 have alr:Def K mg _ _ ["rows","many"]:=fH X G ahW
 have als:Def K mg _ _ ["row"]:=fH X G ah0
 have alu:Def K mg _ _ ["lines","many"]:=fH X G ah4
 have alv:Def K mg _ _ ["lines","many"]:=fH X G ah8
 have alw:Def K mg _ _ ["lines","column"]:=fH X G aib
 have alx:Def K mg _ _ ["line","lead","column"]:=fH X G aif
 have aly:Def K mg _ _ ["line"]:=fH X G aik
 have KG:Def K mg _ _ ["F","grips","load"]:=fH X G Kv
 have zv:Def K mg _ _ ["F","grips","pulls"]:=fH X G yR
 have zA:Def K mg _ _ ["F","grips"]:=fH X G yV
 have KH:Def K mg _ _ ["firm","longer"]:=fH X G Kz
 have zB:Def K mg _ _ ["F","firm"]:=fH X G yZ
 have xi:Def K mg _ _ ["F","firm","bar_rows"]:=fH X G wN
 have alz:Def K mg _ _ ["_law_script","_law_k"]:=fH X G aio
 have alA:Def K mg _ _ ["_law_cell","_law_prime","_law_many"]:=fH X G ais
 have alB:Def K mg _ _ ["_law_top","_law_bottom"]:=fH X G aiw
 have alC:Def K mg _ _ ["_law_one","_law_other"]:=fH X G aiA
 have alD:Def K mg _ _ ["_law_one","_law_other"]:=fH X G aiE
 have alE:Def K mg _ _ ["_law_one"]:=fH X G aiI
 have CS:Def K mg _ _ ["_law_one","_law_other"]:=fH X G CL
 have alF:Def K mg _ _ ["_law_cell","_law_k"]:=fH X G aiM
 have alG:Def K mg _ _ ["_law_x"]:=fH X G aiQ
 have alH:Def K mg _ _ ["_law_cell","_law_kind"]:=fH X G aiU
 have alI:Def K mg _ _ ["_law_cell"]:=fH X G aiY
 have alJ:Def K mg _ _ ["_law_script","_law_most"]:=fH X G ai2
 have alK:Def K mg _ _ ["_law_script","_law_pins_here"]:=fH X G ai6
 have alL:Def K mg _ _ ["_law_pins_here","_law_bars_here"]:=fH X G ai'
 have alM:Def K mg _ _ ["_law_pins_here","_law_bar","_law_axis"]:=fH X G ajd
 have alN:Def K mg _ _ ["_law_found","_law_k","_law_axis","_law_draw"]:=fH X G ajh
 have alO:Def K mg _ _ ["_law_pins_here","_law_bars_here","_law_pulls_here","_law_pushes_here"]:=fH X G ajl
 have alP:Def K mg _ _ ["_law_pins_here","_law_bars_here","_law_pulls_here","_law_pushes_here"]:=fH X G ajp
 have alQ:Def K mg _ _ ["_law_pins_here","_law_motion"]:=fH X G ajt
 have alR:Def K mg _ _ ["_law_one","_law_other"]:=fH X G ajx
 have alS:Def K mg _ _ ["_law_load","_law_motion"]:=fH X G ajB
 have zC:Def K mg _ _ ["_law_script","_law_bars_here"]:=fH X G za
 have zE:Def K mg _ _ ["_law_script","_law_bars_here","_law_start"]:=fH X G zi
 have xj:Def K mg _ _ ["_law_script","_law_pins_here","_law_start"]:=fH X G wX
 have ud:Def K mg _ _ ["_law_pins_here","_law_bars_here","_law_pulls_here","_law_pushes_here"]:=fH X G tY
 have xk:Def K mg _ _ ["_law_bars_here","_law_grips_here","_law_pulls_here"]:=fH X G w6
 have g6:xB K bW:=⟨ab4,ab5,ab6,ab7⟩
 have VA:Mk K bW _:=⟨ab8,ab',aca,ab9⟩
 have ac2:=d9 (st:=JL) akl akm acd
 have VC:=ac2.HY (ps:=["self"])
 have az3:Meth K bW "__init__" _:=⟨ab',aca,acd⟩
 have alT:=Qr (st:=pI) akp aks acf
 have alU:Binds K (fnOf "put_pin" "Frame.put_pin" (au pI) (aq pI) (ae pI) (.ref Ox) TM TN TQ TR Oy TU) ["self","name","x","y","hold"] []:=fun s us X hl=>by obtain ⟨a,b,c,d,e,rfl⟩:=bl5 (P:=fun us=>∃a b c d e,us=[a,b,c,d,e]) (fun a b c d e=>⟨a,b,c,d,e,rfl⟩) us (by simpa using hl);exact BindsTo.of_defaults rfl (X _ _ ace) rfl rfl rfl
 have ac3:Binds K (fnOf "put_pin" "Frame.put_pin" (au pI) (aq pI) (ae pI) (.ref Ox) TM TN TQ TR Oy TU) ["self","name","x","y","hold"] [.none]:=fun s us X hl=>by obtain ⟨a,b,c,d,rfl⟩:=bl4 (P:=fun us=>∃a b c d,us=[a,b,c,d]) (fun a b c d=>⟨a,b,c,d,rfl⟩) us (by simpa using hl);exact BindsTo.of_defaults rfl (X _ _ ace) rfl rfl rfl
 have ac4:Meth K bW "put_pin" Sl:=⟨akn,ako,acf⟩
 have ac5:=d9 (st:=JM) akw akx ach
 have alV:=ac5.HY (ps:=["self","name","one","other"])
 have alW:Meth K bW "put_bar" _:=⟨akt,akv,ach⟩
 have ac6:=d9 (st:=JN) akA akB acj
 have alX:=ac6.HY (ps:=["self","name","one","other"])
 have alY:Meth K bW "check_bar" _:=⟨aky,akz,acj⟩
 have ac7:=d9 (st:=JO) akE akF acm
 have alZ:=ac7.HY (ps:=["self","pin"])
 have al0:Meth K bW "check_pin" _:=⟨akC,akD,acm⟩
 have ac8:=d9 (st:=JP) akI akJ aco
 have al1:=ac8.HY (ps:=["self"])
 have al2:Meth K bW "pins" _:=⟨akG,akH,aco⟩
 have ac9:=d9 (st:=JQ) akM akN acq
 have al3:=ac9.HY (ps:=["self"])
 have al4:Meth K bW "bars" _:=⟨akK,akL,acq⟩
 have ac':=d9 (st:=JR) akQ akR acs
 have al5:=ac'.HY (ps:=["self","pin"])
 have al6:Meth K bW "place" _:=⟨akO,akP,acs⟩
 have ada:=d9 (st:=JS) akU akV acv
 have al7:=ada.HY (ps:=["self","pin"])
 have al8:Meth K bW "ways" _:=⟨akS,akT,acv⟩
 have adb:=d9 (st:=JT) akY akZ acx
 have al9:=adb.HY (ps:=["self","bar"])
 have al':Meth K bW "ends" _:=⟨akW,akX,acx⟩
 have cls_cm:xB K pR:=⟨acy,acz,acA,acB⟩
 have az4:XN K pR:=⟨acC,acE,acD⟩
 have ama:=d9 (st:=QF) ak2 ak3 acG
 have az5:=ama.HY (ps:=["self"])
 have az6:Meth K pR "ways" _:=⟨ak0,ak1,acG⟩
 have CT:xB K kz:=⟨acH,acI,acJ,acK⟩
 have VG:Mk K kz _:=⟨acL,acN,acO,acM⟩
 have ade:=d9 (st:=JU) ak4 ak5 acQ
 have VH:=ade.HY (ps:=["self","x","y"])
 have az7:Meth K kz "__init__" _:=⟨acN,acO,acQ⟩
 have adf:=d9 (st:=JV) ak8 ak9 acS
 have amb:=adf.HY (ps:=["self"])
 have amc:Meth K kz "ways" _:=⟨ak6,ak7,acS⟩
 have Wh:xB K oy:=⟨acT,acU,acV,acW⟩
 have VF:XN K oy:=⟨acX,acZ,acY⟩
 have adg:=d9 (st:=JW) alb alc ac1
 have amd:=adg.HY (ps:=["self"])
 have ame:Meth K oy "ways" _:=⟨ak',ala,ac1⟩
 have Ve:=mg_of X G ajI
 have Vf:=mg_of X G ajJ
 have jI:mg "NOUGHT"=some (.ref V'):=mg_of X G ajK
 have Vq:mg "ONE"=some (.ref Wa):=mg_of X G ajO
 have BD:mg "NO_MOVE"=some (.ref Wb):=mg_of X G ajS
 have az8:mg "YardError"=some (.ref aj1):=mg_of X G aj0
 have Wi:mg "NoNumber"=some (.ref CQ):=mg_of X G CP
 have az9:mg "NoWay"=some (.ref aj3):=mg_of X G aj2
 have az':mg "PinThere"=some (.ref aj5):=mg_of X G aj4
 have aAa:mg "SpotTaken"=some (.ref aj7):=mg_of X G aj6
 have aAb:mg "NoPin"=some (.ref aj9):=mg_of X G aj8
 have aAc:mg "BarThere"=some (.ref aka):=mg_of X G aj'
 have aAd:mg "NoBar"=some (.ref akc):=mg_of X G akb
 have aAe:mg "NoLength"=some (.ref ake):=mg_of X G akd
 have aAf:mg "TooMany"=some (.ref akg):=mg_of X G akf
 have adh:mg "NoGrip"=some (.ref Ov):=mg_of X G Ou
 have VB:mg "Frame"=some (.ref bW):=mg_of X G akh
 have aAg:mg "Hold"=some (.ref pR):=mg_of X G aki
 have VD:mg "Roller"=some (.ref kz):=mg_of X G akj
 have VE:mg "Fixed"=some (.ref oy):=mg_of X G akk
 have SD:mg "ValueError"=none:=mg_none_of X G xc
 have uM:mg "abs"=none:=mg_none_of X G abW
 have FQ:mg "all"=none:=mg_none_of X G abX
 have M3:mg "any"=none:=mg_none_of X G abY
 have CB:mg "bool"=none:=mg_none_of X G Wc
 have iF:mg "dict"=none:=mg_none_of X G Wd
 have fh:mg "enumerate"=none:=mg_none_of X G zu
 have NW:mg "int"=none:=mg_none_of X G abZ
 have bf:mg "isinstance"=none:=mg_none_of X G xf
 have aZ:mg "len"=none:=mg_none_of X G ab0
 have cC:mg "list"=none:=mg_none_of X G We
 have NO:mg "min"=none:=mg_none_of X G ab1
 have bh:mg "range"=none:=mg_none_of X G Sj
 have NJ:mg "str"=none:=mg_none_of X G ab2
 have gF:mg "tuple"=none:=mg_none_of X G Sk
 have gy:mg "zip"=none:=mg_none_of X G ab3
 have F:=d9 (st:=mz) abR abS abT
 refine ⟨fnOf "law" "law" (au mz) (aq mz) (ae mz) .none V6 V7 V8 V9 Ot V_,fun s v=>.of_eq rfl,fun base _ _=>?_⟩
 have hM:pH (aT l.prog w):=aT.AH
 have hN:∀H:Hp,bM K H V' [.int 0,.int 1]:=fun H=>.inr ⟨_,_,_,ajL,rfl,rfl,z2L,.cons ⟨_,rfl⟩ (.cons ⟨_,rfl⟩ .nil)⟩
 have hO:∀H:Hp,bM K H Wa [.int 1,.int 1]:=fun H=>.inr ⟨_,_,_,ajP,rfl,rfl,z2L,.cons ⟨_,rfl⟩ (.cons ⟨_,rfl⟩ .nil)⟩
 have nm:∀{c:aaz} {o:Κ} {k0 k1:Tok} {n:Nat} {sl:Ξ},K.lookup c=some ⟨.type "tuple",o,.seq #[.int 0 k0,.int 1 k1] n,sl⟩->∀H:Hp,cZ K H (.ref c) 0:=fun t H=>⟨_,rfl,by rw [dE];exact .inr ⟨_,_,_,t,rfl,rfl,z2L,.cons ⟨_,rfl⟩ (.cons ⟨_,rfl⟩ .nil)⟩⟩
 have hMo:∀H:Hp,gu K H (.ref Wb) (0,0):=fun H=>⟨_,.ref abU,.ref abV,rfl,.inr ⟨_,_,_,ajT,rfl,rfl,z2L,.cons rfl (.cons rfl .nil)⟩,nm ajU H,nm ajX H⟩
 have fc:Mr K bW:=⟨g6,OA,Wf,Wg⟩
 have G1:=Yy (P:=l.prog) (w:=w) (base:=base) (CX:=aT l.prog w) alf uM
 have G2:=Yz ht ale G1
 have GW:=YB als G1
 have GDv:=YC ht aly G1
 have GCl:=YD ht alx gy G1 GDv
 have GF:=YE (P:=l.prog) (w:=w) (base:=base) alw fh
 have GR:=YF alv bh cC GF GCl
 have GS:=YL hN jI alu M3 GR G2
 have GTn:=YN (P:=l.prog) (w:=w) (base:=base) alr bh
 have amf:=YO alq gy aZ GW GS (M_ GTn) G2
 have KS:=J' hM OB G2
 have KM:=tu hM xg G2
 have RS:=Va KS
 have RM:=Vc KM
 have GD:=Vb (Y1 hM ald G2)
 have GPD:=Y3 hM alh GD
 have GPd:=pK hM sJ RS RM
 have GI:=Y7 (P:=l.prog) (w:=w) (mg:=mg) (base:=base) ac2 fc
 have WW:bJ l.prog w K mg base (aT l.prog w) 1 bW "bars" ["self"] (ja K bW):=⟨_,_,g6,al4,Y9 ac9 fc cC,al3⟩
 have WX:bJ l.prog w K mg base (aT l.prog w) 1 bW "pins" ["self"] (jb K bW):=⟨_,_,g6,al2,Y' ac8 fc cC,al1⟩
 have MCp:bJ l.prog w K mg base (aT l.prog w) 1 bW "check_pin" ["self","pin"] (fT K bW):=⟨_,_,g6,al0,Zc ac7 fc,alZ⟩
 have MCb:bJ l.prog w K mg base (aT l.prog w) 2 bW "check_bar" ["self","name","one","other"] (jc K bW):=⟨_,_,g6,alY,Zs ac6 fc Vf aZ MCp,alX⟩
 have MPb:bJ l.prog w K mg base (aT l.prog w) 3 bW "put_bar" ["self","name","one","other"] (mM K bW):=⟨_,_,g6,alW,Zu ac5 fc MCb,alV⟩
 have okP:=Zq (P:=l.prog) (w:=w) (mg:=mg) (base:=base) alT fc Ve aZ cC
 have MPp:bJ l.prog w K mg base (aT l.prog w) 3 bW "put_pin" ["self","name","x","y","hold"] (fU l.prog w K mg base bW):=⟨_,_,g6,ac4,okP,alU⟩
 have MPd:AN l.prog w K mg base (aT l.prog w) 3 bW "put_pin" ["self","name","x","y","hold"] [.none] (fU l.prog w K mg base bW):=⟨_,_,g6,ac4,okP,ac3⟩
 have MPl:bJ l.prog w K mg base (aT l.prog w) 2 bW "place" ["self","pin"] (qi K bW):=⟨_,_,g6,al6,Ze ac' fc MCp,al5⟩
 have ME:bJ l.prog w K mg base (aT l.prog w) 1 bW "ends" ["self","bar"] (rj K bW):=⟨_,_,g6,al',Zg adb fc,al9⟩
 have MW:bJ l.prog w K mg base (aT l.prog w) 2 bW "ways" ["self","pin"] (rl K bW):=⟨_,_,g6,al8,Zi ada fc cC MCp,al7⟩
 have wR:bJ l.prog w K mg base (aT l.prog w) 1 kz "ways" ["self"] (mK K kz):=⟨_,_,CT,amc,Zm adf CT TV,amb⟩
 have wF:bJ l.prog w K mg base (aT l.prog w) 1 oy "ways" ["self"] (mL K):=⟨_,_,Wh,ame,Zo adg,amd⟩
 have GRI:=Zk (P:=l.prog) (w:=w) (mg:=mg) (base:=base) ade CT TV
 have GA:=Zw alg MPl GPD
 have GPR:=Zx hMo BD ali WX
 have GBR:=ZA alk GA GPR
 have GDR:=ZC alm WX MW WW ME GPR GBR
 have GPP:=ZD aln aZ iF gy WX MW WW
 have GMF:=ZG alo fh WX
 have GLR:=Zy alj WX GPR
 have GCB:=tD xh WW
 have GAG:=vO hO Vq zA WW GCB
 have GLe:=pM hMo BD sI WW ME GA GPD GPd
 have GSt:=tF hN jI xi aZ bh gy WX RS RM
 have GSg:=ZI (P:=l.prog) (w:=w) (base:=base) alp
 have GBe:=vS hN jI zB aZ gy GDR GSt GTn GSg
 have GGr:=BO KH RM
 have GBo:=BX hN jI KG aZ GLR GAG GBe amf GMF GLe GGr GPP
 have GSo:=wu hN jI zv WW GAG KS KM (rV hM uc G2)
 have GC:=ZW (P:=l.prog) (w:=w) (base:=base) (CX:=aT l.prog w) alz aZ
 have TX:=ZY (P:=l.prog) (w:=w) (base:=base) (CX:=aT l.prog w) alA
 have WY:=ZZ (w:=w) (base:=base) ht alB uM
 have Wj:=Z1 (P:=l.prog) (w:=w) (base:=base) alC
 have GTi:=Z3 (P:=l.prog) (w:=w) (base:=base) alD
 have GTu:=Z5 (P:=l.prog) (w:=w) (base:=base) alE
 have GNa:=Z6 hM alF NJ TX
 have GSp:=Z7 alH TX WY
 have GWy:=Z8 alI TX WY
 have GPi:=aaa alJ bh NO GC TX GSp GWy GNa Wj
 have GBa:=aac alK bh aZ GC TX GNa
 have GFr:=aad alL aZ VA VB GI VC VD VE VF VG GRI VH (wR.mono (by decide)) (wF.mono (by decide)) MPb MPp MPd
 have GAr:=aag alM Wj GTu
 have GAd:=aak alN Wj
 have GFo:=aal alO aZ bh GTi GTu GAr GAd
 have GDo:=aai alR Wj GTi
 have GNu:=aan alG aZ bf NW CB gF WY
 have GAF:=aaq alP bf iF cC aZ FQ GNu
 have GIM:=aar alQ bf iF cC gF aZ GNu
 have GWo:=aas alS Wj GDo
 have GSa:=yJ (P:=l.prog) (w:=w) (base:=base) CS
 have GGp:=we zC aZ bh GC TX WY
 have GPl:=wg zE aZ bh GC TX WY
 have GPh:=tI xj aZ bh GC TX
 have GLB:=rS ud aZ bh GFo WY
 have GLs:=tJ xk Wj GTi
 exact VO F bf gF aZ GPi GBa GFr GGp GPl GPh GLB GBo GAF GIM Wj GTu GLs GWo GSa GSo GNu
end T_k64
open PySem PySem.W PyProof.Rows
set_option maxRecDepth 100000 in
set_option maxHeartbeats 0 in
theorem PySem.Challenge.cw_trussyard_k64_whole_least_stored_work_holds : PySem.Challenge.rw_trussyard_k64_whole_least_stored_work.Holds := by
 w_on;o_law;k_head;(case hw=>w_witness2)
 k_fill
 refine Ty.walk (l:=PySem.Challenge.rw_trussyard_k64_whole_least_stored_work) (x:="_law_script") (k:=42) (CX:=fun w=>Ty.aT (PySem.Challenge.rw_trussyard_k64_whole_least_stored_work).prog w) rfl rfl (by first | rfl | decide+kernel) ⟨rfl,by decide,by decide⟩ (fun w h Y=>PySem.W.kIn_of Y) (fun w=>Ty.aT.AH) ?F
 case F=>
  intro w mg fa h KX G XH
  refine' T_k64.all_mk KX G XH ⟨?A0,?A1,?A2,?A3⟩ ⟨?A4,?A5,?A6,?A7⟩ ⟨?A8,?A9,?Aa,?Ab⟩ ⟨?Ac,?Ad,?Ae,?Af⟩ ⟨?Ag,?Ah,?Ai,?Aj⟩ ⟨?Ak,?Al,?Am,?An⟩ ⟨?Ao,?Ap,?Aq,?Ar⟩ ⟨?As,?At,?Au,?Av⟩ ⟨?Aw,?Ax,?Ay,?Az⟩ ⟨?B0,?B1,?B2,?B3⟩ ⟨?B4,?B5,?B6,?B7⟩ ⟨?B8,?B9,?Ba,?Bb⟩ ⟨?Bc,?Bd,?Be,?Bf⟩ ⟨?Bg,?Bh,?Bi,?Bj⟩ ⟨?Bk,?Bl,?Bm,?Bn⟩ ⟨?Bo,?Bp,?Bq,?Br⟩ ⟨?Bs,?Bt,?Bu,?Bv⟩ ⟨?Bw,?Bx,?By,?Bz⟩ ⟨?C0,?C1,?C2,?C3⟩ ⟨?C4,?C5,?C6,?C7⟩ ⟨?C8,?C9,?Ca,?Cb⟩ ⟨?Cc,?Cd,?Ce,?Cf⟩ ⟨?Cg,?Ch,?Ci,?Cj⟩ ⟨?Ck,?Cl,?Cm,?Cn⟩ ⟨?Co,?Cp,?Cq,?Cr⟩ ⟨?Cs,?Ct,?Cu,?Cv⟩ ⟨?Cw,?Cx,?Cy,?Cz⟩ ⟨?D0,?D1,?D2,?D3⟩ ⟨?D4,?D5,?D6,?D7⟩ ⟨?D8,?D9,?Da,?Db⟩ ⟨?Dc,?Dd,?De,?Df⟩ ⟨?Dg,?Dh,?Di,?Dj⟩ ⟨?Dk,?Dl,?Dm,?Dn⟩ ⟨?Do,?Dp,?Dq,?Dr⟩ ⟨?Ds,?Dt,?Du,?Dv⟩ ⟨?Dw,?Dx,?Dy,?Dz⟩ ⟨?E0,?E1,?E2,?E3⟩ ⟨?E4,?E5,?E6,?E7⟩ ⟨?E8,?E9,?Ea,?Eb⟩ ⟨?Ec,?Ed,?Ee,?Ef⟩ ⟨?Eg,?Eh,?Ei,?Ej⟩ ⟨?Ek,?El,?Em,?En⟩ ⟨?Eo,?Ep,?Eq,?Er⟩ ⟨?Es,?Et,?Eu,?Ev⟩ ⟨?Ew,?Ex,?Ey,?Ez⟩ ⟨?F0,?F1,?F2,?F3⟩ ⟨?F4,?F5,?F6,?F7⟩ ⟨?F8,?F9,?Fa,?Fb⟩ ⟨?Fc,?Fd,?Fe,?Ff⟩ ⟨?Fg,?Fh,?Fi,?Fj⟩ ⟨?Fk,?Fl,?Fm,?Fn⟩ ⟨?Fo,?Fp,?Fq,?Fr⟩ ⟨?Fs,?Ft,?Fu,?Fv⟩ ⟨?Fw,?Fx,?Fy,?Fz⟩ ⟨?G0,?G1,?G2,?G3⟩ ⟨?G4,?G5,?G6,?G7⟩ ⟨?G8,?G9,?Ga,?Gb⟩ ⟨?Gc,?Gd,?Ge,?Gf⟩ ?Gg ?Gh ?Gi ?Gj ?Gk ?Gl ?Gm ?Gn ?Go ?Gp ?Gq ?Gr ?Gs ?Gt ?Gu ?Gv ?Gw ?Gx ?Gy ?Gz ?H0 ?H1 ?H2 ?H3 ?H4 ?H5 ?H6 ?H7 ?H8 ?H9 ?Ha ?Hb ?Hc ?Hd ?He ?Hf ?Hg ?Hh ?Hi ?Hj ?Hk ?Hl ?Hm ?Hn ?Ho ?Hp ?Hq ?Hr ?Hs ?Ht ?Hu ⟨?Hv,?Hw,?Hx,?Hy,?Hz⟩ ?I0 ?I1 ?I2 ?I3 ?I4 ?I5 ⟨?I6,?I7,?I8,?I9,?Ia⟩ ⟨?Ib,?Ic,?Id,?Ie,?If⟩ ⟨?Ig,?Ih,?Ii,?Ij,?Ik⟩ ⟨?Il,?Im,?In,?Io,?Ip⟩ ⟨?Iq,?Ir,?Is,?It,?Iu⟩ ⟨?Iv,?Iw,?Ix,?Iy,?Iz⟩ ⟨?J0,?J1,?J2,?J3,?J4⟩ ⟨?J5,?J6,?J7,?J8,?J9⟩ ?Ja ?Jb ?Jc ?Jd ?Je ?Jf ?Jg ⟨?Jh,?Ji,?Jj,?Jk,?Jl⟩ ?Jm ?Jn ?Jo ?Jp ?Jq ?Jr ⟨?Js,?Jt,?Ju,?Jv,?Jw⟩ ⟨?Jx,?Jy,?Jz,?K0,?K1⟩ ?K2 ?K3 ?K4 ?K5 ?K6 ?K7 ?K8 ⟨?K9,?Ka,?Kb,?Kc,?Kd⟩ ?Ke ?Kf ?Kg ?Kh ?Ki
  (case A0|A1|A2|A3|A4|A5|A6|A7|A8|A9|Aa|Ab|Ac|Ad|Ae|Af|Ag|Ah|Ai|Aj|Ak|Al|Am|An|Ao|Ap|Aq|Ar|As|At|Au|Av|Aw|Ax|Ay|Az|B0|B1|B2|B3|B4|B5|B6|B7|B8|B9|Ba|Bb|Bc|Bd|Be|Bf|Bg|Bh|Bi|Bj|Bk|Bl|Bm|Bn|Bo|Bp|Bq|Br|Bs|Bt|Bu|Bv|Bw|Bx|By|Bz|C0|C1|C2|C3|C4|C5|C6|C7|C8|C9|Ca|Cb|Cc|Cd|Ce|Cf|Cg|Ch|Ci|Cj|Ck|Cl|Cm|Cn|Co|Cp|Cq|Cr|Cs|Ct|Cu|Cv|Cw|Cx|Cy|Cz|D0|D1|D2|D3|D4|D5|D6|D7|D8|D9|Da|Db|Dc|Dd|De|Df|Dg|Dh|Di|Dj|Dk|Dl|Dm|Dn|Do|Dp|Dq|Dr|Ds|Dt|Du|Dv|Dw|Dx|Dy|Dz|E0|E1|E2|E3|E4|E5|E6|E7|E8|E9|Ea|Eb|Ec|Ed|Ee|Ef|Eg|Eh|Ei|Ej|Ek|El|Em|En|Eo|Ep|Eq|Er|Es|Et|Eu|Ev|Ew|Ex|Ey|Ez|F0|F1|F2|F3|F4|F5|F6|F7|F8|F9|Fa|Fb|Fc|Fd|Fe|Ff|Fg|Fh|Fi|Fj|Fk|Fl|Fm|Fn|Fo|Fp|Fq|Fr|Fs|Ft|Fu|Fv|Fw|Fx|Fy|Fz|G0|G1|G2|G3|G4|G5|G6|G7|G8|G9|Ga|Gb|Gc|Gd|Ge|Gf|Gg|Gh|Gi|Gj|Gk|Gl|Gm|Gn|Go|Gp|Gq|Gr|Gs|Gt|Gu|Gv|Gw|Gx|Gy|Gz|H0|H1|H2|H3|H4|H5|H6|H7|H8|H9|Ha|Hb|Hc|Hd|He|Hf|Hg|Hh|Hi|Hj|Hk|Hl|Hm|Hn|Ho|Hp|Hq|Hr|Hs|Ht|Hu|Hv|Hw|Hx|Hy|Hz|I0|I1|I2|I3|I4|I5|I6|I7|I8|I9|Ia|Ib|Ic|Id|Ie|If|Ig|Ih|Ii|Ij|Ik|Il|Im|In|Io|Ip|Iq|Ir|Is|It|Iu|Iv|Iw|Ix|Iy|Iz|J0|J1|J2|J3|J4|J5|J6|J7|J8|J9|Ja|Jb|Jc|Jd|Je|Jf|Jg|Jh|Ji|Jj|Jk|Jl|Jm|Jn|Jo|Jp|Jq|Jr|Js|Jt|Ju|Jv|Jw|Jx|Jy|Jz|K0|K1|K2|K3|K4|K5|K6|K7|K8|K9|Ka|Kb|Kc|Kd|Ke|Kf|Kg|Kh=>k_is);(case Ki=>rfl)
#print axioms PySem.Challenge.cw_trussyard_k64_whole_least_stored_work_holds
