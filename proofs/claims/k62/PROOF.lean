import PyProof.Rows.All
import Wide.All
import OpenK.AllK
import PySem.Challenge.RW_trussyard_k62_grips_refused
set_option Elab.async false
set_option linter.all false
set_option maxRecDepth 100000
set_option compiler.extract_closed false
def gE.{u}{Y:Type u}{l:List Y}(h:i < l.length):l[i]? =some l[i]:=List.getElem?_eq_getElem h
namespace PySem.W.Fast
def tw15315124436379469182:=()
def tw8242381808732762906:=()
def tw16621151566600202556:=()
def tw16411027724305376005:=()
def tw14876133375544207326:=()
def tw5721476679342740697:=()
def tw17912933116386732384:=()
def tw18400519454933021206:=()
def tw2876590579062348533:=()
def tw16817078211808748879:=()
def tw11911130160143061863:=()
def tw15887144403196676575:=()
def tw5617173049794207142:=()
def tw7710484651833256625:=()
def tw5750369144993766226:=()
def tw13908025781872144305:=()
def tw2268844930189140449:=()
def tw17914224732368556242:=()
def tw3201641786188603401:=()
def tw7303584448119193828:=()
def tw13008514605331331871:=()
def tw11259704930642654797:=()
def tw7342841131461042723:=()
def tw7156632987729206641:=()
def tw280212170325392459:=()
def tw16921112241906028413:=()
def tw16898317297852639494:=()
def tw2449215646288317253:=()
def tw9085455261200156546:=()
def tw7804088477908329157:=()
def tw5771544893143333560:=()
def tw2423291923102335077:=()
def tw17101939536552690061:=()
def tw8466844367211505946:=()
def tw2473363876733060742:=()
def tw1253259177269950267:=()
def tw12475229839278595906:=()
def tw2411819294046639548:=()
def tw7401422935730654864:=()
def tw10199017425796579547:=()
def tw14986279745612101766:=()
def tw10138162409705685499:=()
def tw993942396958840319:=()
def tw9273500466887335586:=()
def tw1603558829535700867:=()
def tw18443847937508078198:=()
def tw11654160405829640430:=()
def tw10619832037670676176:=()
def tw5429989372987094249:=()
def tw16067464680465169961:=()
def tw3754471566815542560:=()
def tw16583406990519666989:=()
def tw9978453563295453185:=()
def tw655404415294826053:=()
def tw3806520983470098537:=()
def tw1366665975686330492:=()
def tw14548165972579862285:=()
def tw11233307087430147086:=()
def tw697229001045604467:=()
def tw808068442794900555:=()
def tw1951517704419935363:=()
def tw10178132967477277548:=()
def tw13206207618370069988:=()
def tw13315329072742188066:=()
def tw5480559442601127188:=()
def tw12113129904948473773:=()
def tw2504991075497222219:=()
def tw18061386687757873284:=()
def tw13525740689078403517:=()
def tw15103649131382676111:=()
def tw9994996005857597653:=()
def tw4705173328399616869:=()
def tw18163293445045736057:=()
def tw340669076772707421:=()
def tw9596372675118478202:=()
def tw8408254306759323785:=()
def tw12049834378037524131:=()
def tw15005880612533796522:=()
def tw6593316785920586864:=()
def tw9273700657429250412:=()
def tw17290348776424247591:=()
def tw15682567060197742856:=()
def tw12496038463950320194:=()
def tw12115589569078648776:=()
def tw8455692624227769229:=()
def tw18244503259433780072:=()
def tw1780164174633883003:=()
def tw16706676932249182434:=()
def tw11417278217972968630:=()
def tw7557687522320516752:=()
def tw12267839351854846509:=()
def tw3746853207521363801:=()
def tw2767458376186886498:=()
def tw17984527249273355834:=()
def tw13173517691744337515:=()
def tw8066279020301496850:=()
def tw4204619779216988030:=()
def tw17132579314002725543:=()
def tw672917955730277600:=()
def tw16976827040222812400:=()
def tw11362296896923001364:=()
def tw9650585941651240609:=()
def tw6390606577465577507:=()
def tw5660183744221672791:=()
def tw3940478253644778838:=()
def tw13802855557005461909:=()
def tw11573946882352988497:=()
def tw7438182621667209471:=()
def tw5546872324727586899:=()
def tw2193216871919991511:=()
def tw10684709514735449849:=()
def tw9069371884902470436:=()
def tw4104796456106390884:=()
def tw1849799810156382564:=()
def tw10873047940261518961:=()
def tw2292482112163960880:=()
def tw7361571444839970372:=()
def tw192382761522213706:=()
def tw1845100168854247400:=()
def tw17982519492125628082:=()
def tw4090012690826427948:=()
def tw1877695837173072443:=()
def tw11464321757597152650:=()
def tw1114835248876522377:=()
def tw8871025233427701505:=()
def tw15133494742227545217:=()
def tw7143756759278460347:=()
def tw7466588950896963471:=()
def tw16261425632142844167:=()
def tw1500768556566856903:=()
def tw13351319487302261498:=()
def tw787082128108449350:=()
def tw12008611633267772246:=()
def tw1300869329214250965:=()
def tw10869476110861387473:=()
def tw5345136048038556417:=()
def tw13967749331302443186:=()
def tw12051932288314916741:=()
def tw8352702355518347807:=()
def tw3930638088270396819:=()
def tw6914984896344952838:=()
def tw4895897624354637942:=()
def tw504652471910259792:=()
def tw206507431376990892:=()
def tw12073161595583557885:=()
def tw388952800374821945:=()
def tw17319807706848745483:=()
def tw7770707191780835776:=()
def tw13488094217554013557:=()
def tw17504697668977139344:=()
def tw8855285685154210606:=()
def tw7852534762029893059:=()
def tw11672098787045252371:=()
def tw3016895815787850917:=()
def tw8322010422987904339:=()
def tw13321703964706784080:=()
def tw13387374096666508124:=()
def tw1461860769855575899:=()
def tw14271617881607366135:=()
def tw7995719373919685131:=()
def tw2331059090216088585:=()
def tw18100700717879446201:=()
def tw6576730647542002455:=()
def tw11847286930277426727:=()
def tw7148617263258019244:=()
def tw6364116732329325988:=()
def tw13023484305144959117:=()
def tw9474327549251653876:=()
def tw12234384637768845076:=()
def tw12993543588716193992:=()
def tw18063717447103853392:=()
def tw6246005837025770426:=()
def tw14493001576381925115:=()
def tw12557875870896255339:=()
def tw6551874566626343366:=()
def tw8774946395190959287:=()
def tw978910836838717624:=()
def tw7403718591294557017:=()
def tw15591855295806013305:=()
def tw615850200331517464:=()
def tw13183619066832225591:=()
def tw17326138331667219326:=()
def tw6598938619773263348:=()
def tw12681275776603214685:=()
def tw3928523014318869195:=()
def tw417521470290962960:=()
def tw15492763186152584293:=()
def tw2599922238749019434:=()
def tw8509779803291937228:=()
def tw17689005501534199561:=()
def tw1414289052292884238:=()
def tw8537371619915701338:=()
def tw5828636985205778653:=()
def tw15604087338662665512:=()
def tw8289462792485452118:=()
def tw14365741451614420971:=()
def tw17393854703807972111:=()
def tw106471596901197660:=()
def tw9719423255997518631:=()
def tw14737164647610259736:=()
def tw13998275487091828587:=()
def tw2262911505455702585:=()
def tw4203423693096222288:=()
def tw10308970421375662723:=()
def tw10009477583304809289:=()
def tw9737688842289614826:=()
def tw5563127827925058782:=()
def tw7619724452428071239:=()
def tw6065202516985666570:=()
def tw1608029225967287687:=()
def tw9319046281537223113:=()
def tw15704352227990546852:=()
def tw6300807796304904028:=()
def tw13330268615765720226:=()
def tw13514273733086181612:=()
def tw1177493327094893063:=()
def tw14830592923591241295:=()
def tw16648419402414276437:=()
def tw2058785134654354345:=()
def tw3952707233273045166:=()
def tw11481086208185235157:=()
def tw301445649608848656:=()
def tw18302780109795844057:=()
def tw895116887008666714:=()
def tw5307298093662724544:=()
def tw4762831819001908793:=()
def tw14303048536853033449:=()
def tw9141078447881152304:=()
def tw11721770672698799836:=()
def tw14483446314654592888:=()
def tw13469567924562960858:=()
def tw4233040533281525048:=()
def tw10135422351853871572:=()
def tw16670526824369204808:=()
def tw16286577360942699385:=()
def tw3537300574298597376:=()
def tw7702098030109114708:=()
def tw3762194878571030028:=()
def tw5439706472253048204:=()
def tw3304111768207623496:=()
def tw18301407970054016760:=()
def tw1650177224668589811:=()
def tw906801154858963182:=()
def tw6370074761601609018:=()
def tw12640007760042537365:=()
def tw17691850084383681466:=()
def tw5803615713402925508:=()
def tw1364651127497737003:=()
def tw12655998488937019639:=()
def tw18398677890897576857:=()
def tw14738757479777888559:=()
def tw13204478110160071098:=()
def tw4755188554621568883:=()
def tw11863962599880209994:=()
def tw5975873680370388342:=()
def tw7644855869631877846:=()
def tw3831018249793275553:=()
def tw3235406358539290335:=()
def tw454193151540743978:=()
def tw261448804883558527:=()
def tw17673165032958377864:=()
def tw18227566503482278175:=()
def tw5634901887649740077:=()
def tw3582282802393922948:=()
def tw3488217318572241428:=()
def tw4372251563446144688:=()
def tw12716359195656562852:=()
def tw5039232672981204714:=()
def tw1117590723695132970:=()
def tw15134631196547062024:=()
def tw6574071277008816738:=()
def tw16215295759585458666:=()
def tw8810855949016618327:=()
def tw13367936637833658750:=()
def tw17477980866669691599:=()
def tw7152528905384570301:=()
def tw631689566062560134:=()
def tw3419720020198531340:=()
def tw8775075796665107086:=()
def tw6033300742966168186:=()
def tw10328330097527838611:=()
def tw12168201179501208197:=()
def tw5779430168563008455:=()
def tw11261746540293893211:=()
def tw11831032711359620302:=()
def tw14977811893590186119:=()
def tw5795783972275330340:=()
def tw12690766733758543881:=()
def tw17443913187254465342:=()
def tw17146972654218573497:=()
def tw16993235193387229661:=()
def tw14391909665798966278:=()
def tw10445837260206161614:=()
def tw12635474166317409786:=()
def tw1171198271567800875:=()
def tw10214336745541108459:=()
def tw207494753273951995:=()
def tw9638946974884464530:=()
def tw13173526581166517244:=()
def tw15548606386741549824:=()
def tw3347162573138166180:=()
def tw14710823772696501717:=()
def tw9548708287798401438:=()
def tw9140834717843631282:=()
def tw1853765412445792410:=()
def tw11614668737413105689:=()
def tw5970726457102541650:=()
def tw12405944640529064665:=()
def tw3957279397821856049:=()
def tw16146843620110429732:=()
def tw1057373270212417440:=()
def tw1131489110576651176:=()
def tw6988364426769899583:=()
def tw2853882158993719069:=()
def tw14615905345026658143:=()
def tw12057117433668359454:=()
def tw7988196101662025041:=()
def tw15770752672976557067:=()
def tw11623010219772608646:=()
def tw12497146571796623651:=()
def tw16836016831856532749:=()
def tw10823978017945153092:=()
def tw4184692397147947669:=()
def tw771236861570090004:=()
def tw11703067620757962612:=()
def tw11362843205707475602:=()
def tw3255101608925425474:=()
def tw13582191948440018844:=()
def tw321104014624216420:=()
def tw13987920590381836980:=()
def tw14435870199266764473:=()
def tw17256795110250164538:=()
def tw5667352979950633473:=()
def tw17385862531478670107:=()
def tw3705506675437528696:=()
def tw972756033187894767:=()
def tw9674275953679263058:=()
def tw9587938583068778933:=()
def tw16828380370268064735:=()
def tw2353848193480963246:=()
def tw2982326068027918815:=()
def tw15158588450117032013:=()
def tw18088003999236263640:=()
def tw14520933747047445452:=()
def tw4190480776818243493:=()
def tw11281121988329770094:=()
def tw2067489999912358581:=()
def tw1993008918175073289:=()
def tw5025531626222307035:=()
def tw11956684480797758596:=()
def tw6676940664398603198:=()
def tw3327653050460112616:=()
def tw13904781171677245754:=()
def tw17216482249088005136:=()
def tw18150142196193691940:=()
def tw16296939997630883971:=()
def tw5237066270174108668:=()
def tw4301132193271068151:=()
def tw6060169320209406505:=()
def tw11323751246698773071:=()
def tw16488349380422792366:=()
def tw8839951984882824075:=()
def tw18111306586957053246:=()
def tw1813554753022774251:=()
def tw14923755913370184647:=()
def tw9638868882535725147:=()
def tw9273542191105099510:=()
def tw15537552509623679507:=()
def tw5874340269856596136:=()
def tw12610243649736932819:=()
def tw13439282921887810811:=()
def tw12944284258930232577:=()
def tw12006366527166487570:=()
def tw8056952168456431125:=()
def tw13081069886788729165:=()
def tw18331240791654753595:=()
def tw13274819088466280290:=()
def tw11222083330904423634:=()
def tw13041336981203708713:=()
def tw4838299176297963502:=()
def tw9919143974656750854:=()
def tw7505169812209890629:=()
def tw3022630857531937811:=()
def tw14264609622034693225:=()
def tw10954541608570590547:=()
def tw16752642436180184691:=()
def tw3125630886118482449:=()
def tw11429941864956284703:=()
def tw11570880390017730485:=()
def tw15114057894745984843:=()
def tw12713413742125511036:=()
def tw9700399445895785447:=()
def tw10918062609857362988:=()
def tw14011876420245378165:=()
def tw16288160021941128150:=()
def tw11841737521330183340:=()
end PySem.W.Fast
open Array renaming getElem?_eq_getElem->Rm, length_toList->ak', append_assoc->alf, toList->amY
open Bool renaming false_ne_true->MS, false_eq_true->uv, and_eq_true->uM, eq_iff_iff->sY, eq_false_iff->AH, and_false->LP, and_true->alc, or_false->amR
open Classical renaming byContradiction->vD, propDecidable->vc, not_imp->akL, not_forall->ak9
open Int renaming ne_of_gt->Nd, zero_add->Ow, gcd->MO, natAbs_mul->VS, gcd_dvd_right->tK, mul_comm->VR, natAbs_add_le->sZ, mul_pos->V7, gcd_dvd_left->tN, fmod_nonneg_of_pos->Rz, natAbs_dvd_natAbs->Rj, fdiv_eq_of_eq_mul_right->afS, toNat_of_nonneg->RH, toNat_natCast->Q4, mul_zero->σ8, mul_assoc->xw, mul_ne_zero->KQ, fmod_lt_of_pos->akC, mul_neg_of_pos_of_neg->akH, lt_trichotomy->akJ, mul_eq_zero->akZ, natAbs_neg->ak4, le_refl->LK, gcd_zero_right->alk, fmod_def->aln, emod_eq_of_lt->alw, gcd_mul_left->alQ, gcd_pos_iff->amc, dvd_coe_gcd->amq
open List renaming length_map->ir, getElem?_eq_some_iff->Wp, getElem?_map->BJ, mem_of_getElem?->DA, mem_map->CI, getElem?_eq_none->HX, mem_singleton->GZ, mem_cons_of_mem->HV, mem_append->FQ, length_append->IA, length_take->HQ, getElem?_of_mem->MF, mem_cons_self->LZ, map_cons->HU, replicate->L', getElem?_append_left->Nu, getD_eq_getElem?_getD->Oq, map_append->MX, getElem?_append_right->Qw, size_toArray->Ni, mem_append_left->OA, map_map->MI, mem_cons->M_, mem_append_right->Qv, take_length->Nq, take_add_one->Q0, take_of_length_le->SS, length_cons->Oy, getElem?_take_of_lt->VC, nodup_cons->Qd, filter_cons->Ru, getElem_mem->Rk, ext_getElem?->V0, lookup->Q3, getElem?_replicate->σ0, range->OF, mem_iff_getElem->Vy, append_nil->Sw, getElem?_set->VU, flatMap_cons->VW, length_replicate->σ1, nodup_append->Vw, length->Rg, length_filter_le->uf, zipWith->Ss, mem_range->VT, append_assoc->Wv, getElem?_inj->Wx, length_range->Ww, replicate_succ->vB, flatMap_append->uw, mem_flatMap->Wz, mem_filterMap->vC, getElem?_zipWith->AS, mem_filter->Wu, length_eraseIdx->AQ, mem_of_mem_eraseIdx->S0, getElem?_range->AK, length_drop->ue, length_pos_of_mem->Ry, getElem?_eraseIdx->Rf, find?_cons->rm, take_append_drop->Ri, nodup_nil->rj, mem_of_mem_take->Qt, any_eq_true->AF, getElem?_zip_eq_some->agv, filterMap_cons->Qr, map_congr_left->RI, any_cons->rE, length_eq_zero_iff->ag_, getElem?_set_self->ah_, flatten_cons->LB, getElem_take->KR, length_singleton->akm, map_take->xW, getElem?_set_ne->akp, forIn_cons->KP, map_nil->yE, lookup_append->akE, forIn_nil->LN, filter_append->akG, length_erase_of_mem->akN, cons_append->akP, filter_cons_of_pos->akQ, filter_cons_of_neg->akR, length_eraseIdx_le->akS, zipWith_cons_cons->akV, getElem_cons_drop->akW, of_mem_zip->akX, length_nil->akY, range_succ->ak0, eq_nil_or_concat->ak1, concat_eq_append->ak2, perm_append_comm->ak3, mem_erase_of_ne->ak7, take_succ_cons->ala, all_cons->alb, sum_cons->ald, map_drop->ale, forIn_toArray->ali, pairwise_cons->alj, mem_replicate->alm, foldl_append->alq, pairwise_map->alr, filter_congr->alx, getElem_inj->alE, lookup_cons->alV, nodup_range->alW, zipIdx_cons->al1, cons_ne_nil->al5, length_set->amb, sum_append->amd, length_zip->ame, zipIdx_nil->amo, foldl->amw, take_zero->amA
open List.Pairwise renaming map->akM
open Nat renaming le_trans->CT, le_refl->DH, lt_of_le_of_lt->GG, lt_of_lt_of_le->Mt, ne_of_lt->MV, pow_le_pow_right->Qn, mul_le_mul_right->RU, zero_le->Mu, lt_irrefl->QX, lt_succ_self->SY, le_of_lt->RF, mul_le_mul->SV, lt_succ_iff_lt_or_eq->vE, lt_succ_of_lt->Wy, not_lt_zero->Vx, ne_of_gt->V9, pow_lt_pow_right->AJ, add_mul->V5, le_succ->Vv, pow_succ->Wt, one_le_two_pow->RA, le_of_eq->ZQ, le_succ_of_le->LA, pow_add->σ6, min_eq_left->KJ, pow_le_pow_left->akx, add_comm->xP, mul_comm->xK, zero_mul->yD, le_of_not_lt->akO, min_self->LM, lt_trans->LL, one_mul->LQ, lt_trichotomy->alu, succ_le_succ->al6, two_pow_pos->amj
open Ne renaming symm->FN
open Option renaming map_eq_some_iff->GX, isSome_iff_exists->S1, map_some->rn, isSome_map->akK, getD_none->alF, none->anj
open Option.some renaming inj->MY
open Or renaming inl->RY, inr->WD
open Prod renaming ext->ZG, fst->anp, snd->anq
open Rat renaming intCast_mul->VD, intCast_le_intCast->akl, intCast_inj->KO, num_divInt_den->alh, divInt_eq_div->alp, add_zero->alv, intCast_add->amh, intCast_sub->amn
open Std.Legacy.Range renaming forIn_eq_forIn_range'->ak6, size->am'
open Sum renaming inr->GH, inl->VJ
open Sum.inl renaming inj->al9
open Sum.inr renaming inj->MQ
open PySem.W (Frag nsIn codeIn keepIn fnOf mg_of mg_none_of)
open PySem renaming wpAny_bind->AP, Addr->AO, wpAny_pure->B_, wpAny->AX, sizeLine->BZ, model->BD, Shared->BW, mainGlobals->FZ, starEach->DI, Program->FL, eval->DC, wpAny_mono->L_, Around->HL, bootBuiltins->Nf, wpAny_ite_false->OH, intBits_mul_le->QR, wpAny_holding->Ot, sysModules->Nr, compareOp->Nj, IsPair->MU, wpAny_field->Q7, backTo->MZ, codeAny->Nc, foldedSetIterable->VO, wpAny_Call_Name_kw->Vi, rawInt->Mv, attributeBase->V2, wpAny_call_entry->Vd, wpAny_seqItems->VL, excClassObj->Sf, codeAny_call_builtin->rC, wpAny_typeNameOfWhole_valiter->QO, binaryOp->RG, cLine->Nh, wpAny_setField_rec->p_, wpAny_passesOwn->Wj, wpAny_newObj_type->Zz, wpAny_dictEntries->Zv, swapsWith->Sg, wpAny_typeNameOf_valiter->QL, mem_of_lookup->yw, wpAny_getItem_str_slice->QK, wpAny_execs_nil->Zu, pyNext->RE, fresh->QG, IsZip->Nv, tupleKind_room_in1->yr, wpAny_nextOf_list_item->Qq, wpAny_loadPart_at->zZ, codeAny_mono->Wn, wpAny_isOneOf_valiter->Q_, assignEach->Vo, wpAny_call->Vn, wpAny_pyIter_zip->ym, intBits_le_of_natAbs->QC, behindInMarks->ZO, wpAny_standAt->Zm, sliceBounds->Wb, keywordEach->WJ, call_meetsIn->ZT, wpAny_truthy_bool->QD, wpAny_pyIter_list->QI, plainId_quiet->xI, checkBuiltinCall->KA, wpAny_isInstance->J_, holding->VI, Within->x8, letOwnedTupleGo->JM, isInstance->σ5, post_val_or_str->JL, wpAny_updateSeq->JJ, wpAny_dictEpoch->JZ, wpAny_loadPart->JW, recursionLimit->JV, wpAny_ite_true->JS, intBits_le_iff->JP, wpAny_fieldsOf->JO, sizeLine_eq->xD
open PySem.Heap renaming get?_push_of_some->FK, lt_size->FG, get?_push_size->MD, get?_update_other->S', size_push->RP, get?_update_self->Vj, SameBut->SO
open PySem.PassesOwn renaming never->HM, leaving->LR
open PySem.Paired renaming length->HR, snoc->ZL
open PySem.W renaming findIn->H_, emptyDict->RV, kitOne->Ou, instObj->RT, hasDictIn->V3, mroIn->Ra, plainGet->Vh, exmOne->VM, makesIn->Vl, callWith_K->rA, plainOver->Zy, methodCall_KW->Qj, clsIn->Zl, isFn->ZW, lookIn->JY, tailIn->JR
open PySem.Builtin.SmallTypes renaming ownedTupleIsFree->WA, nextOf->V'
open PyProof.Rows renaming callWith_type1->Vp, envOfC->Ng, AllBare->SR, kindOf->RK
open PySem.Str renaming ofString->Q8
open PySem.F renaming plainAttrs_list->Wg, slot_list_append->Zt, type_list_append->Zo, slot_zip_next->Vk, slot_dict_valueiterator_next->QU, slot_dict_items->LY, args_zip_next_1->LX, entry_zip_next->KC
open PySem.Calls renaming callWith_builtin->Zn, spliced_cons->Wf, spliced_nil->AB
open PySem.Builtin.List renaming listTooLong->z9, listExtendWith->QM
open PySem.Obj renaming mapSeq->V4, mapFields->Wh
open PySem.SeqAt renaming EqAt->WG
def lH.{u}{c:Prop}[Decidable c](a:¬c){Y:Sort u}{t e:Y}:ite c t e=e:=if_neg a
def mG.{u}{c:Prop}[Decidable c](a:c){Y:Sort u}{t e:Y}:ite c t e=t:=if_pos a
def CH{a b:Prop}(h:a)(n:¬a):b:=absurd h n
def Ms{p:Prop}[Decidable p](h:p):decide p=true:=decide_eq_true h
def Nl{p:Prop}[Decidable p](h:decide p=true):p:=of_decide_eq_true h
def ph.{u,v}{Y:Sort u}{β:Sort v}{a b:Y}(f:Y->β)(h:a=b):f a=f b:=congrArg f h
def Nt{p:Prop}[Decidable p](h:¬p):decide p=false:=decide_eq_false h
local macro_rules|`(tactic|show ⟨$xs,*⟩)=>`(tactic|refine ⟨$xs,*⟩)
theorem ci {p:Prop}(h:p:=by omega):p:=h
theorem cr {p:Prop}[Decidable p](h:decide p=true:=by rfl):p:=of_decide_eq_true h
theorem dL {p:Prop}(h:p:=by simp):p:=h
local macro_rules|`(tactic|erw [$r,*] at $h:ident)=>`(tactic|(rw [$r,*] at $h:ident;cases $h:ident))
local macro_rules|`(tactic|let $d:letDecl)=>`(tactic|have $d:letDecl)
namespace L2
open PySem PySem.Spec PyProof.Rows
abbrev _root_.δ:=Value->BW->Prop
abbrev _root_.ε:=List (AO×Obj)
abbrev _root_.η:=List (List Int)
abbrev _root_.θ:=List Str
abbrev _root_.ι:=Str->Option Value
abbrev _root_.ν:=List Value
abbrev _root_.ξ:=List Int
abbrev _root_.ο:=Str->Option (Int×Int)
abbrev _root_.π:=List (Nat×List Int)
abbrev _root_.ρ:=Str->Option (Rat×Rat)
abbrev _root_.τ:=Str->Option Rat
abbrev _root_.υ:=List AO
abbrev _root_.χ:=List (Int×Int)
abbrev _root_.Α:=List (Str×Str×Str)
abbrev _root_.Β:=List Expr
abbrev _root_.Δ:=Option AO
abbrev _root_.Ε:=List (List (Int×Int))
abbrev _root_.Θ:=Result->BW->Prop
abbrev _root_.Κ:=Array Value
abbrev _root_.Λ:=Option Value->BW->Prop
abbrev _root_.Μ:=Unit->BW->Prop
abbrev _root_.Ν:=Array (Option Value)
abbrev _root_.Ξ:=List (Rat×Rat)
abbrev _root_.Ο:=List (Str×List (Rat×Rat))
abbrev _root_.Υ:=List (Str×Value)
abbrev Key:=Sum Int Str
abbrev _root_.Τ:=List (List Key×AO×Value)
def v_:Key->Value->Bool
 | .inl k,v=>Value.isInt k v
 | .inr x,v=>Value.isStrOf x v
def aly (w:World):Key->Int
 | .inl k=>hashInt k
 | .inr x=>hashStr w x
def cF:∀{k:Key} {v:Value},v_ k v=true->(∃i t,k=VJ i/\v=Value.int i t)\/(∃x t,k=GH x/\v=Value.str x t)
 | .inl i,v,h=>by
  obtain ⟨t,e⟩:=Value.isInt_shape (k:=i) (v:=v) h;exact .inl ⟨i,t,rfl,e⟩
 | .inr x,v,h=>by
  obtain ⟨t,e⟩:=Value.isStrOf_shape (x:=x) (v:=v) h;exact .inr ⟨x,t,rfl,e⟩
def abc (i:Int)(t:Tok):v_ (.inl i) (.int i t)=true:=by simp [v_,Value.isInt]
def abN (x:Str)(t:Tok):v_ (.inr x) (.str x t)=true:=by simp [v_,Value.isStrOf]
def aiF (a b:Int):decide ((VJ a:Key)=VJ b)=(a==b):=by
 by_cases e:a=b
 ·subst e;simp
 ·let h:¬ (VJ a:Key)=VJ b:=fun q=>e (al9 q)
  rw [Nt h];exact (beq_eq_false_iff_ne.mpr e).symm
def aiD (a b:Str):decide ((GH a:Key)=GH b)=decide (a=b):=by
 by_cases e:a=b
 ·subst e;simp
 ·let h:¬ (GH a:Key)=GH b:=fun q=>e (MQ q)
  rw [Nt h,Nt e]
def ahs (a:Int)(b:Str):decide ((VJ a:Key)=GH b)=false:=Nt (fun q=>nomatch q)
def ahp (a:Str)(b:Int):decide ((GH a:Key)=VJ b)=false:=Nt (fun q=>nomatch q)
def bq (prog:FL)(w:World):PySem.KeyKind prog w Key where
 is:=v_
 hash:=aly w
 inj:=fun v a b ha hb=>by
  rcases cF ha with ⟨i,t,rfl,rfl⟩|⟨x,t,rfl,rfl⟩
  ·rcases cF hb with ⟨j,u,rfl,e⟩|⟨y,u,rfl,e⟩
   ·injection e with e1 _;rw [e1]
   ·exact nomatch e
  ·rcases cF hb with ⟨j,u,rfl,e⟩|⟨y,u,rfl,e⟩
   ·exact nomatch e
   ·injection e with e1 _;rw [e1]
 byValue:=fun k v h=>by
  rcases cF h with ⟨i,t,rfl,rfl⟩|⟨x,t,rfl,rfl⟩<;>rfl
 pyHash:=fun hv h=>by
  rcases cF hv with ⟨i,t,rfl,rfl⟩|⟨x,t,rfl,rfl⟩
  ·exact wpAny_pyHash_int h
  ·exact wpAny_pyHash_str h
 eqBool:=fun hu hv h=>by
  rcases cF hu with ⟨i,t,rfl,rfl⟩|⟨x,t,rfl,rfl⟩
  ·rcases cF hv with ⟨j,u,rfl,rfl⟩|⟨y,u,rfl,rfl⟩
   ·rw [aiF] at h;exact wpAny_eqBool_int h
   ·rw [ahs] at h;exact SeqAt.EqAt.int_str i t y u _ _ _ _ h
  ·rcases cF hv with ⟨j,u,rfl,rfl⟩|⟨y,u,rfl,rfl⟩
   ·rw [ahp] at h;exact SeqAt.EqAt.str_int x t j u _ _ _ _ h
   ·rw [aiD] at h;exact wpAny_eqBool_str h
 «strs»:=fun k x t v h=>by
  rcases cF h with ⟨i,u,rfl,e⟩|⟨y,u,rfl,e⟩
  ·exact nomatch e
  ·injection e with e1 _
   subst e1;cases v<;>rfl
def ah2 (prog:FL)(w:World)(i:Int)(t:Tok):(bq prog w).is (.inl i) (.int i t)=true:=abc i t
def ahB (prog:FL)(w:World)(x:Str)(t:Tok):(bq prog w).is (.inr x) (.str x t)=true:=abN x t
inductive V where
 | cO|bl (b:Bool)|int (i:Int)|str (x:Str)|uY (b:Array UInt8)|flt (b:UInt64)|ref (a:AO)|ty (n:String)
 deriving DecidableEq
abbrev _root_.γ:=List (Key×V)
abbrev _root_.ζ:=List V
abbrev _root_.ω:=Option V
abbrev _root_.Ζ:=List (List V)
abbrev _root_.Ρ:=List (List Key×V)
abbrev _root_.Φ:=Key×V
def RelV:V->Value->Prop
 | .cO,u=>u=Value.none
 | .bl b,u=>u=Value.bool b
 | .int i,u=>∃t,u=Value.int i t
 | .str x,u=>∃t,u=Value.str x t
 | .uY b,u=>∃t,u=Value.bytes b t
 | .flt b,u=>∃t,u=Value.float b t
 | .ref a,u=>u=Value.ref a
 | .ty n,u=>u=Value.type n
abbrev Vals:List V->List Value->Prop:=Paired RelV
theorem Vals.length {xs:ζ}{us:ν}(r:Vals xs us):xs.length=us.length:=HR r
theorem Vals.get:∀{xs:ζ} {us:ν} {i:Nat} {x:V},Vals xs us->xs[i]?=some x->∃u,us[i]?=some u/\RelV x u
 | _,_,_,_,.nil,e=>by simp at e
 | _,_,0,_,.cons r _,e=>by simp at e;subst e;show ⟨_,rfl,r⟩
 | _,_,i+1,x,.cons _ t,e=>by
  obtain ⟨u,h1,h2⟩:=Vals.get (i:=i) (x:=x) t (by simpa using e);show ⟨u,by simpa using h1,h2⟩
theorem Vals.set (r:RelV x u):∀{xs:ζ} {us:ν} (i:Nat),Vals xs us->Vals (xs.set i x) (us.set i u)
 | _,_,_,.nil=>.nil
 | _,_,0,.cons _ t=>.cons r t
 | _,_,i+1,.cons q t=>.cons q (Vals.set r i t)
theorem Vals.append:∀{xs ys:ζ} {us ws:ν},Vals xs us->Vals ys ws->Vals (xs++ys) (us++ws)
 | _,_,_,_,.nil,s=>s
 | _,_,_,_,.cons r t,s=>.cons r (Vals.append t s)
theorem Vals.take:∀{xs:ζ} {us:ν} (n:Nat),Vals xs us->Vals (xs.take n) (us.take n)
 | _,_,0,_=>.nil
 | _,_,_+1,.nil=>.nil
 | _,_,n+1,.cons r t=>.cons r (Vals.take n t)
theorem Vals.drop:∀{xs:ζ} {us:ν} (n:Nat),Vals xs us->Vals (xs.drop n) (us.drop n)
 | _,_,0,r=>r
 | _,_,_+1,.nil=>.nil
 | _,_,n+1,.cons _ t=>Vals.drop n t
def gK:Option V->Option Value->Prop
 | some v,some u=>RelV v u
 | none,none=>True
 | _,_=>False
def KV {κ:Type}:List (κ×V)->List (κ×Value)->Prop:=Paired fun (p:κ×V) (q:κ×Value)=>p.1=q.1/\RelV p.2 q.2
def kV:Key->V
 | .inl i=>.int i
 | .inr x=>.str x
inductive HO where
 | lst (xs:ζ)
 | tup (xs:ζ)
 | dK (AD:γ)|dT (AD:Ρ)
 | set (S:Int->Bool) (n:Nat)
 | ins (C dx:AO) (fs:List (Str×V))
 | own (x:AO)
 | xd (fs:List (Str×V))
 | met (f x:AO)
 | rng (lo hi:Int)
 | eZ (o:Obj) (u:HO)
 | XO (ps:Κ)
 | ext (φ:Heap->Prop)
abbrev Hp:=AO->Option HO
def upd (H:Hp)(a:AO)(o:HO):Hp:=fun b=>if b=a then some o else H b
def ag :upd H a o a=some o:=by unfold upd;rw [mG rfl]
def ah (h:b≠a):upd H a o b=H b:=by unfold upd;rw [lH h]
def acS {H:Hp}(h:H a=some o)(h':H b=some u)(d:o≠u):a≠b:=by
 intro e;subst e;rw [h] at h';exact d (MY h')
def ak {H:Hp}(h:H a=some o)(h':H b=none):a≠b:=by
 intro e;subst e;erw [h] at h'
section
variable (P:FL)(w:World)
def bW (H:Hp)(h:Heap)(a:AO):HO->Prop
 | .lst xs=>xs.length<=BZ/\∃(AU:ν)(n:Nat),Vals xs AU/\h.get? a=some {cls:=.type "list",data:=.seq AU.toArray n}
 | .tup xs=>xs.length<=BZ/\∃AU:List Value,Vals xs AU/\IsTup h a AU.toArray
 | .dK AD=>AD.length<=BZ/\(a==Nr)=false/\∃vs,KV AD vs/\h.DictOf (bq P w) a vs
 | .dT AD=>AD.length<=BZ/\(a==Nr)=false/\∃xs:List (List Key×AO×Value),
   Paired (fun (p:List Key×V) (q:List Key×AO×Value)=>p.1=q.1/\H q.2.1=some (.tup (p.1.map kV))/\RelV p.2 q.2.2) AD xs/\
   ∃o es ep,h.get? a=some o/\o.ExactDict/\o.data=.dict es ep/\es.toList=xs.map (entryOfKey (tupleKind (bq P w)))/\(xs.map (·.1)).Nodup
 | .set S n=>h.SetOf (intKind P w) a S n
 | .ins C dx fs=>H dx=some (.own a)/\fs.length<=1000/\dx≠a/\h.get? a=some (RT C dx)/\
   ∃mA,h.Ns1 dx mA/\(∀f,gK (fs.lookup f) (mA f))/\x8 mA (fs.map (·.1))
 | .own _=>∃o,h.get? a=some o
 | .xd fs=>∃mA,h.Ns1 a mA/\∀f,gK (fs.lookup f) (mA f)
 | .rng lo hi=>∃t u v,h.get? a=some {cls:=.type "range",data:=.fields #[.int lo t,.int hi u,.int 1 v]}
 | .eZ o u=>h.get? a=some o/\bW H h a u
 | .XO ps=>h.get? a=some {cls:=.none,data:=.fields ps}
 | .met f x=>h.get? a=some (PySem.W.methodObj (.ref f) (.ref x))
 | .ext φ=>φ h/\(∃o,h.get? a=some o)/\∀h1 h2:Heap,φ h1->(∀o,h1.get? a=some o->h2.get? a=some o)->φ h2
def jz (H:Hp)(h:Heap):Prop:=∀a o,H a=some o->bW P w H h a o
end
section
variable {P:FL}{w:World}{H H':Hp}{h h':Heap}{a:AO}{o:HO}
theorem bW.lt (x:bW P w H h a o):a<h.objs.size:=by
 cases o with
 | lst xs=>obtain ⟨_,_,_,_,e⟩:=x;exact FG e
 | tup xs=>obtain ⟨_,_,_,p⟩:=x;exact p.lt
 | dK AD=>obtain ⟨_,_,_,_,o,_,_,e,_⟩:=x;exact FG e
 | dT AD=>obtain ⟨_,_,_,_,o,_,_,e,_⟩:=x;exact FG e
 | set S n=>obtain ⟨o,_,_,_,e,_⟩:=x;exact FG e
 | ins C dx fs=>obtain ⟨_,_,_,e,_⟩:=x;exact FG e
 | own y=>obtain ⟨_,e⟩:=x;exact FG e
 | xd fs=>obtain ⟨_,⟨_,_,_,e,_⟩,_⟩:=x;exact FG e
 | rng lo hi=>obtain ⟨_,_,_,e⟩:=x;exact FG e
 | eZ ob u=>obtain ⟨e,_⟩:=x;exact FG e
 | XO ps=>exact FG (show h.get? a=some _ from x)
 | met f y=>exact FG (show h.get? a=some _ from x)
 | ext φ=>obtain ⟨_,⟨_,e⟩,_⟩:=x;exact FG e
theorem Paired.dc :∀{qY:List Y} {qX:List β},Paired F qY qX->(∀a b,F a b->G a b)->Paired G qY qX
 | _,_,.nil,_=>.nil
 | _,_,.cons r t,f=>.cons (f _ _ r) (Paired.dc t f)
def bW.mK (x:bW P w H h a o)(k:∀b u,(b=a\/H b=some (.own a))->h.get? b=some u->h'.get? b=some u)
  (ho:∀b,H b=some (.own a)->H' b=some (.own a)) (ht:∀b xs,H b=some (.tup xs)->H' b=some (.tup xs)):bW P w H' h' a o:=by
 induction o with
 | lst xs=>obtain ⟨z,AU,n,r,e⟩:=x;show ⟨z,AU,n,r,k _ _ (.inl rfl) e⟩
 | tup xs=>obtain ⟨z,AU,r,ob,e,c⟩:=x;show ⟨z,AU,r,ob,k _ _ (.inl rfl) e,c⟩
 | dK AD=>obtain ⟨z,y,vs,r,ob,es,ep,e,c⟩:=x;show ⟨z,y,vs,r,ob,es,ep,k _ _ (.inl rfl) e,c⟩
 | dT AD=>
  obtain ⟨z,y,xs,r,ob,es,ep,e,c⟩:=x;show ⟨z,y,xs,Paired.dc r fun p q z=>⟨z.1,ht _ _ z.2.1,z.2.2⟩,ob,es,ep,k _ _ (.inl rfl) e,c⟩
 | set S n=>obtain ⟨ob,es,ep,t,e,c⟩:=x;show ⟨ob,es,ep,t,k _ _ (.inl rfl) e,c⟩
 | ins C dx fs=>
  obtain ⟨d,z,ne,e,mA,⟨od,es,ep,e2,c⟩,r⟩:=x;show ⟨ho _ d,z,ne,k _ _ (.inl rfl) e,mA,⟨od,es,ep,k _ _ (.inr d) e2,c⟩,r⟩
 | own y=>obtain ⟨ob,e⟩:=x;show ⟨ob,k _ _ (.inl rfl) e⟩
 | xd fs=>obtain ⟨mA,⟨od,es,ep,e,c⟩,r⟩:=x;show ⟨mA,⟨od,es,ep,k _ _ (.inl rfl) e,c⟩,r⟩
 | rng lo hi=>obtain ⟨t,u,v,e⟩:=x;show ⟨t,u,v,k _ _ (.inl rfl) e⟩
 | eZ ob u ih=>obtain ⟨e,q⟩:=x;show ⟨k _ _ (.inl rfl) e,ih q⟩
 | XO ps=>
  let e:h.get? a=some {cls:=.none,data:=.fields ps}:=x;show h'.get? a=some {cls:=.none,data:=.fields ps};exact k a _ (.inl rfl) e
 | met f y=>
  let e:h.get? a=some (PySem.W.methodObj (.ref f) (.ref y)):=x;show h'.get? a=some (PySem.W.methodObj (.ref f) (.ref y));exact k a _ (.inl rfl) e
 | ext φ=>obtain ⟨p,⟨o,e⟩,st⟩:=x;show ⟨st _ _ p fun o q=>k _ _ (.inl rfl) q,⟨o,k _ _ (.inl rfl) e⟩,st⟩
theorem jz.lt (x:jz P w H h)(e:H a=some o):a<h.objs.size:=(x a o e).lt
def jz.fresh (x:jz P w H h)(e:h.objs.size<=a):H a=none:=by
 cases q:H a with
 | none=>rfl
 | some u=>exact CH (Mt (x.lt q) e) (QX _)
def jz.kept (x:jz P w H h)(k:∀b u,h.get? b=some u->h'.get? b=some u):jz P w H h':=fun a o e=>
 (x a o e).mK (fun b u _ q=>k b u q) (fun _ q=>q) fun _ _ q=>q
def jz.laid (x:jz P w H h)(k:∀b u,h.get? b=some u->h'.get? b=some u)(hp:h.objs.size<=a)(new:bW P w (upd H a o) h' a o):jz P w (upd H a o) h':=fun b u e=>by
 let hn:=x.fresh hp;by_cases hb:b=a
 ·subst hb;erw [ag] at e;exact new
 ·rw [ah hb] at e
  exact (x b u e).mK (fun c v _ q=>k c v q) (fun c q=>by rwa [ah (ak q hn)]) fun c xs q=>by rwa [ah (ak q hn)]
end
def Rd (H:Hp)(a:AO)(u:HO):Prop:=H a=some u\/∃o,H a=some (.eZ o u)
def Rd.of (h:H a=some u):Rd H a u:=.inl h
def Rd.ok (r:Rd H a u)(x:jz P w H h):bW P w H h a u:=by
 rcases r with r|⟨o,r⟩
 ·exact x a u r
 ·obtain ⟨_,q⟩:=x a _ r
  exact q
def Mut:Option HO->Prop
 | some (.lst _)=>True
 | some (.dK _)=>True
 | some (.dT _)=>True
 | some (.set _ _)=>True
 | some (.ins _ _ _)=>True
 | some (.ext _)=>True
 | _=>False
section
variable {P:FL}{w:World}{H:Hp}{h h':Heap}{x e:AO}{o':HO}
def jz.write (ok:jz P w H h)(mu:Mut (H x))(he:e=x\/H e=some (.own x))(k:∀b u,b≠e->h.get? b=some u->h'.get? b=some u)(heo:∃u,h'.get? e=some u)
  (new:bW P w (upd H x o') h' x o'):jz P w (upd H x o') h':=fun b u q=>by
 let acU:∀c y,H c=some (.own y)->c≠x:=fun c y r z=>by subst z;rwa [r] at mu
 let alz:∀c xs,H c=some (.tup xs)->c≠x:=fun c xs r z=>by subst z;rwa [r] at mu
 by_cases hb:b=x
 ·subst hb;erw [ag] at q;exact new
 ·rw [ah hb] at q
  by_cases Zp:b=e
  ·let q':H b=some (.own x):=by
    rcases he with z|z
    ·exact CH (Zp.trans z) hb
    ·rwa [Zp]
   erw [q] at q';obtain ⟨v,hv⟩:=heo;show ⟨v,by rwa [Zp]⟩
  ·refine (ok b u q).mK (fun c v hc r=>k c v ?_ r) (fun c r=>by rwa [ah (acU c b r)]) fun c xs r=>by rwa [ah (alz c xs r)]
   rcases hc with rfl|hc
   ·exact Zp
   ·rintro rfl
    rcases he with z|z
    ·exact acU c b hc z
    ·erw [hc] at z;exact hb rfl
end
structure Un (fs ex:υ)(H H':Hp)(h h':Heap):Prop where
 keep:∀b o,h.get? b=some o->H b=none->b∉fs->b∉ex->h'.get? b=some o
 slot:∀b o,h.get? b=some o->H b=none->b∈fs->b∉ex->∃sl,h'.get? b=some {o with slots:=sl}
 free:∀b o,h.get? b=some o->H b=none->b∉ex->H' b=none
 there:∀b o,h.get? b=some o->b∉ex->∃o',h'.get? b=some o'
 jA:∀b xs,H b=some (.tup xs)->H' b=some (.tup xs)
 ja:∀b o u,H b=some (.eZ o u)->H' b=some (.eZ o u)
 jB:∀b ps,H b=some (.XO ps)->∃more,H' b=some (.XO (ps++more))
section
variable {fs fs' ex u_ :υ}{H H1 H2:Hp}{h h1 h2 h':Heap}{a x e:AO}{o:HO}
def Un.any (u:Un fs ex H H1 h h1)(q:h.get? b=some ob)(n:H b=none)(hx:b∉ex):∃sl,h1.get? b=some {ob with slots:=sl}:=by
 by_cases hb:b∈fs
 ·exact u.slot b ob q n hb hx
 ·show ⟨ob.slots,u.keep b ob q n hb hx⟩
def Un.trans (a:Un fs ex H H1 h h1)(b:Un fs ex H1 H2 h1 h2):Un fs ex H H2 h h2 where
 keep:=fun c ob q n hc hx=>b.keep c ob (a.keep c ob q n hc hx) (a.free c ob q n hx) hc hx
 slot:=fun c ob q n hc hx=>by
  obtain ⟨sl,e1⟩:=a.slot c ob q n hc hx;obtain ⟨XQ,e2⟩:=b.slot c _ e1 (a.free c ob q n hx) hc hx;show ⟨XQ,e2⟩
 free:=fun c ob q n hx=>by
  obtain ⟨o',e1⟩:=a.there c ob q hx;exact b.free c o' e1 (a.free c ob q n hx) hx
 there:=fun c ob q hx=>by
  obtain ⟨o',e1⟩:=a.there c ob q hx;exact b.there c o' e1 hx
 jA:=fun c xs q=>b.jA c xs (a.jA c xs q)
 ja:=fun c ob xs q=>b.ja c ob xs (a.ja c ob xs q)
 jB:=fun c ps q=>by
  obtain ⟨m1,e1⟩:=a.jB c ps q;obtain ⟨m2,e2⟩:=b.jB c _ e1;show ⟨m1++m2,by rw [e2,alf]⟩
def Un.kept (k:∀b u,h.get? b=some u->h'.get? b=some u):Un fs ex H H h h':=
 ⟨fun b ob q _ _ _=>k b ob q,fun b ob q _ _ _=>⟨ob.slots,k b ob q⟩,fun _ _ _ n _=>n,fun b ob q _=>⟨ob,k b ob q⟩,fun _ _ q=>q,fun _ _ _ q=>q,fun _ ps q=>⟨#[],by rw [q];simp⟩⟩
def Un.refl:Un fs ex H H h h:=Un.kept fun _ _ q=>q
def Un.laid (k:∀b u,h.get? b=some u->h'.get? b=some u)(hp:h.objs.size<=a)(hn:H a=none):Un fs ex H (upd H a o) h h' where
 keep:=fun b u q _ _ _=>k b u q
 slot:=fun b u q _ _ _=>⟨u.slots,k b u q⟩
 free:=fun b u q n _=>by rwa [ah (MV (Mt (FG q) hp))]
 there:=fun b u q _=>⟨u,k b u q⟩
 jA:=fun b xs q=>by rwa [ah (ak q hn)]
 ja:=fun b u xs q=>by rwa [ah (ak q hn)]
 jB:=fun b ps q=>⟨#[],by rw [ah (ak q hn),q];simp⟩
def Un.write (mu:Mut (H x))(he:e=x\/H e=some (.own x))(k:∀b u,b≠e->h.get? b=some u->h'.get? b=some u)(heo:∃u,h'.get? e=some u):Un fs ex H (upd H x o) h h':=by
 let hx:∀b,H b=none->b≠x:=fun b n z=>by subst z;rwa [n] at mu
 let hb:∀b,H b=none->b≠e:=fun b n z=>by
  subst z
  rcases he with r|r
  ·exact hx b n r
  ·erw [n] at r
 let hm:∀b u,H b=some u->¬ Mut (some u)->b≠x:=fun b u q nm z=>by subst z;rw [q] at mu;exact nm mu
 show ⟨fun b u q n _ _=>k b u (hb b n) q,fun b u q n _ _=>⟨u.slots,k b u (hb b n) q⟩,fun b u q n _=>by rwa [ah (hx b n)],fun b u q _=>?_,
  fun b xs q=>by rwa [ah (hm b _ q fun z=>z)],fun b u xs q=>by rwa [ah (hm b _ q fun z=>z)],fun b ps q=>⟨#[],by rw [ah (hm b _ q fun z=>z),q];simp⟩⟩
 by_cases Zp:b=e
 ·subst Zp;exact heo
 ·show ⟨u,k b u Zp q⟩
def Un.mono (u:Un fs ex H H1 h h1)(hs:∀b∈fs,b∈fs')(hx:∀b∈ex,b∈u_):Un fs' u_ H H1 h h1:=
 ⟨fun b ob q n hb he=>u.keep b ob q n (fun z=>hb (hs b z)) fun z=>he (hx b z),fun _ _ q n _ he=>u.any q n fun z=>he (hx _ z),fun b ob q n he=>u.free b ob q n fun z=>he (hx b z),fun b ob q he=>u.there b ob q fun z=>he (hx b z),u.jA,u.ja,u.jB⟩
end
def trk (h:Heap)(H:Hp):List AO:=(OF h.objs.size).filter fun a=>(H a).isSome
def xr (h:Heap)(H:Hp):Heap:=PySem.W.hideAll h (trk h H)
def ab5 (h:Heap)(H:Hp):(xr h H).objs.size=h.objs.size:=PySem.W.hideAll_size _ _
def acv (e:h.get? b=some o)(n:H b=none):(xr h H).get? b=some o:=
 PySem.W.hideAll_get _ e fun hm=>by
  let q:(H b).isSome=true:=(Wu.mp hm).2;rw [n] at q;simp at q
def zaJ (e:(xr h H).get? b=some o):h.get? b=some o/\H b=none:=by
 let e':h.get? b=some o:=PySem.W.of_hideAll (trk h H) e;show ⟨e',?_⟩;cases q:H b with
 | none=>rfl
 | some x=>
  let hm:b∈trk h H:=Wu.mpr ⟨VT.mpr (FG e'),by simp [q]⟩;let z:(xr h H).get? b=none:=PySem.W.hideAll_none (trk h H) hm;erw [z] at e
def zaD (g h:Heap)(L:AO):List (AO×Obj):=(OF h.objs.size).filterMap fun a=>if a=L\/(g.get? a).isSome=true then none else (h.get? a).map fun o=>(a,o)
def rest (g h:Heap)(L d:AO):List (AO×Obj):=(zaD g h L).filter fun p=>decide (p.1≠d)
structure Mod (K:Frag)(mg:ι)(gw:Heap):Prop where
 XR:K.In gw
 glob:gw.Ns FZ mg
 blt:∃mb,gw.Ns builtinsNs mb/\∀x:Str,x≠ "__name__"->mb x=Nf x
 nolimit:gw.NoLimit
 seer:gw.NoSeer
structure Cx where
 prog:FL
 w:World
 K:Frag
 mg:Str->Option Value
 gw:Heap
 A:HL
 N:List Str
 oZ:BW
 H₀:Hp
 env:Env
 outer:List Env
 stack:List Env
 ex:List AO
 fn:Str->Bool
 calm:Bool
 pn:List (AO×Obj)
 xe:Value->BW->Prop
def mw (l:List Env):List AO:=l.filterMap (·.frame)
abbrev Cx.fs (X:Cx):List AO:=mw X.outer
def Vis (sc:Scope)(x:Str):Prop:=sc.names.lookup x=some .local\/sc.names.lookup x=some .cell\/sc.names.lookup x=some .free
def Loc (sc:Scope)(x:Str):Prop:=sc.names.lookup x=some .local\/sc.names.lookup x=some .cell
def Look (env:Env)(h:Heap)(m:ι)(x:Str)(u:Value):Prop:=
 (env.kindOf x=some .local/\m x=some u)\/((env.kindOf x=some .cell\/env.kindOf x=some .free)/\∃c,env.cells.lookup x=some c/\h.IsCell c (some u))
structure Cx.Ok (X:Cx):Prop where
 mod:Mod X.K X.mg X.gw
 kind:X.env.scope.kind=.function
 glob:X.env.globals=FZ
 blt:X.env.builtins=builtinsNs
 above:X.oZ.heap.objs.size<=X.env.locals
 inj:∀x y c,X.env.cells.lookup x=some c->X.env.cells.lookup y=some c->x=y
 has:∀x,(X.env.kindOf x=some .cell\/X.env.kindOf x=some .free)->∃c,X.env.cells.lookup x=some c
 cab:∀x c,X.fn x=true->X.env.cells.lookup x=some c->X.oZ.heap.objs.size<=c
 hd:X.calm=true->X.A.handled=none
 frames:X.A.frames=some X.stack
 stk:X.stack=X.outer\/(X.stack=X.env::X.outer/\X.env.frame=some X.env.locals)
 exf:∀b∈X.ex,b≠X.env.locals/\∀x c,X.env.cells.lookup x=some c->c≠b
 bs:∀b o,X.gw.get? b=some o->X.oZ.heap.get? b=some o/\X.H₀ b=none
 T3:X.gw.objs.size<=X.oZ.heap.objs.size
 Mp:∀b o,X.gw.get? b=some o->b∉X.ex
 Qe:∀b∈X.ex,b∉X.fs
 pH:X.oZ.heap.FunFrames X.gw X.outer
 XS:∀b∈X.fs,X.H₀ b=none
structure Inv (X:Cx)(pX:ε)(Z:List (Option V))(H:Hp)(s:BW):Prop where
 ok:X.Ok
 os:s.os=X.oZ.os
 bare:SR s.gens
 gw:Un X.fs X.ex X.H₀ H X.oZ.heap s.heap
 loc:∃m,s.heap.Ns X.env.locals m/\∀(i:Nat)(x:Str)(v:V),X.N[i]?=some x->Z[i]?=some (some v)->Vis X.env.scope x->∃u,RelV v u/\Look X.env s.heap m x u
 cell:∀x c,X.env.cells.lookup x=some c->∃v,s.heap.IsCell c v
 free:H X.env.locals=none
 fQ:∀x c,X.env.cells.lookup x=some c->H c=none
 pin:∀p∈X.pn++pX,s.heap.get? p.1=some p.2/\H p.1=none/\p.1≠X.env.locals/\p.1∉X.fs/\∀v,p.2.data≠.cell v
 bH:jz X.prog X.w H s.heap
 len:Z.length=X.N.length
section
variable {X:Cx}{pX:ε}{Z:List (Option V)}{H H':Hp}{s:BW}{h':Heap}
def Cx.Ok.alC (ok:X.Ok)(e:X.gw.get? b=some o):b∉X.fs:=fun hb=>by
 have:=(ok.pH.mem hb).1;erw [e] at this
theorem Inv.bs (I:Inv X pX Z H s):∀b o,X.gw.get? b=some o->s.heap.get? b=some o/\H b=none:=fun b o e=>
 ⟨I.gw.keep b o (I.ok.bs b o e).1 (I.ok.bs b o e).2 (I.ok.alC e) (I.ok.Mp b o e),I.gw.free b o (I.ok.bs b o e).1 (I.ok.bs b o e).2 (I.ok.Mp b o e)⟩
def Inv.bk (I:Inv X pX Z H s):∀b o,X.gw.get? b=some o->s.heap.get? b=some o:=fun b o e=>(I.bs b o e).1
theorem Inv.mod (I:Inv X pX Z H s):Mod X.K X.mg X.gw:=I.ok.mod
def Inv.j8 (I:Inv X pX Z H s):X.K.In s.heap:=I.ok.mod.XR.keeps I.bk
theorem Inv.nolimit (I:Inv X pX Z H s):s.heap.NoLimit:=I.ok.mod.nolimit.keeps I.bk
theorem Inv.lt (I:Inv X pX Z H s):X.env.locals<s.heap.objs.size:=let ⟨_,hn,_⟩:=I.loc;hn.lt
def Inv.sz (I:Inv X pX Z H s):X.oZ.heap.objs.size<=s.heap.objs.size:=CT I.ok.above (RF I.lt)
def Inv.alD (I:Inv X pX Z H s){a:AO}(h:s.heap.objs.size<=a):a∉X.fs:=fun hb=>by
 obtain ⟨_,o,ho,_⟩:=I.ok.pH.mem hb;exact CH (Mt (FG ho) (CT I.sz h)) (QX _)
def Inv.Mq (I:Inv X pX Z H s):∀x c,X.env.cells.lookup x=some c->c≠X.env.locals:=fun x c e z=>by
 obtain ⟨v,o,ho,hd⟩:=I.cell x c e;obtain ⟨m,⟨o',es,ep,Zq,T4,_⟩,_⟩:=I.loc;erw [z,Zq] at ho;erw [T4] at hd
theorem Inv.pH (I:Inv X pX Z H s):s.heap.FunFrames X.gw X.outer:=by
 let all:∀(l:List Env),(∀b∈mw l,b∈X.fs)->X.oZ.heap.FunFrames X.gw l->s.heap.FunFrames X.gw l:=by
  intro l
  induction l with
  | nil=>intro _ _;trivial
  | cons env r ih=>
   intro hs hl;obtain ⟨hk,⟨L,o,hf,hn,ho,hd⟩,hr⟩:=hl;let hL:L∈X.fs:=hs L (by unfold mw;rw [Qr,hf];exact LZ);obtain ⟨sl,e⟩:=I.gw.slot L o ho (I.ok.XS L hL) hL fun z=>I.ok.Qe L z hL;show ⟨hk,⟨L,_,hf,hn,e,hd⟩,ih (fun b hb=>hs b (by unfold mw;rw [Qr,hf];exact HV _ hb)) hr⟩
 exact all X.outer (fun _ hb=>hb) I.ok.pH
theorem Inv.stack (I:Inv X pX Z H s):s.heap.FunFrames X.gw X.stack:=by
 rcases I.ok.stk with e|⟨e,hf⟩
 ·rw [e];exact I.pH
 ·rw [e]
  obtain ⟨m,hn,_⟩:=I.loc;refine .cons (by rw [I.ok.kind];decide) hf hn ?_ I.pH;exact Heap.get?_none_of_le (CT I.ok.T3 I.ok.above)
def Inv.xt (I:Inv X pX Z H s):∀b∈mw X.stack,b∈X.env.locals::X.fs:=fun b hb=>by
 rcases I.ok.stk with e|⟨e,hf⟩
 ·rw [e] at hb;exact HV _ hb
 ·rw [e] at hb
  unfold mw at hb;rwa [Qr,hf] at hb
def Inv.rK (I:Inv X pX Z H s):∀b∈mw X.stack,H b=none:=fun b hb=>by
 rcases M_.mp (I.xt b hb) with e|hb
 ·rw [e];exact I.free
 ·obtain ⟨_,o,ho,_⟩:=I.ok.pH.mem hb
  exact I.gw.free b o ho (I.ok.XS b hb) fun z=>I.ok.Qe b z hb
def Inv.step {ch:υ}(I:Inv X pX Z H s)
  (T5:∀b∈ch,(b∈X.ex\/X.oZ.heap.objs.size<=b)/\b≠X.env.locals/\(∀x c,X.env.cells.lookup x=some c->c≠b)/\∀p∈X.pn++pX,p.1≠b)
  (keep:∀b o,b≠X.env.locals->b∉X.fs->b∉ch->s.heap.get? b=some o->H b=none->h'.get? b=some o)
  (slot:∀b o,b≠X.env.locals->b∈X.fs->b∉ch->s.heap.get? b=some o->H b=none->∃sl,h'.get? b=some {o with slots:=sl}) (free:∀b o,b∉ch->s.heap.get? b=some o->H b=none->H' b=none)
  (there:∀b o,b∉ch->s.heap.get? b=some o->∃o',h'.get? b=some o')
  (jA:∀b xs,H b=some (.tup xs)->H' b=some (.tup xs)) (ja:∀b o u,H b=some (.eZ o u)->H' b=some (.eZ o u)) (jB:∀b ps,H b=some (.XO ps)->∃more,H' b=some (.XO (ps++more)))
  (ns:∀m,s.heap.Ns X.env.locals m->h'.Ns X.env.locals m) (bH:jz X.prog X.w H' h') (hg:SR g'):
  Inv X pX Z H' {s with heap:=h',gens:=g',drawn:=d',toks:=t'}:=by
 let neL:∀b o,X.oZ.heap.get? b=some o->b≠X.env.locals:=fun b o e=>MV (Mt (FG e) I.ok.above)
 let neC:∀b o,X.oZ.heap.get? b=some o->b∉X.ex->b∉ch:=fun b o e hx hb=>by
  rcases (T5 b hb).1 with z|z
  ·exact hx z
  ·exact CH (Mt (FG e) z) (QX _)
 let cellK:∀x c,X.env.cells.lookup x=some c->∀v,s.heap.IsCell c v->h'.IsCell c v:=fun x c e v ⟨o,ho,hd⟩=>by
  let nch:c∉ch:=fun z=>(T5 c z).2.2.1 x c e rfl;by_cases hc:c∈X.fs
  ·obtain ⟨sl,q⟩:=slot c o (I.Mq x c e) hc nch ho (I.fQ x c e)
   show ⟨_,q,hd⟩
  ·show ⟨o,keep c o (I.Mq x c e) hc nch ho (I.fQ x c e),hd⟩
 show ⟨I.ok,I.os,hg,⟨fun b o e n hb hx=>?_,fun b o e n hb hx=>?_,fun b o e n hx=>?_,fun b o e hx=>?_,fun b xs e=>jA b xs (I.gw.jA b xs e),fun b o xs e=>ja b o xs (I.gw.ja b o xs e),fun b ps e=>?_⟩,?_,fun x c e=>?_,?_,fun x c e=>?_,fun p hp=>?_,bH,I.len⟩
 ·exact keep b o (neL b o e) hb (neC b o e hx) (I.gw.keep b o e n hb hx) (I.gw.free b o e n hx)
 ·obtain ⟨sl,e1⟩:=I.gw.slot b o e n hb hx
  obtain ⟨XQ,e2⟩:=slot b _ (neL b o e) hb (neC b o e hx) e1 (I.gw.free b o e n hx);show ⟨XQ,e2⟩
 ·obtain ⟨o',e1⟩:=I.gw.there b o e hx
  exact free b o' (neC b o e hx) e1 (I.gw.free b o e n hx)
 ·obtain ⟨o',e1⟩:=I.gw.there b o e hx
  exact there b o' (neC b o e hx) e1
 ·obtain ⟨m1,e1⟩:=I.gw.jB b ps e
  obtain ⟨m2,e2⟩:=jB b _ e1;show ⟨m1++m2,by rw [e2,alf]⟩
 ·obtain ⟨m,hn,hl⟩:=I.loc
  show ⟨m,ns m hn,fun i x v e1 e2 e3=>?_⟩;obtain ⟨u,r,l⟩:=hl i x v e1 e2 e3;show ⟨u,r,?_⟩
  rcases l with l|⟨k,c,e,z⟩
  ·exact .inl l
  ·exact .inr ⟨k,c,e,cellK x c e _ z⟩
 ·obtain ⟨v,z⟩:=I.cell x c e
  show ⟨v,cellK x c e v z⟩
 ·obtain ⟨m,⟨o,_,_,ho,_⟩,_⟩:=I.loc
  exact free _ o (fun z=>(T5 _ z).2.1 rfl) ho I.free
 ·obtain ⟨v,o,ho,hd⟩:=I.cell x c e
  exact free c o (fun z=>(T5 c z).2.2.1 x c e rfl) ho (I.fQ x c e)
 ·obtain ⟨e,n,ne,nf,d⟩:=I.pin p hp
  let nch:p.1∉ch:=fun z=>(T5 p.1 z).2.2.2 p hp rfl;show ⟨keep p.1 p.2 ne nf nch e n,free p.1 p.2 nch e n,ne,nf,d⟩
def Inv.un (I:Inv X pX Z H s)(u:Un X.fs [] H H' s.heap h')(bH:jz X.prog X.w H' h'):Inv X pX Z H' {s with heap:=h',toks:=t'}:=by
 obtain ⟨m,⟨o,es,ep,ho,r⟩,_⟩:=id I.loc;obtain ⟨sl,hL⟩:=u.any ho I.free dL
 exact I.step (g':=s.gens) (d':=s.drawn) (ch:=[]) (fun _ z=>nomatch z) (fun b o _ hb _ e n=>u.keep b o e n hb dL) (fun b o _ hb _ e n=>u.slot b o e n hb dL) (fun b o _ e n=>u.free b o e n dL) (fun b o _ e=>u.there b o e dL) u.jA u.ja u.jB (fun m' hm=>by
  obtain ⟨o',es',ET,Zq,r'⟩:=hm;erw [ho] at Zq
  show ⟨_,es',ET,hL,r'⟩) bH I.bare
def Inv.call (I:Inv X pX Z H s)(u:Un (mw X.stack) ch H H' s.heap h')(bH:jz X.prog X.w H' h')(hg:SR g')
  (T5:∀b∈ch,(b∈X.ex\/X.oZ.heap.objs.size<=b)/\b≠X.env.locals/\(∀x c,X.env.cells.lookup x=some c->c≠b)/\∀p∈X.pn++pX,p.1≠b):
  Inv X pX Z H' {s with heap:=h',gens:=g',drawn:=d',toks:=t'}:=by
 obtain ⟨m,⟨o,es,ep,ho,r⟩,_⟩:=id I.loc;obtain ⟨sl,hL⟩:=u.any ho I.free fun z=>(T5 _ z).2.1 rfl
 exact I.step (ch:=ch) T5 (fun b o hL hb hc e n=>u.keep b o e n (fun z=>(M_.mp (I.xt b z)).elim hL hb) hc) (fun b o _ _ hc e n=>u.any e n hc) (fun b o hc e n=>u.free b o e n hc) (fun b o hc e=>u.there b o e hc) u.jA u.ja u.jB (fun m' hm=>by
  obtain ⟨o',es',ET,Zq,r'⟩:=hm;erw [ho] at Zq
  show ⟨_,es',ET,hL,r'⟩) bH hg
def Inv.turned (I:Inv X pX Z H s)(k:∀b o,b≠it->s.heap.get? b=some o->h'.get? b=some o)(hn:H it=none)(hL:it≠X.env.locals)
  (h1:it∈X.ex\/X.oZ.heap.objs.size<=it) (h2:∀x c,X.env.cells.lookup x=some c->c≠it) (h3:∀p∈X.pn++pX,p.1≠it):Inv X pX Z H {s with heap:=h',toks:=t'}:=by
 let XT:∀b u,H b=some u->b≠it:=fun b u e z=>by erw [z,hn] at e
 refine I.step (g':=s.gens) (d':=s.drawn) (ch:=[it]) (fun b hb=>?_) (fun b o _ _ hc e _=>k b o (fun z=>hc (by simp [z])) e) (fun b o _ _ hc e _=>⟨o.slots,k b o (fun z=>hc (by simp [z])) e⟩) (fun _ _ _ _ n=>n)
  (fun b o hc e=>⟨o,k b o (fun z=>hc (by simp [z])) e⟩) (fun _ _ e=>e) (fun _ _ _ e=>e) (fun b ps e=>⟨#[],by rw [e];simp⟩) (fun m hm=>?_) (fun b u e=>?_) I.bare
 ·let e:b=it:=by simpa using hb
  subst e;show ⟨h1,hL,h2,h3⟩
 ·obtain ⟨o,es,ep,ho,r⟩:=hm
  show ⟨o,es,ep,k _ o (FN hL) ho,r⟩
 ·refine (I.bH b u e).mK (fun c v hc q=>k c v ?_ q) (fun _ q=>q) fun _ _ q=>q
  rcases hc with z|z
  ·rw [z];exact XT b u e
  ·exact XT c _ z
def Inv.tok (I:Inv X pX Z H s)(t:Nat):Inv X pX Z H {s with toks:=t}:=I.un (h':=s.heap) (t':=t) Un.refl I.bH
theorem Inv.kept (I:Inv X pX Z H s)(k:∀b u,s.heap.get? b=some u->h'.get? b=some u):Inv X pX Z H {s with heap:=h',toks:=t'}:=I.un (Un.kept k) (I.bH.kept k)
theorem Inv.laid {a:AO}(I:Inv X pX Z H s)(k:∀b u,s.heap.get? b=some u->h'.get? b=some u)(hp:s.heap.objs.size<=a)(new:bW X.prog X.w (upd H a o) h' a o):
  Inv X pX Z (upd H a o) {s with heap:=h',toks:=t'}:=I.un (Un.laid k hp (I.bH.fresh hp)) (I.bH.laid k hp new)
theorem Inv.write (I:Inv X pX Z H s)(mu:Mut (H x))(he:e=x\/H e=some (.own x))(k:∀b u,b≠e->s.heap.get? b=some u->h'.get? b=some u)(heo:∃u,h'.get? e=some u)
  (new:bW X.prog X.w (upd H x o) h' x o):Inv X pX Z (upd H x o) {s with heap:=h',toks:=t'}:=I.un (Un.write mu he k heo) (I.bH.write mu he k heo new)
def Inv.JE (I:Inv X pX Z H s)(h:∀p∈XU,s.heap.get? p.1=some p.2/\H p.1=none/\p.1≠X.env.locals/\p.1∉X.fs/\∀v,p.2.data≠.cell v):Inv X XU Z H s:=
 ⟨I.ok,I.os,I.bare,I.gw,I.loc,I.cell,I.free,I.fQ,fun p hp=>(FQ.mp hp).elim (fun z=>I.pin p (OA _ z)) (h p),I.bH,I.len⟩
def eL {N:θ}(hN:N.Nodup){i j:Nat}(a:N[i]?=some x)(b:N[j]?=some x):i=j:=by
 obtain ⟨h1,e1⟩:=Wp.mp a;obtain ⟨h2,e2⟩:=Wp.mp b;exact (alE hN).mp (e1.trans e2.symm)
def wc {E:δ}{Q:Μ}(I:Inv X pX Z H s)(hN:X.N.Nodup)(hi:X.N[i]?=some x)(hx:Loc X.env.scope x)(r:RelV v u)
  (h:∀s',Inv X pX (Z.set i (some v)) H s' ->(∃a,SO a s.heap s'.heap/\(a=X.env.locals\/X.env.cells.lookup x=some a))->Q () s') (hf:X.fn x=true\/X.env.scope.names.lookup x=some .local:=by first|exact .inl rfl|exact .inr rfl|assumption):AX M A (storeName X.env x u) Q E s:=by
 obtain ⟨m,hn,hl⟩:=id I.loc;let Qf:(X.env.scope.kind==.class || (X.env.scope.kind==.module && X.env.locals !=X.env.globals))=false:=by rw [I.ok.kind];rfl
 let hiσ:i < Z.length:=by rw [I.len];exact (Wp.mp hi).1
 let Mq:=I.Mq
 let tracked:∀{a:AO} {h':Heap},(∃o,s.heap.get? a=some o/\H a=none)->SO a s.heap h' ->jz X.prog X.w H h':=fun {a h'} ha hs b ob e=>by
  obtain ⟨_,_,z_⟩:=ha;refine (I.bH b ob e).mK (fun c w' hc q=>(hs.2 c ?_).trans q) (fun _ q=>q) fun _ _ q=>q;rintro rfl
  rcases hc with rfl|hc
  ·erw [z_] at e
  ·erw [z_] at hc
 rcases hx with hk|hk
 ·refine wpAny_storeName_local hk hn (fun h' Zr hs=>?_) Qf
  obtain ⟨oL,_,_,hoL,_⟩:=id hn;refine h _ ⟨I.ok,I.os,I.bare,⟨fun b o e n hb hx=>?_,fun b o e n hb hx=>?_,I.gw.free,fun b o e hx=>?_,I.gw.jA,I.gw.ja,I.gw.jB⟩,⟨_,Zr,fun j y v' e1 e2 e3=>?_⟩,fun y c e=>?_,I.free,I.fQ,fun p hp=>?_,tracked ⟨oL,hoL,I.free⟩ hs,by simpa using I.len⟩ ⟨_,hs,.inl rfl⟩
  ·exact (hs.2 b (MV (Mt (FG e) I.ok.above))).trans (I.gw.keep b o e n hb hx)
  ·obtain ⟨sl,e1⟩:=I.gw.slot b o e n hb hx
   show ⟨sl,(hs.2 b (MV (Mt (FG e) I.ok.above))).trans e1⟩
  ·obtain ⟨o',e1⟩:=I.gw.there b o e hx
   show ⟨o',(hs.2 b (MV (Mt (FG e) I.ok.above))).trans e1⟩
  ·by_cases hj:j=i
   ·subst hj
    erw [hi] at e1;erw [ah_ hiσ] at e2;show ⟨u,r,.inl ⟨hk,by simp⟩⟩
   ·rw [akp (FN hj)] at e2
    obtain ⟨u',r',q⟩:=hl j y v' e1 e2 e3;show ⟨u',r',?_⟩
    rcases q with ⟨k,e⟩|⟨k,c,e,z⟩
    ·refine .inl ⟨k,?_⟩
     have:y≠x:=fun e=>hj (eL hN e1 (e▸hi));simp [this,e]
    ·exact .inr ⟨k,c,e,z.sameBut hs (Mq y c e)⟩
  ·obtain ⟨w',z⟩:=I.cell y c e
   show ⟨w',z.sameBut hs (Mq y c e)⟩
  ·obtain ⟨e,n,ne,nf,d⟩:=I.pin p hp
   show ⟨(hs.2 p.1 ne).trans e,n,ne,nf,d⟩
 ·let hfn:X.fn x=true:=by
   rcases hf with z|z
   ·exact z
   ·erw [z] at hk
  obtain ⟨c,hc⟩:=I.ok.has x (.inl hk);obtain ⟨w',z⟩:=I.cell x c hc;refine wpAny_storeName_cell I.ok.kind hk hc z (fun h' pD hs=>?_);obtain ⟨oc,hoc,alG⟩:=id z;refine h {s with heap:=h'} ⟨I.ok,I.os,I.bare,⟨fun b o e n hb hx=>?_,fun b o e n hb hx=>?_,I.gw.free,fun b o e hx=>?_,I.gw.jA,I.gw.ja,I.gw.jB⟩,⟨m,hn.sameBut hs (FN (Mq x c hc)),fun j y v' e1 e2 e3=>?_⟩,fun y c' e=>?_,I.free,I.fQ,fun p hp=>?_,tracked ⟨oc,hoc,I.fQ x c hc⟩ hs,by simpa using I.len⟩ ⟨c,hs,.inr hc⟩
  ·exact (hs.2 b (MV (Mt (FG e) (I.ok.cab x c hfn hc)))).trans (I.gw.keep b o e n hb hx)
  ·obtain ⟨sl,e1⟩:=I.gw.slot b o e n hb hx
   show ⟨sl,(hs.2 b (MV (Mt (FG e) (I.ok.cab x c hfn hc)))).trans e1⟩
  ·obtain ⟨o',e1⟩:=I.gw.there b o e hx
   show ⟨o',(hs.2 b (MV (Mt (FG e) (I.ok.cab x c hfn hc)))).trans e1⟩
  ·by_cases hj:j=i
   ·subst hj
    erw [hi] at e1;erw [ah_ hiσ] at e2;show ⟨u,r,.inr ⟨.inl hk,c,hc,pD⟩⟩
   ·rw [akp (FN hj)] at e2
    obtain ⟨u',r',q⟩:=hl j y v' e1 e2 e3;show ⟨u',r',?_⟩
    rcases q with q|⟨k,c',e,z'⟩
    ·exact .inl q
    ·refine .inr ⟨k,c',e,z'.sameBut hs ?_⟩
     rintro rfl;exact hj (eL hN e1 (I.ok.inj _ _ _ e hc▸hi))
  ·by_cases hcc:c'=c
   ·subst hcc;show ⟨_,pD⟩
   ·obtain ⟨w2,z2⟩:=I.cell y c' e
    show ⟨w2,z2.sameBut hs hcc⟩
  ·obtain ⟨e,n,ne,nf,d⟩:=I.pin p hp
   show ⟨(hs.2 p.1 ?_).trans e,n,ne,nf,d⟩;intro q;rw [q,hoc] at e;let q':oc=p.2:=MY e;exact d w' (by rwa [<-q'])
def ka {E:δ}{Q:Μ}(I:Inv X pX Z H s)(hN:X.N.Nodup)(hi:X.N[i]?=some x)(hx:Loc X.env.scope x)(r:RelV v u)
  (h:∀s',Inv X pX (Z.set i (some v)) H s' ->Q () s') (hf:X.fn x=true\/X.env.scope.names.lookup x=some .local:=by first|exact .inl rfl|exact .inr rfl|assumption):AX M A (storeName X.env x u) Q E s:=
 wc I hN hi hx r (fun s' I' _=>h s' I') hf
def Inv.JF (I:Inv X pX Z H s)(ho:s'.os=s.os)(u:Un (mw X.stack) ch H H' s.heap s'.heap)(bH:jz X.prog X.w H' s'.heap)(hg:SR s'.gens)
  (T5:∀b∈ch,(b∈X.ex\/X.oZ.heap.objs.size<=b)/\b≠X.env.locals/\(∀x c,X.env.cells.lookup x=some c->c≠b)/\∀p∈X.pn++pX,p.1≠b):Inv X pX Z H' s':=by
 obtain ⟨h',g',d',t',o'⟩:=s';let e:o'=s.os:=ho;subst e;exact I.call (g':=g') (t':=t') (d':=d') u bH hg T5
end
abbrev XK:=Value->Option AO->Hp->Prop
abbrev St:=List (Option V)
abbrev VK:=V->Hp->Prop
abbrev _root_.Χ:=V->List V->Hp->VK->Prop
abbrev TE:=St->Hp->VK->Prop
abbrev TT:=St->Hp->(Bool->Hp->Prop)->Prop
abbrev TA:=St->Hp->(List V->Hp->Prop)->Prop
structure Ends where
 nx:St->Hp->Prop
 rt:VK
 bk:St->Hp->Prop:=fun _ _=>False
 ct:St->Hp->Prop:=fun _ _=>False
abbrev TS:=Ends->St->Hp->Prop
def EP (X:Cx)(pX:ε)(Z:St)(Q:VK)(u:Value)(s':BW):Prop:=∃v H',Inv X pX Z H' s'/\RelV v u/\Q v H'
def TP (X:Cx)(pX:ε)(Z:St)(Q:Bool->Hp->Prop)(b:Bool)(s':BW):Prop:=∃H',Inv X pX Z H' s'/\Q b H'
def abq (X:Cx)(pX:ε)(Z:St)(Q:List V->Hp->Prop)(us:ν)(s':BW):Prop:=∃vs H',Inv X pX Z H' s'/\Vals vs us/\Q vs H'
def SP (X:Cx)(pX:ε)(D:Ends)(f:Flow)(s':BW):Prop:=
 match f with
 | .next=>∃Z' H',Inv X pX Z' H' s'/\D.nx Z' H'
 | .brk=>∃Z' H',Inv X pX Z' H' s'/\D.bk Z' H'
 | .cont=>∃Z' H',Inv X pX Z' H' s'/\D.ct Z' H'
 | .ret u=>∃v Z' H',Inv X pX Z' H' s'/\RelV v u/\D.rt v H'
def PE (X:Cx)(e:Expr)(t:TE):Prop:=
 ∀(pX:ε)(s:BW)(Z:St)(H:Hp)(Q:VK),Inv X pX Z H s->t Z H Q->AX (BD X.prog X.w) X.A (DC e X.env) (EP X pX Z Q) X.xe s
def PT (X:Cx)(e:Expr)(t:TT):Prop:=
 ∀(pX:ε)(s:BW)(Z:St)(H:Hp)(Q:Bool->Hp->Prop),Inv X pX Z H s->t Z H Q->AX (BD X.prog X.w) X.A (isTrue e X.env (DC e X.env)) (TP X pX Z Q) X.xe s
def PW (X:Cx)(e:Expr)(t:TT):Prop:=
 ∀(whole:Sem Value)(pX:ε)(s:BW)(Z:St)(H:Hp)(Q:Bool->Hp->Prop),Inv X pX Z H s->t Z H Q->AX (BD X.prog X.w) X.A (isTrue e X.env whole) (TP X pX Z Q) X.xe s
def PW.pt (h:PW X e t):PT X e t:=h _
def PA (X:Cx)(es:Β)(t:TA):Prop:=
 ∀(pos:Pos)(pX:ε)(s:BW)(Z:St)(H:Hp)(Q:List V->Hp->Prop),Inv X pX Z H s->t Z H Q->AX (BD X.prog X.w) X.A (spliced (MZ pos (DI es X.env))) (abq X pX Z Q) X.xe s
def PS (X:Cx)(st:Stmt)(t:TS):Prop:=
 ∀(pX:ε)(s:BW)(Z:St)(H:Hp)(D:Ends),Inv X pX Z H s->t D Z H->AX (BD X.prog X.w) X.A (exec st X.env) (SP X pX D) X.xe s
def uS (X:Cx)(st:List Stmt)(t:TS):Prop:=
 ∀(pX:ε)(s:BW)(Z:St)(H:Hp)(D:Ends),Inv X pX Z H s->t D Z H->AX (BD X.prog X.w) X.A (execs st X.env) (SP X pX D) X.xe s
def cI {Q Q':Y->BW->Prop}{E:δ}(h:AX M A t Q E s)(hQ:∀a s,Q a s->Q' a s):AX M A t Q' E s:=L_ h hQ fun _ _ x=>x
section
variable {X:Cx}
inductive Zs (i:Nat)(Z:St)(H:Hp)(Q:VK):Prop
|mk (v:_)(_:Z[i]?=some (some v))(_:Q v H)
def tC (v:V):TE:=fun _ H Q=>Q v H
def aho {pos:Pos}(hN:X.N[i]?=some x)(hv:Vis X.env.scope x)(hd:(x==("__debug__":Str))=false:=by decide)(r_:(x==("__classdict__":Str))=false:=by decide):PE X (.Name x pos) (Zs i):=by
 intro pX s Z H Q I h;obtain ⟨v,e,h⟩:=h;obtain ⟨m,hn,hl⟩:=I.loc;obtain ⟨u,r,l⟩:=hl i x v hN e hv;let fin:EP X pX Z Q u s:=⟨v,H,I,r,h⟩
 rcases l with ⟨hk,hm⟩|⟨hk,c,hc,hcell⟩
 ·exact wpAny_Name (wpAny_loadName_local I.ok.kind hk hn hm fin) hd
 ·rcases hk with hk|hk
  ·exact wpAny_Name (wpAny_loadName_cell I.ok.kind hk hc hcell fin) hd
  ·exact wpAny_Name (wpAny_loadName_free I.ok.kind hk hc hcell fin r_) hd
def af :PE X (.Constant (.int i) j pos) (tC (.int i)):=fun _ _ _ H _ I h=>wpAny_Constant_int ⟨.int i,H,I.tok _,⟨_,rfl⟩,h⟩
def AA :PE X (.Constant (.bool b) j pos) (tC (.bl b)):=fun _ _ _ H _ I h=>Constant_bool ⟨.bl b,H,I,rfl,h⟩
def kc :PE X (.Constant .none j pos) (tC .cO):=fun _ _ _ H _ I h=>Constant_none ⟨.cO,H,I,rfl,h⟩
def bT :PE X (.Constant (.str x) j pos) (tC (.str x)):=fun _ _ _ H _ I h=>Calls.Constant_str ⟨.str x,H,I.tok _,⟨_,rfl⟩,h⟩
def Gl (X:Cx)(x:Str):Prop:=X.env.kindOf x=some .globalImplicit
def gT {E:δ}{Z:St}{Q:δ}(I:Inv X pX Z H s)(hg:Gl X x)(hm:X.mg x=some u)(h:Q u s)
  (hd:(x==("__debug__":Str))=false:=by decide):AX (BD X.prog X.w) X.A (DC (.Name x pos) X.env) Q E s:=
 Calls.Name_function_global I.ok.kind hg (Calls.loadGlobal_global (by rw [I.ok.glob];exact I.mod.glob.keeps I.bk) hm h) hd
def iS {E:δ}{Z:St}{pos:Pos}{Q:δ}(I:Inv X pX Z H s)(hg:Gl X x)(hm:X.mg x=none)(hv:Nf x=some u)(h:Q u s)
  (hn:x≠ "__name__":=by decide) (hd:(x==("__debug__":Str))=false:=by decide):AX (BD X.prog X.w) X.A (DC (.Name x pos) X.env) Q E s:=by
 obtain ⟨mb,h1,h2⟩:=I.mod.blt;exact Calls.Name_function_global I.ok.kind hg (Calls.loadGlobal_builtin (by rw [I.ok.glob];exact I.mod.glob.keeps I.bk) hm (by rw [I.ok.blt];exact h1.keeps I.bk) ((h2 x hn).trans hv) h) hd
def dJ (hg:Gl X x)(hm:X.mg x=some u)(r:RelV v u)(hd:(x==("__debug__":Str))=false:=by decide):PE X (.Name x pos) (tC v):=
 fun _ _ _ H _ I h=>gT I hg hm ⟨v,H,I,r,h⟩ hd
def ahv {pos:Pos}(hg:Gl X x)(hm:X.mg x=none)(hv:Nf x=some u)(r:RelV v u)(hn:x≠ "__name__":=by decide)(hd:(x==("__debug__":Str))=false:=by decide):PE X (.Name x pos) (tC v):=
 fun _ _ _ H _ I h=>iS I hg hm hv ⟨v,H,I,r,h⟩ hn hd
variable {a b:Expr}{ta tb:TE}{pos:Pos}
def PC (X:Cx)(op:CmpOp)(a b:Expr)(t:TE):Prop:=
 ∀(pX:ε)(s:BW)(Z:St)(H:Hp)(Q:VK),Inv X pX Z H s->t Z H Q->
  AX (BD X.prog X.w) X.A (DC a X.env) (fun v oW=>AX (BD X.prog X.w) X.A (DC b X.env) (fun u uQ=>AX (BD X.prog X.w) X.A (Nj op v u) (EP X pX Z Q) X.xe uQ) X.xe oW) X.xe s
inductive tB_ (Q:(Bool->Hp->Prop))(x:V)(H1:Hp):Prop
|mk (c:_)(_:x=.bl c)(_:Q c H1)
def tB (t:TE):TT:=fun Z H Q=>t Z H fun x H1=>tB_ Q x H1
def xu (h:PC X op a b t)(h1:ZO op b=false:=by first|exact nobehind _ cr cr|rfl):PT X (.Compare a [op] [b] pos) (tB t):=by
 intro pX s Z H Q I hw;refine wpAny_isTrue_Compare1 (cI (h pX s Z H _ I hw) fun v s1 h1=>cI h1 fun u s2 h2=>cI h2 fun c s3 ⟨x,H1,I1,r1,q1⟩=>?_) h1;obtain ⟨d,rfl,q⟩:=q1;cases r1;exact QD ⟨H1,I1,q⟩
def EZ (h:PE X e t)(he:∀whole,isTrue e X.env whole=(do let v <- whole;standAt e.pos;VI [v] (truthy v)):=by intro _;rfl):PT X e (tB t):=by
 intro pX s Z H Q I hw;refine isTrue_plain (cI (h pX s Z H _ I hw) fun v s1 ⟨x,H1,I1,r1,q1⟩=>?_) (he _);obtain ⟨d,rfl,q⟩:=q1;cases r1;exact QD ⟨H1,I1,q⟩
variable {tA tB':TT}{rest:Β}
def alH (t u:TT):TT:=fun Z H Q=>t Z H fun c H1=>if c=true then u Z H1 Q else Q false H1
def tOr (t u:TT):TT:=fun Z H Q=>t Z H fun c H1=>if c=true then Q true H1 else u Z H1 Q
def alI (t:TT):TT:=fun Z H Q=>t Z H fun c H1=>Q (!c) H1
def xv (ha:PT X a tA):PW X (.BoolOp .And [a] pos) tA:=by
 intro wh pX s Z H Q I h;refine isTrue_and (cI (ha pX s Z H Q I h) fun c s1 e=>?_);cases c with
 | true=>exact isTrue_and_nil e
 | false=>exact e
def FA (ha:PT X a tA):PW X (.BoolOp .Or [a] pos) tA:=by
 intro wh pX s Z H Q I h;refine isTrue_or (cI (ha pX s Z H Q I h) fun c s1 e=>?_);cases c with
 | false=>exact isTrue_or_nil e
 | true=>exact e
def FC (ha:PT X a tA)(hb:PW X (.BoolOp .And (b::rest) pos) tB'):PW X (.BoolOp .And (a::b::rest) pos) (alH tA tB'):=by
 intro wh pX s Z H Q I h;refine isTrue_and (cI (ha pX s Z H _ I h) fun c s1 ⟨H1,I1,q1⟩=>?_);cases c with
 | true=>exact hb wh pX s1 Z H1 Q I1 q1
 | false=>show ⟨H1,I1,q1⟩
def Qg (ha:PT X a tA)(hb:PW X (.BoolOp .Or (b::rest) pos) tB'):PW X (.BoolOp .Or (a::b::rest) pos) (tOr tA tB'):=by
 intro wh pX s Z H Q I h;refine isTrue_or (cI (ha pX s Z H _ I h) fun c s1 ⟨H1,I1,q1⟩=>?_);cases c with
 | true=>show ⟨H1,I1,q1⟩
 | false=>exact hb wh pX s1 Z H1 Q I1 q1
def ahV (ha:PT X a tA):PT X (.UnaryOp .Not a pos) (alI tA):=by
 intro pX s Z H Q I h;exact isTrue_not (ha pX s Z H (fun c H1=>Q (!c) H1) I h)
def tIf (t:TT)(ta tb:TE):TE:=fun Z H Q=>t Z H fun c H1=>if c=true then ta Z H1 Q else tb Z H1 Q
def ah1 (hc:PT X c tA)(ha:PE X a ta)(hb:PE X b tb):PE X (.IfExp c a b pos) (tIf tA ta tb):=by
 intro pX s Z H Q I h;refine wpAny_IfExp (cI (hc pX s Z H _ I h) fun d s1 ⟨H1,I1,q1⟩=>?_);cases d with
 | true=>exact ha pX s1 Z H1 Q I1 q1
 | false=>exact hb pX s1 Z H1 Q I1 q1
end
def aK (K:Frag)(H:Hp)(a:AO)(xs:ζ):Prop:=
 Rd H a (.lst xs)\/
  ∃(o:Obj)(AU:Κ)(n:Nat),K.lookup a=some o/\o.cls=.type "list"/\o.dict=none/\o.data=.seq AU n/\AU.size<=BZ/\Vals xs AU.toList
def bZ (K:Frag)(H:Hp)(a:AO)(xs:ζ):Prop:=
 Rd H a (.tup xs)\/
  ∃(o:Obj)(AU:Κ)(n:Nat),K.lookup a=some o/\o.cls=.type "tuple"/\o.data=.seq AU n/\AU.size<=BZ/\Vals xs AU.toList
def alJ:Value->Option V
 | .none=>some .cO
 | .bool b=>some (.bl b)
 | .int i _=>some (.int i)
 | .str x _=>some (.str x)
 | .bytes b _=>some (.uY b)
 | .float b _=>some (.flt b)
 | .ref a=>some (.ref a)
 | .type n=>some (.ty n)
 | _=>none
def RelV.abs (r:RelV x u):alJ u=some x:=by
 cases x with
 | cO=>cases r;rfl
 | bl _=>cases r;rfl
 | int _=>obtain ⟨t,rfl⟩:=r;rfl
 | str _=>obtain ⟨t,rfl⟩:=r;rfl
 | uY _=>obtain ⟨t,rfl⟩:=r;rfl
 | flt _=>obtain ⟨t,rfl⟩:=r;rfl
 | ref _=>cases r;rfl
 | ty _=>cases r;rfl
def RelV.inj (r:RelV x u)(q:RelV y u):x=y:=MY (r.abs.symm.trans q.abs)
theorem Vals.inj:∀{xs ys:ζ} {us:ν},Vals xs us->Vals ys us->xs=ys
 | _,_,_,.nil,.nil=>rfl
 | _,_,_,.cons r t,.cons r' t'=>by rw [r.inj r',Vals.inj t t']
section
variable {X:Cx}{pX:ε}{Z:St}{H:Hp}{s:BW}{a:AO}{xs ys:ζ}
def aK.of {K:Frag}(h:H a=some (.lst xs)):aK K H a xs:=.inl (.inl h)
def bZ.of {K:Frag}(h:H a=some (.tup xs)):bZ K H a xs:=.inl (.inl h)
def Inv.list (I:Inv X pX Z H s)(h:aK X.K H a xs):∃AU:List Value,Vals xs AU/\PlainL s.heap a AU.toArray/\xs.length<=BZ:=by
 rcases h with h|⟨o,AU,n,hk,hc,hd,hs,hz,r⟩
 ·obtain ⟨z,AU,n,r,e⟩:=h.ok I.bH
  show ⟨AU,r,⟨_,n,e,rfl,rfl,rfl⟩,z⟩
 ·show ⟨AU.toList,r,⟨o,n,I.j8 a o hk,hc,hd,by simpa using hs⟩,?_⟩
  let e:=r.length;simp only [ak'] at e;omega
def Inv.tuple (I:Inv X pX Z H s)(h:bZ X.K H a xs):∃AU:List Value,Vals xs AU/\IsTup s.heap a AU.toArray/\xs.length<=BZ:=by
 rcases h with h|⟨o,AU,n,hk,hc,hs,hz,r⟩
 ·obtain ⟨z,AU,r,p⟩:=h.ok I.bH
  show ⟨AU,r,p,z⟩
 ·show ⟨AU.toList,r,⟨o,I.j8 a o hk,hc,n,by simpa using hs⟩,?_⟩
  let e:=r.length;simp only [ak'] at e;omega
def Inv.jb (I:Inv X pX Z H s)(h:aK X.K H a xs)(h':aK X.K H a ys):xs=ys:=by
 obtain ⟨AU,r,⟨o,n,e,_,_,d⟩,_⟩:=I.list h;obtain ⟨rH,r',⟨o',n',e',_,_,d'⟩,_⟩:=I.list h';erw [e] at e';rw [d] at d';injection d' with d1 _
 have:AU=rH:=by simpa using ph amY d1
 subst this;exact r.inj r'
def Inv.lK (I:Inv X pX Z H s)(h:bZ X.K H a xs)(h':bZ X.K H a ys):xs=ys:=by
 obtain ⟨AU,r,⟨o,e,_,n,d⟩,_⟩:=I.tuple h;obtain ⟨rH,r',⟨o',e',_,n',d'⟩,_⟩:=I.tuple h';erw [e] at e';rw [d] at d';injection d' with d1 _
 have:AU=rH:=by simpa using ph amY d1
 subst this;exact r.inj r'
end
abbrev Cx.q_ (X:Cx)(E:δ):Cx:={X with xe:=E}
abbrev Cx.wd (X:Cx):Cx:=X.q_ fun _ _=>False
theorem Cx.Ok.q_ {X:Cx}(ok:X.Ok)(E:δ):(X.q_ E).Ok:=
 ⟨ok.mod,ok.kind,ok.glob,ok.blt,ok.above,ok.inj,ok.has,ok.cab,ok.hd,ok.frames,ok.stk,ok.exf,ok.bs,ok.T3,ok.Mp,ok.Qe,ok.pH,ok.XS⟩
def Cx.Ok.iT {X:Cx}(ok:(X.q_ E).Ok):X.Ok:=
 ⟨ok.mod,ok.kind,ok.glob,ok.blt,ok.above,ok.inj,ok.has,ok.cab,ok.hd,ok.frames,ok.stk,ok.exf,ok.bs,ok.T3,ok.Mp,ok.Qe,ok.pH,ok.XS⟩
section
variable {X:Cx}{pX:ε}{Z:St}{H:Hp}{s:BW}{E:δ}
theorem Inv.q_ (I:Inv X pX Z H s)(E:δ):Inv (X.q_ E) pX Z H s:=⟨I.ok.q_ E,I.os,I.bare,I.gw,I.loc,I.cell,I.free,I.fQ,I.pin,I.bH,I.len⟩
theorem Inv.iT (I:Inv (X.q_ E) pX Z H s):Inv X pX Z H s:=⟨I.ok.iT,I.os,I.bare,I.gw,I.loc,I.cell,I.free,I.fQ,I.pin,I.bH,I.len⟩
theorem SP.iT (h:SP (X.q_ E) pX D f s'):SP X pX D f s':=by
 cases f with
 | next=>obtain ⟨Z',H',I,q⟩:=h;show ⟨Z',H',I.iT,q⟩
 | brk=>obtain ⟨Z',H',I,q⟩:=h;show ⟨Z',H',I.iT,q⟩
 | cont=>obtain ⟨Z',H',I,q⟩:=h;show ⟨Z',H',I.iT,q⟩
 | ret u=>obtain ⟨v,Z',H',I,r,q⟩:=h;show ⟨v,Z',H',I.iT,r,q⟩
theorem uS.wd {st:List Stmt}(h:uS X.wd st t):uS X st t:=fun pX s Z H D I hw=>
 L_ (h pX s Z H D (I.q_ _) hw) (fun _ _ q=>q.iT) fun _ _ z=>False.elim z
end
section
variable {X:Cx}{st:Stmt}{rest:List Stmt}{t u:TS}{e:Expr}{te:TE}{pos:Pos}
def acX:TS:=fun D Z H=>D.nx Z H
def FO (t u:TS):TS:=fun D Z H=>t {D with nx:=u D} Z H
def aI:uS X [] acX:=fun _ _ Z H _ I h=>Zu ⟨Z,H,I,h⟩
def aa (h1:PS X st t)(h2:uS X rest u):uS X (st::rest) (FO t u):=by
 intro pX s Z H D I h;refine wpAny_execs_cons (cI (h1 pX s Z H {D with nx:=u D} I h) fun f s1 q=>?_);cases f with
 | next=>
  obtain ⟨Z',H',I',q⟩:=q;exact h2 pX s1 Z' H' D I' q
 | ret v=>exact q
 | brk=>exact q
 | cont=>exact q
def aj (h1:PS X st t):uS X [st] t:=by
 intro pX s Z H D I h;refine wpAny_execs_cons (cI (h1 pX s Z H D I h) fun f s1 q=>?_);cases f with
 | next=>exact Zu q
 | ret v=>exact q
 | brk=>exact q
 | cont=>exact q
def acZ:TS:=fun D Z H=>D.ct Z H
def kvs:PS X (.Continue pos) acZ:=fun _ _ Z H _ I h=>wpAny_Continue ⟨Z,H,I,h⟩
def Inv.quiet {Z:St}(I:Inv X pX Z H s):interactive X.env=false:=by simp [interactive,I.ok.kind]
def ac0 (te:TE):TS:=fun D Z H=>te Z H fun _ H1=>D.nx Z H1
def bP (he:PE X e te)(hs:Sg e none pos.line X.env=pure false:=by rfl):PS X (.Expr e pos) (ac0 te):=by
 intro pX s Z H D I h;exact wpAny_Expr_any (cI (he pX s Z H _ I h) fun v s1 ⟨x,H1,I1,r1,q1⟩=>⟨Z,H1,I1,q1⟩) I.quiet hs
def alK (te:TE):TS:=fun D Z H=>te Z H D.rt
def aD (he:PE X e te):PS X (.Return (some e) pos) (alK te):=by
 intro pX s Z H D I h;exact wpAny_Return_some (cI (he pX s Z H _ I h) fun v s1 ⟨x,H1,I1,r1,q1⟩=>⟨x,Z,H1,I1,r1,q1⟩)
def alL (c:TT)(t u:TS):TS:=fun D Z H=>c Z H fun b H1=>if b=true then t D Z H1 else u D Z H1
def bh (hc:PT X c tc)(ha:uS X a t)(hb:uS X b u):PS X (.If c a b pos) (alL tc t u):=by
 intro pX s Z H D I h;refine wpAny_If (cI (hc pX s Z H _ I h) fun d s1 ⟨H1,I1,q1⟩=>?_);cases d with
 | true=>exact ha pX s1 Z H1 D I1 q1
 | false=>exact hb pX s1 Z H1 D I1 q1
def ahO:TS:=fun _ _ _=>False
def eO:PS X st ahO:=fun _ _ _ _ _ _ h=>h.elim
end
abbrev TG:=V->St->Hp->(St->Hp->Prop)->Prop
abbrev XW:=List V->St->Hp->(St->Hp->Prop)->Prop
def PG (X:Cx)(target:Expr)(t:TG):Prop:=
 ∀(pX:ε)(s:BW)(Z:St)(H:Hp)(v:V)(u:Value)(Q:St->Hp->Prop),Inv X pX Z H s->RelV v u->t v Z H Q->
  AX (BD X.prog X.w) X.A (assign target X.env u) (fun _ s'=>∃Z' H',Inv X pX Z' H' s'/\Q Z' H') X.xe s
def PGs (X:Cx)(ts:Β)(t:XW):Prop:=
 ∀(pX:ε)(s:BW)(Z:St)(H:Hp)(vs:ζ)(us:ν)(Q:St->Hp->Prop),Inv X pX Z H s->Vals vs us->t vs Z H Q->
  AX (BD X.prog X.w) X.A (assignInOrder ((Vo ts X.env).map (·.2)) us) (fun _ s'=>∃Z' H',Inv X pX Z' H' s'/\Q Z' H') X.xe s
abbrev Zw:=V->V->V->Hp->(Hp->Prop)->Prop
def ac2 (X:Cx)(t:Zw):Prop:=
 ∀(pX:ε)(s:BW)(Z:St)(H:Hp)(o i v:V)(ov iv u:Value)(Q:Hp->Prop),Inv X pX Z H s->RelV o ov->RelV i iv->RelV v u->t o i v H Q->
  AX (BD X.prog X.w) X.A (setItem ov iv u) (fun _ s'=>∃H',Inv X pX Z H' s'/\Q H') X.xe s
section
variable {X:Cx}{pos:Pos}
def cG (i:Nat):TG:=fun v Z H Q=>Q (Z.set i (some v)) H
def fC (hN:X.N.Nodup)(hi:X.N[i]?=some x)(hx:Loc X.env.scope x)(hf:X.fn x=true\/X.env.scope.names.lookup x=some .local:=by first|exact .inl rfl|exact .inr rfl|assumption):PG X (.Name x pos) (cG i):=by
 intro pX s Z H v u Q I r h;exact wpAny_assign_Name (ka I hN hi hx r (fun s' I'=>⟨_,H,I',h⟩) hf)
def Zx:XW:=fun vs Z H Q=>vs=[]/\Q Z H
def AE (t:TG)(u:XW):XW:=fun vs Z H Q=>∃v r,vs=v::r/\t v Z H fun Z' H'=>u r Z' H' Q
def e_:PGs X [] Zx:=by
 intro pX s Z H vs us Q I r h;obtain ⟨e,h⟩:=h;subst e;cases r;exact assignInOrder_nil ⟨Z,H,I,h⟩
def bu (h1:PG X e t)(h2:PGs X es u)
  (hs:(Vo (e::es) X.env).map (·.2)=assign e X.env::(Vo es X.env).map (·.2):=by rfl):PGs X (e::es) (AE t u):=by
 intro pX s Z H vs us Q I r h;obtain ⟨v,vr,e1,h⟩:=h;subst e1;cases r with
 | cons r rr=>
  rw [hs];refine assignInOrder_cons (cI (h1 pX s Z H _ _ _ I r h) fun _ s1 ⟨Z1,H1,I1,q1⟩=>?_);exact h2 pX s1 Z1 H1 _ _ Q I1 rr q1
inductive Qh (K:Frag)(n:Nat)(t:XW)(v:V)(Z:St)(H:Hp)(Q:(St->Hp->Prop)):Prop
|mk (a xs:_)(_:v=.ref a)(_:bZ K H a xs)(_:xs.length=n)(_:t xs Z H Q)
def iU {k:Nat}(hc:X.calm=true)(h:PGs X es t)
  (hn:(Vo es X.env).length=n:=by rfl) (Qi:(Vo es X.env).findIdx? (·.1)=none:=by rfl):PG X (.Tuple es k pos) (Qh X.K n t):=by
 intro pX s Z H v u Q I r hw;obtain ⟨a,xs,e1,hq,hl,hw⟩:=hw;subst e1;cases r;obtain ⟨AU,rv,ht,hz⟩:=I.tuple hq;refine assign_Tuple_tuple (I.ok.hd hc) ht (by simp [hn,<-hl,rv.length]) Qi fun h' hx=>?_;let I1:Inv X pX Z H {s with heap:=h'}:=I.kept (t':=s.toks) fun b o e=>hx b o (MV (FG e)) e;exact h pX _ Z H xs _ Q I1 (by simpa using rv) hw
def alM (to ti:TE)(t:Zw):TG:=fun v Z H Q=>to Z H fun o H1=>ti Z H1 fun i H2=>t o i v H2 fun H3=>Q Z H3
def FD (ho:PE X o to)(hi:PE X i ti)(hs:ac2 X t)
  (ha:∀v,assign (.Subscript o i pos) X.env v=(do
   let ov <- VI [v] (DC o X.env);let iv <- VI [v,ov] (DC i X.env)
   standAt pos
   VI [v,ov,iv] (setItem ov iv v)
   release [v,ov,iv] []):=by intro _;rfl):PG X (.Subscript o i pos) (alM to ti t):=by
 intro pX s Z H v u Q I r h;rw [ha];refine AP (Ot (cI (ho pX s Z H _ I h) fun ov s1 ⟨x,H1,I1,r1,q1⟩=>?_));refine AP (Ot (cI (hi pX s1 Z H1 _ I1 q1) fun iv s2 ⟨y,H2,I2,r2,q2⟩=>?_));refine AP (Zm (AP (Ot (cI (hs pX s2 Z H2 x y v ov iv u _ I2 r1 r2 r q2) fun _ s3 ⟨H3,I3,q3⟩=>?_))));exact wpAny_release ⟨Z,H3,I3,q3⟩
def FE (te:TE)(g:TG):TS:=fun D Z H=>te Z H fun x H1=>g x Z H1 D.nx
def FF (he:PE X e te)(hg:PG X tg g)(hs:swapsWithSole [tg] e pos.line X.env=pure false:=by rfl)(hw:swappedStores [tg] e X.env=pure none:=by rfl)
  (h1:(Vo [tg] X.env).map (·.2)=[assign tg X.env]:=by rfl):PS X (.Assign [tg] e pos) (FE te g):=by
 intro pX s Z H D I h;refine wpAny_Assign_stores (cI (he pX s Z H _ I h) fun v s1 ⟨x,H1,I1,r1,q1⟩=>?_) hs hw;rw [h1];exact cI (hg pX s1 Z H1 x v _ I1 r1 q1) fun _ s2 q=>q
def ahN (hN:X.N.Nodup)(hi:X.N[i]?=some x)(hx:Loc X.env.scope x)(he:PE X e te)(hs:Sg e (some (.Name x pos')) pos.line X.env=pure false:=by rfl)(hf:X.fn x=true\/X.env.scope.names.lookup x=some .local:=by first|exact .inl rfl|exact .inr rfl|assumption):
  PS X (.Assign [.Name x pos'] e pos) (FE te (cG i)):=by
 intro pX s Z H D I h;refine wpAny_Assign_Name (cI (he pX s Z H _ I h) fun v s1 ⟨y,H1,I1,r1,q1⟩=>?_) hs;exact ka I1 hN hi hx r1 (fun s2 I2=>⟨_,H1,I2,q1⟩) hf
inductive XX (i:Nat)(j:Nat)(D:Ends)(Z:St)(vs:ζ)(H1:Hp):Prop
|mk (v w:_)(_:vs=[v,w])(_:D.nx ((Z.set i (some v)).set j (some w)) H1)
def alN (i j:Nat)(ta:TA):TS:=fun D Z H=>ta Z H fun vs H1=>XX i j D Z vs H1
def ahM (hc:X.calm=true)(hN:X.N.Nodup)(hi:X.N[i]?=some x)(hj:X.N[j]?=some y)(hij:i≠j)
  (hx:X.env.scope.names.lookup x=some .local) (hy:X.env.scope.names.lookup y=some .local) (ha:PA X [a,b] ta)
  (hw:swappedStores [.Tuple [.Name x px,.Name y py] kt pt] (.Tuple [a,b] k2 pt2) X.env=pure (some [x,y]))
  (hs:swapsWithSole [.Tuple [.Name x px,.Name y py] kt pt] (.Tuple [a,b] k2 pt2) pos.line X.env=pure false:=by rfl):
  PS X (.Assign [.Tuple [.Name x px,.Name y py] kt pt] (.Tuple [a,b] k2 pt2) pos) (alN i j ta):=by
 intro pX s Z H D I h;rw [exec_Assign_arm];refine AP (Zm ?_);rw [hs];refine AP (B_ ?_);rw [lH cr];refine AP (Tuple_ (cI (ha _ pX s Z H _ I h) fun us s1 ⟨vs,H1,I1,r1,q1⟩=>?_));obtain ⟨v,w,e1,q1⟩:=q1;subst e1
 obtain ⟨u1,u2,rfl,rv,ra⟩:∃u1 u2,us=[u1,u2]/\RelV v u1/\RelV w u2:=by
  cases r1 with
  | cons p q=>
   cases q with
   | cons p' q'=>
    cases q';show ⟨_,_,rfl,p,p'⟩
 refine Zz ?_ (by show 2<=BZ;decide);let I2:Inv X pX Z H1 {s1 with heap:=s1.heap.push {cls:=.type "tuple",data:=.seq [u1,u2].toArray}}:=I1.kept (t':=s1.toks) fun b o e=>FK _ e;rw [hw];refine AP (B_ ?_);show AX (BD X.prog X.w) X.A (do rule "assign.swapped-stores";let items <- unpackItems (.ref s1.heap.objs.size) 2 none;assignInOrder [fun v=>bindName X.env y v,fun v=>bindName X.env x v] items.reverse;pure Flow.next) _ _ _;refine AP (wpAny_rule (AP (unpackItems_tuple (items:= #[u1,u2]) (I.ok.hd hc) (IsTup.new s1.heap _) fun h' T6 =>?_)));let I3:=I2.kept (h':=h') (t':=s1.toks) fun b o e=>T6 b o (MV (FG e)) e;show AX _ _ (assignInOrder [fun v=>bindName X.env y v,fun v=>bindName X.env x v] [u2,u1] >>=fun _=>pure Flow.next) _ _ _;refine AP (assignInOrder_cons (wpAny_bindName (ka I3 hN hj (.inl hy) ra (fun s2 I4=>?_) (.inr hy))));refine assignInOrder_cons (wpAny_bindName (ka I4 hN hi (.inl hx) rv (fun s3 I5=>assignInOrder_nil (B_ ?_)) (.inr hx)));rw [List.set_comm _ _ (FN hij)] at I5;show ⟨_,H1,I5,q1⟩
def ah6 (c:TT)(tb:TS):TS:=fun D Z H=>∃W:Nat->St->Hp->Prop,(∃m,W m Z H)/\∀m Z H,W m Z H->
 c Z H fun b H1=>if b=true then ∃N:St->Hp->Prop,(∀Z' H',N Z' H' ->∃m',m'<m/\W m' Z' H')/\tb {D with nx:=N,ct:=N,bk:=D.nx} Z H1 else D.nx Z H1
def si (hp:PassesOwn (BD X.prog X.w) X.A X.env X.xe)(hc:PT X c tc)(hb:uS X body tb):PS X (.While c body [] pos) (ah6 tc tb):=by
 intro pX s Z H D I h;obtain ⟨W,⟨m0,w0⟩,turn⟩:=h;refine wpAny_While (codeAny_whileLoop (fun n s'=>∃Z' H',Inv X pX Z' H' s'/\W n Z' H') ?_ m0 ⟨Z,H,I,w0⟩);rintro n s1 ⟨Z1,H1,I1,w1⟩;refine Wj hp (cI (hc pX s1 Z1 H1 _ I1 (turn n Z1 H1 w1)) fun b s2 ⟨H2,I2,q2⟩=>?_);cases b with
 | true=>
  obtain ⟨N,hN,q2⟩:=q2;rw [mG rfl];refine Wj hp (cI (hb pX s2 Z1 H2 _ I2 q2) fun f s3 q3=>?_);cases f with
  | next=>
   obtain ⟨Z3,H3,I3,n3⟩:=q3;obtain ⟨m',hm,w3⟩:=hN Z3 H3 n3;show ⟨m',hm,Z3,H3,I3,w3⟩
  | cont=>
   obtain ⟨Z3,H3,I3,n3⟩:=q3;obtain ⟨m',hm,w3⟩:=hN Z3 H3 n3;show ⟨m',hm,Z3,H3,I3,w3⟩
  | brk=>exact q3
  | ret v=>exact q3
 | false=>
  rw [lH MS];exact Zu ⟨Z1,H2,I2,q2⟩
end
structure It where
 go:Nat->Hp->Prop
 Mr:Nat->Hp->V->Hp->Prop
 stop:Nat->Hp->Prop
def ma (X:Cx)(pX:ε)(H:Hp)(b:AO):Prop:=
 H b=none/\b≠X.env.locals/\b∉X.fs/\(b∈X.ex\/X.oZ.heap.objs.size<=b)/\(∀x c,X.env.cells.lookup x=some c->c≠b)/\∀p∈X.pn++pX,p.1≠b
def Inv.rf {Z:St}{b:AO}(I:Inv X pX Z H s)(hb:s.heap.objs.size<=b)(hn:H' b=none):ma X pX H' b:=by
 show ⟨hn,V9 (Mt I.lt hb),I.alD hb,.inr (CT I.sz hb),fun x c e z=>?_,fun p hp z=>?_⟩
 ·obtain ⟨v,q⟩:=I.cell x c e
  exact CH (Mt q.lt (by rwa [z])) (QX _)
 ·exact CH (Mt (FG (I.pin p hp).1) (by rwa [z])) (QX _)
structure Turn (P:FL)(w:World)(K:Frag)(tg:Expr)(J:It)(fp:υ)(it:AO)(tn:Nat->Heap->Prop):Prop where
 mem:it∈fp
 obj:∀i h,tn i h->∀b∈fp,∃o,h.get? b=some o/\∀v,o.data≠.cell v
 keep:∀i h h',tn i h->(∀b∈fp,∀o,h.get? b=some o->h'.get? b=some o)->tn i h'
 item:∀(X:Cx),X.prog=P->X.w=w->X.K=K->X.calm=true->∀(i:Nat)(pX:ε)(s:BW)(Z:St)(H:Hp)(E:δ),Inv X pX Z H s->(∀b∈fp,ma X pX H b)->tn i s.heap->J.go i H->
  AX (BD P w) X.A (RE (.ref it)) (fun r s1=>∃u,r=some u/\
   AX (BD P w) X.A (JM tg (.ref it) u) (fun _ s2=>∃x H',Inv X pX Z H' s2/\RelV x u/\J.Mr i H x H'/\tn (i+1) s2.heap/\∀b∈fp,H' b=none) E s1) E s
 done:∀(X:Cx),X.prog=P->X.w=w->X.K=K->X.calm=true->∀(i:Nat)(pX:ε)(s:BW)(Z:St)(H:Hp)(E:δ),Inv X pX Z H s->(∀b∈fp,ma X pX H b)->tn i s.heap->J.stop i H->
  AX (BD P w) X.A (RE (.ref it)) (fun r s1=>r=none/\Inv X pX Z H s1) E s
 self:∀(A:HL)(i:Nat)(s:BW)(Q:δ)(E:δ),tn i s.heap->Q (.ref it) s->AX (BD P w) A (pyIter (.ref it)) Q E s
abbrev TI:=St->Hp->(It->Hp->Prop)->Prop
def PIE (X:Cx)(pX:ε)(Z:St)(tg:Expr)(R:It->Hp->Prop)(itv:Value)(s2:BW):Prop:=
 ∃(it:AO)(fp:υ)(tn:Nat->Heap->Prop)(J:It)(H':Hp),itv=.ref it/\Inv X pX Z H' s2/\Turn X.prog X.w X.K tg J fp it tn/\tn 0 s2.heap/\(∀b∈fp,ma X pX H' b)/\R J H'
def PI (X:Cx)(tg iter:Expr)(wi:TI):Prop:=
 ∀(pX:ε)(s:BW)(Z:St)(H:Hp)(R:It->Hp->Prop),Inv X pX Z H s->wi Z H R->
  AX (BD X.prog X.w) X.A (DC iter X.env) (fun v s1=>AX (BD X.prog X.w) X.A (pyIter v) (PIE X pX Z tg R) X.xe s1) X.xe s
def Qk            (ho : s.heap.get? it = some o) (hc : o.cls = .type n) (hd : o.data = .fields vs)
    (hn : ["enumerate", "zip", "dict_itemiterator", "dict_reverseitemiterator", "odict_iterator", "itertools.zip_longest", "itertools.pairwise"].contains n = false) (hQ : Q () s) : AX M A (JM tg (.ref it) u) Q E s := by
  unfold JM
  cases tg<;>first
    | exact B_ hQ
    | (cases u<;>first
        | exact B_ hQ
        | (refine AP (wpAny_load ho ?_)
           rw [hc, hd];show AX M A (if (["enumerate", "zip", "dict_itemiterator", "dict_reverseitemiterator", "odict_iterator", "itertools.zip_longest", "itertools.pairwise"].contains n && vs[0]? == some (Mv _)) = true then _ else _) Q E s;rw [lH (by intro h; rw [hn, Bool.false_and] at h; cases h)]
           exact B_ hQ))
def Ve (K:Frag)(a:AO):It:=
 ⟨fun i H=>∃xs x,aK K H a xs/\xs[i]?=some x,fun i H x H'=>H'=H/\∀xs,aK K H a xs->xs[i]?=some x,fun i H=>∃xs,aK K H a xs/\xs.length<=i⟩
def XY (lo:Int)(n:Nat):It:=⟨fun i _=>i<n,fun i H x H'=>H'=H/\x=.int (lo+i),fun i _=>n<=i⟩
def abK {K:Frag}(a it:AO):Turn P w K tg (Ve K a) [it] it (fun i h=>h.IsListIter it a i) where
 mem:=by simp
 obj:=fun i h st b hb=>by
  let e:b=it:=by simpa using hb
  subst e;obtain ⟨o,e,c,d⟩:=st;show ⟨o,e,fun v z=>by erw [d] at z⟩
 keep:=fun i h h' st k=>st.at fun o e=>k it dL o e
 item:=by
  intro X hP hw hK hc i pX s Z H E I hf st hg;subst hP hw hK;obtain ⟨xs,x,hq,hx⟩:=hg;obtain ⟨AU,rv,p,hz⟩:=I.list hq;obtain ⟨u,hu,ru⟩:=rv.get hx;obtain ⟨f0,f1,f2,f3,f4,f5⟩:=hf it dL;refine wpAny_pyNext_list_item st p.isList (x:=u) (by simpa using hu) fun h' Ql sb=>?_;let I1:Inv X pX Z H {s with heap:=h'}:=I.turned (t':=s.toks) (fun b o hb e=>(sb.2 b hb).trans e) f0 f1 f3 f4 f5;obtain ⟨o,e,c,d⟩:=id Ql;show ⟨u,rfl,Qk (s:={s with heap:=h'}) e c d cr ⟨x,H,I1,ru,⟨rfl,fun ys hy=>by rwa [I.jb hy hq]⟩,Ql,fun b hb=>(hf b hb).1⟩⟩
 done:=by
  intro X hP hw hK hc i pX s Z H E I hf st hg;subst hP hw hK;obtain ⟨xs,hq,hx⟩:=hg;obtain ⟨AU,rv,p,hz⟩:=I.list hq;obtain ⟨f0,f1,f2,f3,f4,f5⟩:=hf it dL;let hl:=rv.length;exact wpAny_pyNext_list_end (I.ok.hd hc) st p.isList (by simp;omega) fun h' eb=>⟨rfl,I.turned (t':=s.toks) (fun b o hb e=>eb b o hb e) f0 f1 f3 f4 f5⟩
 self:=fun _ _ _ _ _ st h=>wpAny_pyIter_listiter st h
def abB {K:Frag}(it:AO)(lo:Int)(n:Nat):Turn P w K tg (XY lo n) [it] it (fun i h=>IsRangeIter h it (lo+(i:Nat)*1) ((n:Int)-(i:Nat)) 1) where
 mem:=by simp
 obj:=fun i h st b hb=>by
  let e:b=it:=by simpa using hb
  subst e
  show ⟨_,st,fun v z=>by
   let z':Data.fields _=Data.cell v:=z
   cases z'⟩
 keep:=fun i h h' st k=>k it dL _ st
 item:=by
  intro X hP hw hK hc i pX s Z H E I hf st hg;subst hP hw hK;obtain ⟨f0,f1,f2,f3,f4,f5⟩:=hf it dL;let W:=Walks.range (prog:=X.prog) (w:=X.w) (I.ok.hd hc) it lo 1 n;refine W.item i s _ _ hg st fun v h' tk hv Ql kk=>?_;obtain ⟨t,rfl⟩:=hv;let I1:Inv X pX Z H {s with heap:=h',toks:=tk}:=I.turned (fun b o hb e=>kk b o (by simpa using hb) e) f0 f1 f3 f4 f5;show ⟨_,rfl,Qk (s:={s with heap:=h',toks:=tk}) (n:="range_iterator") Ql rfl rfl cr ⟨.int (lo+i),H,I1,⟨t,?_⟩,⟨rfl,rfl⟩,Ql,fun b hb=>(hf b hb).1⟩⟩;rw [Int.mul_one]
 done:=by
  intro X hP hw hK hc i pX s Z H E I hf st hg;subst hP hw hK;obtain ⟨f0,f1,f2,f3,f4,f5⟩:=hf it dL;exact wpAny_pyNext_range_end (I.ok.hd hc) st (by have:n<=i:=hg;omega) fun h' eb=>⟨rfl,I.turned (t':=s.toks) (fun b o hb e=>eb b o hb e) f0 f1 f3 f4 f5⟩
 self:=fun _ _ _ _ _ st h=>wpAny_pyIter_rangeiter st h
section
variable {X:Cx}{tg:Expr}
inductive Qm (K:Frag)(R:(It->Hp->Prop))(x:V)(H1:Hp):Prop
|mk (a:_)(_:x=.ref a)(_:(∃xs,aK K H1 a xs))(_:R (Ve K a) H1)
def ac3 (K:Frag)(tl:TE):TI:=fun Z H R=>tl Z H fun x H1=>Qm K R x H1
def a9 (hl:PE X l tl):PI X tg l (ac3 X.K tl):=by
 intro pX s Z H R I h;refine cI (hl pX s Z H _ I h) fun v s1 ⟨x,H1,I1,r1,q1⟩=>?_;obtain ⟨a,e,⟨xs,hq⟩,q⟩:=q1;subst e;cases r1;obtain ⟨AU,rv,p,hz⟩:=I1.list hq;refine QI p.isList ?_;show ⟨s1.heap.objs.size,[s1.heap.objs.size],_,_,H1,rfl,I1.kept (t':=s1.toks) fun b o e=>FK _ e,abK a _,⟨_,MD _ rfl,rfl,rfl⟩,fun b hb=>?_,q⟩;let e:b=s1.heap.objs.size:=by simpa using hb
 subst e;exact I1.rf (DH _) (I1.bH.fresh (DH _))
def ach {Z:St}{E:δ}{lo hi:Int}(I:Inv X pX Z H s)(h1: -(2^62)<=lo)(h2:lo<2^62)(h3: -(2^62)<=hi)(h4:hi<2^62)
  (q:R (XY lo (hi-lo).toNat) H):AX (BD X.prog X.w) X.A (pyIter (.ref s.heap.objs.size)) (PIE X pX Z tg R) E {s with heap:=s.heap.push {cls:=.type "range",data:=.fields #[.int lo t,.int hi u,.int 1 v]},toks:=tk}:=by
 refine wpAny_pyIter_range (IsRange.new ..) (small_one h1 h2 h3 h4) ?_;let I1:Inv X pX Z H {s with heap:=s.heap.push {cls:=.type "range",data:=.fields #[.int lo t,.int hi u,.int 1 v]},toks:=tk}:=I.kept fun b o e=>FK _ e
 show ⟨(s.heap.push {cls:=.type "range",data:=.fields #[.int lo t,.int hi u,.int 1 v]}).objs.size,[(s.heap.push {cls:=.type "range",data:=.fields #[.int lo t,.int hi u,.int 1 v]}).objs.size],_,_,H,rfl,
  I1.kept (t':=tk) fun b o e=>FK _ e,abB _ lo (hi-lo).toNat,?_,fun b hb=>?_,q⟩
 ·let e1:lo+((0:Nat):Int)*1=lo:=by simp
  let e2:(((hi-lo).toNat:Nat):Int)-((0:Nat):Int)=Builtin.Range.rangeSize lo hi 1:=by rw [rangeSize_one];split<;>omega
  show IsRangeIter _ _ (lo+((0:Nat):Int)*1) ((((hi-lo).toNat:Nat):Int)-((0:Nat):Int)) 1;rw [e1,e2];exact MD _ rfl
 ·let e:b=(s.heap.push {cls:=.type "range",data:=.fields #[.int lo t,.int hi u,.int 1 v]}).objs.size:=by simpa using hb
  subst e;exact I1.rf (DH _) (I1.bH.fresh (DH _))
inductive Qo (R:(It->Hp->Prop))(vs:ζ)(H1:Hp):Prop
|mk (j:Int)(_:vs=[.int j])(_: -(2^62)<=j)(_:j<2^62)(_:R (XY 0 j.toNat) H1)
def ac4 (ta:TA):TI:=fun Z H R=>ta Z H fun vs H1=>Qo R vs H1
def bV (hg:Gl X "range")(hm:X.mg "range"=none)(ha:PA X [a] ta)(hs:DI [a] X.env=[(false,DC a X.env)]:=by rfl):PI X tg (.Call (.Name "range" p) [a] [] pos) (ac4 ta):=by
 intro pX s Z H R I h;refine Call_ (iS I hg hm boot_range (Vp (cI (ha pos pX s Z H _ I h) fun us s1 ⟨vs,H1,I1,r1,q1⟩=>?_) hs rfl));obtain ⟨j,e,q1,q2,q⟩:=q1;subst e;cases r1 with
 | cons r rr=>
  cases rr;obtain ⟨t,rfl⟩:=r;exact call_range_1 (ach I1 ci ci q1 q2 (by simpa using q))
def alP (wi:TI)(g:TG)(tb:TS):TS:=fun D Z H=>wi Z H fun J H1=>∃W:Nat->Nat->St->Hp->Prop,(∃m,W 0 m Z H1)/\∀i m Z H,W i m Z H->
 (J.stop i H/\D.nx Z H)\/(J.go i H/\∃N:St->Hp->Prop,(∀Z' H',N Z' H' ->∃m',m'<m/\W (i+1) m' Z' H')/\∀x H',J.Mr i H x H' ->g x Z H' fun Z2 H2=>tb {D with nx:=N,ct:=N,bk:=D.nx} Z2 H2)
def sj (fp:υ)(h:Heap):List (AO×Obj):=fp.filterMap fun b=>(h.get? b).map fun o=>(b,o)
def jC (hb:b∈fp)(e:h.get? b=some o):(b,o)∈sj fp h:=vC.mpr ⟨b,hb,by rw [e];rfl⟩
def ab7 (hp:p∈sj fp h):p.1∈fp/\h.get? p.1=some p.2:=by
 obtain ⟨b,hb,e⟩:=vC.mp hp;cases q:h.get? b with
 | none=>erw [q] at e
 | some o=>
  rw [q] at e;let e':(b,o)=p:=MY e;subst e';show ⟨hb,q⟩
def Inv.pinned {Z:St}(I:Inv X pX Z H s)(hf:∀b∈fp,ma X pX H b)(ho:∀b∈fp,∃o,s.heap.get? b=some o/\∀v,o.data≠.cell v):Inv X (pX++sj fp s.heap) Z H s:=
 I.JE fun p hp=>(FQ.mp hp).elim (fun z=>I.pin p (Qv _ z)) fun z=>by
  obtain ⟨hb,e⟩:=ab7 z;obtain ⟨f0,f1,f2,_⟩:=hf p.1 hb;obtain ⟨o,e',d⟩:=ho p.1 hb;erw [e] at e';show ⟨e,f0,f1,f2,d⟩
def Inv.ke {Z:St}(I:Inv X (pX++pl) Z H s):Inv X pX Z H s:=I.JE fun p hp=>I.pin p (Qv _ (OA _ hp))
def a_ (hp:PassesOwn (BD X.prog X.w) X.A X.env X.xe)(hc:X.calm=true)(hi:PI X tg iter wi)(hg:PG X tg g)(hb:uS X body tb)
  (hs:∀x,VO iter X.env x=pure x:=by intro _;rfl):PS X (.For tg iter body [] pos) (alP wi g tb):=by
 intro pX s Z H D I h;refine wpAny_For (cI (hi pX s Z H _ I h) fun v s1 h1=>cI h1 fun itv s2 h2=>?_) hs;obtain ⟨it,fp,tn,J,H2,e,I2,T,XZ,f2,W,⟨m0,w0⟩,turn⟩:=h2;subst e;let stat:∀{H':Hp},(∀b∈fp,H' b=none)->∀b∈fp,ma X pX H' b:=fun hn b hb=>⟨hn b hb,(f2 b hb).2⟩;refine codeAny_forLoop_any (fun n s'=>∃i Z' H',Inv X pX Z' H' s'/\tn i s'.heap/\(∀b∈fp,H' b=none)/\W i n Z' H') ?_ m0 ⟨0,Z,H2,I2,XZ,fun b hb=>(f2 b hb).1,w0⟩;rintro n s3 ⟨i,Z3,H3,I3,st3,ZA,w3⟩
 rcases turn i n Z3 H3 w3 with ⟨stop,qn⟩|⟨go,N,hN,step⟩
 ·refine Wj hp (cI (T.done X rfl rfl rfl hc i pX s3 Z3 H3 X.xe I3 (stat ZA) st3 stop) fun r s4 ⟨hr,I4⟩=>?_)
  subst hr;exact Zu ⟨Z3,H3,I4,qn⟩
 ·refine Wj hp (cI (T.item X rfl rfl rfl hc i pX s3 Z3 H3 X.xe I3 (stat ZA) st3 go) fun r s4 ⟨u,hr,h4⟩=>?_)
  subst hr;refine Wj hp (cI h4 fun _ s5 ⟨x,H5,I5,r5,y5,st5,X0⟩=>?_);let I5':=I5.pinned (stat X0) (T.obj _ _ st5);refine Wj hp (cI (hg _ s5 Z3 H5 x u _ I5' r5 (step x H5 y5)) fun _ s6 ⟨Z6,H6,I6,q6⟩=>?_);refine Wj hp (cI (hb _ s6 Z6 H6 _ I6 q6) fun f s7 q7=>?_)
  let again:∀{Z7:St} {H7:Hp},Inv X (pX++sj fp s5.heap) Z7 H7 s7->N Z7 H7->∃m,m<n/\∃i Z' H',Inv X pX Z' H' s7/\tn i s7.heap/\(∀b∈fp,H' b=none)/\W i m Z' H':=fun {Z7 H7} I7 n7=>by
   obtain ⟨m',hm,w7⟩:=hN Z7 H7 n7;show ⟨m',hm,i+1,Z7,H7,I7.ke,T.keep _ _ _ st5 fun b hb o e=>(I7.pin (b,o) (Qv _ (Qv _ (jC hb e)))).1,fun b hb=>?_,w7⟩;obtain ⟨o,e,d⟩:=T.obj _ _ st5 b hb;exact (I7.pin (b,o) (Qv _ (Qv _ (jC hb e)))).2.1
  cases f with
  | next=>obtain ⟨Z7,H7,I7,n7⟩:=q7;exact again I7 n7
  | cont=>obtain ⟨Z7,H7,I7,n7⟩:=q7;exact again I7 n7
  | brk=>obtain ⟨Z7,H7,I7,q7⟩:=q7;show ⟨Z7,H7,I7.ke,q7⟩
  | ret v=>obtain ⟨x7,Z7,H7,I7,r7,q7⟩:=q7;show ⟨x7,Z7,H7,I7.ke,r7,q7⟩
end
def bM {K:Frag}{g:TG}{tb:TS}{D:Ends}(Pv:Nat->St->Hp->Prop)(h0:Pv 0 Z H)(hl:∀i Z H,i<=xs.length->Pv i Z H->aK K H a xs)
  (hs:∀i x Z H,xs[i]?=some x->Pv i Z H->g x Z H fun Z2 H2=>tb {D with nx:=Pv (i+1),ct:=Pv (i+1),bk:=D.nx} Z2 H2) (hd:∀Z H,Pv xs.length Z H->D.nx Z H):
  ∃W:Nat->Nat->St->Hp->Prop,(∃m,W 0 m Z H)/\∀i m Z H,W i m Z H->
   ((Ve K a).stop i H/\D.nx Z H)\/((Ve K a).go i H/\∃N:St->Hp->Prop,(∀Z' H',N Z' H' ->∃m',m'<m/\W (i+1) m' Z' H')/\∀x H',(Ve K a).Mr i H x H' ->g x Z H' fun Z2 H2=>tb {D with nx:=N,ct:=N,bk:=D.nx} Z2 H2):=by
 show ⟨fun i m Z H=>m=xs.length-i/\i<=xs.length/\Pv i Z H,⟨xs.length,by simp,Mu _,h0⟩,?_⟩;rintro i m Z H ⟨rfl,hi,p⟩;let q:=hl i Z H hi p;by_cases lM:i<xs.length
 ·refine .inr ⟨⟨xs,xs[i],q,by simp [lM]⟩,Pv (i+1),fun Z' H' p'=>⟨xs.length-(i+1),ci,rfl,lM,p'⟩,fun x H' y=>?_⟩
  obtain ⟨e,y⟩:=y;subst e;exact hs i x Z _ (y xs q) p
 ·let e:i=xs.length:=ci
  subst e;exact .inl ⟨⟨xs,q,DH _⟩,hd Z H p⟩
def cq {lo:Int}{g:TG}{tb:TS}{D:Ends}(Pv:Nat->St->Hp->Prop)(h0:Pv 0 Z H)
  (hs:∀i Z H,i<n->Pv i Z H->g (.int (lo+i)) Z H fun Z2 H2=>tb {D with nx:=Pv (i+1),ct:=Pv (i+1),bk:=D.nx} Z2 H2) (hd:∀Z H,Pv n Z H->D.nx Z H):
  ∃W:Nat->Nat->St->Hp->Prop,(∃m,W 0 m Z H)/\∀i m Z H,W i m Z H->
   ((XY lo n).stop i H/\D.nx Z H)\/((XY lo n).go i H/\∃N:St->Hp->Prop,(∀Z' H',N Z' H' ->∃m',m'<m/\W (i+1) m' Z' H')/\∀x H',(XY lo n).Mr i H x H' ->g x Z H' fun Z2 H2=>tb {D with nx:=N,ct:=N,bk:=D.nx} Z2 H2):=by
 show ⟨fun i m Z H=>m=n-i/\i<=n/\Pv i Z H,⟨n,by simp,Mu _,h0⟩,?_⟩;rintro i m Z H ⟨rfl,hi,p⟩;by_cases lM:i<n
 ·refine .inr ⟨lM,Pv (i+1),fun Z' H' p'=>⟨n-(i+1),ci,rfl,lM,p'⟩,fun x H' y=>?_⟩
  obtain ⟨e,y⟩:=y;subst e y;exact hs i Z _ lM p
 ·let e:i=n:=ci
  subst e;exact .inl ⟨DH _,hd Z H p⟩
def agu (Pv:St->Hp->Prop)(μ:St->Hp->Nat)(h0:Pv Z H)
  (hs:∀Z H,Pv Z H->c Z H fun b H1=>if b=true then tb {D with nx:=fun Z' H'=>Pv Z' H'/\μ Z' H' < μ Z H,ct:=fun Z' H'=>Pv Z' H'/\μ Z' H' < μ Z H,bk:=D.nx} Z H1 else D.nx Z H1)
  (mono:∀Z H Q Q',(∀b H1,Q b H1->Q' b H1)->c Z H Q->c Z H Q'):ah6 c tb D Z H:=by
 show ⟨fun m Z H=>m=μ Z H/\Pv Z H,⟨_,rfl,h0⟩,?_⟩;rintro m Z H ⟨rfl,p⟩;refine mono Z H _ _ (fun b H1 q=>?_) (hs Z H p);cases b with
 | true=>show ⟨_,fun Z' H' ⟨p',l⟩=>⟨_,l,rfl,p'⟩,q⟩
 | false=>exact q
abbrev R2:=V->V->Hp->VK->Prop
def km (X:Cx)(f:Value->Value->Sem Value)(r:R2):Prop:=
 ∀(pX:ε)(s:BW)(Z:St)(H:Hp)(x y:V)(v u:Value)(Q:VK),Inv X pX Z H s->RelV x v->RelV y u->r x y H Q->
  AX (BD X.prog X.w) X.A (f v u) (EP X pX Z Q) X.xe s
def UnR (X:Cx)(f:Value->Sem Value)(r:V->Hp->VK->Prop):Prop:=
 ∀(pX:ε)(s:BW)(Z:St)(H:Hp)(x:V)(v:Value)(Q:VK),Inv X pX Z H s->RelV x v->r x H Q->
  AX (BD X.prog X.w) X.A (f v) (EP X pX Z Q) X.xe s
def iE (X:Cx)(f:Value)(r:List V->Hp->VK->Prop):Prop:=
 ∀(pX:ε)(s:BW)(Z:St)(H:Hp)(xs:ζ)(us:ν)(Q:VK),Inv X pX Z H s->Vals xs us->r xs H Q->
  AX (BD X.prog X.w) X.A (call f us) (EP X pX Z Q) X.xe s
def X2 (r:R2)(ta tb:TE):TE:=fun Z H Q=>ta Z H fun x H1=>tb Z H1 fun y H2=>r x y H2 Q
def tUn (r:V->Hp->VK->Prop)(ta:TE):TE:=fun Z H Q=>ta Z H fun x H1=>r x H1 Q
inductive rI (C:Int->Int->Prop)(g:Int->Int->V)(x:V)(y:V)(H:Hp)(Q:VK):Prop
|mk (i j:_)(_:x=.int i)(_:y=.int j)(_:C i j)(_:Q (g i j) H)
inductive Vf (g:Int->Int->V)(x:V)(y:V)(H:Hp)(Q:VK):Prop
|mk (i j:_)(_:x=.int i)(_:y=.int j)(_:Q (g i j) H)
inductive rU (g:Int->V)(x:V)(H:Hp)(Q:VK):Prop
|mk (i:_)(_:x=.int i)(_:Q (g i) H)
section
variable {X:Cx}{a b c:Expr}{ta tb tc:TE}{pos:Pos}
def ZC (ha:PE X a ta)(hb:PE X b tb){Z:St}{R:V->V->Hp->Prop}(I:Inv X pX Z H s)
  (h:ta Z H fun x H1=>tb Z H1 fun y H2=>R x y H2) {Q:δ} {f:Value->Value->Sem Value}
  (hf:∀v u s2 x y H2,Inv X pX Z H2 s2->RelV x v->RelV y u->R x y H2->AX (BD X.prog X.w) X.A (f v u) Q X.xe s2):
  AX (BD X.prog X.w) X.A (DC a X.env) (fun v oW=>AX (BD X.prog X.w) X.A (DC b X.env) (fun u uQ=>AX (BD X.prog X.w) X.A (f v u) Q X.xe uQ) X.xe oW) X.xe s:=by
 refine cI (ha pX s Z H _ I h) fun v s1 ⟨x,H1,I1,r1,q1⟩=>?_;refine cI (hb pX s1 Z H1 _ I1 q1) fun u s2 ⟨y,H2,I2,r2,q2⟩=>?_;exact hf v u s2 x y H2 I2 r1 r2 q2
def aw (ho:km X (RG op) r)(ha:PE X a ta)(hb:PE X b tb):PE X (.BinOp a op b pos) (X2 r ta tb):=by
 intro pX s Z H Q I h;exact wpAny_BinOp (ZC ha hb I h fun v u s2 x y H2 I2 rx ry q=>ho pX s2 Z H2 x y v u Q I2 rx ry q)
def Qp (ho:UnR X (unaryOp op) r)(ha:PE X a ta):PE X (.UnaryOp op a pos) (tUn r ta):=by
 intro pX s Z H Q I h;exact UnaryOp_ (cI (ha pX s Z H _ I h) fun v s1 ⟨x,H1,I1,r1,q1⟩=>ho pX s1 Z H1 x v Q I1 r1 q1)
def opI {g:Int->Int->Int}
  (rule:∀(i j:Int)(t u:Tok)(s:BW)(Q:δ)(E:δ),C i j->Q (.int (g i j) s.toks) {s with toks:=s.toks+1}->AX (BD X.prog X.w) X.A (f (.int i t) (.int j u)) Q E s):
  km X f (rI C fun i j=>.int (g i j)):=by
 intro pX s Z H x y v u Q I rx ry h;obtain ⟨i,j,rfl,rfl,hc,q⟩:=h;obtain ⟨t,rfl⟩:=rx;obtain ⟨t',rfl⟩:=ry;exact rule i j t t' s _ _ hc ⟨.int (g i j),H,I.tok _,⟨_,rfl⟩,q⟩
def ac6 {g:Int->Int->Int}
  (rule:∀(i j:Int)(t u:Tok)(s:BW)(Q:δ)(E:δ),Q (.int (g i j) s.toks) {s with toks:=s.toks+1}->AX (BD X.prog X.w) X.A (f (.int i t) (.int j u)) Q E s):
  km X f (Vf fun i j=>.int (g i j)):=by
 intro pX s Z H x y v u Q I rx ry h;obtain ⟨i,j,rfl,rfl,q⟩:=h;obtain ⟨t,rfl⟩:=rx;obtain ⟨t',rfl⟩:=ry;exact rule i j t t' s _ _ ⟨.int (g i j),H,I.tok _,⟨_,rfl⟩,q⟩
def Vg {g:Int->Int->Bool}
  (rule:∀(i j:Int)(t u:Tok)(s:BW)(Q:δ)(E:δ),Q (.bool (g i j)) s->AX (BD X.prog X.w) X.A (f (.int i t) (.int j u)) Q E s):
  km X f (Vf fun i j=>.bl (g i j)):=by
 intro pX s Z H x y v u Q I rx ry h;obtain ⟨i,j,rfl,rfl,q⟩:=h;obtain ⟨t,rfl⟩:=rx;obtain ⟨t',rfl⟩:=ry;exact rule i j t t' s _ _ ⟨.bl (g i j),H,I,rfl,q⟩
def ac7 (i j:Int):Prop:=0<=j/\j<=1000000/\i.natAbs<2^64
def bG:km X (RG .Add) (Vf fun i j=>.int (i+j)):=ac6 fun _ _ _ _ _ _ _ q=>add_int q
def cJ:km X (RG .Sub) (Vf fun i j=>.int (i-j)):=ac6 fun _ _ _ _ _ _ _ q=>sub_int q
def ahu:km X (RG .Mod) (rI (fun _ j=>j≠0) fun i j=>.int (i.fmod j)):=opI fun _ _ _ _ _ _ _ hc q=>mod_int' hc q
def ah0:km X (RG .Pow) (rI ac7 fun i j=>.int (i^j.toNat)):=opI fun _ _ _ _ _ _ _ hc q=>pow_int_small hc.1 hc.2.1 hc.2.2 q
def unI {g:Int->Int}
  (rule:∀(i:Int)(t:Tok)(s:BW)(Q:δ)(E:δ),Q (.int (g i) s.toks) {s with toks:=s.toks+1}->AX (BD X.prog X.w) X.A (f (.int i t)) Q E s):
  UnR X f (rU fun i=>.int (g i)):=by
 intro pX s Z H x v Q I rx h;obtain ⟨i,rfl,q⟩:=h;obtain ⟨t,rfl⟩:=rx;exact rule i t s _ _ ⟨.int (g i),H,I.tok _,⟨_,rfl⟩,q⟩
def FH:UnR X (unaryOp .USub) (rU fun i=>.int (-i)):=unI fun _ _ _ _ _ q=>neg_int q
end
def ac8:V->V->Bool
 | .cO,.cO=>true | .cO,.int _=>true | .int _,.cO=>true | .cO,.bl _=>true | .bl _,.cO=>true | .cO,.str _=>true | .str _,.cO=>true
 | .int _,.int _=>true | .bl _,.bl _=>true | .str _,.str _=>true | .uY _,.uY _=>true
 | .int _,.str _=>true | .str _,.int _=>true | .bl _,.str _=>true | .str _,.bl _=>true
 | _,_=>false
def rEq:R2:=fun x y H Q=>ac8 x y=true/\Q (.bl (decide (x=y))) H
def rNe:R2:=fun x y H Q=>ac8 x y=true/\Q (.bl (!decide (x=y))) H
def zaB :decide (V.int i=V.int j)=(i==j):=by
 rw [sY];simp
def agw :decide (V.bl i=V.bl j)=(i==j):=by
 rw [sY];simp
def zaA :decide (V.str i=V.str j)=(i==j):=by
 rw [sY];simp
def za0 :decide (V.uY i=V.uY j)=(i.toList==j.toList):=by
 rw [sY];cases i;cases j;simp
section
variable {X:Cx}{a b c:Expr}{ta tb tc:TE}{pos:Pos}
def bN {Z:St}(I:Inv X pX Z H s)(q:Q (.bl k) H)(e:k=k'):EP X pX Z Q (.bool k') s:=by
 subst e;show ⟨.bl k,H,I,rfl,q⟩
def cY:km X (Nj .Eq) rEq:=by
 intro pX s Z H x y v u Q I rx ry h;obtain ⟨hs,q⟩:=h;cases x with
 | cO=>
  cases rx;cases y with
  | cO=>cases ry;exact PySem.EqNone.eq_none_none (bN I q dL)
  | bl j=>cases ry;exact PySem.EqNone.eq_none_bool (bN I q dL)
  | int j=>obtain ⟨t',rfl⟩:=ry;exact PySem.EqNone.eq_none_int (bN I q dL)
  | str j=>obtain ⟨t',rfl⟩:=ry;exact PySem.EqNone.eq_none_str (bN I q dL)
  | _=>exact CH (show false=true from hs) MS
 | bl i=>
  cases rx;cases y with
  | cO=>cases ry;exact PySem.EqNone.eq_bool_none (bN I q dL)
  | bl j=>cases ry;exact eq_bool (bN I q agw)
  | str j=>obtain ⟨t',rfl⟩:=ry;exact PySem.EqMixed.eq_bool_str (bN I q dL)
  | _=>exact CH (show false=true from hs) MS
 | int i=>
  obtain ⟨t,rfl⟩:=rx;cases y with
  | cO=>cases ry;exact PySem.EqNone.eq_int_none (bN I q dL)
  | int j=>obtain ⟨t',rfl⟩:=ry;exact eq_int (bN I q zaB)
  | str j=>obtain ⟨t',rfl⟩:=ry;exact PySem.EqMixed.eq_int_str (bN I q dL)
  | _=>exact CH (show false=true from hs) MS
 | str i=>
  obtain ⟨t,rfl⟩:=rx;cases y with
  | cO=>cases ry;exact PySem.EqNone.eq_str_none (bN I q dL)
  | bl j=>cases ry;exact PySem.EqMixed.eq_str_bool (bN I q dL)
  | int j=>obtain ⟨t',rfl⟩:=ry;exact PySem.EqMixed.eq_str_int (bN I q dL)
  | str j=>obtain ⟨t',rfl⟩:=ry;exact eq_str (bN I q zaA)
  | _=>exact CH (show false=true from hs) MS
 | uY i=>
  obtain ⟨t,rfl⟩:=rx;cases y with
  | uY j=>obtain ⟨t',rfl⟩:=ry;exact PySem.W.eq_bytes (bN I q za0)
  | _=>exact CH (show false=true from hs) MS
 | _=>cases y<;>exact CH (show false=true from hs) MS
def AG:km X (Nj .NotEq) rNe:=by
 intro pX s Z H x y v u Q I rx ry h;obtain ⟨hs,q⟩:=h;cases x with
 | cO=>
  cases rx;cases y with
  | cO=>cases ry;exact PySem.EqNone.ne_none_none (bN I q dL)
  | bl j=>cases ry;exact PySem.EqNone.ne_none_bool (bN I q dL)
  | int j=>obtain ⟨t',rfl⟩:=ry;exact PySem.EqNone.ne_none_int (bN I q dL)
  | str j=>obtain ⟨t',rfl⟩:=ry;exact PySem.EqNone.ne_none_str (bN I q dL)
  | _=>exact CH (show false=true from hs) MS
 | bl i=>
  cases rx;cases y with
  | cO=>cases ry;exact PySem.EqNone.ne_bool_none (bN I q dL)
  | bl j=>cases ry;exact ne_bool (bN I q (ph not agw))
  | str j=>obtain ⟨t',rfl⟩:=ry;exact PySem.EqMixed.ne_bool_str (bN I q dL)
  | _=>exact CH (show false=true from hs) MS
 | int i=>
  obtain ⟨t,rfl⟩:=rx;cases y with
  | cO=>cases ry;exact PySem.EqNone.ne_int_none (bN I q dL)
  | int j=>obtain ⟨t',rfl⟩:=ry;exact ne_int (bN I q (ph not zaB))
  | str j=>obtain ⟨t',rfl⟩:=ry;exact PySem.EqMixed.ne_int_str (bN I q dL)
  | _=>exact CH (show false=true from hs) MS
 | str i=>
  obtain ⟨t,rfl⟩:=rx;cases y with
  | cO=>cases ry;exact PySem.EqNone.ne_str_none (bN I q dL)
  | bl j=>cases ry;exact PySem.EqMixed.ne_str_bool (bN I q dL)
  | int j=>obtain ⟨t',rfl⟩:=ry;exact PySem.EqMixed.ne_str_int (bN I q dL)
  | str j=>obtain ⟨t',rfl⟩:=ry;exact ne_str (bN I q (ph not zaA))
  | _=>exact CH (show false=true from hs) MS
 | uY i=>
  obtain ⟨t,rfl⟩:=rx;cases y with
  | uY j=>obtain ⟨t',rfl⟩:=ry;exact PySem.W.ne_bytes (bN I q (ph not za0))
  | _=>exact CH (show false=true from hs) MS
 | _=>cases y<;>exact CH (show false=true from hs) MS
def sk:km X (Nj .Lt) (Vf fun i j=>.bl (decide (i<j))):=Vg fun _ _ _ _ _ _ _ q=>lt_int q
def X3:km X (Nj .LtE) (Vf fun i j=>.bl (decide (i<=j))):=Vg fun _ _ _ _ _ _ _ q=>le_int q
def Qs:km X (Nj .Gt) (Vf fun i j=>.bl (decide (j<i))):=Vg fun _ _ _ _ _ _ _ q=>gt_int q
def X4:km X (Nj .GtE) (Vf fun i j=>.bl (decide (j<=i))):=Vg fun _ _ _ _ _ _ _ q=>ge_int q
def FI:km X (Nj .Is) (fun x y H Q=>y=.cO/\Q (.bl (decide (x=.cO))) H):=by
 intro pX s Z H x y v u Q I rx ry h;obtain ⟨rfl,q⟩:=h;cases ry;refine is_none_gen (bN I q ?_)
 cases x<;>first
  | (cases rx;rfl)
  | (obtain ⟨t,rfl⟩:=rx;rfl)
def ahn:km X (Nj .IsNot) (fun x y H Q=>y=.cO/\Q (.bl (!decide (x=.cO))) H):=by
 intro pX s Z H x y v u Q I rx ry h;obtain ⟨rfl,q⟩:=h;cases ry;refine isnot_none_gen (bN I q ?_)
 cases x<;>first
  | (cases rx;rfl)
  | (obtain ⟨t,rfl⟩:=rx;rfl)
def agj (b:Expr)(h:op≠.In:=by decide)(h2:op≠.NotIn:=by decide):ZO op b=false:=by
 let e1:(op==CmpOp.In)=false:=by cases op<;>first|rfl|exact CH rfl h
 let e2:(op==CmpOp.NotIn)=false:=by cases op<;>first|rfl|exact CH rfl h2
 cases b<;>simp [ZO,e1,e2]
def ahi (ho:km X (Nj op) r)(ha:PE X a ta)(hb:PE X b tb)(hm:ZO op b=false):PE X (.Compare a [op] [b] pos) (X2 r ta tb):=by
 intro pX s Z H Q I h;exact wpAny_Compare1 (ZC ha hb I h fun v u s2 x y H2 I2 rx ry q=>ho pX s2 Z H2 x y v u Q I2 rx ry q) hm
inductive Qu (Q:(Bool->Hp->Prop))(x:V)(H':Hp):Prop
|mk (k:_)(_:x=.bl k)(_:Q k H')
def X5 (t:TE):TT:=fun Z H Q=>t Z H fun x H'=>Qu Q x H'
def jD (ho:km X (Nj op) r)(ha:PE X a ta)(hb:PE X b tb)(hm:ZO op b=false):PT X (.Compare a [op] [b] pos) (X5 (X2 r ta tb)):=by
 intro pX s Z H Q I h
 refine wpAny_isTrue_Compare1 (cI (ha pX s Z H _ I h) fun v s1 ⟨x,H1,I1,r1,q1⟩=>cI (hb pX s1 Z H1 _ I1 q1) fun u s2 ⟨y,H2,I2,r2,q2⟩=>
  cI (ho pX s2 Z H2 x y v u _ I2 r1 r2 q2) fun c s3 ⟨z,H3,I3,r3,k,e,q3⟩=>?_) hm
 subst e;cases r3;exact QD ⟨H3,I3,q3⟩
def so:(BZ:Nat)<2^63:=by rw [xD];decide
def ie:km X (RG .Add) (fun x y H Q=>∃i j,x=.str i/\y=.str j/\i.length+j.length<=BZ/\Q (.str (i++j)) H):=by
 intro pX s Z H x y v u Q I rx ry h;obtain ⟨i,j,rfl,rfl,hz,q⟩:=h;obtain ⟨t,rfl⟩:=rx;obtain ⟨t',rfl⟩:=ry;exact add_str (fun t' tk=>⟨.str (i++j),H,I.tok _,⟨_,rfl⟩,q⟩) hz
def vals1 {us:ν}(r:Vals [x] us):∃u,us=[u]/\RelV x u:=by
 cases r with
 | cons r1 r2=>cases r2;show ⟨_,rfl,r1⟩
def vals2 {us:ν}(r:Vals [x,y] us):∃u w',us=[u,w']/\RelV x u/\RelV y w':=by
 cases r with
 | cons r1 r2=>
  cases r2 with
  | cons r3 r4=>cases r4;show ⟨_,_,rfl,r1,r3⟩
def afT:iE X (.builtin "abs") (fun xs H Q=>∃i,xs=[.int i]/\Q (.int (if i<0 then -i else i)) H):=by
 intro pX s Z H xs us Q I r h;obtain ⟨i,rfl,q⟩:=h;obtain ⟨u,rfl,t,rfl⟩:=vals1 r;exact call_abs_int fun u tk=>⟨.int (if i<0 then -i else i),H,I.tok _,⟨_,rfl⟩,q⟩
def we:iE X (.type "int") (fun xs H Q=>(∃i,xs=[.int i]/\Q (.int i) H)\/∃k,xs=[.bl k]/\Q (.int (if k then 1 else 0)) H):=by
 intro pX s Z H xs us Q I r h
 rcases h with ⟨i,rfl,q⟩|⟨k,rfl,q⟩
 ·obtain ⟨u,rfl,t,rfl⟩:=vals1 r
  exact call_int_int ⟨.int i,H,I,⟨_,rfl⟩,q⟩
 ·obtain ⟨u,rfl,r1⟩:=vals1 r
  cases r1;exact call_int_bool ⟨.int (if k then 1 else 0),H,I.tok _,⟨_,rfl⟩,q⟩
def akn:iE X (.type "str") (fun xs H Q=>∃i,xs=[.int i]/\i.natAbs.log2<1920/\Q (.str (toString i)) H):=by
 intro pX s Z H xs us Q I r h;obtain ⟨i,rfl,hz,q⟩:=h;obtain ⟨u,rfl,t,rfl⟩:=vals1 r;exact PySem.P.str_of_int hz ⟨.str _,H,I.tok _,⟨_,rfl⟩,q⟩
end
structure FJ (h:Heap)(x dx C:AO)(mA:ι):Prop where
 obj:h.get? x=some (RT C dx)
 ns:h.Ns1 dx mA
 ne:dx≠x
def wg {h:Heap}{mA:ι}(n:h.Ns1 dx mA):∃od,h.get? dx=some od/\∀name,JY name od=some (mA name):=by
 obtain ⟨o,es,ep,ho,hd,hk,_,hm⟩:=n;show ⟨o,ho,fun name=>?_⟩;let e:=hm name;unfold nsFind findBy at e;rw [<-Array.find?_toList] at e;unfold JY;rw [hd];dsimp only;split
 ·rename_i y q
  rw [q] at e;exact ph some e
 ·rename_i q
  rw [q] at e
  let a:es.toList.any (·.refKey)=false:=by
   rw [List.any_eq_false];intro y hy;obtain ⟨z,t,AI⟩:=hk y (Array.mem_toList_iff.mp hy);simp [DictEntry.refKey,AI]
  let a':¬ es.toList.any (·.refKey)=true:=by rw [a];exact MS
  rw [lH a'];exact ph some e
def FJ.look (I:FJ h x dx C mA):∃od,PySem.W.InstAt h x (RT C dx) C (some od)/\∀name,JY name od=some (mA name):=
 let ⟨od,ho,hl⟩:=wg I.ns
 ⟨od,⟨I.obj,rfl,rfl,ho⟩,hl⟩
section
variable {prog:FL}{w:World}{A:HL}{E:δ}{s:BW}{K:Frag}{x dx C f:AO}{mA:ι}{name:Str}{v:Value}
def get_map {Q:δ}(X:K.In s.heap)(I:FJ s.heap x dx C mA)(hg:Vh K C name=true)(hh:V3 K C=true)
  (ha:H_ K (.ref C) name=some none) (hv:mA name=some v) (ZD :PySem.W.handedIn v=true) (h:Q v {s with toks:=s.toks+1}):
  AX (BD prog w) A (getAttr (.ref x) name expr) Q E s:=by
 obtain ⟨od,J,hl⟩:=I.look;exact PySem.W.get_value X J (PySem.W.plainGet_of hg).1 (PySem.W.findObj_own hh ha rfl (by rw [hl,hv])) ZD h
def acf (X:K.In s.heap)(I:FJ s.heap x dx C mA)(hg:Vh K C name=true)
  (hf:H_ K (.ref C) name=some (some (.ref f))) (ht:ZW K (.ref f)=true) (hv:mA name=none) (h:Q (.ref f,[.ref x]) s):
  AX (BD prog w) A (getMethod (.ref x) name pl) Q E s:=by
 obtain ⟨od,J,hl⟩:=I.look;exact PySem.W.method_fn X J (PySem.W.plainGet_of hg).1 (PySem.W.plainGet_of hg).2 hf (beq_iff_eq.mp ht) (by show (JY name od).map (·.isSome)=some false;rw [hl,hv];rfl) h
def ahD {ns:θ}{Q:Μ}(X:K.In s.heap)(I:FJ s.heap x dx C mA)
  (hs:H_ K (.ref C) "__setattr__"=some (some (.builtin "object.__setattr__"))) (hp:Zy K C=true) (ht:PySem.W.takerIn K C name=some none) (hh:V3 K C=true)
  (hw:x8 mA ns) (hsz:ns.length<=BZ)
  (h:∀h',FJ h' x dx C (fun y=>if y=name then some v else mA y)->SO dx s.heap h' ->Q () {s with heap:=h',toks:=s.toks+2}):
  AX (BD prog w) A (setAttr (.ref x) name v) Q E s:=by
 obtain ⟨od,J,hl⟩:=I.look;refine PySem.W.set_plain X J hs (PySem.W.osa_open (s:={s with toks:=s.toks+1}) (r:=none) X J hp ht fun b=>?_);obtain ⟨cd,hc,T4⟩:=PySem.W.any_some hh;let hx:s.heap.get? x=some ⟨.ref C,some dx,.plain, #[]⟩:=I.obj;refine AP (B_ (AP (AP (JW hx (AP (PySem.W.Looks.here (s:={s with toks:=s.toks+1}) (PySem.W.looks_clsIn X hc) ?_))))));rw [T4];refine B_ (a:=some dx) (AP (B_ (AP ?_)));refine wpAny_nsSet1 (s:={s with toks:=s.toks+1}) I.ns fun h' Pq wj=>?_;obtain ⟨oD,esD,epD,hoD,hdD,hcD⟩:=Pq.count (PySem.Within.cons name v hw);refine AP (wpAny_lookBehind hoD (by rw [hdD];exact pastItsLine_dict (CT hcD (by rw [Oy];omega))) ?_);exact B_ (h _ ⟨(wj.2 _ (FN I.ne)).trans I.obj,Pq,I.ne⟩ wj)
def ab' {R:Θ}{vs:ν}{kw:Υ}(X:K.In s.heap)(hm:Vl K C=true)
  (hi:H_ K (.ref C) "__init__"=some (some (.ref f))) (hf:PySem.W.typeIn K (.ref f)=some (.type "function"))
  (h:Nc (BD prog w) (A.under (.builtin "type.__call__" ⟨.ref C::vs,kw⟩)) (.call (.ref f) ⟨.ref (s.heap.objs.size+1)::vs,kw⟩) (PySem.W.InitBack (s.heap.objs.size+1) R)
   {s with heap:=(s.heap.push RV).push (RT C s.heap.objs.size)}):
  Nc (BD prog w) A (.call (.ref C) ⟨vs,kw⟩) R s:=by
 obtain ⟨hh,g,d,t,os⟩:=s;exact PySem.W.make_core (PySem.W.makes_of X hm) (PySem.W.looks_findIn X hi) (fun self=>PySem.W.bind_fn X self hf) (.inl rfl) h
def acs {R:Θ}(X:K.In s.heap)(hm:Vl K C=true)
  (hi:H_ K (.ref C) "__init__"=some (some (.builtin "object.__init__")))
  (hb:∀self,PySem.W.Looks (BD prog w) s.heap (bindSpecial (.builtin "object.__init__") self) (.builtin "object.__init__",[self]))
  (h:Nc (BD prog w) (A.under (.builtin "type.__call__" ⟨[.ref C],[]⟩)) (.call (.builtin "object.__init__") ⟨[.ref (s.heap.objs.size+1)],[]⟩) (PySem.W.InitBack (s.heap.objs.size+1) R)
   {s with heap:=(s.heap.push RV).push (RT C s.heap.objs.size)}):
  Nc (BD prog w) A (.call (.ref C) ⟨[],[]⟩) R s:=by
 obtain ⟨hh,g,d,t,os⟩:=s;exact PySem.W.make_core (PySem.W.makes_of X hm) (PySem.W.looks_findIn X hi) hb (.inr ⟨rfl,rfl⟩) h
end
def gU (f:Str)(v:V):List (Str×V)->List (Str×V)
 | []=>[(f,v)]
 | (g,x)::r=>if g=f then (g,v)::r else (g,x)::gU f v r
theorem kq (f g:Str)(v:V):∀fs:List (Str×V),(gU f v fs).lookup g=if g=f then some v else fs.lookup g
 | []=>by
  show Q3 g [(f,v)]=_;by_cases h:g=f
  ·let hb:(g==f)=true:=beq_iff_eq.mpr h
   simp only [Q3,hb,mG h]
  ·let hb:(g==f)=false:=beq_eq_false_iff_ne.mpr h
   simp only [Q3,hb,lH h]
 | (k,x)::r=>by
  let ih:=kq f g v r;rw [show gU f v ((k,x)::r)=(if k=f then (k,v)::r else (k,x)::gU f v r) from rfl];by_cases hk:k=f
  ·rw [mG hk]
   by_cases h:g=k
   ·let hb:(g==k)=true:=beq_iff_eq.mpr h
    simp only [Q3,hb,mG (h.trans hk)]
   ·let hb:(g==k)=false:=beq_eq_false_iff_ne.mpr h
    simp only [Q3,hb,lH (fun e:g=f=>h (e.trans hk.symm))]
  ·rw [lH hk]
   by_cases h:g=k
   ·let hb:(g==k)=true:=beq_iff_eq.mpr h
    simp only [Q3,hb,lH (fun e:g=f=>hk (h.symm.trans e))]
   ·let hb:(g==k)=false:=beq_eq_false_iff_ne.mpr h
    simp only [Q3,hb];exact ih
theorem pK (f:Str)(v:V):∀fs:List (Str×V),f∈(gU f v fs).map (·.1)/\∀g,g∈fs.map (·.1)->g∈(gU f v fs).map (·.1)
 | []=>⟨by simp [gU],fun g h=>by simp at h⟩
 | (k,x)::r=>by
  obtain ⟨i1,i2⟩:=pK f v r;rw [show gU f v ((k,x)::r)=(if k=f then (k,v)::r else (k,x)::gU f v r) from rfl];by_cases hk:k=f
  ·rw [mG hk]
   subst hk;show ⟨by simp,fun g h=>by simpa using h⟩
  ·rw [lH hk]
   show ⟨?_,fun g h=>?_⟩
   ·rw [HU]
    exact HV _ i1
   ·rw [HU] at h ⊢
    rcases M_.mp h with e|e
    ·exact M_.mpr (.inl e)
    ·exact HV _ (i2 g e)
theorem qF (f:Str)(v:V):∀fs:List (Str×V),(gU f v fs).length<=fs.length+1
 | []=>by simp [gU]
 | (k,x)::r=>by
  let ih:=qF f v r;rw [show gU f v ((k,x)::r)=(if k=f then (k,v)::r else (k,x)::gU f v r) from rfl];by_cases hk:k=f
  ·rw [mG hk,Oy,Oy];omega
  ·rw [lH hk,Oy,Oy];omega
def gK.some_of (r:gK (some v) o):∃u,o=some u/\RelV v u:=by
 cases o with
 | none=>exact (show False from r).elim
 | some u=>show ⟨u,rfl,r⟩
def gK.none_of (r:gK none o):o=none:=by
 cases o with
 | none=>rfl
 | some u=>exact (show False from r).elim
def wm (r:RelV v u):PySem.W.handedIn u=true:=by
 cases v with
 | cO=>cases (show u=Value.none from r);rfl
 | bl b=>cases (show u=Value.bool b from r);rfl
 | int i=>obtain ⟨t,e⟩:=(show ∃t,u=Value.int i t from r);cases e;rfl
 | str x=>obtain ⟨t,e⟩:=(show ∃t,u=Value.str x t from r);cases e;rfl
 | uY b=>obtain ⟨t,e⟩:=(show ∃t,u=Value.bytes b t from r);cases e;rfl
 | flt b=>obtain ⟨t,e⟩:=(show ∃t,u=Value.float b t from r);cases e;rfl
 | ref a=>cases (show u=Value.ref a from r);rfl
 | ty n=>cases (show u=Value.type n from r);rfl
section
variable {P:FL}{w:World}{H H':Hp}{h h':Heap}{a C dx:AO}{fs fs':List (Str×V)}
def xx (bH:jz P w H h)(e:H a=some (.ins C dx fs)):∃mA,FJ h a dx C mA/\(∀f,gK (fs.lookup f) (mA f))/\x8 mA (fs.map (·.1))/\fs.length<=1000/\H dx=some (.own a):=by
 obtain ⟨d,z,ne,ob,mA,n,r,q⟩:=(show bW P w H h a (.ins C dx fs) from bH a _ e);show ⟨mA,⟨ob,n,ne⟩,r,q,z,d⟩
end
structure EU (K:Frag)(C:AO):Prop where
 pg:Vh K C Str.empty=true
 hd:V3 K C=true
 po:Zy K C=true
 sa:H_ K (.ref C) "__setattr__"=some (some (.builtin "object.__setattr__"))
def EU.get {K:Frag}(c:EU K C)(f:Str):Vh K C f=true:=c.pg
def ig (K:Frag)(C:AO)(f:Str):Prop:=H_ K (.ref C) f=some none
def ig.adb {K:Frag}(n:ig K C f):PySem.W.takerIn K C f=some none:=by
 unfold PySem.W.takerIn;rw [show H_ K (.ref C) f=some none from n];rfl
structure Meth (K:Frag)(C:AO)(m:Str)(f:AO):Prop where
 at_:H_ K (.ref C) m=some (some (.ref f))
 fn:ZW K (.ref f)=true
 kp:keepIn K (.ref f)=true
section
variable {X:Cx}{pX:ε}{Z:St}{H:Hp}{s:BW}{a C dx:AO}{fs:List (Str×V)}{f:Str}{v:V}{A:HL}{E:δ}
def abt {Q:δ}(I:Inv X pX Z H s)(e:H a=some (.ins C dx fs))(c:EU X.K C)(n:ig X.K C f)(l:fs.lookup f=some v)
  (h:∀u s',Inv X pX Z H s' ->RelV v u->Q u s'):AX (BD X.prog X.w) A (getAttr (.ref a) f b) Q E s:=by
 obtain ⟨mA,O,r,_,_,_⟩:=xx I.bH e;obtain ⟨u,hu,ru⟩:=gK.some_of (v:=v) (o:=mA f) (by rw [<-l];exact r f);exact get_map I.j8 O (c.get f) c.hd n hu (wm ru) (h u _ (I.tok _) ru)
def mL (I:Inv X pX Z H s)(e:H a=some (.ins C dx fs))(c:EU X.K C)(k:Meth X.K C m g)(l:fs.lookup m=none)
  (h:Q (.ref g,[.ref a]) s):AX (BD X.prog X.w) A (getMethod (.ref a) m pl) Q E s:=by
 obtain ⟨mA,O,r,_,_,_⟩:=xx I.bH e;let hn:mA m=none:=gK.none_of (by rw [<-l];exact r m);exact acf I.j8 O (c.get m) k.at_ k.fn hn h
def abJ {Q:Μ}(I:Inv X pX Z H s)(e:H a=some (.ins C dx fs))(c:EU X.K C)(n:ig X.K C f)(hl:fs.length<1000)(ry:RelV y u)
  (h:∀s',Inv X pX Z (upd H a (.ins C dx (gU f y fs))) s' ->Q () s'):AX (BD X.prog X.w) A (setAttr (.ref a) f u) Q E s:=by
 obtain ⟨mA,O,r,wi,_,ho⟩:=xx I.bH e;let hz:(fs.map (·.1)).length<=BZ:=by rw [ir,xD];omega
 refine ahD I.j8 O c.sa c.po n.adb c.hd wi hz fun h' O' sb=>h _ ?_;let hd:∃o,h'.get? dx=some o:=let ⟨o,_,_,e',_⟩:=O'.ns;⟨o,e'⟩;refine I.write (x:=a) (e:=dx) (by rw [e];exact True.intro) (.inr ho) (fun b q hb z=>(sb.2 b hb).trans z) hd ?_;show ⟨by rwa [ah O.ne],?_,O.ne,O'.obj,_,O'.ns,fun g=>?_,fun g hg=>?_⟩
 ·have:=qF f y fs;omega
 ·show gK ((gU f y fs).lookup g) (if g=f then some u else mA g)
  rw [kq];by_cases q:g=f
  ·rwa [mG q,mG q]
  ·rw [lH q,lH q];exact r g
 ·by_cases q:g=f
  ·rw [q];exact (pK f y fs).1
  ·refine (pK f y fs).2 g (wi g fun z=>hg ?_)
   show (if g=f then some u else mA g)=none;rwa [lH q]
def Inv.made (I:Inv X pX Z H s):Inv X pX Z (upd (upd H s.heap.objs.size (.own (s.heap.objs.size+1))) (s.heap.objs.size+1) (.ins C s.heap.objs.size []))
  {s with heap:=(s.heap.push RV).push (RT C s.heap.objs.size)}:=by
 let e1:(s.heap.push RV).get? s.heap.objs.size=some RV:=MD s.heap rfl
 let e2:((s.heap.push RV).push (RT C s.heap.objs.size)).get? (s.heap.objs.size+1)=some (RT C s.heap.objs.size):=by
  have:=MD (s.heap.push RV) (o:=RT C s.heap.objs.size) rfl
  rwa [RP] at this
 let e3:(s.heap.push RV).Ns s.heap.objs.size (fun _=>none):=⟨RV, #[],_,e1,rfl,(fun e he=>CH he dL),fun _=>rfl⟩;let I1:=I.laid (a:=s.heap.objs.size) (o:=.own (s.heap.objs.size+1)) (h':=s.heap.push RV) (t':=s.toks) (fun b u q=>FK _ q) (DH _) ⟨_,e1⟩;refine I1.laid (a:=s.heap.objs.size+1) (o:=.ins C s.heap.objs.size []) (t':=s.toks) (fun b u q=>FK _ q) (ZQ (RP _ _)) ?_;let ne:s.heap.objs.size≠s.heap.objs.size+1:=MV (SY _);show ⟨by rw [ah ne,ag],Mu _,ne,e2,fun _=>none,(Heap.Ns1.of_empty e3).at fun o q=>FK _ q,fun _=>True.intro,fun y hy=>CH rfl hy⟩
def amz {Q:δ}(hb:V2 e f env (DC e env)=DC e env)
  (h:AX (BD prog w) A (DC e env) (fun o oW=>AX (BD prog w) A (getAttr o f true) Q E oW) E s):AX (BD prog w) A (DC (.Attribute e f pos) env) Q E s:=
 Attribute_any_ h (by rw [arm_eval_Attribute,hb])
end
inductive X6 (K:Frag)(f:Str)(Q:VK)(x:V)(H1:Hp):Prop
|mk (a C dx fs v:_)(_:x=.ref a)(_:H1 a=some (.ins C dx fs))(_:EU K C)(_:ig K C f)(_:fs.lookup f=some v)(_:Q v H1)
def alR (K:Frag)(ta:TE)(f:Str):TE:=fun Z H Q=>ta Z H fun x H1=>X6 K f Q x H1
inductive X7 (K:Frag)(f:Str)(D:Ends)(Z:St)(y:V)(x:V)(H2:Hp):Prop
|mk (a C dx fs:_)(_:x=.ref a)(_:H2 a=some (.ins C dx fs))(_:EU K C)(_:ig K C f)(_:fs.length<1000)(_:D.nx Z (upd H2 a (.ins C dx (gU f y fs))))
def alS (K:Frag)(ta tv:TE)(f:Str):TS:=fun D Z H=>tv Z H fun y H1=>ta Z H1 fun x H2=>X7 K f D Z y x H2
section
variable {X:Cx}{o e value:Expr}{f:Str}{pos pos' xy:Pos}{ta tv:TE}
def eK (he:PE X e ta)(hb:V2 e f X.env (DC e X.env)=DC e X.env):PE X (.Attribute e f pos) (alR X.K ta f):=by
 intro pX s Z H Q I h;refine amz hb (cI (he pX s Z H _ I h) fun u s1 ⟨x,H1,I1,rx,a,C,dx,fs,v,ex,ea,c,n,l,q⟩=>?_);subst ex;obtain rfl:u=Value.ref a:=rx;exact abt I1 ea c n l fun u' s2 I2 ru=>⟨v,H1,I2,ru,q⟩
def xA (ha:PE X o ta)(hv:PE X value tv)(hs:Sg value (some (.Attribute o f pos')) pos.line X.env=pure false):PS X (.Assign [.Attribute o f pos'] value pos) (alS X.K ta tv f):=by
 intro pX s Z H D I h;refine plainObj_wpAny_Assign_Attribute (cI (hv pX s Z H _ I h) fun u s1 ⟨y,H1,I1,ry,q⟩=>cI (ha pX s1 Z H1 _ I1 q) fun ov s2 ⟨x,H2,I2,rx,a,C,dx,fs,ex,ea,c,n,l,q2⟩=>?_) hs;subst ex;obtain rfl:ov=Value.ref a:=rx;exact abJ I2 ea c n l ry fun s3 I3=>⟨Z,_,I3,q2⟩
end
structure cz (k:Nat)(A:HL):Prop where
 hd:A.handled=none
 dp:A.depth+3*k+5<JV
 un:A.units+16*k+200<Nh
def cz.mono (r:cz k A)(h:j<=k):cz j A:=⟨r.hd,by have:=r.dp;omega,by have:=r.un;omega⟩
theorem cz.deeper (r:cz (k+1) A)(env:Env):cz k (A.deeper env):=
 ⟨r.hd,by have:=r.dp;show A.depth+1+3*k+5<_;omega,by have:=r.un;show A.units+3+16*k+200<_;omega⟩
def ack {A:HL}{us:ν}{kw:Υ}:(A.under (.builtin "type.__call__" ⟨.ref C::us,kw⟩)).depth=A.depth+1:=by
 first|rfl|simp [Around.under,Code.weight,Code.isCreation,Code.isGuard,Code.isCaller,Code.frames,Code.isFrame,guardIds]
def acY {A:HL}{us:ν}{kw:Υ}:(A.under (.builtin "type.__call__" ⟨.ref C::us,kw⟩)).units=A.units+1:=by
 first|rfl|simp [Around.under,Code.cUnits,Code.frames,Code.isFrame]
def cz.make (r:cz (k+1) A)(C:AO)(us:ν)(kw:Υ):cz k (A.under (.builtin "type.__call__" ⟨.ref C::us,kw⟩)):=
 ⟨r.hd,by have:=r.dp;rw [ack];omega,by have:=r.un;rw [acY];omega⟩
theorem cz.depth (r:cz k A):A.depth<JV:=by have:=r.dp;omega
theorem cz.units (r:cz k A):A.units+64<Nh:=by have:=r.un;omega
def mM:TA:=fun _ H Q=>Q [] H
def qG (ta:TE)(tr:TA):TA:=fun Z H Q=>ta Z H fun x H1=>tr Z H1 fun xs H2=>Q (x::xs) H2
section
variable {X:Cx}{e:Expr}{es:Β}{te:TE}{t:TA}{pos:Pos}
def iV:PA X [] mM:=fun _ _ _ _ H Q I h=>AB ⟨[],H,I,.nil,h⟩
def ahA (ha:PE X e te)(hr:PA X es t)(hs:DI (e::es) X.env=(false,DC e X.env)::DI es X.env:=by rfl):PA X (e::es) (qG te t):=by
 intro pos pX s Z H Q I h;rw [hs];show AX _ _ (spliced ((false,DC e X.env)::MZ pos (DI es X.env))) _ _ s;refine Wf (cI (ha pX s Z H _ I h) fun u s1 ⟨x,H1,I1,r1,q1⟩=>?_);exact cI (hr pos pX s1 Z H1 _ I1 q1) fun us s2 ⟨xs,H2,I2,r2,q2⟩=>⟨x::xs,H2,I2,.cons r1 r2,q2⟩
def alT (t:TA):TE:=fun Z H Q=>t Z H fun xs H1=>xs.length<=BZ/\∀p,H1 p=none->Q (.ref p) (upd H1 p (.tup xs))
def alU (t:TA):TE:=fun Z H Q=>t Z H fun xs H1=>xs.length<=BZ/\∀p,H1 p=none->Q (.ref p) (upd H1 p (.lst xs))
def aJ (h:PA X es t):PE X (.Tuple es x1 pos) (alT t):=by
 intro pX s Z H Q I hq;refine wpAny_Tuple_spliced (cI (h pos pX s Z H _ I hq) fun us s1 ⟨xs,H1,I1,r,z,q⟩=>⟨by rwa [<-r.length],?_⟩);let hf:H1 s1.heap.objs.size=none:=I1.bH.fresh (DH _);show ⟨.ref s1.heap.objs.size,upd H1 s1.heap.objs.size (.tup xs),I1.laid (t':=s1.toks) (fun b u e=>FK _ e) (DH _) ?_,rfl,q _ hf⟩;show ⟨z,us,r,⟨_,MD _ rfl,rfl,_,rfl⟩⟩
def bI (h:PA X es t):PE X (.List es pos) (alU t):=by
 intro pX s Z H Q I hq;refine wpAny_List_spliced (cI (h pos pX s Z H _ I hq) fun us s1 ⟨xs,H1,I1,r,z,q⟩=>⟨by rwa [<-r.length],?_⟩);let hf:H1 s1.heap.objs.size=none:=I1.bH.fresh (DH _);show ⟨.ref s1.heap.objs.size,upd H1 s1.heap.objs.size (.lst xs),I1.laid (t':=s1.toks) (fun b u e=>FK _ e) (DH _) ?_,rfl,q _ hf⟩;show ⟨z,us,0,r,MD _ rfl⟩
end
abbrev Sp:=List V->Hp->VK->XK->Prop
abbrev nC:=List Env->Hp->BW->XK->Value->BW->Prop
structure FP (P:FL)(w:World)(K:Frag)(mg:ι)(gw:Heap)(A:HL)(outer:List Env)(s:BW)(H:Hp):Prop where
 frames:A.frames=some outer
 mod:Mod K mg gw
 bs:∀b o,gw.get? b=some o->s.heap.get? b=some o/\H b=none
 T3:gw.objs.size<=s.heap.objs.size
 pH:s.heap.FunFrames gw outer
 XS:∀b∈mw outer,H b=none
 bH:jz P w H s.heap
 bare:SR s.gens
def CE (outer:List Env)(P:FL)(w:World)(H:Hp)(s:BW)(Q:VK)(u:Value)(s':BW):Prop:=
 ∃v H',s'.os=s.os/\SR s'.gens/\Un (mw outer) [] H H' s.heap s'.heap/\jz P w H' s'.heap/\RelV v u/\Q v H'
def CR (CX:nC)(outer:List Env)(P:FL)(w:World)(H:Hp)(s:BW)(Q:VK)(E:XK)(r:Result)(s':BW):Prop:=
 match r with
 | .ok (.ret u)=>CE outer P w H s Q u s'
 | .ok _=>False
 | .error e=>CX outer H s E e s'
structure cK (P:FL)(w:World)(K:Frag)(mg:ι)(gw:Heap)(CX:nC)(k:Nat)(f:AO)(fd:FuncData)(ps:θ)(sp:Sp):Prop where
 len:∀vs H Q E,sp vs H Q E->vs.length=ps.length
 run:∀(A:HL)(outer:List Env)(s:BW)(H:Hp)(args:Args)(us:ν)(vs:ζ)(Q:VK)(E:XK),cz k A->FP P w K mg gw A outer s H->BindsTo s fd args (ps.zip us)->Vals vs us->sp vs H Q E->
  Nc (BD P w) A (.call (.ref f) args) (CR CX outer P w H s Q E) s
theorem cK.mono {K:Frag}(F:cK P w K mg gw CX j f fd ps sp)(h:j<=k):
  cK P w K mg gw CX k f fd ps sp:=⟨F.len,fun A outer s H args us vs Q E hr=>F.run A outer s H args us vs Q E (hr.mono h)⟩
def cK.imp {K:Frag}(F:cK P w K mg gw CX k f fd ps sp)
  (h:∀vs H Q E,sp' vs H Q E->sp vs H Q E):cK P w K mg gw CX k f fd ps sp':=
 ⟨fun vs H Q E q=>F.len vs H Q E (h _ _ _ _ q),fun A outer s H args us vs Q E hr he hb hv hs=>F.run A outer s H args us vs Q E hr he hb hv (h _ _ _ _ hs)⟩
def FP.make {K:Frag}(e:FP P w K mg gw A outer s H)(C:AO)(us:ν)(kw:Υ):
  FP P w K mg gw (A.under (.builtin "type.__call__" ⟨.ref C::us,kw⟩)) outer s H:=⟨by first|exact e.frames|(simpa [Around.under,Code.envs,Code.isFrame,pushEnvs] using e.frames),e.mod,e.bs,e.T3,e.pH,e.XS,e.bH,e.bare⟩
section
variable {X:Cx}{pX:ε}{Z:St}{H:Hp}{s s':BW}
def Inv.Vm (I:Inv X pX Z H s):FP X.prog X.w X.K X.mg X.gw X.A X.stack s H:=
 ⟨I.ok.frames,I.ok.mod,I.bs,CT I.ok.T3 I.sz,I.stack,I.rK,I.bH,I.bare⟩
def Inv.after (I:Inv X pX Z H s)(h:CE X.stack X.prog X.w H s Q u s'):EP X pX Z Q u s':=by
 obtain ⟨v,H',os,bare,un,bH,r,q⟩:=h;obtain ⟨hh,g,d,t,os'⟩:=s';obtain rfl:os'=s.os:=os;show ⟨v,H',I.call (h':=hh) (g':=g) (d':=d) (t':=t) (ch:=[]) un bH bare (fun b z=>CH z dL),r,q⟩
end
def JK (sp:Sp)(uT:ζ)(E:XK)(t:TA):TE:=fun Z H Q=>t Z H fun vs H1=>sp (vs++uT) H1 Q E
def X8 (C:AO)(sp:Sp)(uT:ζ)(E:XK)(t:TA):TE:=fun Z H Q=>t Z H fun vs H1=>∀x dx,H1 x=none->H1 dx=none->dx≠x->
 sp (.ref x::(vs++uT)) (upd (upd H1 dx (.own x)) x (.ins C dx [])) (fun v H2=>v=.cO/\Q (.ref x) H2) E
def Binds (K:Frag)(fd:FuncData)(ps:θ)(ds:ν):Prop:=
 ∀(s:BW)(us:ν),K.In s.heap->(us++ds).length=ps.length->BindsTo s fd ⟨us,[]⟩ (ps.zip (us++ds))
def Binds.all {K:Frag}(h:∀us:List Value,us.length=ps.length->bindArgs fd ⟨us,[]⟩=pure (ps.zip us)):Binds K fd ps []:=fun s us _ hl=>by
 rw [Sw] at hl ⊢;exact .of_eq (h us hl)
def Passes (CX:nC)(X:Cx)(E:XK):Prop:=∀(pX:ε)(Z:St)(H:Hp)(s:BW)(e:Value)(s':BW),Inv X pX Z H s->CX X.stack H s E e s' ->X.xe e s'
section
variable {X:Cx}{CX:nC}{k:Nat}{f C:AO}{fd:FuncData}{ps:θ}{sp:Sp}{uT:ζ}{ds:ν}{E:XK}{x m:Str}{p pos apos:Pos}{e o:Expr}{es:Β}{ta:TE}{t:TA}
def xB {Z:St}{us:ν}{vs:ζ}(F:cK X.prog X.w X.K X.mg X.gw CX k f fd ps sp)(hr:cz k X.A)(hb:Binds X.K fd ps ds)(hd:Vals uT ds)(hx:Passes CX X E)
  (I:Inv X pX Z H s) (r:Vals vs us) (h:sp (vs++uT) H Q E):AX (BD X.prog X.w) X.A (call (.ref f) us) (EP X pX Z Q) X.xe s:=by
 let r2:Vals (vs++uT) (us++ds):=r.append hd;let hl:(us++ds).length=ps.length:=by rw [<-r2.length];exact F.len _ _ _ _ h
 refine Vn (Wn (F.run X.A X.stack s H ⟨us,[]⟩ (us++ds) (vs++uT) Q E hr I.Vm (hb s us I.j8 hl) r2 h) fun r s' hq=>?_);cases r with
 | error e=>exact hx pX Z H s e s' I hq
 | ok fl=>
  cases fl with
  | ret u=>exact I.after hq
  | next=>exact False.elim hq
  | brk=>exact False.elim hq
  | cont=>exact False.elim hq
def ah9 (F:cK X.prog X.w X.K X.mg X.gw CX k f fd ps sp)(hr:cz k X.A)(hg:Gl X x)(hm:X.mg x=some (.ref f))(hk:keepIn X.K (.ref f)=true)(hb:Binds X.K fd ps ds)(hd:Vals uT ds)(hx:Passes CX X E)
  (ha:PA X (e::es) t) (rg:(x==("__debug__":Str))=false:=by decide) (he:DI (e::es) X.env=(false,DC e X.env)::DI es X.env:=by rfl) (nE:(MZ pos (DI es X.env)).any (·.1)=false:=by rfl):
  PE X (.Call (.Name x p) (e::es) [] pos) (JK sp uT E t):=by
 intro pX s Z H Q I h;refine Vi (gT I hg hm ?_ rg);refine rA (h₀:=X.gw) I.ok.mod.XR hk (cI (ha pos pX s Z H _ I h) fun us s1 ⟨vs,H1,I1,r,q⟩=>⟨I1.j8,?_⟩) he nE;exact xB F hr hb hd hx I1 r q
structure Mk (K:Frag)(C f:AO):Prop where
 makes:Vl K C=true
 init:H_ K (.ref C) "__init__"=some (some (.ref f))
 fn:ZW K (.ref f)=true
 kp:keepIn K (.ref C)=true
def aes {Z:St}{us:ν}{vs:ζ}(M:Mk X.K C f)(F:cK X.prog X.w X.K X.mg X.gw CX k f fd ps sp)(hr:cz (k+1) X.A)(hb:Binds X.K fd ps ds)(hd:Vals uT ds)
  (hx:Passes CX X E) (I:Inv X pX Z H s) (r:Vals vs us)
  (h:∀x dx,H x=none->H dx=none->dx≠x->sp (.ref x::(vs++uT)) (upd (upd H dx (.own x)) x (.ins C dx [])) (fun v H2=>v=.cO/\Q (.ref x) H2) E):
  AX (BD X.prog X.w) X.A (call (.ref C) us) (EP X pX Z Q) X.xe s:=by
 let hq:=h (s.heap.objs.size+1) s.heap.objs.size (I.bH.fresh (Vv _)) (I.bH.fresh (DH _)) (MV (SY _));let I2:=Inv.made (C:=C) I;let r2:Vals (V.ref (s.heap.objs.size+1)::(vs++uT)) (Value.ref (s.heap.objs.size+1)::(us++ds)):=.cons rfl (r.append hd)
 let hl:(Value.ref (s.heap.objs.size+1)::us++ds).length=ps.length:=by
  let e:=r2.length;rw [F.len _ _ _ _ hq] at e;exact e.symm
 refine Vn (ab' (f:=f) I.j8 M.makes M.init (beq_iff_eq.mp M.fn) (Wn (F.run _ X.stack _ _ ⟨Value.ref (s.heap.objs.size+1)::us,[]⟩ (Value.ref (s.heap.objs.size+1)::(us++ds)) _ _ E (hr.make C us [])
  (I2.Vm.make C us []) (hb _ (Value.ref (s.heap.objs.size+1)::us) I2.j8 hl) r2 hq) fun r s' pE =>?_))
 cases r with
 | error e=>exact hx pX Z _ _ e s' I2 pE
 | ok fl=>
  cases fl with
  | ret u=>
   obtain ⟨v,H',I3,rv,ev,q3⟩:=I2.after pE;subst ev;show ⟨rv,⟨V.ref (s.heap.objs.size+1),H',I3,rfl,q3⟩⟩
  | next=>exact False.elim pE
  | brk=>exact False.elim pE
  | cont=>exact False.elim pE
def ah8 (M:Mk X.K C f)(F:cK X.prog X.w X.K X.mg X.gw CX k f fd ps sp)(hr:cz (k+1) X.A)(hg:Gl X x)(hm:X.mg x=some (.ref C))(hb:Binds X.K fd ps ds)(hd:Vals uT ds)(hx:Passes CX X E)
  (ha:PA X (e::es) t) (rg:(x==("__debug__":Str))=false:=by decide) (he:DI (e::es) X.env=(false,DC e X.env)::DI es X.env:=by rfl) (nE:(MZ pos (DI es X.env)).any (·.1)=false:=by rfl):
  PE X (.Call (.Name x p) (e::es) [] pos) (X8 C sp uT E t):=by
 intro pX s Z H Q I h;refine Vi (gT I hg hm ?_ rg);refine rA (h₀:=X.gw) I.ok.mod.XR M.kp (cI (ha pos pX s Z H _ I h) fun us s1 ⟨vs,H1,I1,r,q⟩=>⟨I1.j8,?_⟩) he nE;exact aes M F hr hb hd hx I1 r q
def zam (M:Mk X.K C f)(F:cK X.prog X.w X.K X.mg X.gw CX k f fd ps sp)(hr:cz (k+1) X.A)(hg:Gl X x)(hm:X.mg x=some (.ref C))(hb:Binds X.K fd ps ds)(hd:Vals uT ds)(hx:Passes CX X E)
  (rg:(x==("__debug__":Str))=false:=by decide):PE X (.Call (.Name x p) [] [] pos) (X8 C sp uT E mM):=by
 intro pX s Z H Q I h;refine Vi (gT I hg hm ?_ rg);exact PySem.W.callWith_K0 I.j8 M.kp (aes (us:=[]) M F hr hb hd hx I .nil h)
end
structure av (N P:θ)(sc:Scope):Prop where
 kind:sc.kind=.function
 co:sc.isCoroutine=false
 gen:sc.isGenerator=false
 nd:N.Nodup
 pre:N.take P.length=P
 par:∀x∈P,sc.names.lookup x=some .local\/sc.names.lookup x=some .cell
 ZE:∀y∈sc.names,y.2≠.free
theorem wo {RK:Str->Option NameKind}:∀{binds:Υ} {m:ι},(∀v,(x,v)∉binds)->bindL RK binds m x=m x
 | [],_,_=>rfl
 | (n,v)::r,m,h=>by
  unfold bindL;rw [wo fun w hw=>h w (HV _ hw)];split
  ·have:x≠n:=by rintro rfl;exact h v LZ
   simp [this]
  ·rfl
theorem wu {RK:Str->Option NameKind}:∀{binds:Υ} {m:ι},(∀v,(x,v)∉binds)->bindC RK binds m x=m x
 | [],_,_=>rfl
 | (n,v)::r,m,h=>by
  unfold bindC;rw [wu fun w hw=>h w (HV _ hw)];split
  ·rfl
  ·have:x≠n:=by rintro rfl;exact h v LZ
   simp [this]
theorem wz {RK:Str->Option NameKind}:∀{P:θ} {vs:ν} {i:Nat} {m:ι},P.Nodup->P[i]?=some x->vs[i]?=some v->RK x=some .local->
  bindL RK (P.zip vs) m x=some v
 | [],_,_,_,_,h,_,_=>by simp at h
 | _::_,[],_,_,_,_,h,_=>by simp at h
 | p::P,w::vs,0,m,nd,h1,h2,hk=>by
  simp at h1 h2;subst h1;subst h2;show bindL RK ((p,w)::P.zip vs) m p=_;unfold bindL;rw [wo fun v hv=>(Qd.mp nd).1 (akX hv).1,mG hk];simp
 | p::P,w::vs,i+1,m,nd,h1,h2,hk=>by
  show bindL RK ((p,w)::P.zip vs) m x=_;unfold bindL;exact wz (i:=i) (Qd.mp nd).2 (by simpa using h1) (by simpa using h2) hk
theorem wA {RK:Str->Option NameKind}:∀{P:θ} {vs:ν} {i:Nat} {m:ι},P.Nodup->P[i]?=some x->vs[i]?=some v->RK x≠some .local->
  bindC RK (P.zip vs) m x=some v
 | [],_,_,_,_,h,_,_=>by simp at h
 | _::_,[],_,_,_,_,h,_=>by simp at h
 | p::P,w::vs,0,m,nd,h1,h2,hk=>by
  simp at h1 h2;subst h1;subst h2;show bindC RK ((p,w)::P.zip vs) m p=_;unfold bindC;rw [wu fun v hv=>(Qd.mp nd).1 (akX hv).1,lH hk];simp
 | p::P,w::vs,i+1,m,nd,h1,h2,hk=>by
  show bindC RK ((p,w)::P.zip vs) m x=_;unfold bindC;exact wA (i:=i) (Qd.mp nd).2 (by simpa using h1) (by simpa using h2) hk
def start (N:θ)(vs:ζ):St:=vs.map some++L' (N.length-vs.length) none
def j6 (CX:nC)(P:FL)(w:World)(K:Frag)(mg:ι)(gw:Heap)(N:θ)(qual:Str)(scope:Scope)(f:AO)(cd:Value)(A:HL)(outer:List Env)(s:BW)(H:Hp)(E:XK):Cx where
 prog:=P
 w:=w
 K:=K
 mg:=mg
 gw:=gw
 A:=A.deeper (Ng qual scope s.heap.objs.size f cd)
 N:=N
 oZ:=s
 H₀:=H
 env:=Ng qual scope s.heap.objs.size f cd
 outer:=outer
 stack:=Ng qual scope s.heap.objs.size f cd::outer
 ex:=[]
 calm:=true
 fn:=fun _=>true
 pn:=[]
 xe:=fun e s'=>AX (BD P w) (A.deeper (Ng qual scope s.heap.objs.size f cd)) (leaving (Ng qual scope s.heap.objs.size f cd) e) (fun _ s''=>CX outer H s E e s'') (fun e' s''=>CX outer H s E e' s'') s'
def aeP {sc:Scope}(h:sc.names.lookup x=some .cell):∃c,(cellsFrom n sc.names []).lookup x=some c:=by
 let q:=PySem.W.cellsFrom_some sc.names n [] (.inl h);exact S1.mp q
def ahq {K:Frag}{us:ν}{vs:ζ}
  (S:av N ps scope) (hd:A.handled=none) (e0:FP P w K mg gw A outer s H) (hl:vs.length=ps.length) (r:Vals vs us)
  (x:InCallC s s.heap.objs.size (bindL (Ng qual scope s.heap.objs.size f cd).kindOf (ps.zip us) fun _=>none) (cellsFrom (s.heap.objs.size+1) scope.names []) (bindC (Ng qual scope s.heap.objs.size f cd).kindOf (ps.zip us) fun _=>none) s1):
  Inv (j6 CX P w K mg gw N qual scope f cd A outer s H E) [] (start N vs) H s1:=by
 let nE:ps.length<=N.length:=by have:=ph Rg S.pre;rw [HQ] at this;omega
 obtain ⟨h1,tk,rfl,hk⟩:=x.done;let noA:∀b:AO,b∉(j6 CX P w K mg gw N qual scope f cd A outer s H E).ex:=fun b z=>CH (show b∈([]:List AO) from z) dL
 show ⟨⟨e0.mod,S.kind,rfl,rfl,DH _,fun y z c h1 h2=>?_,fun y hy=>?_,fun y c _ h=>?_,fun _=>hd,Around.frames_deeper e0.frames,.inr ⟨rfl,rfl⟩,fun b z=>CH z (noA b),e0.bs,e0.T3,fun b _ _=>noA b,fun b z=>CH z (noA b),e0.pH,e0.XS⟩,
  rfl,e0.bare,Un.kept hk,⟨_,x.toInCall.ns,fun i y v h1 h2 h3=>?_⟩,fun y c h=>⟨_,x.cell y c h⟩,e0.bH.fresh (DH _),fun y c h=>?_,fun p hp=>CH (show p∈([]:List (AO×Obj)) from hp) dL,e0.bH.kept hk,?_⟩
 ·exact name_of_addr x.apart (yw h1) (yw h2)
 ·let hy:scope.names.lookup y=some .cell\/scope.names.lookup y=some .free:=hy
  rcases hy with hy|hy
  ·exact aeP hy
  ·exact CH rfl (S.ZE _ (yw hy))
 ·exact RF (x.above y c (yw h))
 ·let hi:i<vs.length:=by
   unfold start at h2;by_cases hi:i<vs.length
   ·exact hi
   ·rw [Qw (by simpa using hi)] at h2
    rw [σ0] at h2;split at h2<;>cases h2
  let ha:vs[i]?=some v:=by
   unfold start at h2;rw [Nu (by simpa using hi),BJ] at h2;cases e:vs[i]? with
   | none=>erw [e] at h2
   | some a=>erw [e] at h2;rfl
  obtain ⟨u,hu,rv⟩:=r.get ha
  let hp:ps[i]?=some y:=by
   rwa [<-S.pre,VC ci]
  let ndP:ps.Nodup:=by rw [<-S.pre];exact S.nd.sublist (List.take_sublist _ _)
  show ⟨u,rv,?_⟩
  rcases S.par y (DA hp) with k|k
  ·exact .inl ⟨k,wz ndP hp hu k⟩
  ·obtain ⟨c,e⟩:=aeP (n:=s.heap.objs.size+1) k
   refine .inr ⟨.inl k,c,e,?_⟩;let q:=x.cell y c e;rw [wA ndP hp hu (by show scope.names.lookup y≠_;rw [k];decide)] at q;exact q
 ·exact e0.bH.fresh (RF (x.above y c (yw h)))
 ·unfold start
  show _=N.length;rw [IA,ir,σ1];omega
def AL {K:Frag}{dV kV doc pm bE ct oc:Value}{an od:Δ}
  {pM:Ν}   (lk:K.lookup f=some ⟨oc,od,.func (fnOf name qual params body scope dV kV doc pm an bE ct),pM⟩) (r_:codeIn K bE qual=true) (S:av N ps scope)
  (len:∀vs H Q E,sp vs H Q E->vs.length=ps.length)
  (gx:∀(A:HL)(outer:List Env)(s:BW)(H:Hp)(vs:ζ)(Q:VK)(E:XK),cz k (A.deeper (Ng qual scope s.heap.objs.size f bE))->sp vs H Q E->
   ∃t,uS (j6 CX P w K mg gw N qual scope f bE A outer s H E) body t/\t {nx:=fun _ H'=>Q .cO H',rt:=Q} (start N vs) H):
  cK P w K mg gw CX (k+1) f (fnOf name qual params body scope dV kV doc pm an bE ct) ps sp:=by
 show ⟨len,fun A outer s H args us vs Q E hr e0 hb r zT=>?_⟩;let hl:=len _ _ _ _ zT;let KX:K.In s.heap:=e0.mod.XR.keeps fun b o e=>(e0.bs b o e).1;let lim:s.heap.NoLimit:=e0.mod.nolimit.keeps fun b o e=>(e0.bs b o e).1
 let adg:∀y∈ps.zip us,scope.names.lookup y.1=some .local\/(scope.names.lookup y.1=some .cell/\((cellsFrom (s.heap.objs.size+1) scope.names []).lookup y.1).isSome=true):=fun ⟨n,v⟩ hy=>by
  rcases S.par n (akX hy).1 with q|q
  ·exact .inl q
  ·exact .inr ⟨q,PySem.W.cellsFrom_some _ _ _ (.inl q)⟩
 refine codeAny_call_function hr.depth (KX _ _ lk) rfl S.co S.gen rfl (PySem.W.codeRec_of KX r_) (hb _ _ _ _ ?_);refine wpAny_newFunctionEnv_cells S.kind adg fun env he s1 x=>?_;subst he;show ⟨lim.keeps x.toInCall.keep,codeAny_func ?_⟩;obtain ⟨t,ht,hq⟩:=gx A outer s H vs Q E (hr.deeper _) zT;let I:Inv (j6 CX P w K mg gw N qual scope f bE A outer s H E) [] (start N vs) H s1:=ahq S hr.hd e0 hl r x;refine L_ (ht [] s1 (start N vs) H _ I hq) (fun fl s' hs=>?_) fun e s' hs=>hs
 let fin:∀{Z' :St} {H':Hp} {v:V} {u:Value},Inv (j6 CX P w K mg gw N qual scope f bE A outer s H E) [] Z' H' s' ->RelV v u->Q v H' ->CE outer P w H s Q u s':=
  fun {Z' H' v u} J rv q=>⟨v,H',J.os,J.bare,J.gw,J.bH,rv,q⟩
 cases fl with
 | ret u=>
  obtain ⟨v,Z',H',J,rv,q⟩:=hs;exact fin J rv q
 | next=>
  obtain ⟨Z',H',J,q⟩:=hs;exact fin (v:=V.cO) (u:=Value.none) J rfl q
 | brk=>
  obtain ⟨_,_,_,q⟩:=hs;exact False.elim q
 | cont=>
  obtain ⟨_,_,_,q⟩:=hs;exact False.elim q
section
variable {X:Cx}{x:Str}{p pos:Pos}{e:Expr}{es:Β}{t:TA}{id T:String}{r:List V->Hp->VK->Prop}
def tCB (r:List V->Hp->VK->Prop)(t:TA):TE:=fun Z H Q=>t Z H fun vs H1=>r vs H1 Q
def aR (hc:iE X (.builtin id) r)(hg:Gl X x)(hm:X.mg x=none)(hv:Nf x=some (.builtin id))(ha:PA X (e::es) t)(hn:x≠ "__name__":=by decide)(rg:(x==("__debug__":Str))=false:=by decide)
  (he:DI (e::es) X.env=(false,DC e X.env)::DI es X.env:=by rfl) (nE:(MZ pos (DI es X.env)).any (·.1)=false:=by rfl):PE X (.Call (.Name x p) (e::es) [] pos) (tCB r t):=by
 intro pX s Z H Q I h;refine Vi (iS I hg hm hv ?_ hn rg);exact PyProof.Rows.callWith_builtin1 (cI (ha pos pX s Z H _ I h) fun us s1 ⟨vs,H1,I1,r1,q1⟩=>hc pX s1 Z H1 vs us Q I1 r1 q1) he nE
def cu (hc:iE X (.type T) r)(hg:Gl X x)(hm:X.mg x=none)(hv:Nf x=some (.type T))(ha:PA X (e::es) t)(hn:x≠ "__name__":=by decide)(rg:(x==("__debug__":Str))=false:=by decide)
  (he:DI (e::es) X.env=(false,DC e X.env)::DI es X.env:=by rfl) (nE:(MZ pos (DI es X.env)).any (·.1)=false:=by rfl):PE X (.Call (.Name x p) (e::es) [] pos) (tCB r t):=by
 intro pX s Z H Q I h;refine Vi (iS I hg hm hv ?_ hn rg);exact Vp (cI (ha pos pX s Z H _ I h) fun us s1 ⟨vs,H1,I1,r1,q1⟩=>hc pX s1 Z H1 vs us Q I1 r1 q1) he nE
end
end L2
namespace HT
open PySem PyProof.Rows
section
variable {prog:FL}{w:World}{A:HL}{E:δ}{s:BW}
def AM (n d:Nat):Option Int->Nat
 | none=>d
 | some v=>if v<0 then (v+(n:Int)).toNat else min v.toNat n
def AN (n d:Nat):AM n d none=d:=rfl
def rL (n d k:Nat):AM n d (some (k:Int))=min k n:=by
 show (if (k:Int)<0 then ((k:Int)+(n:Int)).toNat else min (k:Int).toNat n)=min k n;rw [lH ci,Q4]
end
end HT
namespace L2
open PySem PySem.Spec PyProof.Rows
abbrev TO:=St->Hp->(Option Int->Hp->Prop)->Prop
def PO (X:Cx)(e:Option Expr)(t:TO):Prop:=
 ∀(pX:ε)(s:BW)(Z:St)(H:Hp)(Q:Option Int->Hp->Prop),Inv X pX Z H s->t Z H Q->
  AX (BD X.prog X.w) X.A (evalPart e X.env) (fun u s'=>∃o H',Inv X pX Z H' s'/\IsPart u o/\Q o H') X.xe s
def ag7:TO:=fun _ H Q=>Q none H
inductive Qy (Q:(Option Int->Hp->Prop))(x:V)(H1:Hp):Prop
|mk (i:_)(_:x=.int i)(_:Q (some i) H1)
def adh (t:TE):TO:=fun Z H Q=>t Z H fun x H1=>Qy Q x H1
section
variable {X:Cx}{e:Expr}{te:TE}{lo hi:Option Expr}{tl th:TO}{pos p2:Pos}
def cP:PO X none ag7:=by
 intro pX s Z H Q I h;rw [evalPart_none];exact B_ ⟨none,H,I,.none,h⟩
def cC (h:PE X e te):PO X (some e) (adh te):=by
 intro pX s Z H Q I hw;rw [evalPart_some];refine cI (h pX s Z H _ I hw) fun u s1 ⟨x,H1,I1,r1,q1⟩=>?_;obtain ⟨i,rfl,q⟩:=q1;obtain ⟨t,rfl⟩:=r1;show ⟨some i,H1,I1,.int i t,q⟩
def SlR (X:Cx)(r:V->Option Int->Option Int->Hp->VK->Prop):Prop:=
 ∀(pX:ε)(s:BW)(Z:St)(H:Hp)(x:V)(v vl vu:Value)(lo hi:Option Int)(sl:AO)(Q:VK),Inv X pX Z H s->RelV x v->s.heap.IsSliceOf sl vl vu .none->IsPart vl lo->IsPart vu hi->r x lo hi H Q->
  ∃T id,typeLookup (.type T) "__getitem__"=pure (some (.builtin id))/\s.TypeIs v T/\AX (BD X.prog X.w) X.A (getItem v (.ref sl)) (EP X pX Z Q) X.xe s
def tSl (r:V->Option Int->Option Int->Hp->VK->Prop)(te:TE)(tl th:TO):TE:=fun Z H Q=>te Z H fun x H1=>tl Z H1 fun l H2=>th Z H2 fun u H3=>r x l u H3 Q
def bY (hr:SlR X r)(he:PE X e te)(hl:PO X lo tl)(hu:PO X hi th):PE X (.Subscript e (.Slice lo hi none p2) pos) (tSl r te tl th):=by
 intro pX s Z H Q I h;refine Subscript_ (cI (he pX s Z H _ I h) fun v s1 ⟨x,H1,I1,r1,q1⟩=>?_);refine wpAny_Slice (cI (hl pX s1 Z H1 _ I1 q1) fun vl s2 ⟨l,H2,I2,pl,q2⟩=>cI (hu pX s2 Z H2 _ I2 q2) fun vu s3 ⟨u,H3,I3,pu,q3⟩=>?_);rw [evalPart_none];refine B_ ?_;let I4:Inv X pX Z H3 {s3 with heap:=s3.heap.push {cls:=.type "slice",data:=.fields #[vl,vu,.none]}}:=I3.kept (t':=s3.toks) fun b ob q=>FK _ q;obtain ⟨T,id,hT,ht,hg⟩:=hr pX {s3 with heap:=s3.heap.push {cls:=.type "slice",data:=.fields #[vl,vu,.none]}} Z H3 x v vl vu l u s3.heap.objs.size Q I4 r1 (Heap.IsSliceOf.new ..) pl pu q3;show AX (BD X.prog X.w) X.A (subscriptTail e (.Slice lo hi none p2) v (.ref s3.heap.objs.size)) (EP X pX Z Q) X.xe {s3 with heap:=s3.heap.push {cls:=.type "slice",data:=.fields #[vl,vu,.none]}};exact tail_any (ops:=[.ref s3.heap.objs.size,v]) ht hT hg (by with_unfolding_all rfl)
def iW (xs:ζ)(lo hi:Option Int):List V:=(xs.drop (HT.AM xs.length 0 lo)).take (HT.AM xs.length xs.length hi-HT.AM xs.length 0 lo)
def abr (xs:ζ)(lo hi:Option Int):(iW xs lo hi).length<=xs.length:=by
 unfold iW;rw [HQ,ue];omega
end
def Pu (n:Nat)(i:Int):Option Nat:=if 0<=i then (if i<n then some i.toNat else none) else if -(n:Int)<=i then some (i+n).toNat else none
def jc {Y:Type}(xs:List Y)(i:Int):Option Y:=(Pu xs.length i).bind fun j=>xs[j]?
def amx (h:Pu n i=some j):seqIndex? i n=some j/\j<n/\ -(n:Int)<=i/\i<n:=by
 unfold Pu at h;by_cases h0:0<=i
 ·rw [mG h0] at h
  by_cases h1:i<n
  ·rw [mG h1] at h
   let e:i.toNat=j:=MY h;show ⟨by rw [seqIndex_of h0 h1,e],ci,ci,h1⟩
  ·erw [lH h1] at h
 ·rw [lH h0] at h
  by_cases h1: -(n:Int)<=i
  ·rw [mG h1] at h
   let e:(i+n).toNat=j:=MY h;show ⟨by rw [seqIndex_neg ci h1,e],ci,h1,ci⟩
  ·erw [lH h1] at h
def xC {v:Y}(h:jc xs i=some v):∃j,seqIndex? i xs.length=some j/\xs[j]?=some v/\j<xs.length/\ -(xs.length:Int)<=i/\i<xs.length:=by
 unfold jc at h;cases e:Pu xs.length i with
 | none=>erw [e] at h
 | some j=>
  rw [e] at h;obtain ⟨h1,h2,h3,h4⟩:=amx e;show ⟨j,h1,h,h2,h3,h4⟩
def bF {j:Nat}{v:Y}(h:xs[j]?=some v):jc xs (j:Int)=some v:=by
 let hj:j<xs.length:=(Wp.mp h).1
 let e:Pu xs.length (j:Int)=some j:=by
  unfold Pu;rw [mG ci,mG ci];simp
 unfold jc;rwa [e]
def ams (b:Expr):Prop:=∀o i,subscripted b false o i=operate [o,i] (getItem o i)
def ZF (X:Cx)(r:R2):Prop:=
 ∀(value slice:Expr)(pX:ε)(s:BW)(Z:St)(H:Hp)(x y:V)(v u:Value)(Q:VK),Inv X pX Z H s->RelV x v->RelV y u->r x y H Q->
  subscripted slice false v u=operate [v,u] (getItem v u)->AX (BD X.prog X.w) X.A (subscriptTail value slice v u) (EP X pX Z Q) X.xe s
def MtR (X:Cx)(id:String)(r:Χ):Prop:=
 ∀(pX:ε)(s:BW)(Z:St)(H:Hp)(x:V)(xs:ζ)(v:Value)(us:ν)(Q:VK),Inv X pX Z H s->RelV x v->Vals xs us->r x xs H Q->
  AX (BD X.prog X.w) X.A (call (.builtin id) (v::us)) (EP X pX Z Q) X.xe s
section
variable {X:Cx}{a b:Expr}{ta tb:TE}{pos:Pos}
def Qz (hr:ZF X r)(ha:PE X a ta)(hb:PE X b tb)(hs:ams b):PE X (.Subscript a b pos) (X2 r ta tb):=by
 intro pX s Z H Q I h;exact Subscript_ (ZC ha hb I h fun v u s2 x y H2 I2 rx ry q=>hr a b pX s2 Z H2 x y v u Q I2 rx ry q (hs _ _))
inductive Vq (K:Frag)(x:V)(y:V)(H:Hp)(Q:VK):Prop
|mk (p xs i v:_)(_:x=.ref p)(_:y=.int i)(_:aK K H p xs)(_:jc xs i=some v)(_:Q v H)
inductive Vr (K:Frag)(x:V)(y:V)(H:Hp)(Q:VK):Prop
|mk (p xs i v:_)(_:x=.ref p)(_:y=.int i)(_:bZ K H p xs)(_:jc xs i=some v)(_:Q v H)
inductive adi (x:V)(y:V)(H:Hp)(Q:VK):Prop
|mk (z i c:_)(_:x=.str z)(_:y=.int i)(_:z.length<=BZ)(_:jc z.cps.toList i=some c)(_:Q (.str ⟨#[c]⟩) H)
def aQ:ZF X (Vq X.K):=by
 intro value slice pX s Z H x y v u Q I rx ry h hs;obtain ⟨p,xs,i,z,rfl,rfl,hq,he,q⟩:=h;cases rx;obtain ⟨t,rfl⟩:=ry;obtain ⟨AU,r,pl,hz⟩:=I.list hq;obtain ⟨j,h1,h2,h3,h4,h5⟩:=xC he;obtain ⟨w,ew,ra⟩:=r.get h2;let hl:=r.length;let hn:=so;let fin:EP X pX Z Q w s:=⟨z,H,I,ra,q⟩;by_cases h0:0<=i
 ·let hj:i.toNat=j:=by
   rw [seqIndex_of h0 h5] at h1;exact MY h1
  exact item_listR pl.isList h0 ci (by rw [hj];simpa using ew) fin hs
 ·let hj:(i+(AU.toArray.size:Int)).toNat=j:=by
   rw [seqIndex_neg ci h4] at h1;rw [Ni,<-hl];exact MY h1
  exact subscriptTail_builtinR (x:=w) pl.isList.typeIs slot_list_getitem.lookup
   (wpAny_getItem_list_neg (Q:=fun r s'=>r=w/\EP X pX Z Q r s') pl.isList ci (by rw [Ni]<;>omega) ci (by rw [hj];simpa using ew) ⟨rfl,fin⟩) hs
def sr:ZF X (Vr X.K):=by
 intro value slice pX s Z H x y v u Q I rx ry h hs;obtain ⟨p,xs,i,z,rfl,rfl,hq,he,q⟩:=h;cases rx;obtain ⟨t,rfl⟩:=ry;obtain ⟨AU,r,pl,hz⟩:=I.tuple hq;obtain ⟨j,h1,h2,h3,h4,h5⟩:=xC he;obtain ⟨w,ew,ra⟩:=r.get h2;let hl:=r.length;let hn:=so;let fin:EP X pX Z Q w s:=⟨z,H,I,ra,q⟩
 exact subscriptTail_builtinR (x:=w) pl.typeIs slot_tuple_getitem.lookup
  (getItem_tuple (j:=j) (Q:=fun r s'=>r=w/\EP X pX Z Q r s') pl ci ci (by rwa [Ni,<-hl]) (by simpa using ew) ⟨rfl,fin⟩) hs
def ak5:ZF X adi:=by
 intro value slice pX s Z H x y v u Q I rx ry h hs;obtain ⟨z,i,c,rfl,rfl,hz,he,q⟩:=h;obtain ⟨t,rfl⟩:=rx;obtain ⟨t',rfl⟩:=ry;obtain ⟨j,h1,h2,h3,h4,h5⟩:=xC he;let hl:z.cps.toList.length=z.length:=by simp [Str.length]
 rw [hl] at h1 h4 h5;let hn:=so
 exact tail_any (typeIs_str s z t) slot_str_getitem.lookup (getItem_str (c:=c) (by
  let e1:decide (i < -(2^63:Int))=false:=Nt ci;let e2:decide (i≥2^63)=false:=Nt ci
  rw [e1,e2,amR]) (by rw [h1];simpa using h2) ⟨.str ⟨#[c]⟩,H,I.tok _,⟨_,rfl⟩,q⟩) hs
def aaU (AU:ν)(n j:Nat)(u:Value):V4 (·.setIfInBounds j u) {cls:=.type "list",data:=.seq AU.toArray n}={cls:=.type "list",data:=.seq (AU.set j u).toArray n}:=by
 simp [V4]
theorem Inv.lst {Z:St}(I:Inv X pX Z H s)(h:H p=some (.lst xs)):
  ∃(AU:ν)(n:Nat),Vals xs AU/\s.heap.get? p=some {cls:=.type "list",data:=.seq AU.toArray n}/\xs.length<=BZ:=by
 obtain ⟨z,AU,n,r,e⟩:=I.bH p _ h;show ⟨AU,n,r,e,z⟩
def Inv.ZH {Z:St}{xs ys:ζ}{AU rH:ν}(I:Inv X pX Z H s)(h:H p=some (.lst xs))
  (ho:s.heap.get? p=some {cls:=.type "list",data:=.seq AU.toArray n}) (hf:f {cls:=.type "list",data:=.seq AU.toArray n}={cls:=.type "list",data:=.seq rH.toArray n'}) (r:Vals ys rH) (hz:ys.length<=BZ) (t:Nat):
  Inv X pX Z (upd H p (.lst ys)) {s with heap:=s.heap.update p f,toks:=t}:=by
 let e:(s.heap.update p f).get? p=some {cls:=.type "list",data:=.seq rH.toArray n'}:=by
  rw [Vj f ho (by rw [hf]<;>rfl),hf]
 refine I.write (x:=p) (e:=p) (by rw [h];trivial) (.inl rfl) (fun b u hb q=>(S' _ _ (FN hb)).trans q) ⟨_,e⟩ ?_;show ⟨hz,rH,n',r,e⟩
inductive X9 (o:V)(i:V)(v:V)(H:Hp)(Q:(Hp->Prop)):Prop
|mk (p xs k j:_)(_:o=.ref p)(_:i=.int k)(_:H p=some (.lst xs))(_:Pu xs.length k=some j)(_:Q (upd H p (.lst (xs.set j v))))
def set_list:ac2 X X9:=by
 intro pX s Z H o i v ov iv u Q I ro ri rv h;obtain ⟨p,xs,k,j,rfl,rfl,hp,hj,q⟩:=h;cases ro;obtain ⟨t,rfl⟩:=ri;obtain ⟨AU,n,r,ho,hz⟩:=I.lst hp;obtain ⟨h1,h2,h3,h4⟩:=amx hj;let hl:=r.length;let hn:=so
 let I':Inv X pX Z (upd H p (.lst (xs.set j v))) {s with heap:=s.heap.update p (V4 (·.setIfInBounds j u))}:=
  I.ZH hp ho (aaU AU n j u) (r.set rv j) (by rwa [amb]) s.toks
 by_cases h0:0<=k
 ·let hk:k.toNat=j:=by
   rw [seqIndex_of h0 h4] at h1;exact MY h1
  exact PySem.W.ki_setAt ho h0 ci (by rwa [Ni,<-hl]) (by rw [hk];show ⟨_,I',q⟩)
 ·let hk:(k+(AU.toArray.size:Int)).toNat=j:=by
   rw [seqIndex_neg ci h3] at h1;rw [Ni,<-hl];exact MY h1
  exact PySem.W.ki_setBack ho ci (by rwa [Ni,<-hl]) ci (by rw [hk];show ⟨_,I',q⟩)
def amQ (lo hi:Option Int)(n:Nat):(Wb lo hi none n).1=((HT.AM n 0 lo:Nat):Int)/\(Wb lo hi none n).2.1=((HT.AM n n hi:Nat):Int)/\(Wb lo hi none n).2.2=1:=by
 show ⟨?_,?_,rfl⟩
 ·cases lo with
  | none=>simp [Wb,HT.AM]
  | some i=>
   simp only [Wb,HT.AM,alF,show (1:Int) > 0 by decide,if_true];by_cases h:i<0
   ·simp only [h,if_true]<;>omega
   ·simp only [h,if_false]<;>omega
 ·cases hi with
  | none=>simp [Wb,HT.AM]
  | some i=>
   simp only [Wb,HT.AM,alF,show (1:Int) > 0 by decide,if_true];by_cases h:i<0
   ·simp only [h,if_true]<;>omega
   ·simp only [h,if_false]<;>omega
def ac' (AU:ν)(lo hi:Option Int):slicePick AU.toArray lo hi none=((AU.drop (HT.AM AU.length 0 lo)).take (HT.AM AU.length AU.length hi-HT.AM AU.length 0 lo)).toArray:=by
 obtain ⟨h1,h2,h3⟩:=amQ lo hi AU.toArray.size;unfold slicePick;rw [h1,h2,h3];simp only [sliceRange_one,pick_run,Ni]<;>rfl
inductive adj (K:Frag)(x:V)(lo:Option Int)(hi:Option Int)(H:Hp)(Q:VK):Prop
|mk (a xs:_)(_:x=.ref a)(_:aK K H a xs)(_:∀p,H p=none->Q (.ref p) (upd H p (.lst (iW xs lo hi))))
def cX:SlR X (adj X.K):=by
 intro pX s Z H x v vl vu lo hi sl Q I rx hs pl pu h;obtain ⟨a,xs,rfl,hx,q⟩:=h;cases rx;obtain ⟨AU,r,ht,hz⟩:=I.list hx;let hlen:=r.length;show ⟨"list",_,slot_list_getitem.lookup,ht.isList.typeIs,wpAny_getItem_list_slice ht.isList hs pl pu .none dL ?_ (by rw [Ni]<;>omega)⟩;rw [ac',<-hlen];show ⟨.ref s.heap.objs.size,_,I.laid (t':=s.toks) (o:=.lst (iW xs lo hi)) (fun b ob q=>FK _ q) (DH _) ?_,rfl,q _ (I.bH.fresh (DH _))⟩;show ⟨CT (abr xs lo hi) hz,_,0,(r.drop (HT.AM xs.length 0 lo)).take (HT.AM xs.length xs.length hi-HT.AM xs.length 0 lo),MD _ rfl⟩
def jd:V->Bool
 | .cO=>true
 | .bl _=>true
 | .int _=>true
 | .str _=>true
 | _=>false
def rh:V->V->Bool
 | .cO,.cO=>true
 | .bl a,.bl b=>a==b
 | .bl a,.int b=>(if a then 1 else 0)==b
 | .int a,.bl b=>a==(if b then 1 else 0)
 | .int a,.int b=>a==b
 | .str a,.str b=>a==b
 | _,_=>false
def FR (ry:RelV y u)(rx:RelV x v)(fy:jd y=true)(fx:jd x=true):WG A s u v (rh y x):=by
 cases y with
 | cO=>
  cases ry;cases x with
  | cO=>cases rx;exact SeqAt.EqAt.same _
  | bl b=>cases rx;exact SeqAt.EqAt.none_bool b
  | int b=>obtain ⟨t,rfl⟩:=rx;exact SeqAt.EqAt.none_int b t
  | str b=>obtain ⟨t,rfl⟩:=rx;exact SeqAt.EqAt.none_str b t
  | _=>exact CH (show false=true from fx) MS
 | bl a=>
  cases ry;cases x with
  | cO=>cases rx;exact SeqAt.EqAt.bool_none a
  | bl b=>cases rx;exact SeqAt.EqAt.bool_bool a b
  | int b=>obtain ⟨t,rfl⟩:=rx;exact SeqAt.EqAt.bool_int a b t
  | str b=>obtain ⟨t,rfl⟩:=rx;exact SeqAt.EqAt.bool_str a b t
  | _=>exact CH (show false=true from fx) MS
 | int a=>
  obtain ⟨t',rfl⟩:=ry;cases x with
  | cO=>cases rx;exact SeqAt.EqAt.int_none a t'
  | bl b=>cases rx;exact SeqAt.EqAt.int_bool a t' b
  | int b=>obtain ⟨t,rfl⟩:=rx;exact SeqAt.EqAt.int_int a t' b t
  | str b=>obtain ⟨t,rfl⟩:=rx;exact SeqAt.EqAt.int_str a t' b t
  | _=>exact CH (show false=true from fx) MS
 | str a=>
  obtain ⟨t',rfl⟩:=ry;cases x with
  | cO=>cases rx;exact SeqAt.EqAt.str_none a t'
  | bl b=>cases rx;exact SeqAt.EqAt.str_bool a t' b
  | int b=>obtain ⟨t,rfl⟩:=rx;exact SeqAt.EqAt.str_int a t' b t
  | str b=>obtain ⟨t,rfl⟩:=rx;exact SeqAt.EqAt.str_str a t' b t
  | _=>exact CH (show false=true from fx) MS
 | _=>exact CH (show false=true from fy) MS
def Vs (x:V)(u:Value):Bool:=match u with
 | .none=>rh .cO x
 | .bool b=>rh (.bl b) x
 | .int i _=>rh (.int i) x
 | .str z _=>rh (.str z) x
 | _=>false
def aib (r:RelV y u)(f:jd y=true):Vs x u=rh y x:=by
 cases y with
 | cO=>cases r;rfl
 | bl b=>cases r;rfl
 | int i=>obtain ⟨t,rfl⟩:=r;rfl
 | str z=>obtain ⟨t,rfl⟩:=r;rfl
 | _=>exact CH (show false=true from f) MS
theorem xE :∀{xs:ζ} {us:ν},Vals xs us->xs.all jd=true->us.any (Vs x)=xs.any fun y=>rh y x
 | _,_,.nil,_=>rfl
 | y::xs,u::us,.cons r t,f=>by
  rw [alb,uM] at f;rw [rE,rE,aib r f.1,xE t f.2]
theorem sx (rx:RelV x v)(fx:jd x=true):∀{xs:ζ} {us:ν},Vals xs us->xs.all jd=true->∀u∈us,WG A s u v (Vs x u)
 | _,_,.nil,_=>fun u hu=>by cases hu
 | y::xs,u::us,.cons r t,f=>fun u' hu=>by
  rw [alb,uM] at f
  rcases M_.mp hu with rfl|hu
  ·rw [aib r f.1];exact FR r rx f.1 fx
  ·exact sx rx fx t f.2 u' hu
def zV (x:V)(xs:ζ):Bool:=xs.any fun y=>rh y x
inductive rIn (K:Frag)(neg:Bool)(x:V)(y:V)(H:Hp)(Q:VK):Prop
|mk (p xs:_)(_:y=.ref p)(_:(aK K H p xs\/bZ K H p xs))(_:jd x=true)(_:xs.all jd=true)(_:Q (.bl (if neg then !zV x xs else zV x xs)) H)
def gW:km X (Nj .NotIn) (rIn X.K true):=by
 intro pX s Z H x y v u Q I rx ry h;obtain ⟨p,xs,rfl,hq,fx,fs,q⟩:=h;cases ry
 rcases hq with hq|hq
 ·obtain ⟨AU,r,pl,hz⟩:=I.list hq
  refine SeqAt.notIn_listAt (Vs x) pl.isList (fun w hw=>sx rx fx r fs w (by simpa using hw)) ⟨.bl _,H,I,rfl,?_⟩;rwa [show AU.toArray.any (Vs x)=AU.any (Vs x) by simp,xE r fs]
 ·obtain ⟨AU,r,pl,hz⟩:=I.tuple hq
  refine SeqAt.notIn_tupleAt (Vs x) pl (fun w hw=>sx rx fx r fs w (by simpa using hw)) ⟨.bl _,H,I,rfl,?_⟩;rwa [show AU.toArray.any (Vs x)=AU.any (Vs x) by simp,xE r fs]
def aH:iE X (.builtin "len") (fun xs H Q=>∃p ys,xs=[.ref p]/\(aK X.K H p ys\/bZ X.K H p ys)/\Q (.int ys.length) H):=by
 intro pX s Z H xs us Q I r h;obtain ⟨p,ys,rfl,hq,q⟩:=h;obtain ⟨u,rfl,rx⟩:=vals1 r;cases rx;let hn:=so
 rcases hq with hq|hq
 ·obtain ⟨AU,r',pl,hz⟩:=I.list hq
  let hlen:=r'.length;exact Calls.call_len_list pl.isList (by simp only [Ni]<;>omega) ⟨.int ys.length,H,I.tok _,⟨s.toks+1,by rw [Ni,hlen]⟩,q⟩
 ·obtain ⟨AU,r',pl,hz⟩:=I.tuple hq
  let hlen:=r'.length;exact len_tuple pl (by simp only [Ni]<;>omega) ⟨.int ys.length,H,I.tok _,⟨s.toks+1,by rw [Ni,hlen]⟩,q⟩
def tyV (K:Frag)(T:String)(x:V)(H:Hp):Prop:=match x with
 | .str _=>T="str"
 | .int _=>T="int"
 | .ref p=>(T="list"/\∃xs,aK K H p xs)\/(T="tuple"/\∃o,K.lookup p=some o/\o.cls=.type "tuple"/\o.dict=none)\/
   (T="dict"/\((∃AD,H p=some (.dK AD))\/∃AD,H p=some (.dT AD)))\/(T="set"/\∃S n,H p=some (.set S n))
 | _=>False
def aiR {Z:St}(I:Inv X pX Z H s)(r:RelV x v)(ty:tyV X.K T x H):
  s.TypeIs v T/\∀a,v=.ref a->∃ob,s.heap.get? a=some ob/\ob.dict=none:=by
 cases x with
 | str z=>
  obtain ⟨t,rfl⟩:=r;cases (show T="str" from ty);show ⟨typeIs_str s z t,fun _ e=>nomatch e⟩
 | int i=>
  obtain ⟨t,rfl⟩:=r;cases (show T="int" from ty);show ⟨typeIs_int s i t,fun _ e=>nomatch e⟩
 | ref p=>
  cases r
  rcases ty with ⟨rfl,xs,hq⟩|⟨rfl,o,hk,hc,hd⟩|⟨rfl,hk⟩|⟨rfl,S,n,hk⟩
  ·obtain ⟨AU,_,pl,_⟩:=I.list hq
   show ⟨pl.isList.typeIs,fun a e=>?_⟩;cases e;obtain ⟨o,n,e,c,hd,_⟩:=pl;show ⟨o,e,hd⟩
  ·show ⟨⟨o,I.j8 p o hk,hc⟩,fun a e=>?_⟩
   cases e;show ⟨o,I.j8 _ o hk,hd⟩
  ·let z:∃o,s.heap.get? p=some o/\o.ExactDict:=by
    rcases hk with ⟨AD,hk⟩|⟨AD,hk⟩
    ·obtain ⟨_,_,_,_,o,_,_,e,ex,_⟩:=I.bH p _ hk
     show ⟨o,e,ex⟩
    ·obtain ⟨_,_,_,_,o,_,_,e,ex,_⟩:=I.bH p _ hk
     show ⟨o,e,ex⟩
   obtain ⟨o,e,ex⟩:=z;show ⟨⟨o,e,ex.1⟩,fun a e2=>?_⟩;cases e2;show ⟨o,e,ex.2.1⟩
  ·obtain ⟨o,_,_,_,e,ex,_⟩:=I.bH p _ hk
   show ⟨⟨o,e,ex.1⟩,fun a e2=>?_⟩;cases e2;show ⟨o,e,ex.2.1⟩
 | _=>exact False.elim ty
def tBM (K:Frag)(T:String)(r:Χ)(to:TE)(t:TA):TE:=fun Z H Q=>to Z H fun x H1=>tyV K T x H1/\t Z H1 fun xs H2=>r x xs H2 Q
variable {o e:Expr}{es:Β}{to:TE}{t:TA}{name:Str}{apos cW:Pos}{T id:String}{r:Χ}
def sy (pa:PlainAttrs T)(slot:Slot T name id)(hty:typeOf (.builtin id)=pure (.type "method_descriptor"))(hm:MtR X id r)(ho:PE X o to)(ha:PA X (e::es) t)
  (kr:V2 o name X.env (DC o X.env)=DC o X.env:=by rfl)
  (alX:((MZ cW (DI (e::es) X.env)).all (fun x=> !x.1) && (backToKw cW (WJ [] X.env)).all (fun x=>x.1.isSome)
   && decide ((e::es).length+([]:List Keyword).length+(if ([]:List Keyword).isEmpty then 0 else 1)<30))=true:=by rfl)
  (sL:(apos.endLine==cW.line)=true:=by rfl) (hs:DI (e::es) X.env=(false,DC e X.env)::DI es X.env:=by rfl) (ZI:(MZ cW (DI es X.env)).any (·.1)=false:=by rfl):
  PE X (.Call (.Attribute o name apos) (e::es) [] cW) (tBM X.K T r to t):=by
 intro pX s Z H Q I h;refine wpAny_Call_method_late kr alX sL rfl (cI (ho pX s Z H _ I h) fun v s1 ⟨x,H1,I1,r1,ty,q1⟩=>?_);obtain ⟨h1,h2⟩:=aiR I1 r1 ty;show ⟨T,id,pa,slot,hty,h1,h2,?_⟩;let hA:=ha cW pX s1 Z H1 _ I1 q1;rw [hs] at hA ⊢;refine Zn (by show (false || (MZ cW (DI es X.env)).any (·.1))=false;rw [ZI]<;>rfl) (Calls.evalArgs_plain ?_);exact cI hA fun us s2 ⟨vs,H2,I2,r2,q2⟩=>hm pX s2 Z H2 x vs v us Q I2 r1 r2 q2
end
def MtM (X:Cx)(id:String)(r:Χ):Prop:=
 ∀(pX:ε)(s:BW)(Z:St)(H:Hp)(x:V)(xs:ζ)(v:Value)(us:ν)(Q:VK),Inv X pX Z H s->RelV x v->Vals xs us->r x xs H Q->
  AX (BD X.prog X.w) X.A (call (.builtin id) (v::us)) (EP X pX Z Q) X.xe s
def Vals.one:∀{x:V} {us:ν},Vals [x] us->∃u,us=[u]/\RelV x u
 | _,_,.cons r .nil=>⟨_,rfl,r⟩
theorem Vals.rep {xs:ζ}{us:ν}(h:Vals xs us):∀k:Nat,Vals (L' k xs).flatten (L' k us).flatten
 | 0=>.nil
 | k+1=>by
  rw [vB,vB,LB,LB];exact Vals.append h (Vals.rep h k)
theorem foldl_rep (AU:ν):∀(k:Nat)(acc:ν),
  amw (fun x1 x2=>x1++x2) acc.toArray (L' k AU.toArray)=(acc++(L' k AU).flatten).toArray
 | 0,acc=>by simp
 | k+1,acc=>by
  let e:acc.toArray++AU.toArray=(acc++AU).toArray:=by simp
  let e2:(acc++AU)++(L' k AU).flatten=acc++(L' (k+1) AU).flatten:=by
   rw [vB,LB,Wv]
  rw [<-e2,<-foldl_rep AU k (acc++AU),<-e,vB,List.foldl_cons]
section
variable {X:Cx}{pX:ε}{Z:St}{H:Hp}{s:BW}{l b:AO}{xs ys zs:ζ}
def Inv.adk {AU rH:ν}(I:Inv X pX Z H s)(hH:H l=some (.lst xs))
  (e:s.heap.get? l=some {cls:=.type "list",data:=.seq AU.toArray n}) (hf:f AU.toArray=rH.toArray) (hv:Vals ys rH) (hz:ys.length<=BZ):
  Inv X pX Z (upd H l (.lst ys)) {s with heap:=s.heap.update l (V4 f),toks:=t'}:=by
 let q:=PySem.IsL.update e f;rw [hf] at q;refine I.write (x:=l) (e:=l) (by rw [hH];exact trivial) (.inl rfl) (fun b' u hb hu=>(S' s.heap (V4 f) (FN hb)).trans hu) ⟨_,q⟩ ?_;show ⟨hz,rH,_,hv,q⟩
def Inv.ZJ {AU:ν}(I:Inv X pX Z H s)(hv:Vals ys AU)(hz:ys.length<=BZ):
  Inv X pX Z (upd H s.heap.objs.size (.lst ys)) {s with heap:=s.heap.push {cls:=.type "list",data:=.seq AU.toArray},toks:=t'}:=
 I.laid (fun _ _ q=>FK _ q) (DH _) ⟨hz,AU,0,hv,MD _ rfl⟩
theorem Inv.fresh (I:Inv X pX Z H s):H s.heap.objs.size=none:=I.bH.fresh (DH _)
def Inv.sM (I:Inv X pX Z H s)(hH:H l=some (.lst xs)):xs.length<=BZ/\∃(AU:ν)(n:Nat),Vals xs AU/\xs.length=AU.length/\s.heap.get? l=some {cls:=.type "list",data:=.seq AU.toArray n}:=by
 obtain ⟨z,AU,n,r,e⟩:=I.bH l _ hH;show ⟨z,AU,n,r,r.length,e⟩
def aeA (h:n<=BZ):z9 n=false:=by
 unfold z9;exact Nt ci
end
section
variable {X:Cx}
inductive JN (x:V)(vs:ζ)(H:Hp)(Q:VK):Prop
|mk (l xs y:_)(_:x=.ref l)(_:vs=[y])(_:H l=some (.lst xs))(_:xs.length<BZ)(_:Q .cO (upd H l (.lst (xs++[y]))))
def fT:MtM X "list.append" JN:=by
 intro pX s Z H x vs v us Q I rx rv h;obtain ⟨l,xs,y,rfl,rfl,hH,hz,q⟩:=h;cases rx;obtain ⟨u,rfl,ru⟩:=rv.one;obtain ⟨z,AU,n,r,hl,e⟩:=I.sM hH;refine call_meets F.slot_list_append ⟨_,e,rfl⟩ F.entry_list_append (F.args_list_append_2 _ _) (PySem.list_append l AU.toArray n u (by rw [Ni];omega)) ⟨e,?_⟩;show ⟨.cO,_,I.adk (rH:=AU++[u]) hH e dL (r.append (.cons ru .nil)) ?_,rfl,q⟩;rw [IA,akm];omega
inductive adl (x:V)(y:V)(H:Hp)(Q:VK):Prop
|mk (l b xs zs:_)(_:x=.ref l)(_:y=.ref b)(_:H l=some (.lst xs))(_:H b=some (.lst zs))(_:xs.length+zs.length<=BZ)(_:∀p,H p=none->Q (.ref p) (upd H p (.lst (xs++zs))))
def fU:km X (RG .Add) adl:=by
 intro pX s Z H x y v u Q I rx ry h;obtain ⟨l,b,xs,zs,rfl,rfl,hH,hB,hz,q⟩:=h;cases rx;cases ry;obtain ⟨z,AU,n,r,hl,e⟩:=I.sM hH;obtain ⟨z2,fP,n2,r2,AR,e2⟩:=I.sM hB;refine PySem.P.add_list e e2 ?_ (by rw [Ni,Ni];omega);let ea:AU.toArray++fP.toArray=(AU++fP).toArray:=by simp
 rw [ea];show ⟨.ref _,_,I.ZJ (t':=s.toks) (r.append r2) (by rw [IA];omega),rfl,q _ I.fresh⟩
inductive adm (x:V)(y:V)(H:Hp)(Q:VK):Prop
|mk (l k xs:_)(_:x=.ref l)(_:y=.int k)(_:H l=some (.lst xs))(_: -(2^63)<=k)(_:k<2^63)(_:xs.length*k.toNat<=BZ)(_:∀p,H p=none->Q (.ref p) (upd H p (.lst (L' k.toNat xs).flatten)))
def len_rep {Y:Type}(xs:List Y)(k:Nat):(L' k xs).flatten.length=k*xs.length:=by
 induction k with
 | zero=>simp
 | succ k ih=>rw [vB,LB,IA,ih,Nat.succ_mul,xP]
def xF:km X (RG .Mult) adm:=by
 intro pX s Z H x y v u Q I rx ry h;obtain ⟨l,k,xs,rfl,rfl,hH,h1,h2,hz,q⟩:=h;cases rx;obtain ⟨t,rfl⟩:=ry;obtain ⟨z,AU,n,r,hl,e⟩:=I.sM hH;let hlen:AU.toArray.size*k.toNat<=BZ:=by rwa [Ni,<-hl]
 let alY:¬ AU.toArray.size*k.toNat > (2^63-1) / 8:=by
  have:(BZ:Nat)<=(2^63-1) / 8:=cr
  omega
 let alZ:¬ (!Builtin.List.listFitsIndex k)=true:=by
  rw [fitsIndex_both h1 h2];exact MS
 let QE:¬ z9 (AU.toArray.size*k.toNat)=true:=by
  rw [aeA hlen];exact MS
 let al0:amw (fun x1 x2=>x1++x2) #[] (L' (if AU.toArray.isEmpty=true then 0 else k.toNat) AU.toArray)=(L' k.toNat AU).flatten.toArray:=by
  let f0:∀m:Nat,amw (fun x1 x2=>x1++x2) #[] (L' m AU.toArray)=(L' m AU).flatten.toArray:=fun m=>by
   have:=foldl_rep AU m [];rwa [List.nil_append] at this
  rw [f0];cases AU with
  | nil=>simp
  | cons a r'=>rw [lH dL]
 refine wpAny_binaryOp_repeat_ref (T:="list") (U:="int") cr ⟨_,e,rfl⟩ (fun s'=>typeIs_int s' k t) noFill_list_mul F.fills_int_mul F.slot_int_rmul repeat_list F.slot_int_index.lookup
  (call_meets F.slot_int_rmul (typeIs_int s k t) F.entry_int_rmul (F.args_int_rmul_2 _ _) (int___rmul___int_list k t l AU.toArray n)
   ⟨e,rfl,⟨_,e,rfl⟩,call_meets F.slot_list_mul ⟨_,e,rfl⟩ F.entry_list_mul (F.args_list_mul_2 _ _) (AutoListH.list___mul___list_int_3 l AU.toArray n k t alZ alY QE) ⟨e,?_⟩⟩)
 rw [al0];show ⟨.ref _,_,I.ZJ (t':=s.toks) (r.rep k.toNat) (by rwa [len_rep,xK]),rfl,q _ I.fresh⟩
end
end L2
namespace Att
open PySem PySem.W PySem.Calls PyProof.Rows
def af_ :∀(ns:ξ)(vs:ν),WellAll P h vs (ns.map WData.int)->IntsAre vs ns:=by
 intro ns
 induction ns with
 | nil=>
  intro vs w;erw [yE] at w;exact .nil
 | cons n ns ih=>
  intro vs w;rw [HU] at w;cases w with
  | cons a b=>
   cases a;exact .cons _ _ (ih _ b)
def Mw {l:OpenLaw}(hn:l.most=some n){vals:ν}
  (Vt:l.row.toRowW.claim.pre args=true) (hwl:WellAll P h vals args):
  ∃a vs ns,vals=[Value.ref a]/\args=[WData.list (ns.map WData.int)]/\h.get? a=some {cls:=.type "list",data:=.seq vs.toArray}/\IntsAre vs ns/\ns.length<=n:=by
 let hsh:WShape.hasAll [] args [.list .int]=true:=(pre_splitW Vt).1;let hc:l.pre.holds [] {args:=args}=true:=(pre_splitW Vt).2;obtain ⟨d,r,rfl,h1,h2⟩:=hasAllW_cons hsh;obtain rfl:=hasAllW_nil h2;obtain ⟨xs,rfl,h3⟩:=hasW_list h1;obtain ⟨ns,rfl⟩:=items_int h3
 let hlen:ns.length<=n:=by
  unfold OpenLaw.pre at hc
  let h4:(WTm.not (.lt (.lit (.int (n:Int))) (.len (.arg 0)))).holds [] {args:=[.list (ns.map .int)]}=true:=by
   let h4:=(holds_andW hc).1;rwa [hn] at h4
  let h5:=condW_of h4 (w_not (w_lt w_lit (w_len_list (w_arg rfl))));rw [ir] at h5;refine akO fun q=>?_;let q':(n:Int)<((ns.length:Nat):Int):=ci
  first
   | (rw [Ms q'] at h5;exact CH h5 cr)
   | (simp at h5;omega)
 cases hwl with
 | cons w1 w2=>
  cases w2;cases w1 with
  | list ho QF=>show ⟨_,_,ns,rfl,rfl,ho,af_ ns _ QF,hlen⟩
def My (l:OpenLaw)(args:List WData):l.row.toRowW.claim.post args (.bool true) args=true:=
 postW_of (r:=l.row.toRowW) (X:=(true==true))
  (show WShape.has [] (.bool true) .bool=true by first|rfl|decide|simp [WShape.has,WShape.arms,WShape.armsAll])
  (show (WTm.eq .res (.lit (.bool true))).value [] {args:=args,res:=some (.bool true),after:=args}=some (.bool (true==true)) from w_eq_bool (w_res rfl) w_lit) rfl
end Att
namespace L2
open PySem PySem.Spec PyProof.Rows
theorem wB:∀{vs:ν} {ns:ξ},IntsAre vs ns->Vals (ns.map V.int) vs
 | _,_,.nil=>.nil
 | _,_,.cons n t h=>.cons ⟨t,rfl⟩ (wB h)
def adn (H:Hp):Prop:=∀b,H b=none\/∃o xs,H b=some (.eZ o (.lst xs))
def ahX {K:Frag}{mg mb:ι}{vs:ν}{ns:ξ}
  (KX:K.In oW.heap) (hns:oW.heap.Ns FZ mg) (hb:oW.heap.Ns builtinsNs mb) (hbb:∀x:Str,x≠ "__name__"->mb x=Nf x) (al2:oW.heap.NoLimit) (Vu:oW.heap.NoSeer) (hg:oW.gens= #[])
  (ha:oW.heap.get? a=some {cls:=.type "list",data:=.seq vs.toArray}) (hi:IntsAre vs ns) (hl:ns.length<=BZ) (hr:cz k callerA)
  (F:∀gw:Heap,K.In gw->gw.Ns FZ mg->cK P w K mg gw CX k fa fd [x] sp) (adp:∀(s:BW)(u:Value),BindsTo s fd ⟨[u],[]⟩ [(x,u)])
  (zT:∀H:Hp,adn H->aK K H a (ns.map V.int)->sp [.ref a] H (fun v _=>v=.bl true) fun _ _ _=>False)
  (hCX:∀H e s',CX [] H oW (fun _ _ _=>False) e s' ->False):
  Nc (BD P w) callerA (.call (.ref fa) ⟨[.ref a],[]⟩) (fun r s'=>r=.ok (.ret (.bool true))/\OldK oW.heap s'.heap/\s'.os=oW.os/\SR s'.gens) oW:=by
 let rv:=wB hi;let al3:=hi.length
 let core:∀H:Hp,adn H->aK K H a (ns.map V.int)->jz P w H oW.heap->(∀b,H b≠none->b=a)->(H a≠none->K.lookup a=none)->
   Nc (BD P w) callerA (.call (.ref fa) ⟨[.ref a],[]⟩) (fun r s'=>r=.ok (.ret (.bool true))/\OldK oW.heap s'.heap/\s'.os=oW.os/\SR s'.gens) oW:=by
  intro H hO hS bH hA hK;let xG:∀{b:AO} {o:Obj},oW.heap.get? b=some o->H b=none->(xr oW.heap H).get? b=some o:=fun e n=>acv e n
  let noA:∀{b:AO} {o:Obj} {es:Array DictEntry} {ep:Nat},oW.heap.get? b=some o->o.data=.dict es ep->H b=none:=fun {b o es ep} e d=>by
   cases q:H b with
   | none=>rfl
   | some u=>
    let e':b=a:=hA b (by rw [q];simp);subst e';erw [ha] at e;let d':Data.seq vs.toArray _=Data.dict es ep:=d;cases d'
  let X_:∀{b:AO} {m:ι},oW.heap.Ns b m->(xr oW.heap H).Ns b m:=fun {b m} ⟨o,es,ep,e,d,r⟩=>⟨o,es,ep,xG e (noA e d),d,r⟩
  let hKb:K.In (xr oW.heap H):=fun b o e=>xG (KX b o e) (by
   cases q:H b with
   | none=>rfl
   | some u=>
    let e':b=a:=hA b (by rw [q];simp);subst e'
    rw [hK (by rw [q];simp)] at e;cases e)
  let hM:Mod K mg (xr oW.heap H):=⟨hKb,X_ hns,⟨mb,X_ hb,hbb⟩,let ⟨mc,h1,h2⟩:=al2;⟨mc,X_ h1,h2⟩,
   ⟨let ⟨mc,h1,h2⟩:=Vu.statics;⟨mc,X_ h1,h2⟩,let ⟨mc,h1,h2⟩:=Vu.mods;⟨mc,X_ h1,h2⟩,let ⟨mc,h1,h2⟩:=Vu.imp;⟨mc,X_ h1,h2⟩,
    let ⟨mg',bm,ob,h1,h2,h3,h4,h5⟩:=Vu.main;⟨mg',bm,ob,X_ h1,h2,xG h3 (by
     cases q:H bm with
     | none=>rfl
     | some u=>
      let e':bm=a:=hA bm (by rw [q];simp);subst e';erw [ha] at h3;let h4':Value.type "list"=Value.type "module":=h4;injection h4' with e9
      exact CH e9 cr),h4,h5⟩⟩⟩
  let e0:FP P w K mg (xr oW.heap H) callerA [] oW H:=⟨rfl,hM,fun b o e=>zaJ e,ZQ (ab5 _ _),trivial,fun b hb=>CH (show b∈([]:List AO) from hb) dL,bH,.of_eq hg⟩;refine Wn ((F _ hKb (X_ hns)).run callerA [] oW H ⟨[.ref a],[]⟩ [.ref a] [.ref a] _ _ hr e0 (adp oW (.ref a)) (.cons rfl .nil) (zT H hO hS)) fun r s' h=>?_;cases r with
  | error e=>exact (hCX H e s' h).elim
  | ok fl=>
   cases fl with
   | next=>exact False.elim h
   | brk=>exact False.elim h
   | cont=>exact False.elim h
   | ret u=>
    obtain ⟨v,H',os,bare,un,Mz,r',q⟩:=h;let q':v=.bl true:=q;subst q';obtain rfl:u=Value.bool true:=r';show ⟨rfl,OldK.of_keep fun b o e=>?_,os,bare⟩;cases q:H b with
    | none=>exact un.keep b o e q (by intro z;exact CH (show b∈([]:List AO) from z) dL) dL
    | some u=>
     rcases hO b with z|⟨ob,xs,z⟩
     ·erw [q] at z
     ·let z2:=un.ja b ob _ z
      obtain ⟨e1,_⟩:=bH b _ z;obtain ⟨e2,_⟩:=Mz b _ z2;erw [e] at e1;exact e2
 cases hk:K.lookup a with
 | some o=>
  let e:=KX a o hk;erw [ha] at e;refine core (fun _=>none) (fun _=>.inl rfl) (.inr ⟨_,vs.toArray,_,hk,rfl,rfl,rfl,by rwa [Ni,al3],by simpa using rv⟩) (fun b u z=>by have z':(none:Option HO)=some u:=z;cases z') (fun b z=>CH rfl z) fun z=>CH rfl z
 | none=>
  refine core (fun b=>if b=a then some (.eZ {cls:=.type "list",data:=.seq vs.toArray} (.lst (ns.map V.int))) else none) (fun b=>?_) (.inl (.inr ⟨{cls:=.type "list",data:=.seq vs.toArray},mG rfl⟩)) (fun b u z=>?_) (fun b z=>?_) fun _=>hk
  ·by_cases hb:b=a
   ·exact .inr ⟨_,_,mG hb⟩
   ·exact .inl (lH hb)
  ·by_cases hb:b=a
   ·let z':=(mG hb).symm.trans z
    cases z';subst hb;show ⟨ha,by rwa [ir],vs,_,rv,ha⟩
   ·let z':=(lH hb).symm.trans z
    cases z'
  ·by_cases hb:b=a
   ·exact hb
   ·exact CH (lH hb) z
abbrev KOf {K:Frag}{h:Heap}(_:K.In h):Frag:=K
def inClass (s:Stmt)(j:Nat):Stmt:=match s with
 | .ClassDef _ _ _ body _ _ _ _ _ _ _=>body.getD j (.Pass ⟨0,0,0,0⟩)
 | _=>.Pass ⟨0,0,0,0⟩
def au (s:Stmt):Arguments:=match s with
 | .FunctionDef _ a _ _ _ _ _ _ _ _=>a
 | _=>{posonlyargs:=[],args:=[],vararg:=none,kwonlyargs:=[],kw_defaults:=[],kwarg:=none,defaults:=[]}
def ar (s:Stmt):List Stmt:=match s with
 | .FunctionDef _ _ b _ _ _ _ _ _ _=>b
 | _=>[]
def ae (s:Stmt):Scope:=match s with
 | .FunctionDef _ _ _ _ _ _ sc _ _ _=>sc
 | _=>{kind:=.function,names:=[],isGenerator:=false,isCoroutine:=false}
abbrev E0:XK:=fun _ _ _=>False
structure qH (K:Frag)(x qual:Str)(st:Stmt)(f:AO)(fd:FuncData):Prop where
 ex:∃(oc:Value)(od:Δ)(kV doc pm:Value)(an:Δ)(bE ct:Value)(pM:Ν),
  fd=fnOf x qual (au st) (ar st) (ae st) .none kV doc pm an bE ct/\K.lookup f=some ⟨oc,od,.func fd,pM⟩/\codeIn K bE qual=true
 kp:keepIn K (.ref f)=true
section
variable {P:FL}{w:World}{K:Frag}{mg:ι}{gw:Heap}
def qH.binds {st:Stmt}(F:qH K x qual st f fd)
  (h:∀(kV doc pm:Value)(an:Δ)(bE ct:Value)(us:ν),us.length=ps.length->bindArgs (fnOf x qual (au st) (ar st) (ae st) .none kV doc pm an bE ct) ⟨us,[]⟩=pure (ps.zip us)):Binds K fd ps []:=by
 obtain ⟨oc,od,kV,doc,pm,an,bE,ct,pM,rfl,lk,r_⟩:=F.ex;exact .all (h kV doc pm an bE ct)
def df {st:Stmt}{od an:Δ}{pM:Ν}{kV doc pm bE ct:Value}(l:K.lookup f=some ⟨oc,od,.func (fnOf x qual (au st) (ar st) (ae st) .none kV doc pm an bE ct),pM⟩)
  (c:codeIn K bE qual=true) (k:keepIn K (.ref f)=true):qH K x qual st f (fnOf x qual (au st) (ar st) (ae st) .none kV doc pm an bE ct):=⟨⟨oc,od,kV,doc,pm,an,bE,ct,pM,rfl,l,c⟩,k⟩
end
def bU (hr:cz k A):A.units+1<Nh:=GG (Nat.add_le_add_left (by decide:1<=64) _) hr.units
section
variable {X:Cx}
def pv (i:Nat){pos:Pos}(hN:X.N[i]?=some x:=by rfl)(hv:Vis X.env.scope x:=by first|exact RY rfl|exact WD (RY rfl)|exact WD (WD rfl))(hd:(x==("__debug__":Str))=false:=by decide)
  (r_:(x==("__classdict__":Str))=false:=by decide):PE X (.Name x pos) (Zs i):=aho hN hv hd r_
end
def ZK {A B:Prop}(h:B):if false=true then A else B:=by
 rwa [lH MS]
def QH {A B:Prop}(h:A):if true=true then A else B:=by
 rwa [mG rfl]
def bD {c A B:Prop}[Decidable c](h1:c->A)(h2:¬ c->B):if c then A else B:=by
 by_cases h:c
 ·rw [mG h]
  exact h1 h
 ·rw [lH h]
  exact h2 h
def aq (H H':Hp):Prop:=∀b o,H b=some o->H' b=some o
def aq.refl (H:Hp):aq H H:=fun _ _ h=>h
def aq.trans (a:aq H H1)(b:aq H1 H2):aq H H2:=fun c o h=>b c o (a c o h)
def aq.free (e:aq H H')(h:H' l=anj):H l=anj:=by
 cases q:H l with
 | none=>rfl
 | some o=>
  erw [e l o q] at h
def aq.seq {K:Frag}(e:aq H H')(h:aK K H a xs):aK K H' a xs:=by
 rcases h with (h|⟨o,h⟩)|h
 ·exact .inl (.inl (e _ _ h))
 ·exact .inl (.inr ⟨o,e _ _ h⟩)
 ·exact .inr h
end L2
namespace Ty
def gz (t b:Int):Int:=(MO t b:Nat)
def sg (t b:Int):Int:=if b<0 then -gz t b else gz t b
def low (t b:Int):Int×Int:=(t.fdiv (sg t b),b.fdiv (sg t b))
def ad' (a b:Int):MO b (a.fmod b)=MO a b:=by
 rw [aln,Int.gcd_sub_mul_left_right,Int.gcd_comm]
def wC {a b:Int}(h:b≠0):(a.fmod b).natAbs<b.natAbs:=by
 rcases akJ b 0 with q|q|q
 ·let h1:(-a).fmod (-b)= -(a.fmod b):=by
   rw [aln,aln,Int.neg_fdiv_neg,Int.neg_mul];omega
  let h2:=Rz (-a) (show 0 < -b by omega);let h3:=akC (-a) (show 0 < -b by omega);omega
 ·exact CH q h
 ·let h2:=Rz a q
  let h3:=akC a q;omega
def xH (h:b≠0):0<gz t b:=by
 have:=amc.mpr (WD h:t≠0\/b≠0);show (0:Int)<((MO t b:Nat):Int);omega
def adq (h:b≠0):(gz t b).natAbs<=b.natAbs:=by
 let h1:MO t b ∣ b.natAbs:=Rj.mpr (tK t b);let h2:=Nat.le_of_dvd ci h1;show ((MO t b:Nat):Int).natAbs<=_;omega
def sN (h:b≠0):sg t b≠0:=by
 have:=xH (t:=t) h;unfold sg;split<;>omega
def ajL :(sg t b).natAbs=(gz t b).natAbs:=by
 unfold sg;split
 ·exact ak4 _
 ·rfl
def its (t b:Int):sg t b ∣ t:=by
 unfold sg gz;split
 ·exact Int.neg_dvd.mpr (tN t b)
 ·exact tN t b
def alg (t b:Int):sg t b ∣ b:=by
 unfold sg gz;split
 ·exact Int.neg_dvd.mpr (tK t b)
 ·exact tK t b
def cQ {a g:Int}(h:g≠0)(d:g ∣ a):a=g*a.fdiv g:=by
 obtain ⟨c,hc⟩:=d;have:=afS h hc;rwa [this]
def rM (h:b≠0):t=sg t b*(low t b).1:=cQ (sN h) (its t b)
def nH (h:b≠0):b=sg t b*(low t b).2:=cQ (sN h) (alg t b)
def lO (h:b≠0):0<(low t b).2:=by
 let e:=nH (t:=t) h;let g:=xH (t:=t) h
 rcases akJ (low t b).2 0 with q|q|q
 ·exfalso
  by_cases c:b<0
  ·let s:sg t b= -gz t b:=by unfold sg;rw [mG c]
   rw [s] at e;have:=Int.mul_pos_of_neg_of_neg (show -gz t b<0 by omega) q;omega
  ·let s:sg t b=gz t b:=by unfold sg;rw [lH c]
   rw [s] at e;have:=akH g q;omega
 ·exfalso
  rw [q,σ8] at e;exact h e
 ·exact q
def zaf (h:b≠0):(low t b).1*b=t*(low t b).2:=by
 let e1:=rM (t:=t) h;let e2:=nH (t:=t) h
 calc (low t b).1*b=(low t b).1*(sg t b*(low t b).2):=by rw [<-e2]
  _=sg t b*(low t b).1*(low t b).2:=by rw [<-xw,VR (low t b).1]
  _=t*(low t b).2:=by rw [<-e1]
def rN (h:b≠0):MO (low t b).1 (low t b).2=1:=by
 let e1:=rM (t:=t) h;let e2:=nH (t:=t) h
 let k:MO t b=(sg t b).natAbs*MO (low t b).1 (low t b).2:=by
  let q:=alQ (sg t b) (low t b).1 (low t b).2;rwa [<-e1,<-e2] at q
 let g:(sg t b).natAbs=MO t b:=by
  rw [ajL];rfl
 let p:=amc.mpr (WD h:t≠0\/b≠0);rw [g] at k;let k':MO t b*1=MO t b*MO (low t b).1 (low t b).2:=by rwa [Nat.mul_one]
 exact (Nat.eq_of_mul_eq_mul_left p k').symm
def eQ {g a:Int}(h:g≠0):a.natAbs<=(g*a).natAbs:=by
 rw [VS];have:1<=g.natAbs:=ci
 have:=RU a.natAbs this;omega
def mN (h:b≠0):(low t b).1.natAbs<=t.natAbs:=by
 let e:=rM (t:=t) h;have:=eQ (g:=sg t b) (a:=(low t b).1) (sN h);rwa [<-e] at this
def mO (h:b≠0):(low t b).2.natAbs<=b.natAbs:=by
 let e:=nH (t:=t) h;have:=eQ (g:=sg t b) (a:=(low t b).2) (sN h);rwa [<-e] at this
def ai0 (hg:g≠0)(ht:t=g*x)(hb:b=g*y)(hy:0<y)(h1:MO x y=1):low t b=(x,y):=by
 let hbn:b≠0:=by
  rw [hb];exact KQ hg ci
 let gg:MO t b=g.natAbs:=by
  rw [ht,hb,alQ,h1,Nat.mul_one]
 let s:sg t b=g:=by
  unfold sg gz;rw [gg];by_cases c:g<0
  ·have:b<0:=by rw [hb];exact Int.mul_neg_of_neg_of_pos c hy
   rw [mG this];omega
  ·have:¬ b<0:=by
    have:=Int.mul_nonneg (show 0<=g by omega) (show 0<=y by omega);omega
   rw [lH this];omega
 unfold low;rw [s];rw [afS hg ht,afS hg hb]
def sO (hy:0<y)(h:MO x y=1):low x y=(x,y):=ai0 (g:=1) cr ci ci hy h
def wD (hk:k≠0)(h:b≠0):low (k*t) (k*b)=low t b:=by
 refine ai0 (g:=k*sg t b) (KQ hk (sN h)) ?_ ?_ (lO h) (rN h)
 ·rw [xw]
  exact ph (k*·) (rM h)
 ·rw [xw]
  exact ph (k*·) (nH h)
def zav (hb:b≠0)(hc:c≠0)(h:t*c=u*b):low t b=low u c:=by
 rw [<-wD (t:=t) (b:=b) hc hb,<-wD (t:=u) (b:=c) hb hc];rw [VR c t,h,VR u b,VR c b]
end Ty
set_option maxHeartbeats 4000000
namespace Ty
open PySem PySem.Spec PyProof.Rows L2
open Builtin.Int (intBits)
section
variable {X:Cx}
def qI (i j:Int):Prop:=intBits i<=33554432/\intBits j<=33554432
def b9:km X (RG .Mult) (rI qI fun i j=>.int (i*j)):=
 opI fun _ _ _ _ _ _ _ hc q=>mul_int q (IntMulOk.of_le hc.1 hc.2 cr)
def ads (i j:Int):Prop:=j≠0/\intBits j<=9000
def al4 (h:intBits j<=9000):Builtin.divisionGoesByPylong i j=false:=by
 refine PyProof.noPylong_of_log2 ?_;let h1:=intBits_le_iff.mp h;by_cases h0:j.natAbs=0
 ·rw [h0]
  decide+kernel
 ·exact (Nat.log2_lt h0).mpr h1
def nK:km X (RG .FloorDiv) (rI ads fun i j=>.int (i.fdiv j)):=
 opI fun _ _ _ _ _ _ _ hc q=>floordiv_int hc.1 q (.inl (al4 hc.2))
end
inductive Da where
 | v (x:V)
 | t (ds:List Da)
 | l (ds:List Da)
mutual
def Is (K:Frag)(H:Hp):Da->V->Prop
 | .v x,u=>u=x/\jd x=true
 | .t ds,u=>∃p xs,u=.ref p/\bZ K H p xs/\iX K H ds xs
 | .l ds,u=>∃p xs,u=.ref p/\aK K H p xs/\iX K H ds xs
def iX (K:Frag)(H:Hp):List Da->List V->Prop
 | [],[]=>True
 | d::ds,x::xs=>Is K H d x/\iX K H ds xs
 | _,_=>False
end
mutual
def je:Da->Da->Bool
 | .v x,.v y=>rh x y
 | .t ds,.t es=>eE ds es
 | .l ds,.l es=>eE ds es
 | _,_=>false
def eE:List Da->List Da->Bool
 | [],[]=>true
 | d::ds,e::es=>je d e && eE ds es
 | _,_=>false
end
mutual
def alike:Da->Da->Bool
 | .v _,.v _=>true
 | .t ds,.t es=>fV ds es
 | .l ds,.l es=>fV ds es
 | _,_=>false
def fV:List Da->List Da->Bool
 | d::ds,e::es=>alike d e && fV ds es
 | _,_=>true
end
mutual
def dep:Da->Nat
 | .v _=>0
 | .t ds=>jE ds+1
 | .l ds=>jE ds+1
def jE:List Da->Nat
 | []=>0
 | d::ds=>max (dep d) (jE ds)
end
theorem iX.length {K:Frag}:∀{ds:List Da} {xs:ζ},iX K H ds xs->ds.length=xs.length
 | [],[],_=>rfl
 | _::_,_::_,h=>ph (·+1) (iX.length (by unfold iX at h;exact h.2))
 | [],_::_,h=>by unfold iX at h;exact h.elim
 | _::_,[],h=>by unfold iX at h;exact h.elim
def ku (ds es:List Da)(j:Nat):Bool:=match ds[j]?,es[j]? with
 | some d,some e=>je d e
 | _,_=>true
theorem dO:∀ds es:List Da,eE ds es=((OF (min ds.length es.length)).all (ku ds es) && ds.length==es.length)
 | [],[]=>rfl
 | [],_::_=>by simp [eE]
 | _::_,[]=>by simp [eE]
 | d::ds,e::es=>by
  let ih:=dO ds es;let r:min (d::ds).length (e::es).length=min ds.length es.length+1:=by simp [Nat.succ_min_succ]
  rw [r,List.range_succ_eq_map,alb,List.all_map];let b0:ku (d::ds) (e::es) 0=je d e:=rfl
  let b1:(ku (d::ds) (e::es) ∘ Nat.succ)=ku ds es:=by
   funext j;rfl
  let l1:((d::ds).length==(e::es).length)=(ds.length==es.length):=by simp
  rw [b0,b1,l1,Bool.and_assoc,<-ih];rfl
section
variable {X:Cx}{pX:ε}{Z:L2.St}{H:Hp}{s:BW}
def sP (h:jd x=true):rh x x=true:=by
 cases x<;>first|rfl|(simp [rh];done)|(cases h;done)
mutual
theorem xJ (I:Inv X pX Z H s):∀(d e:Da)(x:V),Is X.K H d x->Is X.K H e x->alike d e=true->je d e=true
 | .v a,.v b,x,h1,h2,_=>by
  unfold Is at h1 h2;obtain ⟨rfl,f⟩:=h1;obtain ⟨rfl,_⟩:=h2;unfold je;exact sP f
 | .t ds,.t es,x,h1,h2,a=>by
  unfold Is at h1 h2;obtain ⟨p,xs,rfl,q1,k1⟩:=h1;obtain ⟨p',ys,e',q2,k2⟩:=h2;cases e';cases I.lK q1 q2;unfold je;unfold alike at a;exact sQ I ds es xs k1 k2 a
 | .l ds,.l es,x,h1,h2,a=>by
  unfold Is at h1 h2;obtain ⟨p,xs,rfl,q1,k1⟩:=h1;obtain ⟨p',ys,e',q2,k2⟩:=h2;cases e';cases I.jb q1 q2;unfold je;unfold alike at a;exact sQ I ds es xs k1 k2 a
 | .v _,.t _,_,_,_,a=>by unfold alike at a;cases a
 | .v _,.l _,_,_,_,a=>by unfold alike at a;cases a
 | .t _,.v _,_,_,_,a=>by unfold alike at a;cases a
 | .t _,.l _,_,_,_,a=>by unfold alike at a;cases a
 | .l _,.v _,_,_,_,a=>by unfold alike at a;cases a
 | .l _,.t _,_,_,_,a=>by unfold alike at a;cases a
theorem sQ (I:Inv X pX Z H s):∀(ds es:List Da)(xs:ζ),iX X.K H ds xs->iX X.K H es xs->fV ds es=true->eE ds es=true
 | [],[],_,_,_,_=>by unfold eE;rfl
 | d::ds,e::es,x::xs,h1,h2,a=>by
  unfold iX at h1 h2;unfold fV at a;rw [uM] at a;unfold eE;rw [xJ I d e x h1.1 h2.1 a.1,sQ I ds es xs h1.2 h2.2 a.2];rfl
 | [],_::_,[],_,h2,_=>by unfold iX at h2;exact h2.elim
 | [],_::_,_::_,h1,_,_=>by unfold iX at h1;exact h1.elim
 | _::_,[],[],h1,_,_=>by unfold iX at h1;exact h1.elim
 | _::_,[],_::_,_,h2,_=>by unfold iX at h2;exact h2.elim
 | _::_,_::_,[],h1,_,_=>by unfold iX at h1;exact h1.elim
end
def in1_units (A:HL):A.in1.units=A.units+1:=rfl
mutual
theorem amP (I:Inv X pX Z H s):∀(d e:Da)(x y:V)(u w:Value)(A:HL),Is X.K H d x->Is X.K H e y->alike d e=true->RelV x u->RelV y w->A.units+dep d<Nh->WG A s u w (je d e)
 | .v a,.v b,x,y,u,w,A,h1,h2,_,r1,r2,_=>by
  unfold Is at h1 h2;obtain ⟨rfl,f1⟩:=h1;obtain ⟨rfl,f2⟩:=h2;unfold je;exact FR r1 r2 f1 f2
 | .t ds,.t es,x,y,u,w,A,h1,h2,a,r1,r2,hu=>by
  have kz :=h1;have T7 :=h2;unfold Is at h1 h2;obtain ⟨p,xs,rfl,q1,k1⟩:=h1;obtain ⟨p',ys,rfl,q2,k2⟩:=h2;cases r1;cases r2;by_cases e:p=p'
  ·subst e
   rw [xJ I _ _ _ kz T7 a];exact .same _
  ·refine .of_refs e ?_
   obtain ⟨AU,v1,t1,_⟩:=I.tuple q1;obtain ⟨fP,v2,t2,_⟩:=I.tuple q2;unfold je;rw [dO,k1.length,k2.length,v1.length,v2.length]
   let z:=SeqAt.RcAt.tuples (A:=A) (e:=ku ds es) t1 t2 (by unfold dep at hu;omega) fun j g1 g2=>by
    unfold dep at hu;unfold alike at a;exact ij I ds es xs ys AU fP A.in1 k1 k2 a v1 v2 (by rw [in1_units];omega) j (by simpa using g1) (by simpa using g2)
   simpa using z
 | .l ds,.l es,x,y,u,w,A,h1,h2,a,r1,r2,hu=>by
  have kz :=h1;have T7 :=h2;unfold Is at h1 h2;obtain ⟨p,xs,rfl,q1,k1⟩:=h1;obtain ⟨p',ys,rfl,q2,k2⟩:=h2;cases r1;cases r2;by_cases e:p=p'
  ·subst e
   rw [xJ I _ _ _ kz T7 a];exact .same _
  ·refine .of_refs e ?_
   obtain ⟨AU,v1,t1,_⟩:=I.list q1;obtain ⟨fP,v2,t2,_⟩:=I.list q2;unfold je;unfold dep at hu;unfold alike at a;by_cases el:AU.length=fP.length
   ·rw [dO,k1.length,k2.length,v1.length,v2.length]
    let z:=SeqAt.RcAt.lists (A:=A) (e:=ku ds es) t1.isList t2.isList (by simpa using el) ci fun j g1 g2=>
     ij I ds es xs ys AU fP A.in1 k1 k2 a v1 v2 (by rw [in1_units];omega) j (by simpa using g1) (by simpa using g2)
    rw [el,LM,beq_self_eq_true,alc];rwa [Ni,el] at z
   ·let ne:eE ds es=false:=by
     rw [dO,k1.length,k2.length,v1.length,v2.length,beq_eq_false_iff_ne.mpr el,LP]
    rw [ne];exact SeqAt.RcAt.lists_lengths t1.isList t2.isList (by simpa using el) ci
 | .v _,.t _,_,_,_,_,_,_,_,a,_,_,_=>by unfold alike at a;cases a
 | .v _,.l _,_,_,_,_,_,_,_,a,_,_,_=>by unfold alike at a;cases a
 | .t _,.v _,_,_,_,_,_,_,_,a,_,_,_=>by unfold alike at a;cases a
 | .t _,.l _,_,_,_,_,_,_,_,a,_,_,_=>by unfold alike at a;cases a
 | .l _,.v _,_,_,_,_,_,_,_,a,_,_,_=>by unfold alike at a;cases a
 | .l _,.t _,_,_,_,_,_,_,_,a,_,_,_=>by unfold alike at a;cases a
theorem ij (I:Inv X pX Z H s):∀(ds es:List Da)(xs ys:ζ)(us ws:ν)(A:HL),iX X.K H ds xs->iX X.K H es ys->fV ds es=true->Vals xs us->Vals ys ws->A.units+jE ds<Nh->
  ∀(j:Nat)(h1:j<us.length)(h2:j<ws.length),WG A s us[j] ws[j] (ku ds es j)
 | d::ds,e::es,xs,ys,us,ws,A,k1,k2,a,v1,v2,hu,j,h1,h2=>by
  cases xs with
  | nil=>unfold iX at k1;exact k1.elim
  | cons x xs=>
   cases ys with
   | nil=>unfold iX at k2;exact k2.elim
   | cons y ys=>
    cases v1 with
    | cons r1 v1=>
     cases v2 with
     | cons r2 v2=>
      unfold iX at k1 k2;unfold fV at a;rw [uM] at a;unfold jE at hu;cases j with
      | zero=>exact amP I d e x y _ _ A k1.1 k2.1 a.1 r1 r2 ci
      | succ j=>exact ij I ds es xs ys _ _ A k1.2 k2.2 a.2 v1 v2 ci j (by simpa using h1) (by simpa using h2)
 | [],_,xs,_,us,_,_,k1,_,_,v1,_,_,_,h1,_=>by
  cases xs with
  | nil=>
   cases v1;exact CH h1 (Vx _)
  | cons x xs=>unfold iX at k1;exact k1.elim
 | _::_,[],_,ys,_,ws,_,_,k2,_,_,v2,_,_,_,h2=>by
  cases ys with
  | nil=>
   cases v2;exact CH h2 (Vx _)
  | cons y ys=>unfold iX at k2;exact k2.elim
end
end
section
variable {X:Cx}
inductive X' (K:Frag)(x:V)(y:V)(H:Hp)(Q:VK):Prop
|mk (ds es:_)(_:((Is K H (.t ds) x/\Is K H (.t es) y)\/(Is K H (.l ds) x/\Is K H (.l es) y)))(_:fV ds es=true)(_:jE ds<=60)(_:Q (.bl (eE ds es)) H)
inductive AV (K:Frag)(x:V)(y:V)(H:Hp)(Q:VK):Prop
|mk (ds es:_)(_:((Is K H (.t ds) x/\Is K H (.t es) y)\/(Is K H (.l ds) x/\Is K H (.l es) y)))(_:fV ds es=true)(_:jE ds<=60)(_:Q (.bl (!eE ds es)) H)
def afW (hu:X.A.units+64<Nh):km X (Nj .Eq) (X' X.K):=by
 intro pX s Z H x y v u Q I rx ry h;obtain ⟨ds,es,h,a,hd,q⟩:=h
 rcases h with ⟨h1,h2⟩|⟨h1,h2⟩
 ·unfold Is at h1 h2
  obtain ⟨p,xs,rfl,q1,k1⟩:=h1;obtain ⟨p',ys,rfl,q2,k2⟩:=h2;cases rx;cases ry;obtain ⟨AU,v1,t1,_⟩:=I.tuple q1;obtain ⟨fP,v2,t2,_⟩:=I.tuple q2
  let z:=SeqAt.RcAt.tuples (A:=X.A) (e:=ku ds es) t1 t2 ci fun j g1 g2=>
   ij I ds es xs ys AU fP X.A.in1 k1 k2 a v1 v2 (by rw [in1_units];omega) j (by simpa using g1) (by simpa using g2)
  refine z X.prog X.w X.xe _ ⟨.bl _,H,I,rfl,?_⟩;let e:=dO ds es;rw [k1.length,k2.length,v1.length,v2.length] at e;simpa [e] using q
 ·unfold Is at h1 h2
  obtain ⟨p,xs,rfl,q1,k1⟩:=h1;obtain ⟨p',ys,rfl,q2,k2⟩:=h2;cases rx;cases ry;obtain ⟨AU,v1,t1,_⟩:=I.list q1;obtain ⟨fP,v2,t2,_⟩:=I.list q2;let e:=dO ds es;rw [k1.length,k2.length,v1.length,v2.length] at e;by_cases el:AU.length=fP.length
  ·let z:=SeqAt.RcAt.lists (A:=X.A) (e:=ku ds es) t1.isList t2.isList (by simpa using el) ci fun j g1 g2=>
    ij I ds es xs ys AU fP X.A.in1 k1 k2 a v1 v2 (by rw [in1_units];omega) j (by simpa using g1) (by simpa using g2)
   refine z X.prog X.w X.xe _ ⟨.bl _,H,I,rfl,?_⟩;rw [el,LM,beq_self_eq_true,alc] at e;simpa [e,el] using q
  ·let ne:eE ds es=false:=by rw [e,beq_eq_false_iff_ne.mpr el,LP]
   rw [ne] at q;exact SeqAt.RcAt.lists_lengths t1.isList t2.isList (by simpa using el) ci X.prog X.w X.xe _ ⟨.bl _,H,I,rfl,q⟩
def nN (hu:X.A.units+64<Nh):km X (Nj .NotEq) (AV X.K):=by
 intro pX s Z H x y v u Q I rx ry h;obtain ⟨ds,es,h,a,hd,q⟩:=h
 rcases h with ⟨h1,h2⟩|⟨h1,h2⟩
 ·unfold Is at h1 h2
  obtain ⟨p,xs,rfl,q1,k1⟩:=h1;obtain ⟨p',ys,rfl,q2,k2⟩:=h2;cases rx;cases ry;obtain ⟨AU,v1,t1,_⟩:=I.tuple q1;obtain ⟨fP,v2,t2,_⟩:=I.tuple q2
  let z:=SeqAt.RcNeAt.tuples (A:=X.A) (e:=ku ds es) t1 t2 ci fun j g1 g2=>
   ij I ds es xs ys AU fP X.A.in1 k1 k2 a v1 v2 (by rw [in1_units];omega) j (by simpa using g1) (by simpa using g2)
  refine z X.prog X.w X.xe _ ⟨.bl _,H,I,rfl,?_⟩;let e:=dO ds es;rw [k1.length,k2.length,v1.length,v2.length] at e;simpa [e] using q
 ·unfold Is at h1 h2
  obtain ⟨p,xs,rfl,q1,k1⟩:=h1;obtain ⟨p',ys,rfl,q2,k2⟩:=h2;cases rx;cases ry;obtain ⟨AU,v1,t1,_⟩:=I.list q1;obtain ⟨fP,v2,t2,_⟩:=I.list q2;let e:=dO ds es;rw [k1.length,k2.length,v1.length,v2.length] at e;by_cases el:AU.length=fP.length
  ·let z:=SeqAt.RcNeAt.lists (A:=X.A) (e:=ku ds es) t1.isList t2.isList (by simpa using el) ci fun j g1 g2=>
    ij I ds es xs ys AU fP X.A.in1 k1 k2 a v1 v2 (by rw [in1_units];omega) j (by simpa using g1) (by simpa using g2)
   refine z X.prog X.w X.xe _ ⟨.bl _,H,I,rfl,?_⟩;rw [el,LM,beq_self_eq_true,alc] at e;simpa [e,el] using q
  ·let ne:eE ds es=false:=by rw [e,beq_eq_false_iff_ne.mpr el,LP]
   rw [ne] at q;exact SeqAt.RcNeAt.lists_lengths t1.isList t2.isList (by simpa using el) ci X.prog X.w X.xe _ ⟨.bl _,H,I,rfl,q⟩
def adt:V->Value
 | .ty n=>.type n
 | .ref a=>.ref a
 | _=>.none
def Ya:V->Bool
 | .ty _=>true
 | .ref _=>true
 | _=>false
def ada (h:Ya c=true)(r:RelV c u):u=adt c:=by
 cases c<;>first|exact r|(cases h;done)
end
def cA:Nf "len"=some (.builtin "len"):=by decide+kernel
def Yb:Nf "abs"=some (.builtin "abs"):=by decide+kernel
def gX:Nf "isinstance"=some (.builtin "isinstance"):=by decide+kernel
def Yc:Nf "int"=some (.type "int"):=by decide+kernel
def adu:Nf "str"=some (.type "str"):=by decide+kernel
def kE:Nf "list"=some (.type "list"):=by decide+kernel
def FT:Nf "dict"=some (.type "dict"):=by decide+kernel
def akz:Nf "ValueError"=some (.type "ValueError"):=by decide+kernel
def adv {pos:Pos}(hg:Gl X x)(hm:X.mg x=none)(hv:Nf x=some (.type n))(hn:x≠ "__name__":=by decide)(hd:(x==("__debug__":Str))=false:=by decide):PE X (.Name x pos) (tC (.ty n)):=ahv (v:=.ty n) hg hm hv rfl hn hd
def ZM (_ j:Int):Prop:=j≠0
def nz (h:j≠0):ZM i j:=h
def dS :km X (RG .Mod) (rI ZM fun i j=>.int (i.fmod j)):=ahu
def adK :jE [.v a,.v b]<=60:=by simp [jE,dep]
end Ty
namespace TyAtt
open PySem PySem.W PySem.Calls PyProof.Rows
open Builtin.Int (intBits)
def abE {ns:ξ}(h:(WData.list (ns.map WData.int)).layable=true)(hn:n∈ns):intBits n<=1048576:=by
 obtain ⟨_,_,hw⟩:=layableW_iff.mp h
 let a:∀(l:ξ),n∈l->intBits n<=WData.weightAll (l.map WData.int):=by
  intro l
  induction l with
  | nil=>intro q;cases q
  | cons y r ih=>
   intro q;rw [HU];unfold WData.weightAll
   rcases M_.mp q with z|z
   ·subst z
    have:intBits n<=WData.weight (.int n):=by
     unfold WData.weight;exact DH _
    omega
   ·have:=ih z
    omega
 let b:=a ns hn;unfold WData.weight at hw;omega
def AW {l:OpenLaw}{loose:θ}
  (hn:l.most=some n) (hdf:d.params.defaults=[])
  (call:∀(w:World)(oZ oW:BW)(mg mb:ι)(fa:AO)(o:Obj)(pm cd doc:Value)(a:AO)(vs:ν)(ns:ξ),
   Ground q loose [] XP w oZ mg mb oW.heap->YP w oW.heap->
   oW.heap.get? fa=some o->o.data=.func (docDef d.name d.params d.body d.scope pm cd doc)->oW.heap.CodeRec cd d.name->mg d.name=some (.ref fa)->
   oW.heap.get? a=some {cls:=.type "list",data:=.seq vs.toArray}->IntsAre vs ns->ns.length<=n->(∀i∈ns,intBits i<=1048576)->oW.gens= #[]->
   Nc (BD l.prog w) callerA (.call (.ref fa) ⟨[.ref a],[]⟩) (fun r s'=>r=.ok (.ret (.bool true))/\OldK oW.heap s'.heap/\s'.os=oW.os/\SR s'.gens) oW):
  WalkO q loose XP YP l.row.toRowW d [] (fun f vs=>PySem.call f vs):=by
 intro w oZ oW mg mb G α fa o pm cd doc dV kV ho hd r_ hD hmg hg args vals as Vt hlay hrd hwl hlo;obtain rfl:dV=.none:=Dflts.none hD hdf;obtain rfl:kV=.none:=Dflts.noKw hD;obtain ⟨a,vs,ns,rfl,rfl,ZN,hints,hlen⟩:=Att.Mw hn Vt hwl;let hb:∀i∈ns,intBits i<=1048576:=fun i hi=>abE (layW_cons hlay).1 hi;refine enter_call (Wn (call w oZ oW mg mb fa o pm cd doc a vs ns G α ho (fd_plain hd) r_ hmg ZN hints hlen hb hg) fun r s' hq=>?_);obtain ⟨rfl,h2,h3,h4⟩:=hq;show ⟨.inl ⟨.bool true,.bool true,[],rfl,fun _=>rfl,.bool true,Att.My l _,fun _=>⟨List.Pairwise.nil,fun _ hm=>(nomatch hm)⟩⟩,h2,h3,h4⟩
end TyAtt
namespace Ty
open PySem PySem.Spec PyProof.Rows L2
open Builtin.Int (intBits)
structure Fn (P:FL)(w:World)(K:Frag)(mg:ι)(gw:Heap)(CX:nC)(k:Nat)(x:Str)(ps:θ)(sp:Sp):Prop where
 ex:∃(f:AO)(fd:FuncData),cK P w K mg gw CX k f fd ps sp/\Binds K fd ps []/\mg x=some (.ref f)/\keepIn K (.ref f)=true
structure Def (K:Frag)(mg:ι)(x:Str)(st:Stmt)(ps:θ):Prop where
 ex:∃(f:AO)(dV oc:Value)(od:Δ)(kV doc pm:Value)(an:Δ)(bE ct:Value)(pM:Ν),
  K.lookup f=some ⟨oc,od,.func (fnOf x x (au st) (ar st) (ae st) dV kV doc pm an bE ct),pM⟩/\codeIn K bE x=true/\keepIn K (.ref f)=true/\
  Binds K (fnOf x x (au st) (ar st) (ae st) dV kV doc pm an bE ct) ps []/\mg x=some (.ref f)
def Def.of {K:Frag}{st:Stmt}(F:qH K x x st f fd)(b:Binds K fd ps [])(m:mg x=some (.ref f)):Def K mg x st ps:=by
 obtain ⟨oc,od,kV,doc,pm,an,bE,ct,pM,rfl,lk,r_⟩:=F.ex;show ⟨f,.none,oc,od,kV,doc,pm,an,bE,ct,pM,lk,r_,F.kp,b,m⟩
section
variable {P:FL}{w:World}{K:Frag}{mg:ι}{gw:Heap}{CX:nC}
def Def.ok {st:Stmt}(D:Def K mg x st ps)(S:av N ps (ae st))(len:∀vs H Q E,sp vs H Q E->vs.length=ps.length)
  (gx:∀(f:AO)(bE:Value)(A:HL)(outer:List Env)(s:BW)(H:Hp)(vs:ζ)(Q:VK)(E:XK),cz k (A.deeper (Ng x (ae st) s.heap.objs.size f bE))->sp vs H Q E->
   ∃t,uS (j6 CX P w K mg gw N x (ae st) f bE A outer s H E).wd (ar st) t/\t {nx:=fun _ H'=>Q .cO H',rt:=Q} (start N vs) H):Fn P w K mg gw CX (k+1) x ps sp:=by
 obtain ⟨f,dV,oc,od,kV,doc,pm,an,bE,ct,pM,lk,r_,kp,b,m⟩:=D.ex;show ⟨f,_,AL lk r_ S len fun A outer s H vs Q E hr zT=>?_,b,m,kp⟩;obtain ⟨t,h,q⟩:=gx f bE A outer s H vs Q E hr zT;show ⟨t,h.wd,q⟩
def _root_.L2.qH.okG {st:Stmt}(F:qH K x x st f fd)(S:av N ps (ae st))(len:∀vs H Q E,sp vs H Q E->vs.length=ps.length)
  (gx:∀(bE:Value)(A:HL)(outer:List Env)(s:BW)(H:Hp)(vs:ζ)(Q:VK)(E:XK),cz k (A.deeper (Ng x (ae st) s.heap.objs.size f bE))->sp vs H Q E->
   ∃t,uS (j6 CX P w K mg gw N x (ae st) f bE A outer s H E).wd (ar st) t/\t {nx:=fun _ H'=>Q .cO H',rt:=Q} (start N vs) H):cK P w K mg gw CX (k+1) f fd ps sp:=by
 obtain ⟨oc,od,kV,doc,pm,an,bE,ct,pM,rfl,lk,r_⟩:=F.ex;refine AL lk r_ S len fun A outer s H vs Q E hr zT=>?_;obtain ⟨t,h,q⟩:=gx bE A outer s H vs Q E hr zT;show ⟨t,h.wd,q⟩
def rl (CX:nC):Prop:=∀outer H s e s',CX outer H s E0 e s' ->False
def kF {X:Cx}(h:rl CX):Passes CX X.wd E0:=fun _ _ _ _ _ _ _ q=>(h _ _ _ _ _ q).elim
section
variable {X:Cx}{k:Nat}{ps:θ}{sp:Sp}{E:XK}{x:Str}{p pos:Pos}{e:Expr}{es:Β}{t:TA}
def cR (F:Fn X.prog X.w X.K X.mg X.gw CX k x ps sp)(hr:cz k X.A)(hx:Passes CX X E)(ha:PA X (e::es) t)(hg:Gl X x:=by rfl)(rg:(x==("__debug__":Str))=false:=by decide)
  (he:DI (e::es) X.env=(false,DC e X.env)::DI es X.env:=by rfl) (nE:(MZ pos (DI es X.env)).any (·.1)=false:=by rfl):PE X (.Call (.Name x p) (e::es) [] pos) (JK sp [] E t):=by
 obtain ⟨f,fd,G,b,m,kp⟩:=F.ex;exact ah9 G hr hg m kp b .nil hx ha rg he nE
end
end
def QJ (K:Frag):Sp:=fun vs H Q _=>∃(a:AO)(ns:ξ),vs=[.ref a]/\aK K H a (ns.map V.int)/\ns.length<=63/\(∀i∈ns,intBits i<=1048576)/\∀H',Q (.bl true) H'
def walk {l:PySem.W.OpenLaw}{loose:θ}{K:Params->Frag}{CX:World->nC}
  (hn:l.most=some 63) (hdf:d.params.defaults=[]) (hi:importsNone q=true) (hr:cz k callerA)
  (hY:∀(w:World)(h:Heap),YP w h->(K w.params).In h) (hm:∀w,rl (CX w))
  (F:∀(w:World)(mg:ι)(fa:AO)(h:Heap),(K w.params).In h->h.Ns FZ mg->mg d.name=some (.ref fa)->
   ∃fd:FuncData,(∀(s:BW)(u:Value),BindsTo s fd ⟨[u],[]⟩ [(x,u)])/\
    ∀gw:Heap,(K w.params).In gw->gw.Ns FZ mg->cK l.prog w (K w.params) mg gw (CX w) k fa fd [x] (QJ (K w.params))):
  PySem.W.WalkO q loose XP YP l.row.toRowW d [] (fun f vs=>PySem.call f vs):=by
 refine TyAtt.AW hn hdf fun w oZ oW mg mb fa o pm cd doc a vs ns G α ho hd r_ hmg ZN hints hlen hb hg=>?_;let KX:=hY w _ α;obtain ⟨fd,hbd,hF⟩:=F w mg fa _ KX G.T.g hmg;exact ahX KX G.T.g G.T.b G.T.builtins G.T.nolimit (G.T.seer hi) hg ZN hints (CT hlen cr) hr hF hbd (fun H hO hS=>⟨a,ns,rfl,hS,hlen,hb,fun _=>rfl⟩) fun H e s'=>hm w [] H oW e s'
end Ty
namespace Ty
open PySem PySem.Spec PyProof.Rows
def KD (h h':Heap):Prop:=∀b o,h.get? b=some o->∃o',h'.get? b=some o'/\o'.dict=o.dict
def KD.refl :KD h h:=fun b o e=>⟨o,e,rfl⟩
theorem KD.trans (a:KD h1 h2)(b:KD h2 h3):KD h1 h3:=fun c o e=>by
 obtain ⟨o1,e1,d1⟩:=a c o e;obtain ⟨o2,e2,d2⟩:=b c o1 e1;show ⟨o2,e2,d2.trans d1⟩
def KD.keeps (k:∀b o,h.get? b=some o->h'.get? b=some o):KD h h':=fun b o e=>⟨o,k b o e,rfl⟩
def wG {h:Heap}(e:h.get? a=some o):o.isFreed=false:=by
 unfold Heap.get? at e;split at e
 ·cases e
 ·rename_i o' hn
  unfold Obj.isFreed;split
  ·rename_i c d sl
   exact CH e (hn c d sl)
  ·rfl
theorem KD.update (hf:∀o,(f o).dict=o.dict/\(f o).isFreed=o.isFreed):KD h (h.update a f):=fun b o e=>by
 by_cases c:b=a
 ·subst c
  show ⟨f o,Vj f e ((hf o).2.trans (wG e)),(hf o).1⟩
 ·show ⟨o,(S' h f (fun z=>c z.symm)).trans e,rfl⟩
def Kp {Y:Type}:Sem Y->Prop
 | .pure _=>True
 | .raise _=>True
 | .unsupported _=>True
 | .finish _=>True
 | .rule _ k=>Kp (k ())
 | .at _ k=>Kp (k ())
 | .load _ _ k=>∀o,Kp (k o)
 | .update _ _ f k=>(∀o,(f o).dict=o.dict/\(f o).isFreed=o.isFreed)/\Kp (k ())
 | .alloc _ k=>∀a,Kp (k a)
 | .loadIfAlive _ k=>∀o,Kp (k o)
 | .point _ k=>Kp (k ())
 | .fresh k=>∀t,Kp (k t)
 | .ask k=>∀t,Kp (k t)
 | .handled _ k=>∀t,Kp (k t)
 | .stack k=>∀t,Kp (k t)
 | .thread k=>∀t,Kp (k t)
 | _=>False
theorem Kp.bind :∀{m:Sem Y} {f:Y->Sem β},Kp m->(∀a,Kp (f a))->Kp (m.bind f):=by
 intro m f
 induction m with
 | pure a=>exact fun _ h=>h a
 | raise e=>exact fun _ _=>trivial
 | unsupported w=>exact fun _ _=>trivial
 | finish e=>exact fun _ _=>trivial
 | rule t k ih=>exact fun h hf=>ih () h hf
 | «at» p k ih=>exact fun h hf=>ih () h hf
 | load a p k ih=>exact fun h hf o=>ih o (h o) hf
 | update a p g k ih=>exact fun h hf=>⟨h.1,ih () h.2 hf⟩
 | alloc o k ih=>exact fun h hf a=>ih a (h a) hf
 | loadIfAlive a k ih=>exact fun h hf o=>ih o (h o) hf
 | point l k ih=>exact fun h hf=>ih () h hf
 | fresh k ih=>exact fun h hf o=>ih o (h o) hf
 | ask k ih=>exact fun h hf o=>ih o (h o) hf
 | handled o k ih=>exact fun h hf o=>ih o (h o) hf
 | stack k ih=>exact fun h hf o=>ih o (h o) hf
 | thread k ih=>exact fun h hf o=>ih o (h o) hf
 | _=>exact fun h=>h.elim
theorem Kp.wp :∀{t:Sem Y} {P:Y->Pos->BW->Prop} {E:Value->Pos->BW->Prop} {p:Pos} {s:BW} {h0:Heap},Kp t->KD h0 s.heap->Sem.wp M Γ t P E p s->Sem.wp M Γ t (fun a p' s'=>P a p' s'/\KD h0 s'.heap) E p s:=by
 intro t
 induction t with
 | pure a=>exact fun _ kd h=>⟨h,kd⟩
 | raise e=>exact fun _ _ h=>h
 | unsupported w=>exact fun _ _ h=>h
 | finish e=>exact fun _ _ h=>h
 | rule t k ih=>exact fun hk kd h=>ih () hk kd h
 | «at» p k ih=>exact fun hk kd h=>ih () hk kd h
 | load a p k ih=>exact fun hk kd h=>by obtain ⟨o,e,h⟩:=h;show ⟨o,e,ih o (hk o) kd h⟩
 | update a p g k ih=>exact fun hk kd h=>⟨h.1,ih () hk.2 (kd.trans (KD.update hk.1)) h.2⟩
 | alloc o k ih=>exact fun hk kd h=>ih _ (hk _) (kd.trans (KD.keeps fun b o e=>FK _ e)) h
 | loadIfAlive a k ih=>exact fun hk kd h=>ih _ (hk _) kd h
 | point l k ih=>exact fun hk kd h=>ih () hk kd h
 | fresh k ih=>exact fun hk kd h=>ih _ (hk _) kd h
 | ask k ih=>exact fun hk kd h=>ih _ (hk _) kd h
 | handled o k ih=>exact fun hk kd h=>ih _ (hk _) kd h
 | stack k ih=>exact fun hk kd h=>ih _ (hk _) kd h
 | thread k ih=>exact fun hk kd h=>ih _ (hk _) kd h
 | _=>exact fun hk=>hk.elim
def Kp.any {Q:Y->BW->Prop}{E:δ}(k:Kp t)(h:AX M A t Q E s):AX M A t (fun a s'=>Q a s'/\KD s.heap s'.heap) E s:=
 fun Γ p hΓ=>Kp.wp k KD.refl (h Γ p hΓ)
def cS :Kp (pure a:Sem Y):=trivial
def my :Kp (unsupported w:Sem Y):=trivial
def bJ {f:Y->Sem β}(h:Kp m)(hf:∀a,Kp (f a)):Kp (m >>=f):=Kp.bind h hf
def jF {Y:Type}{c:Prop}[Decidable c]{a b:Sem Y}(h1:Kp a)(h2:Kp b):Kp (if c then a else b):=by
 split
 ·exact h1
 ·exact h2
def xM :Kp (load a):=fun _=>trivial
def sR:Kp stack:=fun _=>trivial
def iF :Kp (setField e i x):=by
 unfold setField;split
 ·unfold updateField
  refine bJ xM fun o=>?_;split
  ·refine jF ⟨fun o=>?_,trivial⟩ my
   unfold Wh;split<;>show ⟨rfl,rfl⟩
  ·exact my
 ·exact my
def nO :Kp (field e i):=by
 unfold field;refine bJ ?_ fun vs=>?_
 ·unfold fieldsOf
  split
  ·refine bJ xM fun o=>?_
   split
   ·exact cS
   ·exact my
  ·exact my
 ·split
  ·exact cS
  ·exact my
def jG {f:Δ}:Kp (setFlight e f):=by
 unfold setFlight;exact bJ nO fun tb=>jF iF cS
def aa_ :Kp (behindIsImport env outer):=by
 unfold behindIsImport;exact jF cS (jF cS (bJ nO fun _=>cS))
def abv :Kp (keptBack env b outer):=by
 unfold keptBack;split
 ·refine jF cS (bJ ?_ fun _=>cS)
  unfold underTheClaimsCaller;exact bJ sR fun _=>cS
 ·exact cS
theorem kH:∀l:List Env,Kp (readyFrames l)
 | []=>trivial
 | env::outer=>by
  rw [readyFrames.eq_2];split
  ·refine bJ xM fun o=>jF cS (bJ aa_ fun _=>bJ abv fun _=>bJ ⟨fun o=>⟨rfl,?_⟩,trivial⟩ fun _=>kH outer)
   obtain ⟨c,d,dt,sl⟩:=o;cases dt<;>rfl
  ·exact my
def sV :Kp (PySem.frameOf env):=by
 unfold PySem.frameOf;refine bJ ?_ fun l=>bJ ?_ fun o=>?_
 ·unfold frameEnvs
  exact bJ sR fun _=>cS
 ·unfold frameObject
  split
  ·exact cS
  ·exact bJ (kH _) fun _=>cS
 ·split
  ·exact cS
  ·exact my
def jX :Kp (entryPlaceOf f b):=by
 unfold entryPlaceOf;refine bJ sR fun a=>?_;dsimp only;split<;>exact cS
def qJ {l:ν}:Kp (EntryCells.newEntry a b c d e l):=by
 unfold EntryCells.newEntry newFields newObj;dsimp only;refine jF (bJ my fun _=>?_) ?_
 ·exact fun _=>trivial
 ·exact fun _=>trivial
def nQ :Kp (noteFrame e env):=by
 unfold noteFrame;split
 ·refine bJ nO fun head=>jF (bJ nO fun x=>jF cS (bJ iF fun _=>?_)) ?_
  ·exact bJ sV fun _=>bJ jX fun _=>bJ qJ fun _=>iF
  ·exact bJ sV fun _=>bJ jX fun _=>bJ qJ fun _=>iF
 ·exact my
def sW :Kp (leaving env e):=by
 unfold leaving;exact bJ nQ fun _=>jG
end Ty
namespace Ty
open PySem PySem.Spec PyProof.Rows L2
def Un.shrink (u:Un fs' ex H H' h h')(hs:∀b o,h.get? b=some o->b∈fs' ->b∈fs):Un fs ex H H' h h':=
 ⟨fun b o e n hb hx=>u.keep b o e n (fun z=>hb (hs b o e z)) hx,fun b o e n hb hx=>u.any e n hx,u.free,u.there,u.jA,u.ja,u.jB⟩
def xN (u:Un (mw l) [] H H' h h1)(s1:B.StaysIn h1)(s2:B.StaysIn h2)(th:∀b o,h.get? b=some o->b∉mw l->∃o',B.get? b=some o')
  (ff:h1.FunFrames B l) (up:h1.UpToSlots h2):Un (mw l) [] H H' h h2:=by
 let inB:∀b o,h.get? b=some o->H b=none->b∉mw l->B.get? b=some o:=fun b o e n hb=>by
  obtain ⟨o',eB⟩:=th b o e hb;let z:=u.keep b o e n hb dL;erw [s1 b o' eB] at z;exact eB
 show ⟨fun b o e n hb _=>s2 b o (inB b o e n hb),fun b o e n hb _=>?_,fun b o e n _=>u.free b o e n dL,fun b o e _=>?_,u.jA,u.ja,u.jB⟩
 ·obtain ⟨sl,e1⟩:=u.any e n dL
  obtain ⟨_,o',e2,nf⟩:=ff.mem hb;erw [e1] at e2;obtain ⟨XQ,e3⟩:=up b _ e1 nf;show ⟨XQ,e3⟩
 ·by_cases hb:b∈mw l
  ·obtain ⟨_,o',e2,nf⟩:=ff.mem hb
   obtain ⟨XQ,e3⟩:=up b _ e2 nf;show ⟨_,e3⟩
  ·obtain ⟨o',eB⟩:=th b o e hb
   show ⟨o',s2 b o' eB⟩
def sX {h1 h2 B:Heap}(ok:jz P w H' h1)(s1:B.StaysIn h1)(s2:B.StaysIn h2)(tr:∀b u,H' b=some u->∃o,B.get? b=some o):jz P w H' h2:=fun b u e=>
 (ok b u e).mK (fun c v hc q=>by
  obtain ⟨o,eB⟩:∃o,B.get? c=some o:=by
   rcases hc with z|z
   ·rw [z]
    exact tr b u e
   ·exact tr c _ z
  erw [s1 c o eB] at q
  exact s2 c _ eB) (fun _ q=>q) fun _ _ q=>q
def obj_some (x:bW P w H h a o):∃ob,h.get? a=some ob:=by
 cases o with
 | lst xs=>obtain ⟨_,_,_,_,e⟩:=x;show ⟨_,e⟩
 | tup xs=>obtain ⟨_,_,_,ob,e,_⟩:=x;show ⟨ob,e⟩
 | dK AD=>obtain ⟨_,_,_,_,ob,_,_,e,_⟩:=x;show ⟨ob,e⟩
 | dT AD=>obtain ⟨_,_,_,_,ob,_,_,e,_⟩:=x;show ⟨ob,e⟩
 | set S n=>obtain ⟨ob,_,_,_,e,_⟩:=x;show ⟨ob,e⟩
 | ins C dx fs=>obtain ⟨_,_,_,e,_⟩:=x;show ⟨_,e⟩
 | own y=>exact (show ∃o,h.get? a=some o from x)
 | xd fs=>obtain ⟨_,⟨od,_,_,e,_⟩,_⟩:=x;show ⟨od,e⟩
 | rng lo hi=>obtain ⟨_,_,_,e⟩:=x;show ⟨_,e⟩
 | eZ ob u=>show ⟨ob,x.1⟩
 | XO ps=>show ⟨_,x⟩
 | met f y=>show ⟨_,x⟩
 | ext φ=>exact x.2.1
def DictAt (h:Heap)(a:AO)(dx:Δ):Prop:=∃o,h.get? a=some o/\o.dict=dx
def DictAt.kd (d:DictAt h a dx)(k:KD h h'):DictAt h' a dx:=by
 obtain ⟨o,e,d⟩:=d;obtain ⟨o',e',d'⟩:=k a o e;show ⟨o',e',d'.trans d⟩
def aS (P:FL)(w:World):nC:=fun outer H s E e s'=>∃(a:AO)(cls a0:Value)(dx:Δ)(H':Hp)(B:Heap),
 e=.ref a/\Heap.FlyingW B outer a cls a0 s'.heap/\DictAt s'.heap a dx/\Un (mw outer) [] H H' s.heap s'.heap/\jz P w H' s'.heap/\s'.os=s.os/\SR s'.gens/\
 (∀b o,s.heap.get? b=some o->b∉mw outer->∃o',B.get? b=some o')/\(∀b u,H' b=some u->∃o,B.get? b=some o)/\E cls dx H'
def aS.AY :rl (aS P w):=fun _ _ _ _ _ h=>by obtain ⟨_,_,_,_,_,_,_,_,_,_,_,_,_,_,_,z⟩:=h;exact z
section
variable {P:FL}{w:World}{K:Frag}{mg:ι}{gw:Heap}{N:θ}{qual:Str}{scope:Scope}{f:AO}{bE:Value}{A:HL}{outer:List Env}{s0:BW}{H0:Hp}{E:XK}
abbrev md (P:FL)(w:World)(K:Frag)(mg:ι)(gw:Heap)(N:θ)(qual:Str)(scope:Scope)(f:AO)(bE:Value)(A:HL)(outer:List Env)(s0:BW)(H0:Hp)(E:XK):Cx:=j6 (aS P w) P w K mg gw N qual scope f bE A outer s0 H0 E
def ahT {Z:L2.St}{s s':BW}(I:Inv (md P w K mg gw N qual scope f bE A outer s0 H0 E) pX Z H s)
  (fl:Heap.FlyingW B outer a cls a0 h2) (da:DictAt h2 a dx) (ff:s'.heap.FunFrames B (md P w K mg gw N qual scope f bE A outer s0 H0 E).stack) (st:B.StaysIn s'.heap)
  (un:Un (mw (md P w K mg gw N qual scope f bE A outer s0 H0 E).stack) [] H H' s.heap s'.heap) (ok:jz P w H' s'.heap) (os:s'.os=s.os) (bare:SR s'.gens)
  (th:∀b o,s.heap.get? b=some o->b∉mw (md P w K mg gw N qual scope f bE A outer s0 H0 E).stack->∃o',B.get? b=some o') (tr:∀b u,H' b=some u->∃o,B.get? b=some o) (up:s'.heap.UpToSlots h2) (hE:E cls dx H'):
  aS P w outer H0 s0 E (.ref a) {s' with heap:=h2}:=by
 let sh:∀b o,s0.heap.get? b=some o->b∈mw (md P w K mg gw N qual scope f bE A outer s0 H0 E).stack->b∈mw outer:=fun b o e hb=>by
  rcases M_.mp (I.xt b hb) with z|z
  ·subst z
   exact CH (Mt (FG e) I.ok.above) (QX _)
  ·exact z
 let un2:=xN un st fl.1 th ff up
 let ub:Un (mw (md P w K mg gw N qual scope f bE A outer s0 H0 E).stack) [] H0 H s0.heap s.heap:=I.gw.mono (fun b hb=>by
  obtain ⟨env,he,hf⟩:=vC.mp hb
  exact vC.mpr ⟨env,HV _ he,hf⟩) fun _ z=>z
 show ⟨a,cls,a0,dx,H',B,rfl,fl,da,Un.shrink (ub.trans un2) sh,sX ok st fl.1 tr,os.trans I.os,bare,fun b o e hb=>?_,tr,hE⟩;obtain ⟨o',e'⟩:=I.gw.there b o e (fun z=>(nomatch (show b∈([]:List AO) from z)));exact th b o' e' fun z=>hb (sh b o e z)
def nR:Passes (aS P w) (md P w K mg gw N qual scope f bE A outer s0 H0 E) E:=fun pX Z H s e s' I q=>by
 obtain ⟨a,cls,a0,dx,H',B,rfl,fl,da,un,ok,os,bare,th,tr,hE⟩:=q;show AX (BD P w) (A.deeper (Ng qual scope s0.heap.objs.size f bE)) (leaving (Ng qual scope s0.heap.objs.size f bE) (.ref a)) _ _ s';refine L_ (Kp.any sW (wpAny_leaves_onW (outer:=outer) (Q:=fun _ s2=>∃h2,s2={s' with heap:=h2}/\B.FlyingW outer a cls a0 h2/\s'.heap.UpToSlots h2) (E:=fun _ _=>False) I.ok.frames rfl fl fun h2 fl2 up=>⟨h2,rfl,fl2,up⟩)) (fun _ s2 z=>?_) fun _ _ z=>z.elim;obtain ⟨⟨h2,rfl,fl2,up⟩,kd⟩:=z;exact ahT I fl2 (da.kd kd) fl.2.2.1 fl.1 un ok os bare th tr up hE
end
section
variable {X:Cx}{pX:ε}{Z:L2.St}{H H':Hp}{s:BW}
def rO {E:δ}{Q:Μ}(I:Inv X pX Z H s)(hN:X.N.Nodup)(hi:X.N[i]?=some x)(hk:X.env.scope.names.lookup x=some .local)
  (h:∀s',Inv X pX (Z.set i none) H s' ->Q () s'):AX M A (do bindName X.env x .none;unbindBehindTheSuite X.env x pos) Q E s:=by
 obtain ⟨m,hn,hl⟩:=id I.loc;let Qf:(X.env.scope.kind==.class || (X.env.scope.kind==.module && X.env.locals !=X.env.globals))=false:=by rw [I.ok.kind];rfl
 let hiσ:i < Z.length:=by rw [I.len];exact (Wp.mp hi).1
 let Mq:=I.Mq;refine wpAny_nameGoes_keeps hk hn Qf fun h' v0 Zr hs=>?_;obtain ⟨oL,_,_,hoL,_⟩:=id hn
 let tracked:jz X.prog X.w H h':=fun b ob e=>by
  refine (I.bH b ob e).mK (fun c w' hc q=>(hs.2 c ?_).trans q) (fun _ q=>q) fun _ _ q=>q;rintro rfl;let z_:=I.free
  rcases hc with rfl|hc
  ·erw [z_] at e
  ·erw [z_] at hc
 refine h _ ⟨I.ok,I.os,I.bare,⟨fun b o e n hb hx=>?_,fun b o e n hb hx=>?_,I.gw.free,fun b o e hx=>?_,I.gw.jA,I.gw.ja,I.gw.jB⟩,⟨_,Zr,fun j y v' e1 e2 e3=>?_⟩,fun y c e=>?_,I.free,I.fQ,fun p hp=>?_,tracked,by simpa using I.len⟩
 ·exact (hs.2 b (MV (Mt (FG e) I.ok.above))).trans (I.gw.keep b o e n hb hx)
 ·obtain ⟨sl,e1⟩:=I.gw.slot b o e n hb hx
  show ⟨sl,(hs.2 b (MV (Mt (FG e) I.ok.above))).trans e1⟩
 ·obtain ⟨o',e1⟩:=I.gw.there b o e hx
  show ⟨o',(hs.2 b (MV (Mt (FG e) I.ok.above))).trans e1⟩
 ·by_cases hj:j=i
  ·subst hj
   erw [ah_ hiσ] at e2
  ·rw [akp (FN hj)] at e2
   obtain ⟨u',r',q⟩:=hl j y v' e1 e2 e3;show ⟨u',r',?_⟩
   rcases q with ⟨k,e⟩|⟨k,c,e,z⟩
   ·refine .inl ⟨k,?_⟩
    have:y≠x:=fun e=>hj (eL hN e1 (e▸hi));simp [this,e]
   ·exact .inr ⟨k,c,e,z.sameBut hs (Mq y c e)⟩
 ·obtain ⟨w',z⟩:=I.cell y c e
  show ⟨w',z.sameBut hs (Mq y c e)⟩
 ·obtain ⟨e,n,ne,nf,d⟩:=I.pin p hp
  show ⟨(hs.2 p.1 ne).trans e,n,ne,nf,d⟩
abbrev hnd (X:Cx)(a:AO):Cx:={X with A:=X.A.mark (some (.ref a)),calm:=false,xe:=fun _ _=>False}
def aiz (ok:X.Ok):(hnd X a).Ok:=
 ⟨ok.mod,ok.kind,ok.glob,ok.blt,ok.above,ok.inj,ok.has,ok.cab,fun z=>(nomatch z),ok.frames,ok.stk,ok.exf,ok.bs,ok.T3,ok.Mp,ok.Qe,ok.pH,ok.XS⟩
def ahR (I:Inv X pX Z H s):Inv (hnd X a) pX Z H s:=⟨aiz I.ok,I.os,I.bare,I.gw,I.loc,I.cell,I.free,I.fQ,I.pin,I.bH,I.len⟩
def xO (ok:X.Ok)(I:Inv (hnd X a) pX Z H s):Inv X pX Z H s:=⟨ok,I.os,I.bare,I.gw,I.loc,I.cell,I.free,I.fQ,I.pin,I.bH,I.len⟩
def adx (I:Inv X pX Z H s)(QG:∀ob,X.oZ.heap.get? a≠some ob)(hp:∀p∈X.pn++pX,p.1≠a)(hL:a≠X.env.locals)(hC:∀x c,X.env.cells.lookup x=some c->c≠a)(hn:H a=none)
  (new:bW X.prog X.w (upd H a o) s.heap a o):Inv X pX Z (upd H a o) s:=by
 let ne:∀b u,H b=some u->b≠a:=fun b u e z=>by erw [z,hn] at e
 show ⟨I.ok,I.os,I.bare,⟨I.gw.keep,I.gw.slot,fun b ob e n hx=>?_,I.gw.there,fun b xs e=>?_,fun b ob u e=>?_,fun b ps e=>?_⟩,I.loc,I.cell,?_,fun x c e=>?_,fun p h=>?_,fun b u e=>?_,I.len⟩
 ·rw [ah (fun z=>QG ob (by rwa [<-z]))]
  exact I.gw.free b ob e n hx
 ·let q:=I.gw.jA b xs e
  rwa [ah (ne _ _ q)]
 ·let q:=I.gw.ja b ob u e
  rwa [ah (ne _ _ q)]
 ·obtain ⟨more,q⟩:=I.gw.jB b ps e
  show ⟨more,by rwa [ah (ne _ _ q)]⟩
 ·rw [ah (FN hL)]
  exact I.free
 ·rw [ah (hC x c e)]
  exact I.fQ x c e
 ·obtain ⟨e,n,r⟩:=I.pin p h
  show ⟨e,by rwa [ah (hp p h)],r⟩
 ·by_cases z:b=a
  ·subst z
   erw [ag] at e;exact new
  ·rw [ah z] at e
   exact (I.bH b u e).mK (fun _ _ _ q=>q) (fun c q=>by rwa [ah (ne _ _ q)]) fun c xs q=>by rwa [ah (ne _ _ q)]
def pQ (cls:Value)(a:AO)(dx:Δ):HO:=.ext fun h=>∃o vs,h.get? a=some o/\o.cls=cls/\o.data=.fields vs/\o.dict=dx
def acR {dx:Δ}{o:Obj}{vs:Κ}(e:h.get? a=some o)(hc:o.cls=cls)(hd:o.data=.fields vs)(hx:o.dict=dx):bW P w H h a (pQ cls a dx):=
 ⟨⟨o,vs,e,hc,hd,hx⟩,⟨o,e⟩,fun _ _ ⟨o',iY,q,c,d,x⟩ k=>⟨o',iY,k _ q,c,d,x⟩⟩
structure Ld (X:Cx)(pX:ε)(Z:L2.St)(H:Hp)(a:AO)(cls:Value)(dx:Δ)(s:BW):Prop where
 ex:∃(H0:Hp)(s0:BW)(a0:Value)(B:Heap),Inv X pX Z H0 s0/\Heap.FlyingW B X.stack a cls a0 s.heap/\DictAt s.heap a dx/\Un (mw X.stack) [] H0 H s0.heap s.heap/\jz X.prog X.w H s.heap/\s.os=s0.os/\SR s.gens/\
  (∀b o,s0.heap.get? b=some o->b∉mw X.stack->∃o',B.get? b=some o')/\(∀b u,H b=some u->∃o,B.get? b=some o)
def Ld.inv (L:Ld X pX Z H a cls dx s):Inv X pX Z H s:=by
 obtain ⟨H0,s0,a0,B,I,fl,da,un,ok,os,bare,th,tr⟩:=L.ex;exact I.JF (ch:=[]) os un ok bare fun b z=>CH z dL
def Ld.free (L:Ld X pX Z H a cls dx s):H a=none:=by
 obtain ⟨H0,s0,a0,B,I,fl,da,un,ok,os,bare,th,tr⟩:=L.ex;cases q:H a with
 | none=>rfl
 | some u=>
  obtain ⟨o,e⟩:=tr a u q;erw [fl.2.1] at e
abbrev TH:=Value->Option AO->Ends->L2.St->Hp->Prop
def PH (X:Cx)(hs:List ExceptHandler)(t:TH):Prop:=
 ∀(pX:ε)(s:BW)(Z:L2.St)(H:Hp)(a:AO)(cls:Value)(dx:Δ)(D:Ends),Ld X pX Z H a cls dx s->t cls dx D Z H->AX (BD X.prog X.w) X.A (handleBy (.ref a) X.env hs) (SP X pX D) X.xe s
def ahJ:PH X [] (fun _ _ _ _ _=>False):=fun _ _ _ _ _ _ _ _ _ h=>h.elim
structure QN (X:Cx)(c:Str)(cv:Value):Prop where
 ld:∀(a:AO)(pX:ε)(s:BW)(Z:L2.St)(H:Hp)(np:Pos)(Q:δ)(E:δ),Inv (hnd X a) pX Z H s->Q cv s->AX (BD X.prog X.w) (X.A.mark (some (.ref a))) (DC (.Name c np) X.env) Q E s
def QN.own (hm:X.mg c=some (.ref C))(hg:Gl X c:=by rfl)(hd:(c==("__debug__":Str))=false:=by decide):QN X c (.ref C):=
 ⟨fun a pX s Z H np Q E I h=>gT (X:=hnd X a) I hg hm h hd⟩
def tAs (i:Nat)(cv:Value)(K:Frag)(ts:TS)(tr:TH):TH:=fun cls dx D Z H=>∃b,VM K cls cv=some b/\
 if b=true then ∀a,H a=none->ts {nx:=fun Z2 H2=>D.nx (Z2.set i none) H2,rt:=D.rt,bk:=fun Z2 H2=>D.bk (Z2.set i none) H2,ct:=fun Z2 H2=>D.ct (Z2.set i none) H2} (Z.set i (some (.ref a))) (upd H a (pQ cls a dx)) else tr cls dx D Z H
def Yd {rest:List ExceptHandler}(hc:QN X c cv)(hN:X.N.Nodup)(hi:X.N[i]?=some n)(hk:X.env.scope.names.lookup n=some .local)
  (ht:∀a,uS (hnd X a) (b₀::Ye) ts) (hr:PH X rest tr) (hex:X.ex=[]:=by rfl):PH X (.ExceptHandler (some (.Name c np)) (some n) (b₀::Ye) pos::rest) (tAs i cv X.K ts tr):=by
 intro pX s Z H a cls dx D L h;obtain ⟨b,hb,h⟩:=h;let I:=L.inv;refine wpAny_handleBy_cons (codeAny_handlers_test (hc.ld a pX s Z H np _ _ (ahR I) ?_)) (by intro q;cases q);obtain ⟨H0,s0,a0,B,I0,fl,da,un,ok,os,bare,th,tr'⟩:=L.ex;obtain ⟨ob,hob,Qf⟩:=fl.there
 let LT:PySem.W.Looks (BD X.prog X.w) s.heap (typeOf (.ref a)) cls:=by
  subst Qf;exact (PySem.W.Looks.ld hob).andThen .now
 refine (PySem.W.exm_one I.j8 LT hb).here ?_;cases b with
 | false=>
  rw [lH MS] at h;exact hr pX s Z H a cls dx D L h
 | true=>
  rw [mG rfl] at h;refine codeAny_handlers_suite_as ?_;refine L_ (Kp.any jG (lands_againW (Q:=fun _ s6=>∃h6,s6={s with heap:=h6}/\B.FlyingW X.stack a cls a0 h6/\s.heap.UpToSlots h6) (E:=fun _ _=>False) fl fun h6 fl6 up=>⟨h6,rfl,fl6,up⟩)) (fun _ s6 z=>?_) fun _ _ z=>z.elim;obtain ⟨⟨h6,rfl,fl6,up⟩,kd⟩:=z;let da6:DictAt h6 a dx:=da.kd kd;let un6:=xN un fl.1 fl6.1 th fl.2.2.1 up;let ok6:=sX ok fl.1 fl6.1 tr';let I6:Inv X pX Z H {s with heap:=h6}:=I0.JF (ch:=[]) os un6 ok6 bare fun b z=>CH z dL;let fr:=L.free;obtain ⟨oe,ws,hoe,al7,Vz,_⟩:=fl6.first
  let al8:oe.dict=dx:=by
   obtain ⟨o',e',d'⟩:=da6;erw [hoe] at e';exact d'
  let ne:∀b u,H b=some u->b≠a:=fun b u e z=>by erw [z,fr] at e
  let adA:∀o,s0.heap.get? a≠some o:=fun o e=>by
   by_cases hb:a∈mw X.stack
   ·obtain ⟨_,o',e',nf⟩:=fl6.2.2.1.mem hb
    erw [hoe] at e';exact nf _ Vz
   ·obtain ⟨o',eB⟩:=th a o e hb
    erw [fl.2.1] at eB
  let I7:Inv X pX Z (upd H a (pQ cls a dx)) {s with heap:=h6}:=by
   refine adx I6 (fun o e=>?_) (fun p hp z=>?_) (fun z=>?_) (fun x c e z=>?_) fr (acR hoe al7 Vz al8)
   ·obtain ⟨o',e'⟩:=I0.gw.there a o e (by rw [hex];simp)
    exact adA o' e'
   ·let q:=(I0.pin p hp).1
    rw [z] at q;exact adA _ q
   ·obtain ⟨m,⟨oL,es,ep,ho,hd,_⟩,_⟩:=I6.loc
    erw [<-z,show ({s with heap:=h6}:BW).heap.get? a=some oe from hoe] at ho;erw [Vz] at hd
   ·obtain ⟨v,⟨oc,ho,hd⟩⟩:=I6.cell x c e
    erw [z,show ({s with heap:=h6}:BW).heap.get? a=some oe from hoe] at ho;erw [Vz] at hd
  refine ka I7 hN hi (.inl hk) (v:=.ref a) (u:=.ref a) rfl (fun s8 I8=>?_) (.inr hk);refine L_ (ht a pX s8 _ _ _ (ahR I8) (h a fr)) (fun f s9 q=>?_) fun _ _ z=>z.elim;cases f with
  | next=>
   obtain ⟨Z2,H2,J,q⟩:=q;exact rO (xO I0.ok J) hN hi hk fun s' J'=>⟨_,_,J',q⟩
  | brk=>
   obtain ⟨Z2,H2,J,q⟩:=q;exact rO (xO I0.ok J) hN hi hk fun s' J'=>⟨_,_,J',q⟩
  | cont=>
   obtain ⟨Z2,H2,J,q⟩:=q;exact rO (xO I0.ok J) hN hi hk fun s' J'=>⟨_,_,J',q⟩
  | ret u=>
   obtain ⟨v,Z2,H2,J,r,q⟩:=q;exact rO (xO I0.ok J) hN hi hk fun s' J'=>⟨v,_,_,J',r,q⟩
def XP (X:Cx)(pX:ε)(Z:L2.St)(E:XK)(e:Value)(s':BW):Prop:=∃H s,Inv X pX Z H s/\aS X.prog X.w X.stack H s E e s'
abbrev TEx:=L2.St->Hp->VK->XK->Prop
abbrev TSx:=Ends->(L2.St->XK)->L2.St->Hp->Prop
def PEx (X:Cx)(e:Expr)(t:TEx):Prop:=
 ∀(pX:ε)(s:BW)(Z:L2.St)(H:Hp)(Q:VK)(E:XK),Inv X pX Z H s->t Z H Q E->AX (BD X.prog X.w) X.A (DC e X.env) (EP X pX Z Q) (XP X pX Z E) s
def PSx (X:Cx)(st:Stmt)(t:TSx):Prop:=
 ∀(pX:ε)(s:BW)(Z:L2.St)(H:Hp)(D:Ends)(E:L2.St->XK),Inv X pX Z H s->t D E Z H->AX (BD X.prog X.w) X.A (exec st X.env) (SP X pX D) (fun e s'=>∃Z',XP X pX Z' (E Z') e s') s
def Yf {p pos:Pos}{es:Β}(F:Fn X.prog X.w X.K X.mg X.gw (aS X.prog X.w) k x ps sp)(hr:cz k X.A)(ha:PA X.wd (e::es) t)(hg:Gl X x:=by rfl)(rg:(x==("__debug__":Str))=false:=by decide)
  (he:DI (e::es) X.env=(false,DC e X.env)::DI es X.env:=by rfl) (nE:(MZ pos (DI es X.env)).any (·.1)=false:=by rfl):
  PEx X (.Call (.Name x p) (e::es) [] pos) (fun Z H Q E=>t Z H fun vs H1=>sp vs H1 Q E):=by
 intro pX s Z H Q E I h;obtain ⟨f,fd,G,b,m,kp⟩:=F.ex;refine Vi (gT I hg m ?_ rg);refine rA (h₀:=X.gw) I.ok.mod.XR kp (L_ (ha pos pX s Z H _ (I.q_ _) h) (fun us s1 ⟨vs,H1,I1,r,q⟩=>⟨I1.j8,?_⟩) fun _ _ z=>z.elim) he nE;let I2:Inv X pX Z H1 s1:=I1.iT;let hl:us.length=ps.length:=by rw [<-r.length];exact G.len _ _ _ _ q
 let bt:=b s1 us I2.j8 (by rwa [Sw]);rw [Sw] at bt;refine Vn (Wn (G.run X.A X.stack s1 H1 ⟨us,[]⟩ us vs Q E hr I2.Vm bt r q) fun r s' hq=>?_);cases r with
 | error e=>show ⟨H1,s1,I2,hq⟩
 | ok fl=>
  cases fl with
  | ret u=>exact I2.after hq
  | next=>exact False.elim hq
  | brk=>exact False.elim hq
  | cont=>exact False.elim hq
def zv4 (he:PEx X e te)(hs:Sg e none pos.line X.env=pure false:=by rfl):PSx X (.Expr e pos) (fun D E Z H=>te Z H (fun _ H1=>D.nx Z H1) (E Z)):=by
 intro pX s Z H D E I h;refine wpAny_Expr_any (L_ (he pX s Z H _ _ I h) (fun v s1 z=>?_) fun e s' z=>⟨Z,z⟩) I.quiet hs;obtain ⟨y,H1,I1,r1,q1⟩:=z;show ⟨Z,H1,I1,q1⟩
def ahF {st:Stmt}(VA:X.stack=X.env::X.outer/\X.env.frame=some X.env.locals)(hb:PSx X st tb)(hh:PH X (h₀::hs) th):
  PS X (.Try [st] (h₀::hs) [] [] pos) (fun D Z H=>tb D (fun Z' cls dx H'=>th cls dx D Z' H') Z H):=by
 intro pX s Z H D I h;refine wpAny_Try_except (wpAny_execs_cons (L_ (hb pX s Z H D _ I h) (fun f s1 q=>?_) fun e s1 z=>?_))
 ·cases f with
  | next=>exact Zu (Zu q)
  | ret v=>exact q
  | brk=>exact q
  | cont=>exact q
 ·obtain ⟨Z',H0,s0,I0,a,cls,a0,dx,H',B,rfl,fl,da,un,ok,os,bare,th',tr,hE⟩:=z
  let fl':=fl;rw [VA.1] at fl';let hfr:X.A.frames=some (X.env::X.outer):=by rw [<-VA.1];exact I.ok.frames
  refine L_ (Kp.any nQ (wpAny_looks_onW (Q:=fun _ s4=>∃h4,s4={s1 with heap:=h4}/\B.HeldW (X.env::X.outer) a cls a0 X.env.locals h4/\s1.heap.UpToSlots h4) (E:=fun _ _=>False) hfr VA.2 fl' fun h4 QP up4=>⟨h4,rfl,QP,up4⟩)) (fun _ s4 z=>?_) fun _ _ z=>z.elim;obtain ⟨⟨h4,rfl,QP,up4⟩,kd4⟩:=z;refine L_ (Kp.any jG (wpAny_landsW (s:={s1 with heap:=h4}) (Q:=fun _ s5=>∃h5,s5={s1 with heap:=h5}/\B.FlyingW (X.env::X.outer) a cls a0 h5/\h4.UpToSlots h5) (E:=fun _ _=>False) QP fun h5 fl5 up5=>⟨h5,rfl,fl5,up5⟩)) (fun _ s5 z=>?_) fun _ _ z=>z.elim;obtain ⟨⟨h5,rfl,fl5,up5⟩,kd5⟩:=z;let da5:DictAt h5 a dx:=(da.kd kd4).kd kd5;rw [<-VA.1] at fl5;let up:=up4.trans up5;exact hh pX {s1 with heap:=h5} Z' H' a cls dx D ⟨H0,s0,a0,B,I0,fl5,da5,xN un fl.1 fl5.1 th' fl.2.2.1 up,sX ok fl.1 fl5.1 tr,os,bare,th',tr⟩ hE
end
end Ty
namespace mH
open PySem PySem.W PySem.Calls PyProof.Rows Builtin Builtin.ObjectAttr Builtin.Getset_descriptor
structure jH (K:Frag)(C:AO):Prop where
 ga:findIn K (.ref C) "__getattribute__"=some (some (.builtin "BaseException.__getattribute__"))
 gt:findIn K (.ref C) "__getattr__"=some none
 cl:findIn K (.ref C) "__class__"=some (some (.builtin "object.__class__"))
 mo:mroIn K C (.type "object")=some true
 mb:mroIn K C (.type "BaseException")=some true
 is:(clsIn K C).isSome=true
section
variable {prog:FL}{w:World}{A:HL}{E:δ}{K:Frag}{h:Heap}{g:Array GenState}{d:Drawn}{t:Nat}{os:OsState}{a C:AO}{o:Obj}
def gY (hx:h.get? a=some o)(hc:o.cls=.ref C):Looks M h (typeOf (.ref a)) (.ref C):=by
 subst_vars
 rw [<-hc];exact (Looks.ld hx).andThen .now
def zao {R:Θ}(X:K.In h)(F:jH K C)(hx:h.get? a=some o)(hc:o.cls=.ref C)
  (hq:R (.ok (.ret (.ref C))) ⟨h,g,d,t,os⟩):Nc (BD prog w) A (.call (.builtin "getset_descriptor.__get__") ⟨[.builtin "object.__class__",.ref a,tp],[]⟩) R ⟨h,g,d,t,os⟩:=by
 let L0:=gY (M:=BD prog w) hx hc;let L1:=looks_mroIn (M:=BD prog w) X F.mo;refine rC KF.slot_gs.plain KF.entry_gs (KF.slot_gs.check _ _ _ _ _ _ _ _ KF.type_class (KF.args_gs _ _ _) ?_);unfold Builtin.«getset_descriptor.__get__» descrGet;rw [dga_obj];refine AP (B_ ?_);unfold descrGetter descrCheckInstance descrNameAndClass σ5;simp only [KF.owner_class]
 repeat lk
 show ⟨Code.quiet_builtin _ (by decide+kernel),codeAny_builtin KF.entry_class ?_⟩;unfold Builtin.«object.__class__» shownTypeOf
 repeat lk
 exact hq
def nV {Q:Μ}(X:K.In h)(F:jH K C)(hx:h.get? a=some o)(hc:o.cls=.ref C)
  (hq:Q () ⟨h,g,d,t,os⟩):AX M A (KA "BaseException.__getattribute__" ⟨[.ref a,Yg],[]⟩) Q E ⟨h,g,d,t,os⟩:=by
 let hk:builtinKind "BaseException.__getattribute__"=some .slot:=by decide+kernel
 let ZP:splitId "BaseException.__getattribute__"=some ("BaseException","__getattribute__"):=by decide+kernel
 let ha:=PySem.F.args_bexc_ga (.ref a) Yg;let L0:=gY (M:=M) hx hc;let L1:=looks_mroIn (M:=M) X F.mb;simp only [KA,hk,ZP];refine AP ?_
 ·unfold σ5
  repeat (first|lk|wp_step)
  exact hq
def afP (X:K.In h)(F:jH K C)(hx:h.get? a=some o)(hc:o.cls=.ref C)
  (hq:Q (.done (.ret (.ref C))) ⟨h,g,d,t,os⟩):AX (BD prog w) A (Builtin.«object.__getattribute__» ⟨[.ref a,.str "__class__" tk],[]⟩) Q E ⟨h,g,d,t,os⟩:=by
 let L0:=gY (M:=BD prog w) hx hc;let L1:=looks_findIn (M:=BD prog w) X F.cl;let hT5:(⟨h,g,d,t,os⟩:BW).TypeIs (.builtin "object.__class__") "getset_descriptor":=PySem.F.typeOf_object_class;let f5:=PySem.F.typeOf_object_class;let f6:=PySem.F.slot_gs_get.lookup;let f7:=PySem.F.slot_gs_set.lookup
 repeat (any_goals (first|assumption|with_reducible refine L1.at ?_|with_reducible refine L0.at ?_|(with_reducible refine zZ hx ?_;rw [hc])|wp_step))
 refine zao X F hx hc ?_
 repeat (any_goals (first|assumption|wp_step))
def afM {R:Θ}(X:K.In h)(F:jH K C)(hx:h.get? a=some o)(hc:o.cls=.ref C)
  (hq:R (.ok (.ret (.ref C))) ⟨h,g,d,t,os⟩):Nc (BD prog w) A (.call (.builtin "BaseException.__getattribute__") ⟨[.ref a,.str "__class__" tk],[]⟩) R ⟨h,g,d,t,os⟩:=
 rC PySem.F.attr_ValueError.ga.plain PySem.F.entry_bexc_ga (nV X F hx hc (afP X F hx hc hq))
def aky {Q:δ}(X:K.In h)(F:jH K C)(hx:h.get? a=some o)(hc:o.cls=.ref C)
  (hq:Q (.ref C) ⟨h,g,d,t,os⟩):AX (BD prog w) A (getAttrBy (.ref a) (.str "__class__" tk) false) Q E ⟨h,g,d,t,os⟩:=by
 let L0:=gY (M:=BD prog w) hx hc;let L1:=looks_findIn (M:=BD prog w) X F.ga;let L2:=looks_findIn (M:=BD prog w) X F.gt;let f3:=PySem.F.attr_ValueError.ga.bind (.ref a);let MG:(Value.builtin "BaseException.__getattribute__"==Value.builtin "object.__getattribute__")=false:=by decide+kernel
 let VB:(onTheHeap (Value.ref C) && Value.builtin "BaseException.__getattribute__"==Value.builtin "object.__getattribute__")=false:=by rw [MG];rfl
 repeat (any_goals (first|assumption|with_reducible refine L1.at ?_|with_reducible refine L2.at ?_|with_reducible refine L0.at ?_|(with_reducible refine zZ hx ?_;rw [hc])|wp_step))
 refine afM X F hx hc ?_
 repeat (any_goals (first|assumption|wp_step))
def aer {Q:Λ}(X:K.In h)(F:jH K C)(hx:h.get? a=some o)(hc:o.cls=.ref C)
  (hq:Q (some (.ref C)) ⟨h,g,d,t+1,os⟩):AX (BD prog w) A (getAttr? (.ref a) "__class__") Q E ⟨h,g,d,t,os⟩:=by
 unfold getAttr? getAttrBy?
 repeat (any_goals (first|assumption|with_reducible apply aky X F hx hc|wp_step))
end
def ExcAt (a C:AO)(h:Heap):Prop:=∃o vs,h.get? a=some o/\o.cls=.ref C/\o.data=.fields vs
def QQ {K:Frag}(F:jH K C):KitX K (.ref a) (.ref C) (ExcAt a C) where
 ty:=fun M h _ ⟨o,vs,hx,hc,_⟩=>gY hx hc
 it:=fun M h X _=>by
  let q:=F.is;unfold clsIn at q;split at q
  ·rename_i c' d' cd' XQ ho
   intro A' Q' E' s' k q;unfold isType loadHead;exact AP (JW (k _ _ (X _ _ ho)) (B_ q))
  ·cases q
 ne:=fun h tp dd AU n sl X htp=>by
  let q:=F.is;refine AH.mpr fun z=>?_;let e:C=tp:=Value.ref.inj (beq_iff_eq.mp z);subst e;unfold clsIn at q;split at q
  ·rename_i c' d' cd' XQ ho
   let z:=(X _ _ ho).symm.trans htp;cases z
  ·cases q
 ca:=fun {prog w A E Q s} X p k=>by
  obtain ⟨h,g,d,t,os⟩:=s;obtain ⟨o,vs,hx,hc,_⟩:=p;exact aer X F hx hc k
end mH
namespace Ty
open PySem PySem.Spec PyProof.Rows L2
section
variable {X:Cx}
inductive Yh (K:Frag)(xs:ζ)(H:Hp)(Q:VK):Prop
|mk (a C c b dx:_)(_:xs=[.ref a,c])(_:Ya c=true)(_:H a=some (pQ (.ref C) a dx))(_:mH.jH K C)(_:Ou K (.ref C) (adt c)=some b)(_:Q (.bl b) H)
def lQ {K:Frag}(hK:X.K=K):iE X (.builtin "isinstance") (Yh K):=by
 subst hK;intro pX s Z H xs us Q I r h;obtain ⟨a,C,c,b,dx,rfl,hc,ha,F,e,q⟩:=h;obtain ⟨u,w,rfl,r1,r2⟩:=vals2 r;obtain rfl:=ada hc r2;cases r1;obtain ⟨⟨o,vs,p1,p2,p3,_⟩,_⟩:=(show bW X.prog X.w H s.heap a (pQ (.ref C) a dx) from I.bH a _ ha);exact PySem.W.kia_one (mH.QQ F) I.j8 ⟨o,vs,p1,p2,p3⟩ e (fun z=>nomatch z) fun tk=>⟨.bl b,H,I.tok tk,rfl,q⟩
def FU (hg:Gl X x)(hm:X.mg x=some (.ref C))(hd:(x==("__debug__":Str))=false:=by decide):PE X (.Name x pos) (tC (.ref C)):=dJ (v:=.ref C) hg hm rfl hd
end
def Def.okX {K:Frag}{st:Stmt}(D:Def K mg x st ps)(S:av N ps (ae st))(len:∀vs H Q E,sp vs H Q E->vs.length=ps.length)
  (gx:∀(f:AO)(bE:Value)(A:HL)(outer:List Env)(s:BW)(H:Hp)(vs:ζ)(Q:VK)(E:XK),cz k (A.deeper (Ng x (ae st) s.heap.objs.size f bE))->sp vs H Q E->
   ∃t,uS (md P w K mg gw N x (ae st) f bE A outer s H E) (ar st) t/\t {nx:=fun _ H'=>Q .cO H',rt:=Q} (start N vs) H):Fn P w K mg gw (aS P w) (k+1) x ps sp:=by
 obtain ⟨f,dV,oc,od,kV,doc,pm,an,bE,ct,pM,lk,r_,kp,b,m⟩:=D.ex;show ⟨f,_,AL lk r_ S len fun A outer s H vs Q E hr zT=>gx f bE A outer s H vs Q E hr zT,b,m,kp⟩
end Ty
namespace mH
open PySem PySem.W PySem.Calls PyProof.Rows Builtin Builtin.ObjectAttr Builtin.Getset_descriptor
section
variable {prog:FL}{w:World}{A:HL}{E:δ}{K:Frag}{h:Heap}{g:Array GenState}{d:Drawn}{t:Nat}{os:OsState}{a C:AO}{o:Obj}{od:Option Obj}{name:Str}{v:Value}
def acd (X:K.In h)(I:InstAt h a o C od)(hf:findObj K C od name=some (.value v))
  (hq:Q (.done (.ret v)) ⟨h,g,d,t,os⟩):AX (BD prog w) A (Builtin.«object.__getattribute__» ⟨[.ref a,.str name tk],[]⟩) Q E ⟨h,g,d,t,os⟩:=by
 let L0:=InstAt.type (M:=BD prog w) I;let L1:=looks_find (M:=BD prog w) X I hf
 repeat (any_goals (first|assumption|with_reducible refine L1.at ?_|with_reducible refine L0.at ?_|wp_step))
def ag5 {R:Θ}(X:K.In h)(F:jH K C)(I:InstAt h a o C od)(hf:findObj K C od name=some (.value v))
  (hq:R (.ok (.ret v)) ⟨h,g,d,t,os⟩):Nc (BD prog w) A (.call (.builtin "BaseException.__getattribute__") ⟨[.ref a,.str name tk],[]⟩) R ⟨h,g,d,t,os⟩:=
 rC PySem.F.attr_ValueError.ga.plain PySem.F.entry_bexc_ga (nV X F I.at_ I.cls (acd X I hf hq))
def ai_ {fill expr:Bool}{Q:δ}(X:K.In h)(F:jH K C)(I:InstAt h a o C od)(hf:findObj K C od name=some (.value v))(hh:handedIn v=true)
  (hq:Q v ⟨h,g,d,t,os⟩):AX (BD prog w) A (getAttrBy (.ref a) (.str name tk) fill expr) Q E ⟨h,g,d,t,os⟩:=by
 let hx:=I.at_;let hc:=I.cls;let L0:=gY (M:=BD prog w) hx hc;let L1:=looks_findIn (M:=BD prog w) X F.ga;let L2:=looks_findIn (M:=BD prog w) X F.gt;let f3:=PySem.F.attr_ValueError.ga.bind (.ref a);let MG:(Value.builtin "BaseException.__getattribute__"==Value.builtin "object.__getattribute__")=false:=by decide+kernel
 let VB:(onTheHeap (Value.ref C) && Value.builtin "BaseException.__getattribute__"==Value.builtin "object.__getattribute__")=false:=by rw [MG];rfl
 let ho:=handedOut_of hh
 repeat (any_goals (first|assumption|with_reducible refine L1.at ?_|with_reducible refine L2.at ?_|with_reducible refine L0.at ?_|(with_reducible refine zZ hx ?_;rw [hc])|wp_step))
 let hx3:(expr && onTheHeap (Value.builtin "BaseException.__getattribute__"))=false:=by cases expr<;>rfl
 rw [hx3]
 repeat (any_goals (first|assumption|wp_step))
 refine ag5 X F I hf ?_
 repeat (any_goals (first|assumption|(rw [ho];refine B_ ?_)|wp_step))
def A_ {Q:δ}(X:K.In s.heap)(F:jH K C)(I:InstAt s.heap a o C od)(hf:findObj K C od name=some (.value v))(hh:handedIn v=true)
  (hq:Q v {s with toks:=s.toks+1}):AX (BD prog w) A (getAttr (.ref a) name b) Q E s:=by
 obtain ⟨h,g,d,t,os⟩:=s;unfold getAttr;refine AP (wpAny_mkText ?_);exact ai_ X F I hf hh hq
end
end mH
namespace mH
open PySem PySem.W PySem.Calls PyProof.Rows Builtin Builtin.ObjectAttr
def adC:Value->Bool
 | .ref _=>true
 | _=>false
def jI (l:ν):Bool:=l.dropWhile adC==[.type "ValueError",.type "Exception",.type "BaseException",.type "object"]
theorem qK :∀l:List Value,refuseLoop self adD l=refuseLoop self adD (l.dropWhile adC)
 | []=>rfl
 | v::l=>by
  cases v with
  | ref a=>
   rw [refuseLoop_ref,qK l];rfl
  | _=>rfl
def zah (h:jI l=true):refuseLoop self "__setattr__" l=pure ():=by
 rw [qK,beq_iff_eq.mp h];exact PySem.F.store_ValueError.passes self
section
variable {prog:FL}{w:World}{A:HL}{E:δ}{K:Frag}{s:BW}{x C:AO}{ox:Obj}{od:Option Obj}{name:Str}{v:Value}{cd:ClassData}
def amM {R:Θ}(X:K.In s.heap)(I:InstAt s.heap x ox C od)(F:jH K C)(hc:clsIn K C=some cd)(ho:jI cd.mro=true)(hn:findIn K (.ref C) name=some none)
  (h:AX (BD prog w) A.in1 (storeInOwnDict (.ref x) (.ref C) (.str name tk) name v false) (fun fin s'=>match fin with | .done f=>R (.ok f) s' | .again c'=>c'.quiet=true/\Nc (BD prog w) A c' R s') (fun e s'=>R (.error e) s') s):
  Nc (BD prog w) A (.call (.builtin "object.__setattr__") ⟨[.ref x,.str name tk,v],[]⟩) R s:=by
 let SF:=PySem.F.store_object;let L0:=InstAt.type (M:=BD prog w) I;let sub:=L0.andThen (f:=fun tp=>isSubtype tp (.type "object")) (looks_mroIn (M:=BD prog w) X F.mo);refine rC SF.slot.plain SF.entry (check_slot SF.kind SF.split sub (SF.args _ _ _) ?_);let hm:Looks (BD prog w) s.heap (mroOf (.ref C)) cd.mro:=(looks_clsIn X hc).andThen .now;let L1:=looks_findIn (M:=BD prog w) X hn;unfold Builtin.«object.__setattr__»;dsimp only;rw [refuse_eq];let e:=zah (self:=.ref x) ho;refine OH rfl ?_;refine AP (AP (L0.here (AP (hm.here ?_))));rw [e];refine B_ ?_
 repeat (any_goals (first|assumption|with_reducible refine L1.at ?_|with_reducible refine L0.at ?_|wp_step))
def xQ {vs:Κ}{Q:Μ}(X:K.In s.heap)(hx:s.heap.get? x=some ox)(xR:ox.cls=.ref C)(MJ:ox.data=.fields vs)(ZR:ox.dict=none)(F:jH K C)
  (hs:findIn K (.ref C) "__setattr__"=some (some (.builtin "object.__setattr__"))) (hc:clsIn K C=some cd) (hh:cd.hasDict=true) (ho:jI cd.mro=true) (hn:findIn K (.ref C) name=some none)
  (h:∀h' tk,h'.get? x=some {ox with dict:=some s.heap.objs.size}->h'.Ns1 s.heap.objs.size (fun y=>if y=name then some v else none)->(∀b o,b≠x->s.heap.get? b=some o->h'.get? b=some o)->Q () {s with heap:=h',toks:=tk}):
  AX (BD prog w) A (setAttr (.ref x) name v) Q E s:=by
 let I:InstAt s.heap x ox C none:=⟨hx,xR,by unfold notCls;rw [MJ],by rw [ZR];trivial⟩;refine set_plain X I hs (amM (s:={s with toks:=s.toks+1}) X I F hc ho hn ?_);let L2:=looks_clsIn (M:=BD prog w) X hc;obtain ⟨oc,odi,odt,pM⟩:=ox;dsimp only at xR MJ ZR;subst xR MJ ZR;unfold storeInOwnDict;refine AP (B_ ?_);dsimp only;refine OH rfl ?_;refine AP ?_;unfold ownDictForStores instanceDict;dsimp only;refine AP (JW hx ?_);dsimp only;refine AP (L2.here (s:={s with toks:=s.toks+1}) ?_);rw [hh];refine OH rfl ?_;refine OH rfl ?_;refine AP (wpAny_alloc ?_);let MG:(s.heap.push {cls:=Value.type "dict",data:=Data.dict #[]}).get? x=some ⟨.ref C,none,.fields vs,pM⟩:=FK _ hx;refine AP (wpAny_update MG ?_);refine B_ ?_;let ne:s.heap.objs.size≠x:=fun z=>by have:=FG hx;rw [<-z] at this;exact QX _ this
 let e1:(s.heap.push {cls:=Value.type "dict",data:=Data.dict #[]}).get? s.heap.objs.size=some {cls:=Value.type "dict",data:=Data.dict #[]}:=MD s.heap rfl;generalize hH:(s.heap.push {cls:=Value.type "dict",data:=Data.dict #[]}).update x (fun o=>{cls:=o.cls,dict:=some s.heap.objs.size,data:=o.data,slots:=o.slots})=h2;let e2:h2.get? s.heap.objs.size=some {cls:=Value.type "dict",data:=Data.dict #[]}:=by rw [<-hH];exact (S' _ _ (FN ne)).trans e1
 let x2:h2.get? x=some ⟨.ref C,some s.heap.objs.size,.fields vs,pM⟩:=by rw [<-hH];exact Vj _ MG rfl
 let k2:∀b o,b≠x->s.heap.get? b=some o->h2.get? b=some o:=fun b o n e=>by rw [<-hH];exact (S' _ _ (FN n)).trans (FK _ e)
 let n2:h2.Ns s.heap.objs.size (fun _=>none):=⟨_, #[],_,e2,rfl,(fun e he=>CH he dL),fun _=>rfl⟩;let n3:=Heap.Ns1.of_empty n2;dsimp only;unfold storeInDict;refine AP (B_ (AP ?_));refine wpAny_nsSet1 (s:={s with heap:=h2,toks:=s.toks+1}) n3 fun h' Pq wj=>?_;obtain ⟨oD,esD,epD,hoD,hdD,hcD⟩:=Pq.count (PySem.Within.cons name v (ns:=[]) (fun y hy=>CH rfl hy));refine AP (wpAny_lookBehind hoD (by rw [hdD];exact pastItsLine_dict (CT hcD (Nat.le_add_left 1 _))) ?_);refine B_ (h h' _ ((wj.2 _ (FN ne)).trans x2) Pq fun b o n e=>?_);exact (wj.2 b (fun z=>by have:=FG e;rw [z] at this;exact QX _ this)).trans (k2 b o n e)
def xS {vs:Κ}{mA:ι}{ns:θ}{Q:Μ}(X:K.In s.heap)(hx:s.heap.get? x=some ox)(xR:ox.cls=.ref C)(MJ:ox.data=.fields vs)(ZR:ox.dict=some dx)(JQ:dx≠x)(hns:s.heap.Ns1 dx mA)(hwi:x8 mA ns)(hsz:ns.length<=BZ)(F:jH K C)
  (hs:findIn K (.ref C) "__setattr__"=some (some (.builtin "object.__setattr__"))) (hc:clsIn K C=some cd) (hh:cd.hasDict=true) (ho:jI cd.mro=true) (hn:findIn K (.ref C) name=some none)
  (h:∀h' tk,h'.Ns1 dx (fun y=>if y=name then some v else mA y)->SO dx s.heap h' ->Q () {s with heap:=h',toks:=tk}):
  AX (BD prog w) A (setAttr (.ref x) name v) Q E s:=by
 obtain ⟨od,eod⟩:∃od,s.heap.get? dx=some od:=by obtain ⟨o,_,_,e,_⟩:=hns;show ⟨o,e⟩
 let I:InstAt s.heap x ox C (some od):=⟨hx,xR,by unfold notCls;rw [MJ],by rwa [ZR]⟩;refine set_plain X I hs (amM (s:={s with toks:=s.toks+1}) X I F hc ho hn ?_);let L2:=looks_clsIn (M:=BD prog w) X hc;obtain ⟨oc,odi,odt,pM⟩:=ox;dsimp only at xR MJ ZR;subst xR MJ ZR;unfold storeInOwnDict;refine AP (B_ ?_);dsimp only;refine OH rfl ?_;refine AP ?_;unfold ownDictForStores instanceDict;dsimp only;refine AP (JW hx ?_);dsimp only;refine AP (L2.here (s:={s with toks:=s.toks+1}) ?_);rw [hh];refine OH rfl ?_;refine B_ ?_;dsimp only;unfold storeInDict;refine AP (B_ (AP ?_));refine wpAny_nsSet1 (s:={s with toks:=s.toks+1}) hns fun h' Pq wj=>?_;obtain ⟨oD,esD,epD,hoD,hdD,hcD⟩:=Pq.count (PySem.Within.cons name v hwi);refine AP (wpAny_lookBehind hoD (by rw [hdD];exact pastItsLine_dict (CT hcD (by rw [Oy];omega))) ?_);exact B_ (h h' _ Pq wj)
end
end mH
set_option maxHeartbeats 400000
namespace mH
open PySem PySem.W PySem.Calls PyProof.Rows Builtin
section
variable {prog:FL}{w:World}{A:HL}{K:Frag}{h:Heap}{g:Array GenState}{d:Drawn}{t:Nat}{os:OsState}{e C:AO}{oe:Obj}{vs:Κ}{args:ν}{E:δ}
def check_init {Q:Μ}(X:K.In h)(hx:h.get? e=some oe)(xR:oe.cls=.ref C)(hm:mroIn K C (.type "ValueError")=some true)(hi:(clsIn K C).isSome=true)
  (hq:Q () ⟨h,g,d,t,os⟩):AX (BD prog w) A (KA "ValueError.__init__" ⟨.ref e::args,[]⟩) Q E ⟨h,g,d,t,os⟩:=by
 let FB:=PySem.F.excBase_ValueError;let L0:=gY (M:=BD prog w) hx xR;let L1:=looks_mroIn (M:=BD prog w) X hm;obtain ⟨cd,hc⟩:=S1.mp hi;let L2:=looks_clsIn (M:=BD prog w) X hc;let fk:=FB.initKind;let fs:=FB.initSplit;let fr:=FB.initRow;let ZS:=FB.noStar;simp only [KA,fk,fs,fr];refine AP ?_;unfold σ5;refine AP (L0.here (L1.here ?_));refine OH rfl ?_;unfold Bind.checkArgs;dsimp only;refine AP ?_;unfold Bind.printed;refine OH (by decide+kernel) ?_;unfold Bind.receiverType;refine AP (OH rfl (L0.here ?_));unfold typeNameWhole;refine AP (AP (L2.here (B_ (B_ ?_))));refine AP (JS ZS (B_ ?_));refine wpAny_onRaise ?_;rw [yE,check_star_args];exact B_ hq
def init_exc {R:Θ}(X:K.In h)(hx:h.get? e=some oe)(xR:oe.cls=.ref C)(MJ:oe.data=.fields vs)(h0:0<vs.size)(hm:mroIn K C (.type "ValueError")=some true)(hi:(clsIn K C).isSome=true)(hl:args.length<=BZ)
  (hq:∀h' iY,h'.get? e=some {oe with data:=.fields iY }->iY.size=vs.size->iY[1]?=vs[1]? ->(∃tp,iY[0]?=some (.ref tp))->(∀b o,b≠e->h.get? b=some o->h'.get? b=some o)->R (.ok (.ret .none)) ⟨h',g,d,t,os⟩):
  Nc (BD prog w) A (.call (.builtin "ValueError.__init__") ⟨.ref e::args,[]⟩) R ⟨h,g,d,t,os⟩:=by
 let FB:=PySem.F.excBase_ValueError;refine rC FB.init.plain FB.initEntry (check_init X hx xR hm hi ?_);obtain ⟨c0,d0,dt,sl⟩:=oe;dsimp only at xR MJ;subst xR MJ;obtain ⟨v0,ev0⟩:∃v0,vs[0]?=some v0:=⟨_,Rm h0⟩;unfold Builtin.«BaseException.__init__»;dsimp only;refine OH rfl ?_;refine AP (wpAny_newTuple ?_ hl);let VB:(h.push {cls:=Value.type "tuple",data:=Data.seq args.toArray}).get? e=some ⟨.ref C,d0,.fields vs,sl⟩:=FK _ hx;unfold Builtin.BaseException.bexcPut;refine AP (AP (Q7 VB rfl ev0 (AP (wpAny_setField VB rfl h0 ?_))));let MG:=Vj (Wh fun x=>x.setIfInBounds 0 (Value.ref h.objs.size)) VB rfl;let fin:=hq ((h.push {cls:=Value.type "tuple",data:=Data.seq args.toArray}).update e (Wh fun x=>x.setIfInBounds 0 (Value.ref h.objs.size))) (vs.setIfInBounds 0 (Value.ref h.objs.size)) MG dL dL ⟨h.objs.size,by simp [h0]⟩ (fun b o n e'=>(S' _ _ (FN n)).trans (FK _ e'));let done:AX (BD prog w) A.in1 (ret Value.none) (fun fin s'=>match fin with | .done f=>R (.ok f) s' | .again c'=>c'.quiet=true/\Nc (BD prog w) A c' R s') (fun e s'=>R (.error e) s') ⟨(h.push {cls:=Value.type "tuple",data:=Data.seq args.toArray}).update e (Wh fun x=>x.setIfInBounds 0 (Value.ref h.objs.size)),g,d,t,os⟩:=B_ fin;cases v0 with
 | ref a=>exact wpAny_letGo done
 | _=>exact B_ done
end
section
variable {prog:FL}{w:World}{A:HL}{K:Frag}{h:Heap}{g:Array GenState}{d:Drawn}{t:Nat}{os:OsState}{nm q:Str}{C N f:AO}{bs bm bmB:ν}{hdct:Bool}{sn:θ}{sub:ν}{ab:Bool}{col:Option Bool}{dd:Δ}{k0 k1 k2 k3 k5:Option Value}{B newId QS:String}{rest:ν}{E:δ}
def fD (h:Heap)(C:AO)(rest:ν):Heap:=(h.push {cls:=Value.type "tuple",data:=Data.seq rest.toArray}).push {cls:=Value.ref C,data:=Data.fields #[Value.ref h.objs.size,Value.none,Value.none,Value.none,Value.bool false,Value.none]}
def s_:(fD h C rest).get? (h.objs.size+1)=some {cls:=Value.ref C,data:=Data.fields #[Value.ref h.objs.size,Value.none,Value.none,Value.none,Value.bool false,Value.none]}:=
 Heap.get?_push_at (by rw [RP]) rfl
def iZ (e:h.get? b=some o):(fD h C rest).get? b=some o:=FK _ (FK _ e)
def zaZ (F:ExcBaseFacts B newId QS bmB)(T:OwnTail h bmB bm)(hC:h.get? C=some (Sf nm q C N bs bm hdct sn sub ab col dd k0 k1 k2 k3 k5 newId))(X:K.In h)
  (hi:findIn K (.ref C) "__init__"=some (some (.ref f))) (hf:typeIn K (.ref f)=some (.type "function")) (hl:rest.length<=BZ)
  (hq:AX (BD prog w) A (call (.ref f) (.ref (h.objs.size+1)::rest)) (fun v s'=>v=.none/\Q (.done (.ret (.ref (h.objs.size+1)))) s') E ⟨fD h C rest,g,d,t,os⟩):
  AX (BD prog w) A (Builtin.«type.__call__» ⟨.ref C::rest,[]⟩) Q E ⟨h,g,d,t,os⟩:=by
 let hC1:(fD h C rest).get? C=some (Sf nm q C N bs bm hdct sn sub ab col dd k0 k1 k2 k3 k5 newId):=iZ hC;let ama:=s_ (h:=h) (C:=C) (rest:=rest);let X1:K.In (fD h C rest):=X.keeps fun b o e=>iZ e;let L1:=looks_findIn (M:=BD prog w) X1 hi;let L2:=bind_fn (M:=BD prog w) X1 (.ref (h.objs.size+1)) hf;let L0:=gY (M:=BD prog w) ama rfl;let hcC:(Value.ref C::bm).contains (Value.ref C)=true:=by simp
 unfold Builtin.«type.__call__»;refine OH rfl ?_;refine AP (wpAny_mroOf_exc hC ?_);refine OH rfl ?_;refine AP (wpAny_madeBy_exc hC (AP (B_ ?_)));refine AP (Ot (Vn (codeAny_call_builtin_code (Code.quiet_builtin _ F.quiet) (wpAny_check_new_subT F T hC (codeAny_exc_new_subT F T hC ?_ hl)))));show AX (BD prog w) A _ Q E ⟨fD h C rest,g,d,t,os⟩;refine AP ?_;unfold σ5;refine AP (L0.here (wpAny_isSubtype_exc hC1 ?_));rw [hcC];refine OH rfl ?_;refine AP (Ot ?_);unfold callSpecial?;refine AP ?_;unfold specialOf;refine AP (L0.here (L1.here ?_));refine Ot (AP (L2.here (AP (L_ hq (fun v s' z=>?_) fun _ _ z=>z))));obtain ⟨rfl,z⟩:=z;refine B_ ?_;refine OH rfl ?_;exact B_ z
def QT {Q:δ}(F:ExcBaseFacts B newId QS bmB)(T:OwnTail h bmB bm)(hC:h.get? C=some (Sf nm q C N bs bm hdct sn sub ab col dd k0 k1 k2 k3 k5 newId))(X:K.In h)
  (hi:findIn K (.ref C) "__init__"=some (some (.ref f))) (hf:typeIn K (.ref f)=some (.type "function")) (hl:rest.length<=BZ)
  (hq:AX (BD prog w) (A.under (.builtin "type.__call__" ⟨.ref C::rest,[]⟩)) (call (.ref f) (.ref (h.objs.size+1)::rest)) (fun v s'=>v=.none/\Q (.ref (h.objs.size+1)) s') E ⟨fD h C rest,g,d,t,os⟩):
  AX (BD prog w) A (call (.ref C) rest) Q E ⟨h,g,d,t,os⟩:=by
 let f1:=tc_lookup;let f2:=tc_bind (Value.ref C);let hT:(⟨h,g,d,t,os⟩:BW).TypeIs (.ref C) "type":=⟨Sf nm q C N bs bm hdct sn sub ab col dd k0 k1 k2 k3 k5 newId,hC,rfl⟩;refine Vn (codeAny_of_tree ?_);refine AP (wpAny_load' hC ?_);refine AP (wpAny_specialOf hT f1 (AP (wpAny_of_eq f2 (AP ?_))));refine B_ (JS rfl (B_ ⟨rfl,?_⟩));refine codeAny_call_builtin_at (Code.quiet_builtin _ (by decide+kernel)) entry_typeCall (wpAny_check_type_call_sub hC (zaZ F T hC X hi hf hl ?_));exact L_ hq (fun v s' z=>z) fun _ _ z=>z
end
section
variable {M:Model}{A:HL}{E:δ}{env:Env}{nm q:Str}{C N:AO}{bs bm:ν}{hdct:Bool}{sn:θ}{sub:ν}{ab:Bool}{col:Option Bool}{dd:Δ}{k0 k1 k2 k3 k5:Option Value}{newId:String}{s:BW}{x:Sem Value}{Q:Flow->BW->Prop}
def MK (kr:bm.contains (.type "BaseException")=true)(hh:A.handled=none)
  (h:AX M A x (fun v s1=>∃e oe vs,v=.ref e/\s1.heap.get? C=some (Sf nm q C N bs bm hdct sn sub ab col dd k0 k1 k2 k3 k5 newId)/\s1.heap.get? e=some oe/\oe.cls=.ref C/\oe.data=.fields vs/\vs[1]?=some .none/\E (.ref e) s1) E s):
  AX M A (raiseStmt env (some x) none) Q E s:=by
 let hcB:(Value.ref C::bm).contains (.type "BaseException")=true:=by
  rw [List.contains_cons,kr,Bool.or_true]
 unfold raiseStmt;refine AP (L_ h (fun v s1 z=>?_) fun _ _ z=>z);obtain ⟨e,oe,vs,rfl,hC,he,xR,MJ,h1,hE⟩:=z;obtain ⟨hp,g,d,tk,os⟩:=s1;obtain ⟨c0,d0,dt,sl⟩:=oe;dsimp only at xR MJ;subst xR MJ;let L0:=gY (M:=M) he rfl;let hL:(Sf nm q C N bs bm hdct sn sub ab col dd k0 k1 k2 k3 k5 newId).cls=.type "type":=rfl;refine AP (B_ ?_);refine AP (Ot ?_);unfold excFromValue isExcClass isType loadHead;refine AP (AP (AP (zZ he (B_ (OH rfl (B_ (OH rfl ?_)))))));refine AP ?_;unfold σ5;refine AP (L0.here (wpAny_isSubtype_exc hC ?_));rw [hcB];refine JS rfl (B_ ?_);dsimp only;refine AP ?_;refine AP (zZ he (B_ (OH rfl ?_)));refine AP ?_;unfold raisedInstance;let LC:Looks M hp (typeOf (.ref C)) (.type "type"):=(Looks.ld hC).andThen .now;refine AP (L0.here (AP (LC.here (JS rfl (B_ ?_)))));refine AP ?_;unfold setFlight;refine AP (Q7 he rfl h1 (OH rfl (B_ ?_)));exact wpAny_raiseNew_none hh hE
end
end mH
namespace mH
open PySem PySem.W
structure nX (K:Frag)(C:AO)(f:Str):Prop where
 k:jH K C
 sa:findIn K (.ref C) "__setattr__"=some (some (.builtin "object.__setattr__"))
 hd:hasDictIn K C=true
 ov:(clsIn K C).any (fun cd=>jI cd.mro)=true
 nf:findIn K (.ref C) f=some none
theorem nX.cd (F:nX K C f):∃cd,clsIn K C=some cd/\cd.hasDict=true/\jI cd.mro=true:=by
 obtain ⟨cd,hc,ho⟩:=any_some F.ov;obtain ⟨cd',pD,hh⟩:=any_some F.hd;erw [hc] at pD;show ⟨cd,hc,hh,ho⟩
end mH
namespace Ty
open PySem PySem.Spec PyProof.Rows L2
def jf (C a:AO)(dx:Δ):HO:=.ext fun h=>∃o vs tp,h.get? a=some o/\o.cls=.ref C/\o.data=.fields vs/\o.dict=dx/\vs[0]?=some (.ref tp)/\vs[1]?=some .none
def MM (d:AO)(fs:List (Str×V)):HO:=.ext fun h=>∃mA,h.Ns1 d mA/\∀f,gK (fs.lookup f) (mA f)
section
variable {P:FL}{w:World}{H:Hp}{h:Heap}{C a:AO}{dx:Δ}
def xT {vs:Κ}(e:h.get? a=some o)(hc:o.cls=.ref C)(hd:o.data=.fields vs)(hx:o.dict=dx)(h0:vs[0]?=some (.ref tp))(h1:vs[1]?=some .none):bW P w H h a (jf C a dx):=
 ⟨⟨o,vs,tp,e,hc,hd,hx,h0,h1⟩,⟨o,e⟩,fun _ _ ⟨o',iY,tp',q,r⟩ k=>⟨o',iY,tp',k _ q,r⟩⟩
def ahE {mA:ι}(n:h.Ns1 a mA)(r:∀f,gK (fs.lookup f) (mA f)):bW P w H h a (MM a fs):=by
 obtain ⟨o,_,_,e,_⟩:=id n;show ⟨⟨mA,n,r⟩,⟨o,e⟩,fun h1 h2 z k=>?_⟩;obtain ⟨mA',⟨o',es,ep,e',rr⟩,r'⟩:=z;show ⟨mA',⟨o',es,ep,k _ e',rr⟩,r'⟩
def acC (e:H a=some o):upd H a o=H:=by
 funext b;by_cases c:b=a
 ·subst c
  rw [ag,e]
 ·rw [ah c]
end
section
variable {X:Cx}
inductive QV (K:Frag)(Q:VK)(vs:ζ)(H1:Hp):Prop
|mk (a C dx rest:_)(_:vs=.ref a::rest)(_:H1 a=some (jf C a dx))(_:mH.jH K C)(_:Ra K C (.type "ValueError")=some true)(_:rest.length<=BZ)(_:Q .cO H1)
def adE (K:Frag)(ta:TA):TE:=fun Z H Q=>ta Z H fun vs H1=>QV K Q vs H1
structure BA (K:Frag)(α:AO):Prop where
 ga:PySem.W.specialIn K (.ref α) "__getattribute__"=some (some (.builtin "type.__getattribute__"))
 rd:PySem.W.readsIn K α (.type "type")=true
 fi:PySem.W.findCls K (.ref α) (.type "type") "__init__"=some (.val (.builtin "ValueError.__init__"))
def xU {np apos pos:Pos}{es:Β}{pl:Sem Bool}(hY:BA X.K α)(hm:X.mg y=some (.ref α))(ha:PA X (e::es) t)(hg:Gl X y:=by rfl)(rg:(y==("__debug__":Str))=false:=by decide)
  (Qi:DI (e::es) X.env=(false,DC e X.env)::DI es X.env:=by rfl) (nE:(MZ pos (DI es X.env)).any (·.1)=false:=by rfl)
  (ht:DC (.Call (.Attribute (.Name y np) "__init__" apos) (e::es) [] pos) X.env=(do
   let ov <- DC (.Name y np) X.env
   standAt apos.atName
   let (f,first) <- VI [ov] (getMethod ov "__init__" pl)
   callWith pos f first (MZ pos (DI (e::es) X.env)) (backToKw pos (WJ [] X.env))):=by rfl):
  PE X (.Call (.Attribute (.Name y np) "__init__" apos) (e::es) [] pos) (adE X.K t):=by
 intro pX s Z H Q I h;refine Qj (pl:=pl) (gT I hg hm ?_ rg) ht;refine PySem.W.method_cls I.j8 hY.ga (PySem.W.cls_value I.j8 hY.rd hY.fi rfl ?_);let I1:=I.tok (s.toks+1);refine PyProof.Rows.callWith_method1 (first:=[]) (cI (ha pos pX _ Z H _ I1 h) fun us s2 ⟨vs,H2,I2,r,q⟩=>?_) Qi nE;obtain ⟨a,C,dx,rest,rfl,ea,F,hv,hl,q⟩:=q;cases r with
 | @cons _ u _ pF r1 rr=>
  cases (show u=Value.ref a from r1);obtain ⟨⟨o,ws,tp,e1,e2,e3,e4,e5,e6⟩,_⟩:=(show bW X.prog X.w H2 s2.heap a (jf C a dx) from I2.bH a _ ea)
  let h0:0<ws.size:=by
   have:=(Array.getElem?_eq_some_iff.mp e5).1;omega
  obtain ⟨hp,g,d,tk,os⟩:=s2;refine Vn (mH.init_exc I2.j8 e1 e2 e3 h0 hv F.is (by rwa [<-rr.length]) fun h' iY k1 k2 k3 k4 k5=>?_);obtain ⟨tp',k4⟩:=k4;let I3:=I2.write (x:=a) (e:=a) (o:=jf C a dx) (h':=h') (t':=tk) (by rw [ea];exact True.intro) (.inl rfl) (fun b q hb z=>k5 b q hb z) ⟨_,k1⟩ (xT k1 e2 rfl e4 k4 (k3.trans e6));rw [acC ea] at I3;show ⟨.cO,H2,I3,rfl,q⟩
def adF (K:Frag)(ta tv:TE)(f:Str):TS:=fun D Z H=>tv Z H fun y H1=>ta Z H1 fun x H2=>∃a C,x=.ref a/\mH.nX K C f/\
 ((H2 a=some (jf C a none)/\∀d,H2 d=none->d≠a->D.nx Z (upd (upd H2 d (MM d [(f,y)])) a (jf C a (some d))))\/
  (∃dx fs,H2 a=some (jf C a (some dx))/\dx≠a/\H2 dx=some (MM dx fs)/\fs.length<1000/\D.nx Z (upd H2 dx (MM dx (gU f y fs)))))
def xV (ha:PE X o ta)(hv:PE X value tv)(hs:Sg value (some (.Attribute o f pos')) pos.line X.env=pure false):PS X (.Assign [.Attribute o f pos'] value pos) (adF X.K ta tv f):=by
 intro pX s Z H D I h;refine plainObj_wpAny_Assign_Attribute (cI (hv pX s Z H _ I h) fun u s1 ⟨y,H1,I1,ry,q⟩=>cI (ha pX s1 Z H1 _ I1 q) fun ov s2 ⟨x,H2,I2,rx,a,C,ex,F,q2⟩=>?_) hs;subst ex;obtain rfl:ov=Value.ref a:=rx;obtain ⟨cd,hc,hh,ho⟩:=F.cd
 rcases q2 with ⟨ea,q3⟩|⟨dx,fs,ea,nd,ed,hl,q3⟩
 ·obtain ⟨⟨oe,ws,tp,e1,e2,e3,e4,e5,e6⟩,_⟩:=(show bW X.prog X.w H2 s2.heap a (jf C a none) from I2.bH a _ ea)
  refine mH.xQ I2.j8 e1 e2 e3 e4 F.k F.sa hc hh ho F.nf fun h' tk k1 k2 k3=>?_;let nl:s2.heap.objs.size≠a:=fun z=>by have:=FG e1;rw [<-z] at this;exact QX _ this
  obtain ⟨oD,esD,epD,eD,dD,rD⟩:=id k2;let nf:oD.isFreed=false:=wG eD
  let J1:Inv X pX Z (upd H2 s2.heap.objs.size (MM s2.heap.objs.size [(f,y)])) {s2 with heap:=s2.heap.push oD,toks:=s2.toks}:=by
   refine I2.laid (t':=s2.toks) (fun b u q=>FK _ q) (DH _) (ahE (mA:=fun z=>if z=f then some u else none) ⟨oD,esD,epD,MD s2.heap nf,dD,rD⟩ fun z=>?_);show gK (Q3 z [(f,y)]) (if z=f then some u else none);by_cases c:z=f
   ·let hb:(z==f)=true:=beq_iff_eq.mpr c
    rw [mG c];simp only [Q3,hb];exact ry
   ·let hb:(z==f)=false:=beq_eq_false_iff_ne.mpr c
    rw [lH c];simp only [Q3,hb];trivial
  let ea':(upd H2 s2.heap.objs.size (MM s2.heap.objs.size [(f,y)])) a=some (jf C a none):=by rwa [ah (FN nl)]
  let J2:=J1.write (x:=a) (e:=a) (o:=jf C a (some s2.heap.objs.size)) (h':=h') (t':=tk) (by rw [ea'];exact True.intro) (.inl rfl) (fun b q hb z=>?_) ⟨_,k1⟩ (xT k1 e2 e3 rfl e5 e6)
  ·show ⟨Z,_,J2,q3 _ (I2.bH.fresh (DH _)) nl⟩
  ·by_cases c:b=s2.heap.objs.size
   ·subst c
    let z':(s2.heap.push oD).get? s2.heap.objs.size=some q:=z;erw [MD s2.heap nf] at z';exact eD
   ·let z':s2.heap.get? b=some q:=(Heap.get?_push_ne s2.heap b oD c).symm.trans z
    exact k3 b q hb z'
 ·obtain ⟨⟨oe,ws,tp,e1,e2,e3,e4,e5,e6⟩,_⟩:=(show bW X.prog X.w H2 s2.heap a (jf C a (some dx)) from I2.bH a _ ea)
  obtain ⟨⟨mA,n1,r1⟩,_⟩:=(show bW X.prog X.w H2 s2.heap dx (MM dx fs) from I2.bH dx _ ed)
  let wi:x8 mA (fs.map (·.1)):=fun z hz=>by
   cases el:fs.lookup z with
   | none=>
    have:=r1 z;rw [el] at this;exact CH (gK.none_of this) hz
   | some v=>
    have:∀{l:List (Str×V)},l.lookup z=some v->z∈l.map (·.1):=fun {l}=>by
     induction l with
     | nil=>intro h;cases h
     | cons p l ih=>
      intro h;obtain ⟨k,w⟩:=p;by_cases c:z=k
      ·subst c
       exact LZ
      ·let hb:(z==k)=false:=beq_eq_false_iff_ne.mpr c
       simp only [Q3,hb] at h;exact HV _ (ih h)
    exact this el
  refine mH.xS I2.j8 e1 e2 e3 e4 nd n1 wi (by rw [ir,xD];omega) F.k F.sa hc hh ho F.nf fun h' tk k1 k2=>?_;let hd:∃o,h'.get? dx=some o:=by obtain ⟨o,_,_,e',_⟩:=k1;show ⟨o,e'⟩
  let J:=I2.write (x:=dx) (e:=dx) (o:=MM dx (gU f y fs)) (h':=h') (t':=tk) (by rw [ed];exact True.intro) (.inl rfl) (fun b q hb z=>(k2.2 b hb).trans z) hd (ahE k1 fun z=>?_)
  ·show ⟨Z,_,J,q3⟩
  ·show gK ((gU f y fs).lookup z) (if z=f then some u else mA z)
   rw [kq];by_cases c:z=f
   ·rwa [mG c,mG c]
   ·rw [lH c,lH c];exact r1 z
inductive QW (K:Frag)(f:Str)(Q:VK)(x:V)(H1:Hp):Prop
|mk (a C dx fs v:_)(_:x=.ref a)(_:H1 a=some (pQ (.ref C) a (some dx)))(_:H1 dx=some (MM dx fs))(_:mH.nX K C f)(_:fs.lookup f=some v)(_:Q v H1)
def Yi (K:Frag)(ta:TE)(f:Str):TE:=fun Z H Q=>ta Z H fun x H1=>QW K f Q x H1
def acu (he:PE X e ta)(hb:V2 e f X.env (DC e X.env)=DC e X.env):PE X (.Attribute e f pos) (Yi X.K ta f):=by
 intro pX s Z H Q I h;refine amz hb (cI (he pX s Z H _ I h) fun u s1 ⟨x,H1,I1,rx,a,C,dx,fs,v,ex,ea,ed,F,l,q⟩=>?_);subst ex;obtain rfl:u=Value.ref a:=rx;obtain ⟨⟨oe,ws,e1,e2,e3,e4⟩,_⟩:=(show bW X.prog X.w H1 s1.heap a (pQ (.ref C) a (some dx)) from I1.bH a _ ea);obtain ⟨⟨mA,n1,r1⟩,_⟩:=(show bW X.prog X.w H1 s1.heap dx (MM dx fs) from I1.bH dx _ ed);obtain ⟨od,Yj,hlk⟩:=wg n1;obtain ⟨u,hu,ru⟩:=gK.some_of (v:=v) (o:=mA f) (by rw [<-l];exact r1 f);let J:PySem.W.InstAt s1.heap a oe C (some od):=⟨e1,e2,by unfold PySem.W.notCls;rw [e3],by rwa [e4]⟩;exact mH.A_ I1.j8 F.k J (PySem.W.findObj_own F.hd F.nf rfl (by rw [hlk,hu])) (wm ru) ⟨v,H1,I1.tok _,ru,q⟩
end
set_option maxHeartbeats 1000000
abbrev bmV:List Value:=[Value.type "ValueError",Value.type "Exception",Value.type "BaseException",Value.type "object"]
structure FV (K:Frag)(C fi:AO):Prop where
 obj:∃nm q N bs bm hdct sn sub ab col dd k0 k1 k2 k3 k5,K.lookup C=some (Sf nm q C N bs bm hdct sn sub ab col dd k0 k1 k2 k3 k5 "ValueError.__new__")/\JR K bmV bm=true
 init:H_ K (.ref C) "__init__"=some (some (.ref fi))
 fn:ZW K (.ref fi)=true
 kp:keepIn K (.ref C)=true
def nY (H:Hp)(e:AO):Hp:=fun b=>if b=e then none else H b
def eR (n:b≠e):nY H e b=H b:=by unfold nY;rw [lH n]
def mP :nY H e e=none:=by unfold nY;rw [mG rfl]
def ac_ (he:H e=some (.ext φ)):Un fs ex H (nY H e) h h:=by
 let ne:∀{b:AO} {o:HO},H b=some o->(∀ψ,o≠.ext ψ)->b≠e:=fun z n q=>by erw [q,he] at z;exact n _ rfl
 show ⟨fun b o q _ _ _=>q,fun b o q _ _ _=>⟨o.slots,q⟩,fun b o q n _=>?_,fun b o q _=>⟨o,q⟩,fun b xs q=>?_,fun b o u q=>?_,fun b ps q=>?_⟩
 ·by_cases c:b=e
  ·rw [c,mP]
  ·rwa [eR c]
 ·rwa [eR (ne q fun ψ z=>nomatch z)]
 ·rwa [eR (ne q fun ψ z=>nomatch z)]
 ·show ⟨#[],by rw [eR (ne q fun ψ z=>nomatch z),q];simp⟩
def acy (he:H e=some (.ext φ))(ok:jz P w H h):jz P w (nY H e) h:=fun b u q=>by
 let ne:∀{c:AO} {o:HO},H c=some o->(∀ψ,o≠.ext ψ)->c≠e:=fun z n q=>by erw [q,he] at z;exact n _ rfl
 by_cases c:b=e
 ·rw [c,mP] at q
  cases q
 ·rw [eR c] at q
  exact (ok b u q).mK (fun _ _ _ z=>z) (fun c z=>by rwa [eR (ne z fun ψ z=>nomatch z)]) fun c xs z=>by rwa [eR (ne z fun ψ z=>nomatch z)]
def zax (C:AO)(sp:Sp)(E:XK)(ta:TA):TS:=fun _ Z H=>ta Z H fun vs H1=>vs.length<=BZ/\∀e,H1 e=none->sp (.ref e::vs) (upd H1 e (jf C e none)) (fun v H2=>v=.cO/\∃dx,H2 e=some (jf C e dx)/\E (.ref C) dx (nY H2 e)) E0
section
variable {P:FL}{w:World}{K:Frag}{mg:ι}{gw:Heap}{N:θ}{qual:Str}{scope:Scope}{f:AO}{bE:Value}{A:HL}{outer:List Env}{s0:BW}{H0:Hp}{E:XK}
def pR {rest:Β}{np cW pos:Pos}(hX:FV K C fi)(F:cK P w K mg gw (aS P w) k fi fd ps sp)
  (hr:cz (k+1) (A.deeper (Ng qual scope s0.heap.objs.size f bE))) (hb:Binds K fd ps []) (hm:mg x=some (.ref C)) (ha:PA (md P w K mg gw N qual scope f bE A outer s0 H0 E).wd (e₀::rest) ta)
  (hg:Gl (md P w K mg gw N qual scope f bE A outer s0 H0 E) x:=by rfl) (hd:(x==("__debug__":Str))=false:=by decide)
  (he:DI (e₀::rest) (md P w K mg gw N qual scope f bE A outer s0 H0 E).env=(false,DC e₀ (md P w K mg gw N qual scope f bE A outer s0 H0 E).env)::DI rest (md P w K mg gw N qual scope f bE A outer s0 H0 E).env:=by rfl)
  (hp:(MZ cW (DI rest (md P w K mg gw N qual scope f bE A outer s0 H0 E).env)).any (·.1)=false:=by rfl):
  PS (md P w K mg gw N qual scope f bE A outer s0 H0 E) (.Raise (some (.Call (.Name x np) (e₀::rest) [] cW)) none pos) (zax C sp E ta):=by
 intro pX s Z H D I h;obtain ⟨nm,q,Na,bs,bm,hdct,sn,sub,ab,col,dd,k0,k1,k2,k3,k5,hlk,htl⟩:=hX.obj;let hin:∀env∈(md P w K mg gw N qual scope f bE A outer s0 H0 E).stack,∀b,env.frame=some b->b∈mw (md P w K mg gw N qual scope f bE A outer s0 H0 E).stack:=fun env he b hb=>vC.mpr ⟨env,he,hb⟩;let FB:=PySem.F.excBase_ValueError;let kr:bm.contains (Value.type "BaseException")=true:=(PySem.W.tail_of_in I.j8 htl).hasType FB.hasBase;rw [arm_exec_Raise];refine AP (Zm (mH.MK (C:=C) (nm:=nm) (q:=q) (N:=Na) (bs:=bs) (bm:=bm) (hdct:=hdct) (sn:=sn) (sub:=sub) (ab:=ab) (col:=col) (dd:=dd) (k0:=k0) (k1:=k1) (k2:=k2) (k3:=k3) (k5:=k5) (newId:="ValueError.__new__") kr hr.hd ?_));refine AP ?_;refine Vi (gT I hg hm ?_ hd);refine rA (h₀:=gw) I.ok.mod.XR hX.kp (L_ (ha cW pX s Z H _ (I.q_ _) h) (fun us s1 ⟨vs,H1,I1,r,hl,q1⟩=>⟨I1.j8,?_⟩) fun _ _ z=>z.elim) he hp;let I2:Inv (md P w K mg gw N qual scope f bE A outer s0 H0 E) pX Z H1 s1:=I1.iT;obtain ⟨h1,g1,d1,t1,o1⟩:=s1;let T:OwnTail h1 bmV bm:=PySem.W.tail_of_in I2.j8 htl;let hC:h1.get? C=some (Sf nm q C Na bs bm hdct sn sub ab col dd k0 k1 k2 k3 k5 "ValueError.__new__"):=I2.j8 _ _ hlk;let hlu:us.length<=BZ:=by rwa [<-r.length]
 let hq:=q1 (h1.objs.size+1) (I2.bH.fresh (Vv _));refine mH.QT FB T hC I2.j8 hX.init (beq_iff_eq.mp hX.fn) hlu ?_;let kp:∀b o,h1.get? b=some o->(mH.fD h1 C us).get? b=some o:=fun b o e=>mH.iZ e
 let I3:Inv (md P w K mg gw N qual scope f bE A outer s0 H0 E) pX Z (upd H1 (h1.objs.size+1) (jf C (h1.objs.size+1) none)) ⟨mH.fD h1 C us,g1,d1,t1,o1⟩:=
  I2.laid (t':=t1) kp (Vv _) (xT mH.s_ rfl rfl rfl rfl rfl)
 let r2:Vals (V.ref (h1.objs.size+1)::vs) (Value.ref (h1.objs.size+1)::us):=.cons rfl r
 let AR:(Value.ref (h1.objs.size+1)::us++[]).length=ps.length:=by
  rw [Sw,<-r2.length];exact F.len _ _ _ _ hq
 let bt:=hb ⟨mH.fD h1 C us,g1,d1,t1,o1⟩ (Value.ref (h1.objs.size+1)::us) I3.j8 AR;rw [Sw] at bt;refine Vn (Wn (F.run _ (md P w K mg gw N qual scope f bE A outer s0 H0 E).stack _ _ ⟨Value.ref (h1.objs.size+1)::us,[]⟩ (Value.ref (h1.objs.size+1)::us) _ _ E0 (hr.make C us []) (I3.Vm.make C us []) bt r2 hq) fun rr s' pE =>?_);cases rr with
 | error e=>exact (aS.AY _ _ _ _ _ pE).elim
 | ok fl=>
  cases fl with
  | ret u=>
   obtain ⟨v,H',os',Yk,un',Mz,ru,ev,dx,ee,hE⟩:=pE;subst ev;show ⟨ru,AP (Zm (B_ ?_))⟩;obtain ⟨⟨oe,ws,tp,e1,e2,e3,e4,e5,e6⟩,_⟩:=(show bW P w H' s'.heap (h1.objs.size+1) (jf C (h1.objs.size+1) dx) from Mz _ _ ee);let I4:Inv (md P w K mg gw N qual scope f bE A outer s0 H0 E) pX Z H' s':=I3.JF (ch:=[]) os' un' Mz Yk fun b z=>CH z dL;show ⟨h1.objs.size+1,oe,ws,rfl,I4.j8 _ _ hlk,e1,e2,e3,e6,?_⟩;show AX (BD P w) (A.deeper (Ng qual scope s0.heap.objs.size f bE)) (leaving (Ng qual scope s0.heap.objs.size f bE) (.ref (h1.objs.size+1))) _ _ s'
   let JQ:h1.objs.size+1∉mw (md P w K mg gw N qual scope f bE A outer s0 H0 E).stack:=fun z=>by
    have:=I4.rK _ z;erw [ee] at this
   let ffB:=PySem.W.funFrames_hide (as:=(h1.objs.size+1)::mw (md P w K mg gw N qual scope f bE A outer s0 H0 E).stack) I4.stack (fun env he b hb=>HV _ (hin env he b hb));generalize hB:PySem.W.hideAll s'.heap ((h1.objs.size+1)::mw (md P w K mg gw N qual scope f bE A outer s0 H0 E).stack)=B at ffB;let st:B.StaysIn s'.heap:=fun b o q=>by rw [<-hB] at q;exact PySem.W.of_hideAll _ q
   let bn:B.get? (h1.objs.size+1)=none:=by rw [<-hB];exact PySem.W.hideAll_none _ LZ
   let da:DictAt s'.heap (h1.objs.size+1) dx:=⟨oe,e1,e4⟩;refine L_ (Kp.any sW (wpAny_leaving_firstW (outer:=outer) (s:=s') (base:=B) (Q:=fun _ s3=>∃h2,s3={s' with heap:=h2}/\B.LeftW (Ng qual scope s0.heap.objs.size f bE::outer) (h1.objs.size+1) oe.cls (.ref tp) s'.heap h2) (E:=fun _ _=>False) I.ok.frames ffB rfl e1 st bn e3 e6 e5 fun h2 lw=>⟨h2,rfl,lw⟩)) (fun _ s3 z=>?_) fun _ _ z=>z.elim;obtain ⟨⟨h2,rfl,lw1,lw2,lw3,lw4⟩,kd⟩:=z;let un0:Un (mw (md P w K mg gw N qual scope f bE A outer s0 H0 E).stack) [] H1 (upd H1 (h1.objs.size+1) (jf C (h1.objs.size+1) none)) h1 (mH.fD h1 C us):=Un.laid kp (Vv _) (I2.bH.fresh (Vv _));let unA:=(un0.trans un').trans (ac_ (e:=h1.objs.size+1) ee);rw [e2] at lw3;let fl:B.FlyingW outer (h1.objs.size+1) (.ref C) (.ref tp) h2:=⟨lw1,bn,lw2.2.2,lw3⟩;refine ahT (s':=s') (H:=H1) (s:=⟨h1,g1,d1,t1,o1⟩) I2 fl (da.kd kd) ffB st unA (acy ee Mz) os' Yk (fun b o eb hb=>?_) (fun b u eb=>?_) lw4 hE
   ·obtain ⟨o',e'⟩:=(un0.trans un').there b o eb dL
    show ⟨o',?_⟩;rw [<-hB];refine PySem.W.hideAll_get _ e' fun z=>?_
    rcases M_.mp z with z|z
    ·have:=FG eb
     rw [z] at this;simp only [AO] at*;omega
    ·exact hb z
   ·let nb:b≠h1.objs.size+1:=fun z=>by erw [z,mP] at eb
    rw [eR nb] at eb;obtain ⟨o,ho⟩:=obj_some (Mz b u eb);show ⟨o,?_⟩;rw [<-hB];refine PySem.W.hideAll_get _ ho fun z=>?_
    rcases M_.mp z with z|z
    ·exact nb z
    ·have:=I4.rK b z
     erw [eb] at this
  | next=>exact False.elim pE
  | brk=>exact False.elim pE
  | cont=>exact False.elim pE
end
section
variable {prog:FL}{w:World}{A:HL}{R:Θ}{s:BW}
def ako {ifs:Β}(I:Nat->BW->Prop)
  (turn:∀n s,I n s->AX (BD prog w) A (RE it) (fun r oW=>match r with
   | none=>R (.ok .next) oW
   | some v=>AX (BD prog w) A (JM target it v) (fun _ s₁' =>AX (BD prog w) A (assign target env v) (fun _ uQ=>
     AX (BD prog w) A (forIn ifs true fun c r=>if r=true then do let ok <- isTrue c env (DC c env);pure (ForInStep.yield ok) else pure (ForInStep.yield r)) (fun ok s₃=>
      if ok=true then AX (BD prog w) A (DC elt env) (fun x s₄=>
       AX (BD prog w) A (call (.builtin "list.append") [acc,x]) (fun _ s₅=>∃m,m<n/\I m s₅) (fun _ _=>False) s₄) (fun _ _=>False) s₃
      else ∃m,m<n/\I m s₃) (fun _ _=>False) uQ) (fun _ _=>False) s₁') (fun _ _=>False) oW) (fun _ _=>False) s)
  (n:Nat) (h:I n s):
  Nc (BD prog w) A (.compLoop (.ListComp elt [⟨target,iter,ifs,0⟩] scope pos) 0 it acc env) R s:=by
 refine codeAny_loop rfl I (fun n s hI=>?_) n h;show AX _ A ((compTurn (.ListComp elt [⟨target,iter,ifs,0⟩] scope pos) 0 it acc env).onRaise (fun x=>do noteFrame x env;theTreesLotGoes x)) _ _ s;refine wpAny_noted ?_;rw [compTurn_list];refine AP (Zm (AP (L_ (turn n s hI) (fun r oW rG=>?_) fun _ _ h'=>h'.elim)));cases r with
 | none=>exact B_ rG
 | some v=>
  refine AP (L_ rG (fun _ s₁' h₁' =>?_) fun _ _ h'=>h'.elim);refine AP (L_ h₁' (fun _ uQ uU=>AP (L_ uU (fun ok s₃ h₃=>?_) fun _ _ h'=>h'.elim)) fun _ _ h'=>h'.elim);cases ok with
  | false=>exact B_ ⟨rfl,h₃⟩
  | true=>
   exact AP (AP (L_ h₃ (fun x s₄ h₄=>AP (L_ h₄ (fun _ s₅ h₅=>B_ (B_ ⟨rfl,h₅⟩)) fun _ _ h'=>h'.elim)) fun _ _ h'=>h'.elim))
end
def ba (env:Env)(fr:θ):List (Str×AO):=fr.filterMap fun n=>(env.cells.lookup n).map fun c=>(n,c)
theorem lookup_mem {Y:Type}{c:Y}:∀{l:List (Str×Y)},l.lookup x=some c->(x,c)∈l
 | [],h=>by simp at h
 | (y,d)::r,h=>by
  rw [alV] at h;cases e:x==y with
  | true=>
   rw [e] at h;let e1:x=y:=by simpa using e
   cases h;rw [e1];exact LZ
  | false=>
   rw [e] at h;exact HV _ (lookup_mem h)
def acj (h:(x,c)∈ba env fr):env.cells.lookup x=some c:=by
 obtain ⟨n,_,e⟩:=vC.mp h;cases q:env.cells.lookup n with
 | none=>erw [q] at e
 | some d=>
  rw [q] at e;let e':(n,d)=(x,c):=MY e;cases e';exact q
def hW (h:(ba env fr).lookup x=some c):env.cells.lookup x=some c:=acj (lookup_mem h)
theorem pS (q:env.cells.lookup x=some c):∀{fr:θ},x∈fr->(ba env fr).lookup x=some c
 | [],h=>nomatch h
 | y::r,h=>by
  unfold ba;rw [Qr];by_cases e:x=y
  ·subst e
   rw [q];simp
  ·let hr:x∈r:=by
    rcases M_.mp h with z|z
    ·exact CH z e
    ·exact z
   let ih:=pS q hr;cases z:env.cells.lookup y with
   | none=>exact ih
   | some d=>
    show Q3 x ((y,d)::_)=_;rw [alV];let ne:(x==y)=false:=by simpa using e
    rwa [ne]
def i0 (env:Env):List Str->Prop
 | []=>True
 | y::r=>(env.kindOf y=some .cell\/env.kindOf y=some .free)/\i0 env r
theorem i0.at :∀{fr:θ},i0 env fr->x∈fr->env.kindOf x=some .cell\/env.kindOf x=some .free
 | [],_,h=>nomatch h
 | y::r,a,h=>by
  rcases M_.mp h with z|z
  ·rw [z]
   exact a.1
  ·exact i0.at a.2 z
section
variable {X:Cx}
def zW (X:Cx)(NB:θ)(scope:Scope)(fn:Str->Bool)(cl:List (Str×AO))(C:AO)(s:BW)(H:Hp)(fp:υ):Cx:=
 {prog:=X.prog,w:=X.w,K:=X.K,mg:=X.mg,gw:=X.gw,A:=X.A,N:=NB,oZ:=s,H₀:=H,env:=compEnvC scope cl C X.env,outer:=X.stack,stack:=X.stack,ex:=fp,fn:=fn,calm:=X.calm,pn:=[],xe:=fun _ _=>False}
abbrev rP (X:Cx)(NB:θ)(scope:Scope)(cl:List (Str×AO))(C:AO)(s:BW)(H:Hp)(fp:υ):Cx:=zW X NB scope (fun _=>false) cl C s H fp
structure VF (X:Cx)(scope:Scope)(ow:AO->List (Str×AO))(fn:Str->Bool)(fr:θ)(oV:List Nat):Prop where
 VG:closureFor scope X.env=pure (ba X.env fr)
 kind:scope.kind=.function
 names:∀y∈scope.names,y.2=.local->scope.names.lookup y.1=some .local
 free:∀y∈scope.names,y.2=.free->y.1∈fr
 oV:oV.map (fun i=>X.N[i]?)=fr.map some
 out:i0 X.env fr
 inn:i0 (compEnvC scope [] 0 X.env) fr
 new:∀{s:BW} {Q:Env->BW->Prop} {E:δ},(∀h',h'.Ns s.heap.objs.size (fun _=>none)->(∀b o,s.heap.get? b=some o->h'.get? b=some o)->(∀x c,(ow s.heap.objs.size).lookup x=some c->h'.IsCell c none)->
   Q (newEnv scope s.heap.objs.size X.env.globals (ow s.heap.objs.size++ba X.env fr) X.env.qual none .none (some X.env) builtinsNs) {s with heap:=h',toks:=s.toks+([]:List (Str×Value)).length})->
  AX (BD X.prog X.w) X.A (newFunctionEnv scope X.env.globals (ba X.env fr) [] X.env.qual none .none (some X.env)) Q E s
 ge:∀C x c,(ow C).lookup x=some c->C<c
 one:∀C x z c,(ow C).lookup x=some c->(ow C).lookup z=some c->x=z
 fn1:∀C x,fn x=true->(ow C).lookup x≠none
 only:∀z∈scope.names,z.2=.cell->fn z.1=true
 ny:∀C,∀x∈fr,(ow C).lookup x=none
def wH {o cl:List (Str×AO)}(h:(o++cl).lookup x=some c):o.lookup x=some c\/(o.lookup x=none/\cl.lookup x=some c):=by
 rw [akE] at h;cases e:o.lookup x with
 | none=>rw [e] at h;exact .inr ⟨rfl,h⟩
 | some d=>rw [e] at h;exact .inl h
structure xX (X:Cx)(scope:Scope)(fr:θ)(oV:List Nat):Prop where
 VG:closureFor scope X.env=pure (ba X.env fr)
 cell:∀y∈scope.names,y.2≠.cell
 kind:scope.kind=.function
 names:∀y∈scope.names,y.2=.local->scope.names.lookup y.1=some .local
 free:∀y∈scope.names,y.2=.free->y.1∈fr
 oV:oV.map (fun i=>X.N[i]?)=fr.map some
 out:i0 X.env fr
 inn:i0 (compEnvC scope [] 0 X.env) fr
def PF (X:Cx)(ifs:Β)(t:TT):Prop:=
 ∀(pX:ε)(s:BW)(Z:L2.St)(H:Hp)(Q:Bool->Hp->Prop),Inv X pX Z H s->t Z H Q->
  AX (BD X.prog X.w) X.A (forIn ifs true fun c r=>if r=true then do let ok <- isTrue c X.env (DC c X.env);pure (ForInStep.yield ok) else pure (ForInStep.yield r)) (TP X pX Z Q) X.xe s
def mQ:TT:=fun _ H Q=>Q true H
def tf:PF X [] mQ:=fun _ _ _ H _ I h=>wpAny_tests_nil ⟨H,I,h⟩
def FW (h:PT X c t):PF X [c] t:=fun pX s Z H Q I q=>wpAny_tests_one (h pX s Z H Q I q)
def sB (k:Nat)(oV:List Nat)(Z:L2.St):L2.St:=L' k none++oV.map fun i=>(Z[i]?).getD none
def pU (D:AO)(g:TG)(tt:TT)(te:TE)(J:It)(Z0:L2.St)(H1:Hp)(Q:VK):Prop:=∃W:Nat->Nat->L2.St->List V->Hp->Prop,
 (∃m,W 0 m Z0 [] (upd H1 D (.lst [])))/\∀i m Z2 ys H2,W i m Z2 ys H2->(J.stop i H2/\Q (.ref D) H2)\/(J.go i H2/\∀x H3,J.Mr i H2 x H3->g x Z2 H3 fun Z4 H4=>tt Z4 H4 fun b H5=>
  if b=true then te Z4 H5 fun v H6=>H6 D=some (.lst ys)/\ys.length<BZ/\∃m',m'<m/\W (i+1) m' Z4 (ys++[v]) (upd H6 D (.lst (ys++[v]))) else ∃m',m'<m/\W (i+1) m' Z4 ys H5)
def qL (k:Nat)(oV:List Nat)(wi:TI)(g:TG)(tt:TT)(te:TE):TE:=fun Z H Q=>wi Z H fun J H1=>∀D,H1 D=none->pU D g tt te J (sB k oV Z) H1 Q
def aiN (h:(sB k oV Z)[i]?=some (some v)):k<=i/\∃j,oV[i-k]?=some j/\Z[j]?=some (some v):=by
 unfold sB at h;by_cases c:i<k
 ·rw [Nu (by simpa using c),σ0,mG c] at h
  cases h
 ·rw [Qw (by simpa using akO c),σ1,BJ] at h
  show ⟨akO c,?_⟩;cases e:oV[i-k]? with
  | none=>erw [e] at h
  | some j=>
   rw [e] at h;show ⟨j,rfl,?_⟩;let h':(Z[j]?).getD none=some v:=MY h;cases z:Z[j]? with
   | none=>erw [z] at h'
   | some o=>
    rw [z] at h';exact ph some h'
def tj {Z:L2.St}
    {RR:Value->AO->Result->BW->Prop} {E:δ} (hc:X.calm=true) (B:VF X scope ow fn fr oV)
  (hg:∀C s H fp,PG (zW X (tn++fr) scope fn (ow C++ba X.env fr) C s H fp) target g) (ht:∀C s H fp,PF (zW X (tn++fr) scope fn (ow C++ba X.env fr) C s H fp) ifs tt) (he:∀C s H fp,PE (zW X (tn++fr) scope fn (ow C++ba X.env fr) C s H fp) elt te)
  (I2:Inv X pX Z H2 s2) (T:Turn X.prog X.w X.K target J fp it Yl) (XZ:Yl 0 s2.heap) (f2:∀b∈fp,ma X pX H2 b) (q:∀D,H2 D=none->pU D g tt te J (sB tn.length oV Z) H2 Q)
  (fin:∀D C H' s' m,Inv X pX Z H' s' ->s'.heap.Ns C m->ma X pX H' C->Q (.ref D) H' ->RR (.ref D) C (.ok .next) s'):
  AX (BD X.prog X.w) X.A (newList []) (fun acc s₃=>AX (BD X.prog X.w) X.A (newFunctionEnv scope X.env.globals (ba X.env fr) [] X.env.qual none .none (some X.env)) (fun adH s₄=>
   Nc (BD X.prog X.w) X.A (.compStart (.ListComp elt [⟨target,iter,ifs,0⟩] scope pos) 0 (.ref it) acc {adH with scope:=relabel scope X.env}) (RR acc adH.locals) s₄) E s₃) E s2:=by
 refine Zz (B.new (fun rG ZU hk₁ hc₁=>?_));let I3:Inv X pX Z (upd H2 s2.heap.objs.size (.lst [])) {s2 with heap:=s2.heap.push {cls:=.type "list",data:=.seq ([]:List Value).toArray}}:=I2.ZJ (t':=s2.toks) (AU:=[]) .nil (Mu _);obtain ⟨W,⟨m0,w0⟩,turn⟩:=q s2.heap.objs.size (I2.bH.fresh (DH _));generalize hH3:upd H2 s2.heap.objs.size (.lst [])=H3 at I3 w0
 let f3:∀b∈fp,ma X pX H3 b:=fun b hb=>by
  obtain ⟨a0,a1⟩:=f2 b hb;show ⟨?_,a1⟩;obtain ⟨o,e,_⟩:=T.obj _ _ XZ b hb;rwa [<-hH3,ah (MV (FG e))]
 generalize hD:s2.heap.objs.size=D at*;generalize hs3:({s2 with heap:=s2.heap.push {cls:=.type "list",data:=.seq ([]:List Value).toArray}}:BW)=s3 at*;let e3:s3.heap=s2.heap.push {cls:=.type "list",data:=.seq ([]:List Value).toArray}:=by rw [<-hs3]
 let st3:Yl 0 s3.heap:=T.keep _ _ _ XZ fun b _ o e=>by rw [e3];exact FK _ e
 let kept:∀b o,s3.heap.get? b=some o->rG.get? b=some o:=fun b o e=>hk₁ b o e;generalize hC:s3.heap.objs.size=C at*;let hCs:s3.heap.objs.size<=C:=ZQ hC;let I4:Inv X pX Z H3 {s3 with heap:=rG,toks:=s3.toks+([]:List (Str×Value)).length}:=I3.kept kept
 let fpC:∀b∈fp,b≠C:=fun b hb z=>by
  obtain ⟨o,e,_⟩:=T.obj _ _ st3 b hb;exact CH z (MV (Mt (FG e) hCs))
 let nst:∀b∈fp,b∉mw X.stack:=fun b hb z=>(M_.mp (I3.xt b z)).elim (f3 b hb).2.1 (f3 b hb).2.2.1
 let old:∀x c,(ba X.env fr).lookup x=some c->c<C:=fun x c e=>by
  obtain ⟨v,ic⟩:=I3.cell x c (hW e);rw [<-hC];exact ic.lt
 let amf:∀x z c,(ow C++ba X.env fr).lookup x=some c->(ow C++ba X.env fr).lookup z=some c->x=z:=fun x z c e1 e2=>by
  rcases wH e1 with b1|⟨_,b1⟩<;>rcases wH e2 with b2|⟨_,b2⟩
  ·exact B.one _ _ _ _ b1 b2
  ·exact CH (old z c b2) (Nat.lt_asymm (B.ge _ _ _ b1))
  ·exact CH (old x c b1) (Nat.lt_asymm (B.ge _ _ _ b2))
  ·exact I3.ok.inj x z c (hW b1) (hW b2)
 let amg:∀x c,fn x=true->(ow C++ba X.env fr).lookup x=some c->s3.heap.objs.size<=c:=fun x c hx e=>by
  rcases wH e with b1|⟨a1,b1⟩
  ·exact CT (ZQ hC) (RF (B.ge _ _ _ b1))
  ·exact CH a1 (B.fn1 C x hx)
 let nfp:∀b∈fp,∀x c,(ow C++ba X.env fr).lookup x=some c->c≠b:=fun b hb x c e=>by
  rcases wH e with b1|⟨a1,b1⟩
  ·obtain ⟨o,eo,_⟩:=T.obj _ _ st3 b hb
   have:=FG eo;rw [hC] at this;exact FN (MV (LL this (B.ge _ _ _ b1)))
  ·exact (f3 b hb).2.2.2.2.1 x c (hW b1)
 let adJ:∀{x:Str} {c:AO},x∈fr->(ba X.env fr).lookup x=some c->(ow C++ba X.env fr).lookup x=some c:=fun {x c} hx e=>by
  rwa [akE,B.ny C x hx]
 let okB:(zW X (tn++fr) scope fn (ow C++ba X.env fr) C s3 H3 fp).Ok:=by
  show ⟨I3.ok.mod,B.kind,I3.ok.glob,I3.ok.blt,hCs,amf,fun x hx=>?_,amg,I3.ok.hd,I3.ok.frames,.inl rfl,
   fun b hb=>⟨fpC b hb,fun x c e=>nfp b hb x c e⟩,I3.bs,CT I3.ok.T3 I3.sz,fun b o e hb=>?_,nst,I3.stack,I3.rK⟩
  ·let hm:∃k,(x,k)∈scope.names/\k≠.local/\(k=.cell\/k=.free):=by
    have:∃k',(relabel scope X.env).names.lookup x=some k'/\(k'=.cell\/k'=.free):=by
     rcases hx with z|z
     ·show ⟨_,z,.inl rfl⟩
     ·show ⟨_,z,.inr rfl⟩
    obtain ⟨k',e',h'⟩:=this;obtain ⟨⟨n,k⟩,hn,en⟩:=CI.mp (lookup_mem e');dsimp only at en;by_cases cc:(k==NameKind.free && X.env.scope.kind==.function && X.env.kindOf n==some .cell)=true
    ·rw [mG cc] at en
     cases en
     let kf:k=.free:=by
      rw [uM,uM] at cc;simpa using cc.1.1
     show ⟨k,hn,(by intro z;erw [kf] at z),.inr kf⟩
    ·rw [lH cc] at en
     cases en;show ⟨k',hn,fun z'=>by rcases h' with y|y<;>(erw [y] at z'),h'⟩
   obtain ⟨k,hk,_,h2⟩:=hm
   rcases h2 with z|z
   ·cases e:(ow C).lookup x with
    | none=>exact CH e (B.fn1 C x (B.only _ hk z))
    | some c=>show ⟨c,by show Q3 x (ow C++_)=_;rw [akE,e];rfl⟩
   ·let hf:=B.free _ hk z
    obtain ⟨c,ec⟩:=I3.ok.has x (B.out.at hf);show ⟨c,adJ hf (pS ec hf)⟩
  ·obtain ⟨_,_,_,h1,_⟩:=f3 b hb
   rcases h1 with z|z
   ·exact I3.ok.Mp b o e z
   ·exact QX _ (Mt (Mt (FG e) I3.ok.T3) z)
 let IB:Inv (zW X (tn++fr) scope fn (ow C++ba X.env fr) C s3 H3 fp) [] (sB tn.length oV Z) H3 {s3 with heap:=rG,toks:=s3.toks+([]:List (Str×Value)).length}:=by
  show ⟨okB,rfl,I3.bare,Un.kept kept,⟨_,ZU,fun i x v e1 e2 _=>?_⟩,fun x c e=>(wH e).elim (fun z=>⟨none,hc₁ x c z⟩) (fun z=>I4.cell x c (hW z.2)),?_,fun x c e=>(wH e).elim (fun z=>I3.bH.fresh (CT hCs (RF (B.ge _ _ _ z)))) (fun z=>I3.fQ x c (hW z.2)),fun p hp=>(nomatch hp),I3.bH.kept kept,?_⟩
  ·obtain ⟨hk,j,ej,es⟩:=aiN e2
   have MR :fr[i-tn.length]?=some x:=by
    let z:(tn++fr)[i]?=some x:=e1;rwa [Qw hk] at z
   let hx:x∈fr:=DA MR
   let eN:X.N[j]?=some x:=by
    let z:=ph (fun l:List (Option Str)=>l[i-tn.length]?) B.oV;simp only [BJ,ej,MR,rn] at z;exact MY z
   let ko:=B.out.at hx;obtain ⟨m,hn,hl⟩:=I4.loc;obtain ⟨u,r,lk⟩:=hl j x v eN es (by rcases ko with z|z;exact .inr (.inl z);exact .inr (.inr z));show ⟨u,r,?_⟩
   rcases lk with ⟨k1,_⟩|⟨_,c,ec,ic⟩
   ·rcases ko with z|z<;>(erw [z] at k1)
   ·exact .inr ⟨B.inn.at hx,c,adJ hx (pS ec hx),ic⟩
  ·exact I3.bH.fresh hCs
  ·have:=ph Rg B.oV
   simp only [ir] at this;show (sB tn.length oV Z).length=(tn++fr).length;unfold sB;simp [this]
 let QY:∀{H':Hp},(∀b∈fp,H' b=none)->∀b∈fp,ma (zW X (tn++fr) scope fn (ow C++ba X.env fr) C s3 H3 fp) [] H' b:=fun hn b hb=>
  ⟨hn b hb,fpC b hb,nst b hb,.inl hb,nfp b hb,fun p hp=>(nomatch hp)⟩
 let st4:Yl 0 rG:=T.keep _ _ _ st3 fun b _ o e=>kept b o e
 let loop:Nc (BD X.prog X.w) X.A (.compLoop (.ListComp elt [⟨target,iter,ifs,0⟩] scope pos) 0 (.ref it) (.ref D) (compEnvC scope (ow C++ba X.env fr) C X.env)) (RR (.ref D) C) {s3 with heap:=rG,toks:=s3.toks+([]:List (Str×Value)).length}:=by
  refine ako (fun n s'=>∃i Z' ys H',Inv (zW X (tn++fr) scope fn (ow C++ba X.env fr) C s3 H3 fp) [] Z' H' s'/\Yl i s'.heap/\(∀b∈fp,H' b=none)/\W i n Z' ys H') ?_ m0 ⟨0,_,[],H3,IB,st4,fun b hb=>(f3 b hb).1,w0⟩;rintro n s5 ⟨i,Z5,ys,H5,I5,st5,X0,w5⟩
  rcases turn i n Z5 ys H5 w5 with ⟨stop,qn⟩|⟨go,step⟩
  ·refine L_ (T.done (zW X (tn++fr) scope fn (ow C++ba X.env fr) C s3 H3 fp) rfl rfl rfl hc i [] s5 Z5 H5 (fun _ _=>False) I5 (QY X0) st5 stop) (fun r s6 ⟨hr,I6⟩=>?_) fun _ _ z=>z
   subst hr;obtain ⟨m,hn,_⟩:=I6.loc;let J6:Inv X pX Z H5 s6:=I3.JF (ch:=fp) I6.os I6.gw I6.bH I6.bare fun b hb=>⟨(f3 b hb).2.2.2.1,(f3 b hb).2.1,(f3 b hb).2.2.2.2.1,(f3 b hb).2.2.2.2.2⟩;exact fin D C H5 s6 m J6 hn (I3.rf hCs I6.free) qn
  ·refine L_ (T.item (zW X (tn++fr) scope fn (ow C++ba X.env fr) C s3 H3 fp) rfl rfl rfl hc i [] s5 Z5 H5 (fun _ _=>False) I5 (QY X0) st5 go) (fun r s6 ⟨u,hr,h6⟩=>?_) fun _ _ z=>z
   subst hr;refine L_ h6 (fun _ s7 ⟨x,H7,I7,r7,y7,st7,fr7⟩=>?_) fun _ _ z=>z;let I7':=I7.pinned (QY fr7) (T.obj _ _ st7)
   let held:∀{Z' :L2.St} {H':Hp} {s':BW},Inv (zW X (tn++fr) scope fn (ow C++ba X.env fr) C s3 H3 fp) ([]++sj fp s7.heap) Z' H' s' ->Yl (i+1) s'.heap/\∀b∈fp,H' b=none:=fun {Z' H' s'} I'=>by
    show ⟨T.keep _ _ _ st7 fun b hb o e=>(I'.pin (b,o) (Qv _ (Qv _ (jC hb e)))).1,fun b hb=>?_⟩;obtain ⟨o,e,d⟩:=T.obj _ _ st7 b hb;exact (I'.pin (b,o) (Qv _ (Qv _ (jC hb e)))).2.1
   refine L_ (hg C s3 H3 fp _ s7 Z5 H7 x u _ I7' r7 (step x H7 y7)) (fun _ s8 ⟨Z8,H8,I8,q8⟩=>?_) fun _ _ z=>z;refine L_ (ht C s3 H3 fp _ s8 Z8 H8 _ I8 q8) (fun ok s9 ⟨H9,I9,q9⟩=>?_) fun _ _ z=>z;cases ok with
   | false=>
    rw [lH MS] at q9;obtain ⟨m',hm,w9⟩:=q9;rw [lH MS];obtain ⟨a,b⟩:=held I9;show ⟨m',hm,i+1,Z8,ys,H9,I9.ke,a,b,w9⟩
   | true=>
    rw [mG rfl] at q9;rw [mG rfl];refine L_ (he C s3 H3 fp _ s9 Z8 H9 _ I9 q9) (fun v BB ⟨y9,QZ,I10,r10,hDD,hl,m',hm,w10⟩=>?_) fun _ _ z=>z;refine L_ (fT (X:=zW X (tn++fr) scope fn (ow C++ba X.env fr) C s3 H3 fp) _ BB Z8 QZ (.ref D) [y9] (.ref D) [v] (fun _ H'=>W (i+1) m' Z8 (ys++[y9]) H') I10 rfl (.cons r10 .nil) ⟨D,ys,y9,rfl,rfl,hDD,hl,w10⟩) (fun _ zX ⟨z,Pw,I11,_,q11⟩=>?_) fun _ _ z=>z;obtain ⟨a,b⟩:=held I11;show ⟨m',hm,i+1,Z8,ys++[y9],Pw,I11.ke,a,b,q11⟩
 exact codeAny_compStart_list loop (T.self X.A 0 _ _ _ st4 loop)
def acm (hc:X.calm=true)(B:VF X scope ow fn fr oV)(hi:PI X target iter wi)
  (hg:∀C s H fp,PG (zW X (tn++fr) scope fn (ow C++ba X.env fr) C s H fp) target g) (ht:∀C s H fp,PF (zW X (tn++fr) scope fn (ow C++ba X.env fr) C s H fp) ifs tt) (he:∀C s H fp,PE (zW X (tn++fr) scope fn (ow C++ba X.env fr) C s H fp) elt te)
  (hs:∀x,VO iter X.env x=pure x:=by intro _;rfl):PE X (.ListComp elt [⟨target,iter,ifs,0⟩] scope pos) (qL tn.length oV wi g tt te):=by
 intro pX s Z H Q I h;rw [eval_ListComp];refine wpAny_comprehension_free (use:=none) rfl hs B.VG B.kind B.names (cI (hi pX s Z H _ I h) fun v s1 h1=>cI h1 fun itv s2 h2=>?_);obtain ⟨it,fp,Yl,J,H2,rfl,I2,T,XZ,f2,q⟩:=h2;refine tj (Q:=Q) (RR:=fun acc C=>compPost (BD X.prog X.w) X.A X.xe none (EP X pX Z Q) acc C) hc B hg ht he I2 T XZ f2 q ?_;intro D C H' s' m I' hn fc qq;obtain ⟨g0,g1,g2,g3,g4,g5⟩:=fc;show ⟨m,hn,fun h' Ym =>⟨.ref D,H',I'.turned (t':=s'.toks) (fun b o hb e=>(Ym.2 b hb).trans e) g0 g1 g3 g4 g5,rfl,qq⟩⟩
def acD {vh:Pos}(hN:X.N.Nodup)(ZV:X.N[i]?=some y)(hx:Loc X.env.scope y)
  (hc:X.calm=true) (B:VF X scope ow fn fr oV) (hi:PI X target iter wi)
  (hg:∀C s H fp,PG (zW X (tn++fr) scope fn (ow C++ba X.env fr) C s H fp) target g) (ht:∀C s H fp,PF (zW X (tn++fr) scope fn (ow C++ba X.env fr) C s H fp) ifs tt) (he:∀C s H fp,PE (zW X (tn++fr) scope fn (ow C++ba X.env fr) C s H fp) elt te)
  (Px:Sg (.ListComp elt [⟨target,iter,ifs,0⟩] scope pos) (some (.Name y py)) vh.line X.env=pure true:=by rfl)
  (hs:∀x,VO iter X.env x=pure x:=by intro _;rfl) (hf:X.fn y=true\/X.env.scope.names.lookup y=some .local:=by first|exact .inl rfl|exact .inr rfl|assumption):
  PS X (.Assign [.Name y py] (.ListComp elt [⟨target,iter,ifs,0⟩] scope pos) vh) (FE (qL tn.length oV wi g tt te) (cG i)):=by
 intro pX s Z H D I h;rw [exec_Assign_Name_used _ _ _ _ Px];refine AP (Zm (AP ?_));show AX _ X.A (do let _ <- comprehension (.ListComp elt [⟨target,iter,ifs,0⟩] scope pos) scope X.env _ (newList []) false (DC iter X.env) (some (assign (.Name y py) X.env))) _ _ s
 refine AP (L_ (wpAny_comprehension_free (use:=some (assign (.Name y py) X.env)) (Q:=fun _ s'=>SP X pX D .next s') rfl hs B.VG B.kind B.names
  (cI (hi pX s Z H _ I h) fun v s1 h1=>cI h1 fun itv s2 h2=>?_)) (fun _ s' hq=>B_ (B_ hq)) fun _ _ e=>e)
 obtain ⟨it,fp,Yl,J,H2,rfl,I2,T,XZ,f2,q⟩:=h2;refine tj (Q:=fun v H1=>cG i v Z H1 D.nx) (RR:=fun acc C=>compPost (BD X.prog X.w) X.A X.xe (some (assign (.Name y py) X.env)) (fun _ s'=>SP X pX D .next s') acc C) hc B hg ht he I2 T XZ f2 q ?_;intro DD C H' s' m I' hn fc qq;obtain ⟨g0,g1,g2,g3,g4,g5⟩:=fc;show AX _ X.A (assign (.Name y py) X.env (.ref DD)) _ _ _;refine wpAny_assign_Name (wc I' hN ZV hx (v:=.ref DD) (u:=.ref DD) rfl (fun s'' I'' ⟨a,sb,ha⟩=>?_) hf)
 let hCa:C≠a:=by
  rcases ha with z|z
  ·rw [z]
   exact g1
  ·exact fun e=>g4 y a z e.symm
 show ⟨m,hn.sameBut sb hCa,fun h' Ym =>⟨_,H',I''.turned (t':=s''.toks) (fun b o hb e=>(Ym.2 b hb).trans e) g0 g1 g3 g4 g5,qq⟩⟩
def xX.g {oV:List Nat}(B:xX X scope fr oV):VF X scope (fun _=>[]) (fun _=>false) fr oV:=
 ⟨B.VG,B.kind,B.names,B.free,B.oV,B.out,B.inn,fun hQ=>wpAny_newFunctionEnv B.cell (by intro y hy;simp at hy) (fun rG ZU ami=>hQ rG ZU (fun b o e=>(ami.2 b (MV (FG e))).trans (FK _ e)) fun _ _ z=>(nomatch z)) B.kind,
  fun _ _ _ z=>(nomatch z),fun _ _ _ _ z=>(nomatch z),fun _ _ z=>(nomatch z),fun z hz e=>CH e (B.cell z hz),fun _ _ _=>rfl⟩
def amK (hc:X.calm=true)(B:xX X scope fr oV)(hi:PI X target iter wi)
  (hg:∀C s H fp,PG (rP X (tn++fr) scope (ba X.env fr) C s H fp) target g) (ht:∀C s H fp,PF (rP X (tn++fr) scope (ba X.env fr) C s H fp) ifs tt) (he:∀C s H fp,PE (rP X (tn++fr) scope (ba X.env fr) C s H fp) elt te)
  (hs:∀x,VO iter X.env x=pure x:=by intro _;rfl):PE X (.ListComp elt [⟨target,iter,ifs,0⟩] scope pos) (qL tn.length oV wi g tt te):=
 acm hc B.g hi hg ht he hs
def amJ {vh:Pos}(hN:X.N.Nodup)(ZV:X.N[i]?=some y)(hx:Loc X.env.scope y)
  (hc:X.calm=true) (B:xX X scope fr oV) (hi:PI X target iter wi)
  (hg:∀C s H fp,PG (rP X (tn++fr) scope (ba X.env fr) C s H fp) target g) (ht:∀C s H fp,PF (rP X (tn++fr) scope (ba X.env fr) C s H fp) ifs tt) (he:∀C s H fp,PE (rP X (tn++fr) scope (ba X.env fr) C s H fp) elt te)
  (Px:Sg (.ListComp elt [⟨target,iter,ifs,0⟩] scope pos) (some (.Name y py)) vh.line X.env=pure true:=by rfl)
  (hs:∀x,VO iter X.env x=pure x:=by intro _;rfl) (hf:X.fn y=true\/X.env.scope.names.lookup y=some .local:=by first|exact .inl rfl|exact .inr rfl|assumption):
  PS X (.Assign [.Name y py] (.ListComp elt [⟨target,iter,ifs,0⟩] scope pos) vh) (FE (qL tn.length oV wi g tt te) (cG i)):=
 acD hN ZV hx hc B.g hi hg ht he Px hs hf
end
section
variable {D:AO}{te:TE}{oY:L2.St}{H1:Hp}{Q:VK}
def xY (n:Nat)(xs:Nat->V)(Pv:Nat->List V->Hp->Prop)(h0:Pv 0 [] (upd H1 D (.lst [])))
  (go:∀i ys H,i<n->Pv i ys H->J.go i H/\∀x H',J.Mr i H x H' ->H'=H/\x=xs i) (stop:∀ys H,Pv n ys H->J.stop n H)
  (hs:∀i ys H (R:VK),i<n->Pv i ys H->H D=some (.lst ys)->(∀v H6,H6 D=some (.lst ys)->ys.length<BZ->Pv (i+1) (ys++[v]) (upd H6 D (.lst (ys++[v])))->R v H6)->te (some (xs i)::oY) H R)
  (hd:∀ys H,Pv n ys H->H D=some (.lst ys)->Q (.ref D) H):pU D (cG 0) mQ te J (none::oY) H1 Q:=by
 show ⟨fun i m Z ys H=>m=n-i/\i<=n/\(∃o,Z=o::oY)/\Pv i ys H/\H D=some (.lst ys),⟨n,by simp,Mu _,⟨none,rfl⟩,h0,ag⟩,?_⟩;rintro i m Z ys H ⟨rfl,hi,⟨o,rfl⟩,p,hD⟩;by_cases lM:i<n
 ·obtain ⟨g1,g2⟩:=go i ys H lM p
  refine .inr ⟨g1,fun x H' y=>?_⟩;obtain ⟨e1,e2⟩:=g2 x H' y;subst e1 e2;unfold cG mQ;dsimp only;rw [mG rfl];exact hs i ys _ _ lM p hD fun v H6 a b c=>⟨a,b,n-(i+1),ci,rfl,ci,⟨_,rfl⟩,c,ag⟩
 ·let e:i=n:=ci
  subst e;exact .inl ⟨stop ys H p,hd ys H p hD⟩
end
structure Mk0 (K:Frag)(C:AO):Prop where
 makes:Vl K C=true
 init:H_ K (.ref C) "__init__"=some (some (.builtin "object.__init__"))
 kp:keepIn K (.ref C)=true
def adL (C:AO):TE:=fun _ H Q=>∀x dx,H x=none->H dx=none->dx≠x->Q (.ref x) (upd (upd H dx (.own x)) x (.ins C dx []))
section
variable {X:Cx}
def zai {Z:L2.St}(M:Mk0 X.K C)(I:Inv X pX Z H s)(h:adL C Z H Q):AX (BD X.prog X.w) X.A (call (.ref C) []) (EP X pX Z Q) X.xe s:=by
 let hq:=h (s.heap.objs.size+1) s.heap.objs.size (I.bH.fresh (Vv _)) (I.bH.fresh (DH _)) (MV (SY _));let I2:=Inv.made (C:=C) I;have α:=PySem.W.makes_of (M:=BD X.prog X.w) I.j8 M.makes;refine Vn (acs I.j8 M.makes M.init (fun self=>PySem.W.Looks.of_pure (PySem.W.oi_bind self)) ?_)
 let ho:((s.heap.push RV).push (RT C s.heap.objs.size)).get? (s.heap.objs.size+1)=some (RT C s.heap.objs.size):=by
  have:=MD (s.heap.push RV) (o:=RT C s.heap.objs.size) rfl
  rwa [RP] at this
 let t1:PySem.W.Looks (BD X.prog X.w) ((s.heap.push RV).push (RT C s.heap.objs.size)) (typeOf (.ref (s.heap.objs.size+1))) (.ref C):=(PySem.W.Looks.ld ho).andThen .now
 let t2:PySem.W.Looks (BD X.prog X.w) ((s.heap.push RV).push (RT C s.heap.objs.size)) (σ5 (.ref (s.heap.objs.size+1)) (.type "object")) true:=
  t1.andThen (α.top.keeps fun b o e=>FK _ (FK _ e))
 refine rC PySem.W.oi_plain PySem.W.entry_oi (@PySem.W.check_slot (BD X.prog X.w) _ _ _ "object.__init__" "object" "__init__" (.ref (s.heap.objs.size+1)) [] [] _ PySem.W.oi_kind PySem.W.oi_split t2 (PySem.W.oi_args (.ref (s.heap.objs.size+1))) ?_);rw [PySem.W.oi_run];exact B_ (And.intro rfl ⟨V.ref (s.heap.objs.size+1),_,I2,rfl,hq⟩)
def aiL (M:Mk0 X.K C)(hg:Gl X x)(hm:X.mg x=some (.ref C))(rg:(x==("__debug__":Str))=false:=by decide):PE X (.Call (.Name x p) [] [] pos) (adL C):=by
 intro pX s Z H Q I h;refine Vi (gT I hg hm ?_ rg);exact PySem.W.callWith_K0 I.j8 M.kp (zai M I h)
end
structure bQ (P:FL)(w:World)(K:Frag)(mg:ι)(gw:Heap)(CX:nC)(k:Nat)(C:AO)(m:Str)(ps:θ)(sp:Sp):Prop where
 ex:∃(f:AO)(fd:FuncData),EU K C/\Meth K C m f/\cK P w K mg gw CX k f fd ps sp/\Binds K fd ps []
theorem bQ.mono {K:Frag}(M:bQ P w K mg gw CX j C m ps sp)(h:j<=k):bQ P w K mg gw CX k C m ps sp:=by
 obtain ⟨f,fd,a,b,c,d⟩:=M.ex;show ⟨f,fd,a,b,c.mono h,d⟩
section
variable {X:Cx}{CX:nC}{k:Nat}{E:XK}{m:Str}{pos apos:Pos}{e o:Expr}{es:Β}{ta:TE}{t:TA}
inductive Yn (P:FL)(w:World)(K:Frag)(mg:ι)(gw:Heap)(CX:nC)(k:Nat)(m:Str)(E:XK)(t:TA)(Z:L2.St)(Q:VK)(x:V)(H1:Hp):Prop
|mk (a C dx fs ps sp:_)(_:x=.ref a)(_:H1 a=some (.ins C dx fs))(_:fs.lookup m=none)(_:bQ P w K mg gw CX k C m ps sp)(_:t Z H1 fun vs H2=>sp (x::vs) H2 Q E)
def adM (P:FL)(w:World)(K:Frag)(mg:ι)(gw:Heap)(CX:nC)(k:Nat)(m:Str)(E:XK)(ta:TE)(t:TA):TE:=fun Z H Q=>ta Z H fun x H1=>Yn P w K mg gw CX k m E t Z Q x H1
def dW (he:PE X o ta)(hr:cz k X.A)(hx:Passes CX X E)
  (ht:DC (.Call (.Attribute o m apos) [] [] pos) X.env=(do
   let ov <- DC o X.env
   standAt apos.atName
   let (f,first) <- VI [ov] (getMethod ov m pl)
   callWith pos f first (MZ pos (DI [] X.env)) (backToKw pos (WJ [] X.env))):=by rfl):
  PE X (.Call (.Attribute o m apos) [] [] pos) (adM X.prog X.w X.K X.mg X.gw CX k m E ta mM):=by
 intro pX s Z H Q I h;refine Qj (pl:=pl) (cI (he pX s Z H _ I h) fun u s1 ⟨x,H1,I1,rx,a,C,dx,fs,ps,sp,ex,ea,l,M,q⟩=>?_) ht;subst ex;obtain rfl:u=Value.ref a:=rx;obtain ⟨f,fd,c,hm,F,hb⟩:=M.ex;refine mL I1 ea c hm l ?_;exact PySem.W.callWith_K0 (first:=[.ref a]) I1.j8 hm.kp (xB (us:=[.ref a]) (vs:=[.ref a]) (uT:=[]) F hr hb .nil hx I1 (.cons rfl .nil) q)
def fE {pl:Sem Bool}(he:PE X o ta)(hr:cz k X.A)(hx:Passes CX X E)(ha:PA X (e::es) t)
  (Qi:DI (e::es) X.env=(false,DC e X.env)::DI es X.env:=by rfl) (nE:(MZ pos (DI es X.env)).any (·.1)=false:=by rfl)
  (ht:DC (.Call (.Attribute o m apos) (e::es) [] pos) X.env=(do
   let ov <- DC o X.env
   standAt apos.atName
   let (f,first) <- VI [ov] (getMethod ov m pl)
   callWith pos f first (MZ pos (DI (e::es) X.env)) (backToKw pos (WJ [] X.env))):=by rfl):
  PE X (.Call (.Attribute o m apos) (e::es) [] pos) (adM X.prog X.w X.K X.mg X.gw CX k m E ta t):=by
 intro pX s Z H Q I h;refine Qj (pl:=pl) (cI (he pX s Z H _ I h) fun u s1 ⟨x,H1,I1,rx,a,C,dx,fs,ps,sp,ex,ea,l,M,q⟩=>?_) ht;subst ex;obtain rfl:u=Value.ref a:=rx;obtain ⟨f,fd,c,hm,F,hb⟩:=M.ex;refine mL I1 ea c hm l ?_;refine rA (first:=[.ref a]) (h₀:=X.gw) I.ok.mod.XR hm.kp (cI (ha pos pX s1 Z H1 _ I1 q) fun us s2 ⟨vs,H2,I2,r,q2⟩=>⟨I2.j8,?_⟩) Qi nE;refine xB (us:=.ref a::us) (vs:=.ref a::vs) (uT:=[]) F hr hb .nil hx I2 (.cons rfl r) ?_;rwa [Sw]
end
def adN (h:rl CX)(e:X.xe=fun _ _=>False):Passes CX X E0:=fun _ _ _ _ _ _ _ q=>(h _ _ _ _ _ q).elim
section
variable {X:Cx}
inductive adO (x:V)(lo:Option Int)(hi:Option Int)(H:Hp)(Q:VK):Prop
|mk (z:_)(_:x=.str z)(_:z.length<=BZ)(_:Q (.str (Txt.slice z lo hi)) H)
def aj_:SlR X adO:=by
 intro pX s Z H x v vl vu lo hi sl Q I rx hs pl pu h;obtain ⟨z,rfl,hz,q⟩:=h;obtain ⟨t,rfl⟩:=rx;show ⟨"str",_,F.slot_str_getitem.lookup,typeIs_str _ _ _,?_⟩;cases pl<;>cases pu
 ·exact QK (l:=none) (u:=none) (st:=none) hs rfl (JL ⟨CT (Txt.slice_le z _ _) hz,fun t' k=>⟨.str _,H,I.tok k,⟨t',rfl⟩,q⟩⟩)
 ·rename_i j uj
  exact QK (l:=none) (u:=some (j,uj)) (st:=none) hs rfl (JL ⟨CT (Txt.slice_le z _ _) hz,fun t' k=>⟨.str _,H,I.tok k,⟨t',rfl⟩,q⟩⟩)
 ·rename_i i ui
  exact QK (l:=some (i,ui)) (u:=none) (st:=none) hs rfl (JL ⟨CT (Txt.slice_le z _ _) hz,fun t' k=>⟨.str _,H,I.tok k,⟨t',rfl⟩,q⟩⟩)
 ·rename_i i ui j uj
  exact QK (l:=some (i,ui)) (u:=some (j,uj)) (st:=none) hs rfl (JL ⟨CT (Txt.slice_le z _ _) hz,fun t' k=>⟨.str _,H,I.tok k,⟨t',rfl⟩,q⟩⟩)
inductive Yo (x:V)(y:V)(H:Hp)(Q:VK):Prop
|mk (z n:_)(_:x=.str z)(_:y=.int n)(_:MulOk z n)(_:Q (.str (Txt.mul z n)) H)
def rQ:km X (RG .Mult) Yo:=by
 intro pX s Z H x y v u Q I rx ry h;obtain ⟨z,n,rfl,rfl,ok,q⟩:=h;obtain ⟨t,rfl⟩:=rx;obtain ⟨t',rfl⟩:=ry;exact SB.mul ok fun t' k=>⟨.str _,H,I.tok k,⟨t',rfl⟩,q⟩
end
end Ty
set_option maxHeartbeats 1000000
set_option maxHeartbeats 4000000
namespace Ty
open PySem PySem.Spec PyProof.Rows L2 PySem.NumText
def dg (m:Nat):List Nat:=(Nat.toDigits 10 m).map Char.toNat
def tx (n:Int):Str:=Q8 (toString n)
def adP:Str:=Q8 "/"
def nt (q:Int×Int):Str:=if q.2=1 then tx q.1 else tx q.1++adP++tx q.2
def isStar:Expr->Bool
 | .Starred .. =>true
 | _=>false
def ab3 {es:Β}(h:isStar e=false):DI (e::es) env=(false,DC e env)::DI es env:=by
 cases e<;>first|rfl|(cases h;done)
def rR (ha:PE X e te)(hr:PA X es t)(h:isStar e=false:=by rfl):PA X (e::es) (qG te t):=ahA ha hr (ab3 h)
def JT:List Expr->Option (List Str)
 | []=>some []
 | .Constant (.str x) _ _::r=>(JT r).map (x::·)
 | _=>none
def adQ (xs:θ):TA:=fun _ H Q=>Q (xs.map V.str) H
def alB (xs:θ){es:Β}(h:JT es=some xs):PA X es (adQ xs):=by
 induction es generalizing xs with
 | nil=>cases h;exact iV
 | cons e es ih=>
  unfold JT at h;split at h
  ·rename_i h0;cases h0
  ·rename_i x j pos r h0
   cases h0;cases hr:JT es with
   | none=>erw [hr] at h
   | some ys=>
    erw [hr] at h;exact rR bT (ih ys hr)
  ·cases h
end Ty
namespace Ty
open PySem PySem.Spec PyProof.Rows L2
section
variable {D:AO}{te:TE}{oY:L2.St}{H1:Hp}{Q:VK}
def cx (D:AO)(H H':Hp):Prop:=∀b o,b≠D->H b=some o->H' b=some o
def cx.of (s:aq H H'):cx D H H':=fun b o _ e=>s b o e
theorem cx.upd :cx D H (upd H D o):=fun b o' n e=>by rwa [ah n]
def zab (n:Nat)(xs:Nat->V)(Rel:Nat->V->Hp->Prop)(nD:H1 D=none)(hn:n<BZ)
  (go:∀i H,i<n->aq H1 H->J.go i H/\∀x H',J.Mr i H x H' ->H'=H/\x=xs i) (stop:∀H,aq H1 H->J.stop n H)
  (hR:∀i v H H' ys,H D=some (.lst ys)->cx D H H' ->Rel i v H->Rel i v H')
  (he:∀i H (R:VK),i<n->aq H1 H->(∀v H6,aq H H6->Rel i v H6->R v H6)->te (some (xs i)::oY) H R)
  (hd:∀ys H,ys.length=n->(∀i v,ys[i]?=some v->Rel i v H)->aq H1 H->H D=some (.lst ys)->Q (.ref D) H):
  pU D (cG 0) mQ te J (none::oY) H1 Q:=by
 refine xY n xs (fun i ys H=>ys.length=i/\(∀i v,ys[i]?=some v->Rel i v H)/\aq H1 H) ⟨rfl,fun i v e=>by simp at e,fun b o e=>by rwa [ah (ak e nD)]⟩ ?_ ?_ ?_ ?_
 ·rintro i ys H hi ⟨_,_,s⟩
  exact go i H hi s
 ·rintro ys H ⟨_,_,s⟩
  exact stop H s
 ·rintro i ys H R hi ⟨l,r,s⟩ hD k
  refine he i H R hi s fun v H6 s6 rv=>k v H6 (s6 _ _ hD) ci ⟨by simp [l],fun j u e=>?_,fun b o e=>?_⟩
  ·by_cases c:j<ys.length
   ·rw [Nu c] at e
    let ru:=hR j u H H6 ys hD (cx.of s6) (r j u e);exact hR j u H6 _ ys (s6 _ _ hD) cx.upd ru
   ·rw [Qw ci] at e
    let ej:j=i:=by
     by_cases z:j-ys.length=0
     ·omega
     ·rw [HX (by simp;omega)] at e
      cases e
    subst ej
    have:v=u:=by
     rw [show j-ys.length=0 by omega] at e;exact MY e
    subst this;exact hR j v H6 _ ys (s6 _ _ hD) cx.upd rv
  ·rw [ah (ak e nD)]
   exact s6 _ _ (s _ _ e)
 ·rintro ys H ⟨l,r,s⟩ hD
  exact hd ys H l r s hD
def dE {K:Frag}(Rel:Nat->V->Hp->Prop)(nD:H1 D=none)(hn:xs.length<BZ)(hS:∀H,aq H1 H->aK K H a xs)
  (hR:∀i v H H' ys,H D=some (.lst ys)->cx D H H' ->Rel i v H->Rel i v H')
  (he:∀i x H (R:VK),xs[i]?=some x->aq H1 H->(∀v H6,aq H H6->Rel i v H6->R v H6)->te (some x::oY) H R)
  (hd:∀ys H,ys.length=xs.length->(∀i v,ys[i]?=some v->Rel i v H)->aq H1 H->H D=some (.lst ys)->Q (.ref D) H):
  pU D (cG 0) mQ te (Ve K a) (none::oY) H1 Q:=by
 refine zab xs.length (fun i=>(xs[i]?).getD .cO) Rel nD hn (fun i H hi s=>⟨⟨xs,xs[i],hS H s,gE hi⟩,fun x H' y=>⟨y.1,?_⟩⟩) (fun H s=>⟨xs,hS H s,DH _⟩) hR (fun i H R hi s k=>?_) hd
 ·rw [y.2 xs (hS H s)];rfl
 ·let e:xs[i]?=some xs[i]:=gE hi
  let k':=he i _ H R e s k;rw [<-(show (xs[i]?).getD .cO=xs[i] by rw [e];rfl)] at k';exact k'
end
section
variable {X:Cx}{pX:ε}{Z:L2.St}{H:Hp}{s:BW}{h':Heap}
def Inv.nZ {fp:υ}(I:Inv X pX Z H s)(k:∀b o,b∉fp->s.heap.get? b=some o->h'.get? b=some o)(hf:∀b∈fp,ma X pX H b):Inv X pX Z H {s with heap:=h',toks:=t'}:=by
 let XT:∀b u,H b=some u->b∉fp:=fun b u e z=>by erw [(hf b z).1] at e
 refine I.step (g':=s.gens) (d':=s.drawn) (ch:=fp) (fun b hb=>?_) (fun b o _ _ hc e _=>k b o hc e) (fun b o _ _ hc e _=>⟨o.slots,k b o hc e⟩) (fun _ _ _ _ n=>n)
  (fun b o hc e=>⟨o,k b o hc e⟩) (fun _ _ e=>e) (fun _ _ _ e=>e) (fun b ps e=>⟨#[],by rw [e];simp⟩) (fun m hm=>?_) (fun b u e=>?_) I.bare
 ·obtain ⟨f0,f1,f2,f3,f4,f5⟩:=hf b hb
  show ⟨f3,f1,f4,f5⟩
 ·obtain ⟨o,es,ep,ho,r⟩:=hm
  show ⟨o,es,ep,k _ o (fun z=>(hf _ z).2.1 rfl) ho,r⟩
 ·refine (I.bH b u e).mK (fun c v hc q=>k c v ?_ q) (fun _ q=>q) fun _ _ q=>q
  rcases hc with z|z
  ·rw [z];exact XT b u e
  ·exact XT c _ z
def Inv.rS {fp:υ}{T:AO}{xs:ζ}{AU:ν}(I:Inv X pX Z H s)(k:∀b o,b∉fp->s.heap.get? b=some o->h'.get? b=some o)(hf:∀b∈fp,ma X pX H b)(hT:s.heap.objs.size<=T)
  (hz:xs.length<=BZ) (rv:Vals xs AU) (ht:IsTup h' T AU.toArray):Inv X pX Z (upd H T (.tup xs)) {s with heap:=h',toks:=t'}:=by
 let hn:=I.bH.fresh hT;let XT:∀b u,H b=some u->b∉fp:=fun b u e z=>by erw [(hf b z).1] at e
 let ne:∀b o,s.heap.get? b=some o->b≠T:=fun b o e=>MV (Mt (FG e) hT)
 refine I.step (g':=s.gens) (d':=s.drawn) (ch:=fp) (fun b hb=>?_) (fun b o _ _ hc e _=>k b o hc e) (fun b o _ _ hc e _=>⟨o.slots,k b o hc e⟩) (fun b o _ e n=>by rwa [ah (ne b o e)])
  (fun b o hc e=>⟨o,k b o hc e⟩) (fun b ys e=>by rwa [ah (ak e hn)]) (fun b o u e=>by rwa [ah (ak e hn)]) (fun b ps e=>⟨#[],by rw [ah (ak e hn),e];simp⟩) (fun m hm=>?_) (fun b u e=>?_) I.bare
 ·obtain ⟨f0,f1,f2,f3,f4,f5⟩:=hf b hb
  show ⟨f3,f1,f4,f5⟩
 ·obtain ⟨o,es,ep,ho,r⟩:=hm
  show ⟨o,es,ep,k _ o (fun z=>(hf _ z).2.1 rfl) ho,r⟩
 ·by_cases hb:b=T
  ·subst hb
   erw [ag] at e;show ⟨hz,AU,rv,ht⟩
  ·rw [ah hb] at e
   refine (I.bH b u e).mK (fun c v hc q=>k c v ?_ q) (fun c q=>by rwa [ah (ak q hn)]) fun c ys q=>by rwa [ah (ak q hn)]
   rcases hc with z|z
   ·rw [z];exact XT b u e
   ·exact XT c _ z
end
def ZX (K:Frag)(a b:AO):It:=
 ⟨fun i H=>∃xs ys x y,aK K H a xs/\aK K H b ys/\xs[i]?=some x/\ys[i]?=some y,
  fun i H v H'=>∃p x y,(∀xs,aK K H a xs->xs[i]?=some x)/\(∀ys,aK K H b ys->ys[i]?=some y)/\v=.ref p/\H p=none/\H'=upd H p (.tup [x,y]),
  fun i H=>∃xs ys,aK K H a xs/\aK K H b ys/\(xs.length<=i\/ys.length<=i)⟩
def ahe {K:Frag}{es:Β}(a b z TI TO i1 i2:AO)(D:ZipApart z TI TO i1 i2 a b):
  Turn P w K (.Tuple es k pos) (ZX K a b) [z,TI,TO,i1,i2] z (fun i h=>Nv h z TI TO .none/\MU h TI (.ref i1) (.ref i2)/\(∃x y,MU h TO x y)/\h.IsListIter i1 a i/\h.IsListIter i2 b i) where
 mem:=by simp
 obj:=fun i h st c hc=>by
  obtain ⟨hz,gL,⟨x,y,lR⟩,⟨o1,e1,c1,d1⟩,⟨o2,e2,c2,d2⟩⟩:=st;have pD :c=z\/c=TI\/c=TO\/c=i1\/c=i2:=by simpa using hc
  rcases pD with e|e|e|e|e<;>subst e
  ·show ⟨_,hz,fun v z=>by cases z⟩
  ·show ⟨_,gL,fun v z=>by cases z⟩
  ·show ⟨_,lR,fun v z=>by cases z⟩
  ·show ⟨_,e1,fun v z=>by erw [d1] at z⟩
  ·show ⟨_,e2,fun v z=>by erw [d2] at z⟩
 keep:=fun i h h' st k=>by
  obtain ⟨hz,gL,⟨x,y,lR⟩,h1,h2⟩:=st;show ⟨k z dL _ hz,k TI dL _ gL,⟨x,y,k TO dL _ lR⟩,h1.at fun o e=>k i1 dL o e,h2.at fun o e=>k i2 dL o e⟩
 item:=by
  intro X hP hw hK hc i pX s Z H E I hf st hg;subst hP hw hK;obtain ⟨hz,gL,⟨x0,y0,lR⟩,h1,h2⟩:=st;obtain ⟨xs,ys,x,y,qx,qy,ex,ey⟩:=hg;obtain ⟨AU,rv,p,_⟩:=I.list qx;obtain ⟨ZY,ra,p',_⟩:=I.list qy;obtain ⟨u,hu,ru⟩:=rv.get ex;obtain ⟨v,hv,rv'⟩:=ra.get ey;refine wpAny_pyNext_zip_item D hz gL lR h1 h2 p.isList p'.isList (x:=u) (y:=v) (by simpa using hu) (by simpa using hv) fun h' a1 a2 a3 a4 a5 a6 a7=>?_;show ⟨_,rfl,wpAny_letOwnedTupleGo_zip (s:={s with heap:=h'}) a1 fun JU b1 sb=>?_⟩;let nz:∀c,c≠z->∀o,h'.get? c=some o->JU.get? c=some o:=fun c hc o e=>(sb.2 c hc).trans e
  let kk:∀b o,b∉[z,TI,TO,i1,i2]->s.heap.get? b=some o->JU.get? b=some o:=fun b o hb e=>by
   have fw :b≠z/\b≠TI/\b≠TO/\b≠i1/\b≠i2:=by simpa using hb
   exact nz b fw.1 o (a7 b o fw.1 fw.2.2.1 fw.2.2.2.1 fw.2.2.2.2 e)
  let sz:∀c o,s.heap.get? c=some o->s.heap.objs.size≠c:=fun c o e=>V9 (FG e);let tz:s.heap.objs.size≠z:=sz _ _ hz;let hn:=I.bH.fresh (DH s.heap.objs.size)
  let I2:Inv X pX Z (upd H s.heap.objs.size (.tup [x,y])) {s with heap:=JU,toks:=s.toks}:=
   Inv.rS I kk hf (DH _) (by show 2<=BZ;decide) (AU:=[u,v]) (.cons ru (.cons rv' .nil)) ⟨_,nz _ tz _ a5,rfl,_,rfl⟩
  show ⟨.ref s.heap.objs.size,_,I2,rfl,⟨s.heap.objs.size,x,y,fun xs' q=>by rwa [I.jb q qx],fun ys' q=>by rwa [I.jb q qy],rfl,hn,rfl⟩,⟨b1,nz _ D.TIz _ (a7 _ _ D.TIz D.TITO D.TIi1 D.TIi2 gL),⟨_,_,nz _ D.TOz _ a2⟩,a3.at fun o e=>nz _ D.i1z o e,a4.at fun o e=>nz _ D.i2z o e⟩,fun b hb=>?_⟩
  let ob:∃o,s.heap.get? b=some o:=by
   obtain ⟨o1,e1,_⟩:=h1;obtain ⟨o2,e2,_⟩:=h2;have pD :b=z\/b=TI\/b=TO\/b=i1\/b=i2:=by simpa using hb
   rcases pD with e|e|e|e|e<;>subst e
   ·show ⟨_,hz⟩
   ·show ⟨_,gL⟩
   ·show ⟨_,lR⟩
   ·show ⟨_,e1⟩
   ·show ⟨_,e2⟩
  obtain ⟨o,e⟩:=ob;rw [ah (FN (sz _ _ e))];exact (hf b hb).1
 done:=by
  intro X hP hw hK hc i pX s Z H E I hf st hg;subst hP hw hK;obtain ⟨hz,gL,⟨x0,y0,lR⟩,h1,h2⟩:=st;obtain ⟨xs,ys,qx,qy,ee⟩:=hg;obtain ⟨AU,rv,p,_⟩:=I.list qx;obtain ⟨ZY,ra,p',_⟩:=I.list qy;let l1:=rv.length;let l2:=ra.length;refine wpAny_pyNext_zip_end (I.ok.hd hc) D hz gL lR h1 h2 p.isList p'.isList ?_ fun h' kk=>⟨rfl,Inv.nZ I (fun b o hb e=>?_) hf⟩
  ·rcases ee with e|e
   ·exact .inl (by simp;omega)
   ·exact .inr (by simp;omega)
  ·have fw :b≠z/\b≠TI/\b≠TO/\b≠i1/\b≠i2:=by simpa using hb
   exact kk b o fw.1 fw.2.2.1 fw.2.2.2.1 fw.2.2.2.2 e
 self:=fun _ _ _ _ _ st h=>ym st.1 h
def boot_zip:Nf "zip"=some (.type "zip"):=by decide+kernel
section
variable {X:Cx}
inductive Yp (K:Frag)(R:(It->Hp->Prop))(vs:ζ)(H1:Hp):Prop
|mk (a b:_)(_:vs=[.ref a,.ref b])(_:(∃xs,aK K H1 a xs))(_:(∃ys,aK K H1 b ys))(_:R (ZX K a b) H1)
def amk (K:Frag)(ta:TA):TI:=fun Z H R=>ta Z H fun vs H1=>Yp K R vs H1
def xZ {p pos:Pos}{es:Β}{k:Nat}{xy:Pos}(hg:Gl X "zip")(hm:X.mg "zip"=none)(ha:PA X [e1,e2] ta)(hs:DI [e1,e2] X.env=[(false,DC e1 X.env),(false,DC e2 X.env)]:=by rfl)(wj:DI [e2] X.env=[(false,DC e2 X.env)]:=by rfl):
  PI X (.Tuple es k xy) (.Call (.Name "zip" p) [e1,e2] [] pos) (amk X.K ta):=by
 intro pX s Z H R I h;refine Call_ (iS I hg hm boot_zip (Vp (cI (ha pos pX s Z H _ I h) fun us s1 ⟨vs,H1,I1,r1,q1⟩=>?_) (by rw [hs,wj]) (by rw [wj];rfl)));obtain ⟨a,b,e,⟨xs,hx⟩,⟨ys,hy⟩,q⟩:=q1;subst e;cases r1 with
 | cons r rr=>
  cases rr with
  | cons r' rr=>
   cases rr;cases r;cases r';obtain ⟨AU,rv,pl,_⟩:=I1.list hx;obtain ⟨ZY,ra,pl',_⟩:=I1.list hy;let lt1:a<s1.heap.objs.size:=by obtain ⟨o,ho,_⟩:=pl.isList;exact FG ho
   let lt2:b<s1.heap.objs.size:=by obtain ⟨o,ho,_⟩:=pl'.isList;exact FG ho
   refine call_zip_2 pl.isList pl'.isList fun h' hz gL lR wI ZZ hsz hk=>ym (s:={s1 with heap:=h'}) hz ?_;show ⟨s1.heap.objs.size+4,[s1.heap.objs.size+4,s1.heap.objs.size+2,s1.heap.objs.size+3,s1.heap.objs.size,s1.heap.objs.size+1],_,_,H1,rfl,I1.kept (t':=s1.toks) hk,ahe a b _ _ _ _ _ ?_,⟨hz,gL,⟨_,_,lR⟩,wI,ZZ⟩,fun c hc=>?_,q⟩
   ·constructor<;>(intro z;simp only [AO] at*;omega)
   ·have pD :s1.heap.objs.size<=c:=by
     have:c=s1.heap.objs.size+4\/c=s1.heap.objs.size+2\/c=s1.heap.objs.size+3\/c=s1.heap.objs.size\/c=s1.heap.objs.size+1:=by simpa using hc
     simp only [AO] at*;omega
    exact I1.rf pD (I1.bH.fresh pD)
theorem qM (ns:ξ)(val:Nat->Int)(hv:∀i (h:i<ns.length),val i=ns[i]):∀j,j<=ns.length->preSum val j=(ns.take j).sum
 | 0,_=>by simp [preSum]
 | j+1,h=>by
  rw [preSum,qM ns val hv j ci,hv j ci,List.take_succ_eq_append_getElem ci,amd];simp
inductive adS (K:Frag)(xs:ζ)(H:Hp)(Q:VK):Prop
|mk (p:AO)(ns:ξ)(_:xs=[.ref p])(_:aK K H p (ns.map V.int))(_:Q (.int ns.sum) H)
def aha (hc:X.calm=true):iE X (.builtin "sum") (adS X.K):=by
 intro pX s Z H xs us Q I r h;obtain ⟨p,ns,rfl,hq,q⟩:=h;obtain ⟨u,rfl,r1⟩:=vals1 r;cases r1;obtain ⟨AU,rv,pl,hz⟩:=I.list hq;let hlen:=rv.length;rw [ir] at hlen;refine call_sum_walkG (QI pl.isList ?_);let JQ:p≠s.heap.objs.size:=by obtain ⟨o,ho,_⟩:=pl.isList;exact MV (FG ho)
 show ⟨s.heap.objs.size,_,_,AU.toArray.size,_,_,fun i=>ns.getD i 0,rfl,Walks.list (by exact I.ok.hd hc) s.heap.objs.size p JQ AU.toArray,⟨⟨_,MD _ rfl,rfl,rfl⟩,pl.isList.at fun o e=>FK _ e⟩,fun b hb=>?_,fun i v hv=>?_,fun h' tk t' hk=>?_⟩
 ·have fw :b=s.heap.objs.size\/b=p:=by simpa using hb
  rw [RP]
  rcases fw with e|e
  ·rw [e];exact SY _
  ·rw [e]
   obtain ⟨o,ho,_⟩:=pl.isList;exact Wy (FG ho)
 ·have ZD :AU[i]?=some v:=by simpa using hv
  let hi:i<AU.length:=(Wp.mp ZD).1;have Yq :i<ns.length:=ci
  obtain ⟨u',hu,ru⟩:=rv.get (i:=i) (x:=.int ns[i]) (by rw [BJ,gE Yq];rfl);erw [ZD] at hu;obtain ⟨t,e⟩:=ru;show ⟨t,by rw [e];show Value.int ns[i] t=Value.int (ns.getD i 0) t;rw [Oq,gE Yq];rfl⟩
 ·let e:preSum (fun i=>ns.getD i 0) AU.toArray.size=ns.sum:=by
   rw [qM ns _ (fun i h=>by rw [Oq,gE h];rfl) _ (by simp;omega),SS (by simp;omega)]
  rw [e]
  let I2:Inv X pX Z H {s with heap:=h',toks:=tk}:=I.kept (t':=tk) fun b o eb=>hk b o (fun z=>by
   let z':b=s.heap.objs.size:=by simpa using z
   rw [z'] at eb
   exact CH (FG eb) (QX _)) (FK _ eb)
  show ⟨.int ns.sum,H,I2,⟨_,rfl⟩,q⟩
def boot_sum:Nf "sum"=some (.builtin "sum"):=by decide+kernel
inductive Q9 (K:Frag)(xs:ζ)(H:Hp)(Q:VK):Prop
|mk (p:AO)(ys:ζ)(_:xs=[.ref p])(_:aK K H p ys)(_:∀l,H l=none->Q (.ref l) (upd H l (.lst ys)))
def tu:iE X (.type "list") (Q9 X.K):=by
 intro pX s Z H xs us Q I r h;obtain ⟨p,ys,rfl,hq,q⟩:=h;obtain ⟨u,rfl,r1⟩:=vals1 r;cases r1;obtain ⟨AU,rv,⟨o,n,e,c,d1,d⟩,hz⟩:=I.list hq;let hlen:=rv.length;refine call_list_seq p (.inl rfl) e c d (fun h' c' hk hl=>?_) (by simp;omega);let hn:=I.bH.fresh (DH s.heap.objs.size);let I2:Inv X pX Z (upd H s.heap.objs.size (.lst ys)) {s with heap:=h',toks:=s.toks}:=I.laid (t':=s.toks) hk (DH _) ⟨hz,AU,c',rv,hl⟩;show ⟨.ref _,_,I2,rfl,q _ hn⟩
end
section
variable {X:Cx}{K:Frag}
def fF (h:X.K=K):ZF X (Vr K):=by subst h;exact sr
def tw (h:X.K=K):ZF X (Vq K):=by subst h;exact aQ
def x3 {k:Nat}{pos:Pos}(hK:X.K=K)(hc:X.calm=true)(h:PGs X es t)
  (hn:(Vo es X.env).length=n:=by rfl) (Qi:(Vo es X.env).findIdx? (·.1)=none:=by rfl):PG X (.Tuple es k pos) (Qh K n t):=by subst hK;exact iU hc h hn Qi
end
section
variable {D:AO}{te:TE}{oY:L2.St}{H1:Hp}{Q:VK}
def zv3 {K:Frag}(Rel:Nat->V->Hp->Prop)(nD:H1 D=none)(hn:xs.length<BZ)(hl:ys.length=xs.length)(hX:∀H,aq H1 H->aK K H a xs)(hY:∀H,aq H1 H->aK K H b ys)
  (hR:∀i v H H' ys,H D=some (.lst ys)->cx D H H' ->Rel i v H->Rel i v H')
  (he:∀i x y H (R:VK),xs[i]?=some x->ys[i]?=some y->aq H1 H->(∀v H6,aq H H6->Rel i v H6->R v H6)->te (some x::some y::oY) H R)
  (hd:∀zs H,zs.length=xs.length->(∀i v,zs[i]?=some v->Rel i v H)->aq H1 H->H D=some (.lst zs)->Q (.ref D) H):
  pU D (Qh K 2 (AE (cG 0) (AE (cG 1) Zx))) mQ te (ZX K a b) (none::none::oY) H1 Q:=by
 show ⟨fun i m Z zs H=>m=xs.length-i/\i<=xs.length/\(∃o o',Z=o::o'::oY)/\(zs.length=i/\(∀i v,zs[i]?=some v->Rel i v H)/\aq H1 H)/\H D=some (.lst zs),⟨xs.length,by simp,Mu _,⟨none,none,rfl⟩,⟨rfl,fun i v e=>by simp at e,fun b o e=>by rwa [ah (ak e nD)]⟩,ag⟩,?_⟩;rintro i m Z zs H ⟨rfl,hi,⟨o,o',rfl⟩,⟨l,r,s⟩,hD⟩;by_cases lM:i<xs.length
 ·let e1:xs[i]?=some xs[i]:=gE lM
  let e2:ys[i]?=some (ys[i]'ci):=gE ci;refine .inr ⟨⟨xs,ys,_,_,hX H s,hY H s,e1,e2⟩,fun v H' y=>?_⟩;obtain ⟨p,x,y,q1,q2,rfl,np,rfl⟩:=y;let e1:=q1 xs (hX H s);let e2:=q2 ys (hY H s);let sp:aq H (upd H p (.tup [x,y])):=fun b o e=>by rwa [ah (ak e np)]
  show ⟨p,_,rfl,bZ.of ag,rfl,_,_,rfl,_,_,rfl,rfl,?_⟩;unfold mQ;dsimp only;rw [mG rfl];refine he i x y _ _ e1 e2 (fun b o e=>sp _ _ (s _ _ e)) fun v H6 s6 rv=>⟨s6 _ _ (sp _ _ hD),ci,xs.length-(i+1),ci,rfl,ci,⟨_,_,rfl⟩,⟨by simp [l],fun j u e=>?_,fun b o e=>?_⟩,ag⟩
  ·by_cases c:j<zs.length
   ·rw [Nu c] at e
    let ru:=hR j u H H6 zs hD (cx.of fun b o q=>s6 _ _ (sp _ _ q)) (r j u e);exact hR j u H6 _ zs (s6 _ _ (sp _ _ hD)) cx.upd ru
   ·rw [Qw ci] at e
    let ej:j=i:=by
     by_cases z:j-zs.length=0
     ·omega
     ·rw [HX (by simp;omega)] at e
      cases e
    subst ej
    have:v=u:=by
     rw [show j-zs.length=0 by omega] at e;exact MY e
    subst this;exact hR j v H6 _ zs (s6 _ _ (sp _ _ hD)) cx.upd rv
  ·rw [ah (ak e nD)]
   exact s6 _ _ (sp _ _ (s _ _ e))
 ·let e:i=xs.length:=ci
  subst e;exact .inl ⟨⟨xs,ys,hX H s,hY H s,.inl (DH _)⟩,hd zs H l r s hD⟩
end
open Builtin.Int (intBits)
def adT:Nf "sum"=some (.builtin "sum"):=boot_sum
def vl (q:Int×Int):Rat:=(q.1:Rat) / (q.2:Rat)
structure Sm (T B:Nat)(q:Int×Int):Prop where
 pos:0<q.2
 low:MO q.1 q.2=1
 top:q.1.natAbs<=2^T
 bot:q.2.natAbs<=2^B
def eV {b:Int}(h:b≠0):(b:Rat)≠0:=by simpa using h
def ah7 (h:b≠0):vl (low t b)=(t:Rat) / (b:Rat):=by
 let c:=zaf (t:=t) h;let p:=lO (t:=t) h;let h1:=eV h;let h2:=eV (b:=(low t b).2) ci;let c':((low t b).1:Rat)*b=t*(low t b).2:=by exact_mod_cast c
 unfold vl;grind
def aby {t b u c:Int}(hb:b≠0)(hc:c≠0)(h:(t:Rat) / b=(u:Rat) / c):t*c=u*b:=by
 let h1:=eV hb;let h2:=eV hc;have:(t:Rat)*c=u*b:=by grind
 exact_mod_cast this
def acF (hq:0<q.2)(hr:0<r.2)(gq:MO q.1 q.2=1)(gr:MO r.1 r.2=1)(h:vl q=vl r):q=r:=by
 let c:=aby (t:=q.1) (b:=q.2) (u:=r.1) (c:=r.2) ci ci h;let e:=zav (t:=q.1) (b:=q.2) (u:=r.1) (c:=r.2) ci ci c;rw [sO hq gq,sO hr gr] at e;exact ZG (ph anp e) (ph anq e)
def ahd {b d:Int}(hd:d≠0)(h:d ∣ b):((b.fdiv d:Int):Rat)=(b:Rat) / d:=by
 let e:=cQ hd h;let h1:=eV hd;have:(b:Rat)=d*(b.fdiv d:Int):=by exact_mod_cast e
 grind
def Yr (ts:ξ)(qs:χ)(b:Int):Prop:=ts.length=qs.length/\∀(i:Nat)(t:Int)(q:Int×Int),ts[i]?=some t->qs[i]?=some q->(t:Rat)=vl q*b
def x4 {a b:Int}(h1:a.natAbs<=2^m)(h2:b.natAbs<=2^n):(a*b).natAbs<=2^(m+n):=by
 rw [VS,σ6];exact SV h1 h2
def ac5 {a b:Int}(h1:a.natAbs<=2^m)(h2:b.natAbs<=2^m):(a+b).natAbs<=2^(m+1):=by
 have:=sZ a b;rw [Wt];omega
def tD {a:Int}(h:a.natAbs<=2^m)(hm:m<=n):a.natAbs<=2^n:=CT h (Qn cr hm)
def lV (h:a.natAbs<=2^m)(hm:m<n):intBits a<=n:=intBits_le_iff.mpr (GG h (AJ cr hm))
def rT (h1:a.natAbs<=2^m)(h2:b.natAbs<=2^n)(hm:m<30000000)(hn:n<30000000):qI a b:=⟨CT (lV h1 hm) cr,CT (lV h2 hn) cr⟩
def Sm.up (h:Sm T B q)(hT:T<=T')(hB:B<=B'):Sm T' B' q:=⟨h.pos,h.low,tD h.top hT,tD h.bot hB⟩
def ahh {b d:Int}(hb:0<b)(hd:0<d):0<b.fdiv (gz b d)*d/\b ∣ b.fdiv (gz b d)*d/\d ∣ b.fdiv (gz b d)*d/\(b.fdiv (gz b d)*d).natAbs<=b.natAbs*d.natAbs:=by
 let gp:=xH (t:=b) (b:=d) ci;let g1:gz b d ∣ b:=tN ..;let g2:gz b d ∣ d:=tK ..;let e1:=cQ (g:=gz b d) ci g1;let e2:=cQ (g:=gz b d) ci g2;generalize gz b d=g at*
 let p1:0<b.fdiv g:=by
  rcases akJ (b.fdiv g) 0 with z|z|z
  ·exfalso
   have:=akH gp z;omega
  ·rw [z] at e1;omega
  ·exact z
 show ⟨V7 p1 hd,⟨d.fdiv g,?_⟩,⟨b.fdiv g,VR ..⟩,?_⟩
 ·have:b.fdiv g*d=b.fdiv g*(g*d.fdiv g):=by rw [<-e2]
  rw [this];let h3:b*d.fdiv g=g*b.fdiv g*d.fdiv g:=by rw [<-e1]
  rw [h3];rw [<-xw,VR (b.fdiv g) g]
 ·rw [VS]
  exact RU _ (by
   have:=eQ (g:=g) (a:=b.fdiv g) ci;rw [<-e1] at this
   exact this)
def acg {b:Int}(hq:0<q.2)(h:q.2 ∣ b):((q.1*b.fdiv q.2:Int):Rat)=vl q*b:=by
 let e:=ahd (b:=b) (d:=q.2) ci h;have:((q.1*b.fdiv q.2:Int):Rat)=q.1*((b.fdiv q.2:Int):Rat):=by push_cast;rfl
 rw [this,e];unfold vl;grind
def jg {b d:Int}(hd:d≠0)(h:d ∣ b):(b.fdiv d).natAbs<=b.natAbs:=by
 have:=eQ (g:=d) (a:=b.fdiv d) hd;rwa [<-cQ hd h] at this
section
variable {D:AO}{te:TE}{oY:L2.St}{H1:Hp}{Q:VK}
def ab_ (n:Nat)(xs:Nat->V)(Rel:Nat->V->Hp->Prop)(nD:H1 D=none)(hn:n<BZ)
  (go:∀i H,i<n->aq H1 H->J.go i H/\∀x H',J.Mr i H x H' ->H'=H/\x=xs i) (stop:∀H,aq H1 H->J.stop n H)
  (hR:∀i v H H' ys,H D=some (.lst ys)->cx D H H' ->Rel i v H->Rel i v H')
  (he:∀i H (R:VK),i<n->aq H1 H->(∃ys,H D=some (.lst ys))->(∀v H6,aq H H6->Rel i v H6->R v H6)->te (some (xs i)::oY) H R)
  (hd:∀ys H,ys.length=n->(∀i v,ys[i]?=some v->Rel i v H)->aq H1 H->H D=some (.lst ys)->Q (.ref D) H):
  pU D (cG 0) mQ te J (none::oY) H1 Q:=by
 refine xY n xs (fun i ys H=>ys.length=i/\(∀i v,ys[i]?=some v->Rel i v H)/\aq H1 H) ⟨rfl,fun i v e=>by simp at e,fun b o e=>by rwa [ah (ak e nD)]⟩ ?_ ?_ ?_ ?_
 ·rintro i ys H hi ⟨_,_,s⟩
  exact go i H hi s
 ·rintro ys H ⟨_,_,s⟩
  exact stop H s
 ·rintro i ys H R hi ⟨l,r,s⟩ hD k
  refine he i H R hi s ⟨_,hD⟩ fun v H6 s6 rv=>k v H6 (s6 _ _ hD) ci ⟨by simp [l],fun j u e=>?_,fun b o e=>?_⟩
  ·by_cases c:j<ys.length
   ·rw [Nu c] at e
    let ru:=hR j u H H6 ys hD (cx.of s6) (r j u e);exact hR j u H6 _ ys (s6 _ _ hD) cx.upd ru
   ·rw [Qw ci] at e
    let ej:j=i:=by
     by_cases z:j-ys.length=0
     ·omega
     ·rw [HX (by simp;omega)] at e
      cases e
    subst ej
    have:v=u:=by
     rw [show j-ys.length=0 by omega] at e;exact MY e
    subst this;exact hR j v H6 _ ys (s6 _ _ hD) cx.upd rv
  ·rw [ah (ak e nD)]
   exact s6 _ _ (s _ _ e)
 ·rintro ys H ⟨l,r,s⟩ hD
  exact hd ys H l r s hD
def tE {K:Frag}(Rel:Nat->V->Hp->Prop)(nD:H1 D=none)(hn:xs.length<BZ)(hS:∀H,aq H1 H->aK K H a xs)
  (hR:∀i v H H' ys,H D=some (.lst ys)->cx D H H' ->Rel i v H->Rel i v H')
  (he:∀i x H (R:VK),xs[i]?=some x->aq H1 H->(∃ys,H D=some (.lst ys))->(∀v H6,aq H H6->Rel i v H6->R v H6)->te (some x::oY) H R)
  (hd:∀ys H,ys.length=xs.length->(∀i v,ys[i]?=some v->Rel i v H)->aq H1 H->H D=some (.lst ys)->Q (.ref D) H):
  pU D (cG 0) mQ te (Ve K a) (none::oY) H1 Q:=by
 refine ab_ xs.length (fun i=>(xs[i]?).getD .cO) Rel nD hn (fun i H hi s=>⟨⟨xs,xs[i],hS H s,gE hi⟩,fun x H' y=>⟨y.1,?_⟩⟩) (fun H s=>⟨xs,hS H s,DH _⟩) hR (fun i H R hi s dd k=>?_) hd
 ·rw [y.2 xs (hS H s)];rfl
 ·let e:xs[i]?=some xs[i]:=gE hi
  let k':=he i _ H R e s dd k;rw [<-(show (xs[i]?).getD .cO=xs[i] by rw [e];rfl)] at k';exact k'
end
end Ty
namespace L2
open PySem PySem.Spec PyProof.Rows
section
variable {κ:Type}[DecidableEq κ]
def bB (AD:List (κ×V))(k:κ):Option V:=(AD.find? fun kv=>decide (kv.1=k)).map (·.2)
def putK (AD:List (κ×V))(k:κ)(v:V):List (κ×V):=
 if (AD.any fun kv=>decide (kv.1=k))=true then AD.map (fun kv=>if kv.1=k then (kv.1,v) else kv) else AD++[(k,v)]
def jh (AD:List (κ×V))(k:κ):List (κ×V):=AD.filter fun kv=>decide (kv.1≠k)
def bO {k:κ}(e:p.1=k):bB (p::r) k=some p.2:=by simp [bB,rm,e]
def bw {k:κ}(e:¬ p.1=k):bB (p::r) k=bB r k:=by simp [bB,rm,e]
theorem jk (k:κ):∀AD:List (κ×V),(AD.any fun kv=>decide (kv.1=k))=(bB AD k).isSome
 | []=>rfl
 | p::r=>by
  rw [rE];by_cases e:p.1=k
  ·simp only [bO e,Ms e,Bool.true_or,Option.isSome_some]
  ·rw [bw e,Nt e,Bool.false_or];exact jk k r
theorem zv2 (k j:κ)(y:V):∀AD:List (κ×V),bB (AD.map fun kv=>if kv.1=k then (kv.1,y) else kv) j=(bB AD j).map fun x=>if j=k then y else x
 | []=>rfl
 | p::r=>by
  let ih:=zv2 k j y r;rw [HU];by_cases h:p.1=k
  ·rw [mG h]
   by_cases e:p.1=j
   ·rw [bO (p:=(p.1,y)) e,bO e,rn,mG (e.symm.trans h)]
   ·rw [bw (p:=(p.1,y)) e,bw e,ih]
  ·rw [lH h]
   by_cases e:p.1=j
   ·rw [bO (p:=p) e,bO e,rn,lH (fun z=>h (e.trans z))]
   ·rw [bw (p:=p) e,bw e,ih]
theorem wJ (k j:κ)(y:V):∀AD:List (κ×V),bB AD k=none->bB (AD++[(k,y)]) j=if j=k then some y else bB AD j
 | [],_=>by
  by_cases e:k=j
  ·rw [mG e.symm];exact bO (p:=(k,y)) e
  ·rw [lH (fun z=>e z.symm)];exact bw (p:=(k,y)) e
 | p::r,hn=>by
  rw [akP];let hk:¬ p.1=k:=fun z=>by erw [bO z] at hn
  rw [bw hk] at hn;let ih:=wJ k j y r hn;by_cases e:p.1=j
  ·rw [bO e,bO e,lH (fun z=>hk (e.trans z))]
  ·rw [bw e,bw e,ih]
def jm (AD:List (κ×V))(k j:κ)(y:V):bB (putK AD k y) j=if j=k then some y else bB AD j:=by
 unfold putK;by_cases a:(AD.any fun kv=>decide (kv.1=k))=true
 ·rw [mG a,zv2]
  rw [jk] at a;by_cases e:j=k
  ·obtain ⟨x,hx⟩:=S1.mp a
   rw [mG e,e,hx,rn,mG rfl]
  ·rw [lH e]
   cases bB AD j with
   | none=>rfl
   | some x=>rw [rn,lH e]
 ·rw [lH a]
  refine wJ k j y AD ?_;rw [jk] at a;cases q:bB AD k with
  | none=>rfl
  | some x=>rw [q] at a;exact (a rfl).elim
def gy (AD:List (κ×V))(k:κ)(v:V):(putK AD k v).length<=AD.length+1:=by
 unfold putK;split
 ·rw [ir];omega
 ·rw [IA,Oy,akY];omega
def dw {k:κ}(v:V)(h:bB AD k=none):putK AD k v=AD++[(k,v)]:=by
 unfold putK;rw [jk,h];exact lH cr
def gK.jn {o:ω}(r:gK o u):o.isSome=u.isSome:=by
 cases o with
 | none=>cases u with
  | none=>rfl
  | some _=>exact (show False from r).elim
 | some _=>cases u with
  | none=>exact (show False from r).elim
  | some _=>rfl
theorem gK.getD {o:ω}(r:gK o u)(rd:RelV d d'):RelV (o.getD d) (u.getD d'):=by
 cases o with
 | none=>cases u with
  | none=>exact rd
  | some _=>exact (show False from r).elim
 | some _=>cases u with
  | none=>exact (show False from r).elim
  | some _=>exact r
def KV.val (r:KV AD vs)(k:κ):gK (bB AD k) (valueAt vs k):=by
 unfold KV at r
 induction r with
 | nil=>exact True.intro
 | @cons p q ps qs h t ih=>
  obtain ⟨h1,h2⟩:=h;by_cases e:p.1=k
  ·let e':q.1=k:=h1.symm.trans e
   let b:valueAt (q::qs) k=some q.2:=by simp [valueAt,rm,e']
   rwa [bO e,b]
  ·let e':¬ q.1=k:=fun z=>e (h1.trans z)
   let b:valueAt (q::qs) k=valueAt qs k:=by simp [valueAt,rm,e']
   rwa [bw e,b]
theorem KV.any (r:KV AD vs)(k:κ):(AD.any fun kv=>decide (kv.1=k))=vs.any fun kv=>decide (kv.1=k):=by
 unfold KV at r
 induction r with
 | nil=>rfl
 | cons h t ih=>rw [rE,rE,ih,h.1]
def KV.σ2 (r:KV AD vs)(k:κ)(ry:RelV y u):
  KV (AD.map fun kv=>if kv.1=k then (kv.1,y) else kv) (vs.map fun kv=>if kv.1=k then (kv.1,u) else kv):=by
 unfold KV at r ⊢
 induction r with
 | nil=>exact .nil
 | @cons p q ps qs h t ih=>
  rw [HU,HU];refine .cons ?_ ih;obtain ⟨h1,h2⟩:=h;by_cases e:p.1=k
  ·rw [mG e,mG (h1.symm.trans e)];show ⟨h1,ry⟩
  ·rw [lH e,lH (fun z=>e (h1.trans z))];show ⟨h1,h2⟩
def KV.put (r:KV AD vs)(k:κ)(ry:RelV y u):KV (putK AD k y) (stored vs k u):=by
 unfold putK stored;rw [r.any k];by_cases e:(vs.any fun kv=>decide (kv.1=k))=true
 ·rw [mG e,mG e];exact r.σ2 k ry
 ·rw [lH e,lH e];exact ZL r ⟨rfl,ry⟩
def KV.drop (r:KV AD vs)(k:κ):KV (jh AD k) (without vs k):=by
 unfold KV at r ⊢;unfold jh without
 induction r with
 | nil=>exact .nil
 | @cons p q ps qs h t ih=>
  obtain ⟨h1,h2⟩:=h;rw [Ru,Ru];by_cases e:p.1=k
  ·let a:¬ decide (p.1≠k)=true:=by simp [e]
   let b:¬ decide (q.1≠k)=true:=by simp [h1.symm.trans e]
   rwa [lH a,lH b]
  ·let e':¬ q.1=k:=fun z=>e (h1.trans z)
   let a:decide (p.1≠k)=true:=by simp [e]
   let b:decide (q.1≠k)=true:=by simp [e']
   rw [mG a,mG b];exact .cons ⟨h1,h2⟩ ih
def KV.keys {vs:List (κ×Value)}(r:KV AD vs):AD.map (·.1)=vs.map (·.1):=by
 unfold KV at r
 induction r with
 | nil=>rfl
 | cons h t ih=>rw [HU,HU,ih,h.1]
theorem KV.length {vs:List (κ×Value)}(r:KV AD vs):AD.length=vs.length:=HR r
def zv1 (AD:List (κ×V))(k:κ):(jh AD k).length<=AD.length:=uf _ _
end
def n_ (r:RelV (kV k) u):(bq P w).is k u=true:=by
 cases k with
 | inl i=>obtain ⟨t,e⟩:=(show ∃t,u=Value.int i t from r);subst e;exact ah2 P w i t
 | inr x=>obtain ⟨t,e⟩:=(show ∃t,u=Value.str x t from r);subst e;exact ahB P w x t
theorem wK :∀{ks:List Key} {us:ν},Vals (ks.map kV) us->ItemsAre (bq P w) ks us
 | [],_,r=>by erw [yE] at r;exact .nil
 | k::ks,_,r=>by
  rw [HU] at r;cases r with
  | cons h t=>exact .cons (n_ h) (wK t)
abbrev KT (H:Hp):List (List Key×V)->List (List Key×AO×Value)->Prop:=Paired fun p q=>p.1=q.1/\H q.2.1=some (.tup (p.1.map kV))/\RelV p.2 q.2.2
def KT.val {AD:Ρ}{xs:Τ}(r:KT H AD xs)(k:List Key):gK (bB AD k) ((atKey xs k).map (·.2)):=by
 induction r with
 | nil=>exact True.intro
 | @cons p q ps qs h t ih=>
  obtain ⟨h1,_,h2⟩:=h;by_cases e:p.1=k
  ·let e':q.1=k:=h1.symm.trans e
   let b:atKey (q::qs) k=some q.2:=by simp [atKey,rm,e']
   rwa [bO e,b]
  ·let e':¬ q.1=k:=fun z=>e (h1.trans z)
   let b:atKey (q::qs) k=atKey qs k:=by simp [atKey,rm,e']
   rwa [bw e,b]
def KT.σ2 {AD:Ρ}{xs:Τ}(r:KT H AD xs)(k:List Key)(ry:RelV y u):
  KT H (AD.map fun kv=>if kv.1=k then (kv.1,y) else kv) (xs.map (putAt k u)):=by
 induction r with
 | nil=>exact .nil
 | @cons p q ps qs h t ih=>
  rw [HU,HU];refine .cons ?_ ih;obtain ⟨h1,h2,h3⟩:=h;unfold putAt;by_cases e:p.1=k
  ·rw [mG e,mG (h1.symm.trans e)];show ⟨h1,h2,ry⟩
  ·rw [lH e,lH (fun z=>e (h1.trans z))];show ⟨h1,h2,h3⟩
def KT.put {AD:Ρ}{xs:Τ}(r:KT H AD xs)(k:List Key)(hb:H b=some (.tup (k.map kV)))(ry:RelV y u):
  KT H (putK AD k y) (storedH xs k b u):=by
 let e:(AD.any fun kv=>decide (kv.1=k))=(atKey xs k).isSome:=by
  rw [jk,(r.val k).jn,akK]
 unfold putK storedH;rw [e];by_cases q:(atKey xs k).isSome=true
 ·rw [mG q,mG q];exact r.σ2 k ry
 ·rw [lH q,lH q];exact ZL r ⟨rfl,hb,ry⟩
def KT.keeps {AD:Ρ}{xs:Τ}(r:KT H AD xs)(ht:∀b ys,H b=some (.tup ys)->H' b=some (.tup ys)):KT H' AD xs:=
 Paired.dc r fun _ _ z=>⟨z.1,ht _ _ z.2.1,z.2.2⟩
section
variable {P:FL}{w:World}{H:Hp}{h:Heap}{a:AO}
def Ys (ok:jz P w H h)(e:Rd H a u):bW P w H h a u:=e.ok ok
def jY (ok:jz P w H h)(e:Rd H a (.dK AD)):AD.length<=BZ/\(a==Nr)=false/\∃vs,KV AD vs/\h.DictOf (bq P w) a vs:=
 show bW P w H h a (.dK AD) from Ys ok e
def mB (ok:jz P w H h)(e:H a=some (.dK AD)):AD.length<=BZ/\(a==Nr)=false/\∃vs,KV AD vs/\h.DictOf (bq P w) a vs:=jY ok (.inl e)
def pV (ok:jz P w H h)(e:H a=some (.tup (ks.map kV))):(tupleKind (bq P w)).is h ks a:=by
 obtain ⟨_,AU,r,o,h1,h2,n,h3⟩:=(show bW P w H h a (.tup (ks.map kV)) from ok a _ e);show ⟨o,AU.toArray,n,h1,h2,h3,by simpa using wK r⟩
def tF (ok:jz P w H h)(e:Rd H a (.dT AD)):AD.length<=BZ/\(a==Nr)=false/\
  ∃xs,KT H AD xs/\h.DictOfH (tupleKind (bq P w)) a xs:=by
 obtain ⟨z,y,xs,r,o,es,ep,h1,h2,h3,h4,h5⟩:=(show bW P w H h a (.dT AD) from Ys ok e);show ⟨z,y,xs,r,o,es,ep,h1,h2,h3,h4,fun x hx=>?_,h5⟩
 let all:∀{l:Ρ} {m:Τ},KT H l m->∀x∈m,(tupleKind (bq P w)).is h x.1 x.2.1:=by
  intro l m q
  induction q with
  | nil=>intro x hx;exact nomatch hx
  | @cons p q ps qs hq t ih=>
   intro x hx
   rcases M_.mp hx with e|hx
   ·subst e
    exact pV ok (by rw [<-hq.1];exact hq.2.1)
   ·exact ih x hx
 exact all r x hx
def adU (ok:jz P w H h)(e:H a=some (.dT AD)):AD.length<=BZ/\(a==Nr)=false/\
  ∃xs,KT H AD xs/\h.DictOfH (tupleKind (bq P w)) a xs:=tF ok (.inl e)
end
def dX (H:Hp)(a:AO)(y:V)(r:ω):Prop:=
 (∃AD k,Rd H a (.dK AD)/\y=kV k/\r=bB AD k)\/∃AD k b,Rd H a (.dT AD)/\y=.ref b/\H b=some (.tup (k.map kV))/\r=bB AD k
def gM (H:Hp)(a:AO)(y v:V)(H':Hp):Prop:=
 (∃AD k,H a=some (.dK AD)/\y=kV k/\AD.length<BZ/\H'=upd H a (.dK (putK AD k v)))\/
 ∃AD k b,H a=some (.dT AD)/\y=.ref b/\H b=some (.tup (k.map kV))/\AD.length<BZ/\H'=upd H a (.dT (putK AD k v))
theorem dX.k {AD:γ}{k:Key}(e:H a=some (.dK AD)):dX H a (kV k) (bB AD k):=.inl ⟨AD,k,.inl e,rfl,rfl⟩
theorem gM.k {AD:γ}{k:Key}(e:H a=some (.dK AD))(hl:AD.length<BZ):gM H a (kV k) v (upd H a (.dK (putK AD k v))):=.inl ⟨AD,k,e,rfl,hl,rfl⟩
section
variable {X:Cx}{pX:ε}{Z:St}{H:Hp}{s:BW}{a:AO}{y v:V}{u r:Value}{o:ω}{A:HL}{E:δ}
def Inv.big (I:Inv X pX Z H s):Nr<s.heap.objs.size:=by
 let h:FZ<s.heap.objs.size:=(I.mod.glob.keeps I.bk).lt;exact LL cr h
def ab9 {Q:δ}(hu:A.units+1<Nh)(I:Inv X pX Z H s)(g:dX H a y (some v))(ry:RelV y u)(h:∀w' s',Inv X pX Z H s' ->RelV v w' ->Q w' s'):
  AX (BD X.prog X.w) A (getItem (.ref a) u) Q E s:=by
 rcases g with ⟨AD,k,e,ey,l⟩|⟨AD,k,b,e,ey,eb,l⟩
 ·subst ey
  obtain ⟨z,hd,vs,rel,dd⟩:=jY I.bH e;obtain ⟨w',hw,ra⟩:=gK.some_of (v:=v) (o:=valueAt vs k) (by rw [l];exact rel.val k);exact wpAny_getItem_of (n_ ry) dd.mapOf hw (h w' _ (I.tok _) ra)
 ·subst ey
  cases (show u=Value.ref b from ry);obtain ⟨z,hd,xs,rel,dd⟩:=tF I.bH e;obtain ⟨w',hw,ra⟩:=gK.some_of (v:=v) (o:=(atKey xs k).map (·.2)) (by rw [l];exact rel.val k);obtain ⟨p,hp,hp2⟩:=GX.mp hw;refine wpAny_getItem_heap (yr hu) (pV I.bH eb) dd hp ?_;rw [hp2];exact h w' _ (I.tok _) ra
def aml {Q:δ}(hu:A.units+1<Nh)(I:Inv X pX Z H s)(g:dX H a y o)(ry:RelV y u)(h:∀s',Inv X pX Z H s' ->Q (.bool o.isSome) s'):
  AX (BD X.prog X.w) A (Nj .In u (.ref a)) Q E s:=by
 rcases g with ⟨AD,k,e,ey,l⟩|⟨AD,k,b,e,ey,eb,l⟩
 ·subst ey
  obtain ⟨z,hd,vs,rel,dd⟩:=jY I.bH e;refine wpAny_in_of (n_ ry) hd dd.mapOf ?_;rw [<-(rel.val k).jn,<-l];exact h _ (I.tok _)
 ·subst ey
  cases (show u=Value.ref b from ry);obtain ⟨z,hd,xs,rel,dd⟩:=tF I.bH e;refine wpAny_in_heap (yr hu) (pV I.bH eb) hd dd ?_;let q:=(rel.val k).jn;rw [akK] at q;rw [<-q,<-l];exact h _ (I.tok _)
def akI {Q:δ}(hu:A.units+1<Nh)(I:Inv X pX Z H s)(g:dX H a y o)(ry:RelV y u)(h:∀s',Inv X pX Z H s' ->Q (.bool (!o.isSome)) s'):
  AX (BD X.prog X.w) A (Nj .NotIn u (.ref a)) Q E s:=by
 rcases g with ⟨AD,k,e,ey,l⟩|⟨AD,k,b,e,ey,eb,l⟩
 ·subst ey
  obtain ⟨z,hd,vs,rel,dd⟩:=jY I.bH e;refine wpAny_notIn_of (n_ ry) hd dd.mapOf ?_;rw [<-(rel.val k).jn,<-l];exact h _ (I.tok _)
 ·subst ey
  cases (show u=Value.ref b from ry);obtain ⟨z,hd,xs,rel,dd⟩:=tF I.bH e;refine wpAny_notIn_heap (yr hu) (pV I.bH eb) hd dd ?_;let q:=(rel.val k).jn;rw [akK] at q;rw [<-q,<-l];exact h _ (I.tok _)
def og (I:Inv X pX Z H s)(mu:Mut (H a))(hs:SO a s.heap h')(he:∃q,h'.get? a=some q)(new:bW X.prog X.w (upd H a ob) h' a ob):
  Inv X pX Z (upd H a ob) {s with heap:=h',toks:=t'}:=
 I.write (x:=a) (e:=a) mu (.inl rfl) (fun b q hb z=>(hs.2 b hb).trans z) he new
def tG {AD:γ}(z:AD.length<=BZ)(hd:(a==Nr)=false)(rel:KV AD vs)(dd:h'.DictOf (bq P w) a vs):
  bW P w H' h' a (.dK AD):=⟨z,hd,vs,rel,dd⟩
def ahf {Q:Μ}(hu:A.units+1<Nh)(I:Inv X pX Z H s)(g:gM H a y v H')(ry:RelV y u)(rv:RelV v r)(h:∀s',Inv X pX Z H' s' ->Q () s'):
  AX (BD X.prog X.w) A (setItem (.ref a) u r) Q E s:=by
 rcases g with ⟨AD,k,e,ey,l,eH⟩|⟨AD,k,b,e,ey,eb,l,eH⟩
 ·subst ey eH
  obtain ⟨z,hd,vs,rel,dd⟩:=mB I.bH e;let hz:vs.length<=BZ:=by rwa [<-rel.length]
  let hl:(putK AD k v).length<=BZ:=by have:=gy AD k v;omega
  refine wpAny_setItem_pairs (hsz:=hz) (n_ ry) dd fun h' Py hs=>h _ ?_;let he:∃q,h'.get? a=some q:=let ⟨q,_,_,hq,_⟩:=Py;⟨q,hq⟩;exact og I (by rw [e];exact True.intro) hs he (tG hl hd (rel.put k rv) Py)
 ·subst ey eH
  cases (show u=Value.ref b from ry);obtain ⟨z,hd,xs,rel,dd⟩:=adU I.bH e;let hz:xs.length<=BZ:=by rwa [<-HR rel]
  let hl:(putK AD k v).length<=BZ:=by have:=gy AD k v;omega
  refine wpAny_setItem_heap (hsz:=hz) (yr hu) (pV I.bH eb) dd fun h' Py hs=>h _ ?_;obtain ⟨q,es,ep,hq,h2,h3,h4,_,h5⟩:=Py;refine og I (by rw [e];exact True.intro) hs ⟨q,hq⟩ ⟨hl,hd,_,(rel.put k eb rv).keeps fun c ys ec=>?_,q,es,ep,hq,h2,h3,h4,h5⟩;rwa [ah (acS ec e (fun z=>nomatch z))]
end
section
variable {X:Cx}{pX:ε}{Z:St}{H:Hp}{s:BW}{a:AO}{AD:γ}{k:Key}{u:Value}{A:HL}{E:δ}
def adW {more:ν}{Q:δ}(I:Inv X pX Z H s)(e:H a=some (.dK AD))(ry:RelV (kV k) u)(l:bB AD k=some v)(hm:more=[]\/∃x,more=[x])
  (h:∀w' s',Inv X pX Z (upd H a (.dK (jh AD k))) s' ->RelV v w' ->Q w' s'):AX (BD X.prog X.w) A (call (.builtin "dict.pop") (.ref a::u::more)) Q E s:=by
 obtain ⟨z,hd,vs,rel,dd⟩:=mB I.bH e;obtain ⟨w',hw,ra⟩:=gK.some_of (v:=v) (o:=valueAt vs k) (by rw [<-l];exact rel.val k)
 let hp:(keyPart u).isSome=true:=by
  cases k with
  | inl i=>obtain ⟨t,q⟩:=(show ∃t,u=Value.int i t from ry);subst q;rfl
  | inr x=>obtain ⟨t,q⟩:=(show ∃t,u=Value.str x t from ry);subst q;rfl
 let ha:argsOk "dict.pop" ⟨.ref a::u::more,[]⟩:=by
  rcases hm with q|⟨x,q⟩
  ·subst q;exact PySem.F.args_dict_pop_2 _ _
  ·subst q;exact PySem.F.args_dict_pop_3 _ _ _
 refine ZT PySem.F.slot_dict_pop dd.typeIs PySem.F.entry_dict_pop ha (meets_dict_pop_there (bq X.prog X.w) a (n_ ry) more hm hp)
  ⟨vs,w',dd,by rwa [<-rel.length],hw,fun h' Py hs=>h w' _ ?_ ra⟩
 let he:∃q,h'.get? a=some q:=let ⟨q,_,_,hq,_⟩:=Py;⟨q,hq⟩;exact og I (by rw [e];exact True.intro) hs he (tG (CT (zv1 AD k) z) hd (rel.drop k) Py)
def adX {Q:δ}(I:Inv X pX Z H s)(e:Rd H a (.dK AD))(h:∀t s',Inv X pX Z H s' ->Q (.int AD.length t) s'):AX (BD X.prog X.w) A (call (.builtin "len") [.ref a]) Q E s:=by
 obtain ⟨z,hd,vs,rel,dd⟩:=jY I.bH e;refine call_len_dict hd dd (by rw [<-rel.length];rw [xD] at z;omega) ?_;rw [<-rel.length];exact h _ _ (I.tok _)
end
def adY (i:Expr):Prop:=∀ov iv,subscripted i false ov iv=operate [ov,iv] (getItem ov iv)
def ahy {E:δ}{T id:String}{Q:δ}
  (hl:typeLookup (.type T) "__getitem__"=pure (some (.builtin id))) (hs:adY slice)
  (h:AX (BD prog w) A (DC value env) (fun o oW=>AX (BD prog w) A (DC slice env) (fun i uQ=>uQ.TypeIs o T/\AX (BD prog w) A (getItem o i) Q E uQ) E oW) E s):
  AX (BD prog w) A (DC (.Subscript value slice pos) env) Q E s:=by
 refine Subscript_ (L_ h (fun o oW rG=>L_ rG (fun i uQ uU=>?_) fun _ _ x=>x) fun _ _ x=>x);obtain ⟨hT,uU⟩:=uU;unfold subscriptTail;refine AP ?_;rw [getitemInPython_of_ne hT.not_modules];refine AP (wpAny_specialOf hT hl ?_)
 let fin:AX (BD prog w) A (subscripted slice false o i) (fun r s₃=>AX (BD prog w) A (letTemporaryGo value o r >>=fun _=>pure r) Q E s₃) E uQ:=by
  rw [hs o i];exact wpAny_operating (L_ uU (fun r s₃ h₃=>AP (wpAny_letTemporaryGo (B_ h₃))) fun _ _ x=>x)
 first
  | exact B_ (AP fin)
  | exact AP (B_ (AP fin))
  | exact AP fin
def lead {Z:St}(I:Inv X pX Z H s)(g:dX H a y o):s.TypeIs (.ref a) "dict":=by
 rcases g with ⟨AD,k,e,_,_⟩|⟨AD,k,b,e,_,_,_⟩
 ·obtain ⟨_,_,vs,_,dd⟩:=jY I.bH e
  exact dd.typeIs
 ·obtain ⟨_,_,xs,_,dd⟩:=tF I.bH e
  exact dd.typeIs
inductive Rb (Q:VK)(x:V)(y:V)(H2:Hp):Prop
|mk (a v:_)(_:x=.ref a)(_:dX H2 a y (some v))(_:Q v H2)
def adZ (td ty:TE):TE:=fun Z H Q=>td Z H fun x H1=>ty Z H1 fun y H2=>Rb Q x y H2
inductive Yt (Q:VK)(y:V)(x:V)(H2:Hp):Prop
|mk (a o:_)(_:x=.ref a)(_:dX H2 a y o)(_:Q (.bl o.isSome) H2)
def amm (ty td:TE):TE:=fun Z H Q=>ty Z H fun y H1=>td Z H1 fun x H2=>Yt Q y x H2
inductive BH (Q:VK)(y:V)(x:V)(H2:Hp):Prop
|mk (a o:_)(_:x=.ref a)(_:dX H2 a y o)(_:Q (.bl (!o.isSome)) H2)
def ahx (ty td:TE):TE:=fun Z H Q=>ty Z H fun y H1=>td Z H1 fun x H2=>BH Q y x H2
inductive Rc (D:Ends)(Z:L2.St)(v:V)(x:V)(y:V)(H3:Hp):Prop
|mk (a H4:_)(_:x=.ref a)(_:gM H3 a y v H4)(_:D.nx Z H4)
def ad0 (td ty tv:TE):TS:=fun D Z H=>tv Z H fun v H1=>td Z H1 fun x H2=>ty Z H2 fun y H3=>Rc D Z v x y H3
section
variable {X:Cx}{o i e value:Expr}{pos pos' xy:Pos}{td ty tv:TE}
def iG (hu:X.A.units+1<Nh)(ho:PE X o td)(hi:PE X i ty)(hs:adY i):PE X (.Subscript o i pos) (adZ td ty):=by
 intro pX s Z H Q I h;refine ahy PySem.F.slot_dict_getitem.lookup hs (cI (ho pX s Z H _ I h) fun u s1 ⟨x,H1,I1,rx,q1⟩=>cI (hi pX s1 Z H1 _ I1 q1) fun iv s2 ⟨y,H2,I2,ry,a,v,ex,g,q2⟩=>?_);subst ex;obtain rfl:u=Value.ref a:=rx;show ⟨lead I2 g,ab9 hu I2 g ry fun w' s3 I3 ra =>⟨v,H2,I3,ra,q2⟩⟩
def afv (hu:X.A.units+1<Nh)(hi:PE X i ty)(ho:PE X o td):PC X .In i o (amm ty td):=by
 intro pX s Z H Q I h;refine cI (hi pX s Z H _ I h) fun iv s1 ⟨y,H1,I1,ry,q1⟩=>cI (ho pX s1 Z H1 _ I1 q1) fun u s2 ⟨x,H2,I2,rx,a,ov,ex,g,q2⟩=>?_;subst ex;obtain rfl:u=Value.ref a:=rx;exact aml hu I2 g ry fun s3 I3=>⟨.bl ov.isSome,H2,I3,rfl,q2⟩
def wL (hu:X.A.units+1<Nh)(hi:PE X i ty)(ho:PE X o td):PC X .NotIn i o (ahx ty td):=by
 intro pX s Z H Q I h;refine cI (hi pX s Z H _ I h) fun iv s1 ⟨y,H1,I1,ry,q1⟩=>cI (ho pX s1 Z H1 _ I1 q1) fun u s2 ⟨x,H2,I2,rx,a,ov,ex,g,q2⟩=>?_;subst ex;obtain rfl:u=Value.ref a:=rx;exact akI hu I2 g ry fun s3 I3=>⟨.bl (!ov.isSome),H2,I3,rfl,q2⟩
def cy (hu:X.A.units+1<Nh)(ho:PE X o td)(hi:PE X i ty)(hv:PE X value tv)(hs:Sg value (some (.Subscript o i pos')) pos.line X.env=pure false):
  PS X (.Assign [.Subscript o i pos'] value pos) (ad0 td ty tv):=by
 intro pX s Z H D I h;refine wpAny_Assign_Subscript (cI (hv pX s Z H _ I h) fun r s1 ⟨v,H1,I1,rv,q1⟩=>cI (ho pX s1 Z H1 _ I1 q1) fun u s2 ⟨x,H2,I2,rx,q2⟩=>cI (hi pX s2 Z H2 _ I2 q2) fun iv s3 ⟨y,H3,I3,ry,a,H4,ex,g,q3⟩=>?_) hs;subst ex;obtain rfl:u=Value.ref a:=rx;exact ahf hu I3 g ry rv fun s4 I4=>⟨Z,H4,I4,q3⟩
end
def zay (h:Heap)(hb:Nr<h.objs.size):bW P w H (h.push {cls:=.type "dict",data:=.dict #[]}) h.objs.size (.dK []):=
 ⟨Mu _,beq_eq_false_iff_ne.mpr (FN (MV hb)),[],.nil,Heap.DictOf.new h⟩
def zv5:TE:=fun _ H Q=>∀p,H p=none->Q (.ref p) (upd H p (.dK []))
section
variable {X:Cx}{pos:Pos}
def cT:PE X (.Dict [] [] pos) zv5:=fun pX s Z H Q I h=>
 wpAny_Dict_empty ⟨.ref s.heap.objs.size,_,I.laid (a:=s.heap.objs.size) (o:=.dK []) (t':=s.toks) (fun _ _ q=>FK _ q) (DH _) (zay s.heap I.big),rfl,h _ (I.bH.fresh (DH _))⟩
end
def FX:List (TE×TE)->St->Hp->(List (V×V)->Hp->Prop)->Prop
 | [],_,H,Q=>Q [] H
 | (tk,tv)::r,Z,H,Q=>tk Z H fun x H1=>tv Z H1 fun y H2=>FX r Z H2 fun ps H3=>Q ((x,y)::ps) H3
abbrev VV:List (V×V)->List (Value×Value)->Prop:=Paired fun p q=>RelV p.1 q.1/\RelV p.2 q.2
def PPs (X:Cx)(pos:Pos)(keys:List (Option Expr))(values:Β)(VN:List (TE×TE)):Prop:=
 ∀(pX:ε)(s:BW)(Z:St)(H:Hp)(Q:List (V×V)->Hp->Prop),Inv X pX Z H s->FX VN Z H Q->
  AX (BD X.prog X.w) X.A (evalPairs (pairTrees keys values X.env pos)) (fun vs s'=>∃ps H',Inv X pX Z H' s'/\VV ps vs/\Q ps H') X.xe s
def amF :PPs X pos [] [] []:=fun pX s Z H Q I h=>pairTrees_nil_walk ⟨[],H,I,.nil,h⟩
def tI (hk:PE X k tk)(hv:PE X v tv)(hr:PPs X pos ks vs VN):
  PPs X pos (some k::ks) (v::vs) ((tk,tv)::VN):=fun pX s Z H Q I h=>
 pairTrees_cons_walk (cI (hk pX s Z H _ I h) fun u s1 ⟨x,H1,I1,rx,q1⟩=>cI (hv pX s1 Z H1 _ I1 q1) fun w2 s2 ⟨y,H2,I2,ry,q2⟩=>
  cI (hr pX s2 Z H2 _ I2 q2) fun ws s3 ⟨ps,H3,I3,rel,q3⟩=>⟨(x,y)::ps,H3,I3,.cons ⟨rx,ry⟩ rel,q3⟩)
def dj (AD more:γ):List (Key×V):=more.foldl (fun acc kv=>putK acc kv.1 kv.2) AD
def KV.merge:∀{more:γ} {rs:List (Key×Value)} {AD:γ} {vs:List (Key×Value)},KV more rs->KV AD vs->KV (dj AD more) (merged vs rs):=by
 intro more rs AD vs r;unfold KV at r
 induction r generalizing AD vs with
 | nil=>intro q;exact q
 | @cons p q ps qs h t ih=>
  intro r0
  let e:KV (putK AD p.1 p.2) (stored vs q.1 q.2):=by
   have:=r0.put p.1 h.2;rw [<-h.1];exact this
  exact ih e
theorem i5:∀(more AD:γ),(dj AD more).length<=AD.length+more.length
 | [],AD=>by show AD.length<=AD.length+0;omega
 | p::r,AD=>by
  let h1:=i5 r (putK AD p.1 p.2);let h2:=gy AD p.1 p.2;show (dj (putK AD p.1 p.2) r).length<=_;rw [Oy];omega
theorem tJ :∀{AD:γ} {ws:List (Value×Value)},VV (AD.map fun kv=>(kV kv.1,kv.2)) ws->∃rs,Carries (bq P w) ws rs/\KV AD rs
 | [],_,r=>by erw [yE] at r;show ⟨[],True.intro,.nil⟩
 | p::AD,_,r=>by
  rw [HU] at r;cases r with
  | @cons a b as bs h t=>
   obtain ⟨rs,c,q⟩:=tJ (P:=P) (w:=w) t;obtain ⟨b1,b2⟩:=b;show ⟨(p.1,b2)::rs,⟨n_ h.1,rfl,c⟩,.cons ⟨rfl,h.2⟩ q⟩
def ad1 (VN:List (TE×TE)):TE:=fun Z H Q=>∀p,H p=none->FX VN Z (upd H p (.dK [])) fun ps H2=>H2 p=some (.dK [])/\∃AD:List (Key×V),ps=AD.map (fun kv=>(kV kv.1,kv.2))/\AD.length<=15/\Q (.ref p) (upd H2 p (.dK (dj [] AD)))
def amE (h:PPs X pos keys values VN)(QF:keys.all (·.isSome)=true)(hl:keys.length=values.length)(h0:keys≠[])
  (h15:keys.length<=15):PE X (.Dict keys values pos) (ad1 VN):=by
 intro pX s Z H Q I q;let hn:=I.bH.fresh (DH s.heap.objs.size);let I1:=I.laid (a:=s.heap.objs.size) (o:=.dK []) (h':=s.heap.push {cls:=.type "dict",data:=.dict #[]}) (t':=s.toks) (fun _ _ q=>FK _ q) (DH _) (zay s.heap I.big);refine wpAny_Dict_walk (knd:=bq X.prog X.w) QF hl h0 h15 (cI (h pX _ Z _ _ I1 (q _ hn)) fun ws s2 ⟨ps,H2,I2,rel,e,AD,ep,lk,q2⟩=>?_);subst ep;obtain ⟨rs,c,rk⟩:=tJ (P:=X.prog) (w:=X.w) rel;obtain ⟨z,hd,vs0,r0,dd⟩:=mB I2.bH e;cases r0;show ⟨rs,c,dd,fun h' Py hs=>⟨.ref s.heap.objs.size,_,?_,rfl,q2⟩⟩
 let hz:(dj [] AD).length<=BZ:=by
  let h1:=i5 AD [];rw [akY] at h1;rw [xD];omega
 let he:∃q,h'.get? s.heap.objs.size=some q:=let ⟨q,_,_,hq,_⟩:=Py;⟨q,hq⟩;exact og I2 (by rw [e];exact True.intro) hs he (tG hz hd (rk.merge .nil) Py)
structure M1 (X:Cx)(o:Expr)(m:Str)(apos:Pos)(e:Expr)(cW:Pos):Prop where
 gw:V2 o m X.env (DC o X.env)=DC o X.env
 few:((MZ cW (DI [e] X.env)).all (fun x=> !x.1) && (backToKw cW (WJ [] X.env)).all (fun x=>x.1.isSome)
  && decide (([e]:List Expr).length+([]:List Keyword).length+(if ([]:List Keyword).isEmpty then 0 else 1)<30))=true
 line:(apos.endLine==cW.line)=true
 trees:MZ cW (DI [e] X.env)=[(false,DC e X.env)]
structure M2 (X:Cx)(o:Expr)(m:Str)(apos:Pos)(e f:Expr)(cW:Pos):Prop where
 gw:V2 o m X.env (DC o X.env)=DC o X.env
 few:((MZ cW (DI [e,f] X.env)).all (fun x=> !x.1) && (backToKw cW (WJ [] X.env)).all (fun x=>x.1.isSome)
  && decide (([e,f]:List Expr).length+([]:List Keyword).length+(if ([]:List Keyword).isEmpty then 0 else 1)<30))=true
 line:(apos.endLine==cW.line)=true
 trees:MZ cW (DI [e,f] X.env)=[(false,DC e X.env),(false,DC f X.env)]
def IsD (H:Hp)(a:AO):Prop:=(∃AD,Rd H a (.dK AD))\/∃AD,Rd H a (.dT AD)
def x5 {Z:St}(I:Inv X pX Z H s)(d:IsD H a):
  s.TypeIs (.ref a) "dict"/\(∀b,Value.ref a=.ref b->∃ob,s.heap.get? b=some ob/\ob.dict=none)/\(a==Nr)=false:=by
 rcases d with ⟨AD,e⟩|⟨AD,e⟩
 ·obtain ⟨_,hd,vs,_,dd⟩:=jY I.bH e
  show ⟨dd.typeIs,fun b q=>?_,hd⟩;cases q;obtain ⟨ob,_,_,h1,h2,_⟩:=dd;show ⟨ob,h1,h2.2.1⟩
 ·obtain ⟨_,hd,xs,_,dd⟩:=tF I.bH e
  show ⟨dd.typeIs,fun b q=>?_,hd⟩;cases q;obtain ⟨ob,_,_,h1,h2,_⟩:=dd;show ⟨ob,h1,h2.2.1⟩
section
variable {X:Cx}{pX:ε}{Z:St}{H:Hp}{s:BW}{a:AO}{y d:V}{u r:Value}{o:ω}{A:HL}{E:δ}
def zaQ {Q:δ}(hu:A.units+1<Nh)(I:Inv X pX Z H s)(g:dX H a y o)(ry:RelV y u)(rd:RelV d r)(h:∀w' s',Inv X pX Z H s' ->RelV (o.getD d) w' ->Q w' s'):
  AX (BD X.prog X.w) A (call (.builtin "dict.get") [.ref a,u,r]) Q E s:=by
 rcases g with ⟨AD,k,e,ey,l⟩|⟨AD,k,b,e,ey,eb,l⟩
 ·subst ey
  obtain ⟨z,hd,vs,rel,dd⟩:=jY I.bH e;refine ZT PySem.F.slot_dict_get dd.typeIs PySem.F.entry_dict_get (PySem.F.args_dict_get_3 _ _ _) (meets_dict_get_default (bq X.prog X.w) a (n_ ry) hd r) ⟨_,dd.mapOf,h _ _ (I.tok _) ?_⟩;rw [l];exact (rel.val k).getD rd
 ·subst ey
  cases (show u=Value.ref b from ry);obtain ⟨z,hd,xs,rel,dd⟩:=tF I.bH e;refine ZT PySem.F.slot_dict_get dd.typeIs PySem.F.entry_dict_get (PySem.F.args_dict_get_3 _ _ _) (meetsH_dict_get_default (tupleKind (bq X.prog X.w)) a b hd r) ⟨yr hu,k,xs,pV I.bH eb,dd,h _ _ (I.tok _) ?_⟩;rw [l];exact (rel.val k).getD rd
end
def amu (td ty tx:TE):TE:=fun Z H Q=>td Z H fun x H1=>∃a,x=.ref a/\IsD H1 a/\ty Z H1 fun y H2=>tx Z H2 fun z H3=>∃o,dX H3 a y o/\Q (o.getD z) H3
def akq (td ty:TE):TE:=fun Z H Q=>td Z H fun x H1=>∃a,x=.ref a/\IsD H1 a/\ty Z H1 fun y H2=>∃AD k v,H2 a=some (.dK AD)/\y=kV k/\bB AD k=some v/\Q v (upd H2 a (.dK (jh AD k)))
section
variable {X:Cx}{o e f:Expr}{apos cW:Pos}{td ty tx:TE}
def ip (hu:X.A.units+1<Nh)(ho:PE X o td)(he:PE X e ty)(hf:PE X f tx)(m:M2 X o "get" apos e f cW):PE X (.Call (.Attribute o "get" apos) [e,f] [] cW) (amu td ty tx):=by
 intro pX s Z H Q I h;refine wpAny_Call_method m.gw m.few m.line PySem.F.plainAttrs_dict PySem.F.slot_dict_get PySem.F.type_dict_get (cI (ho pX s Z H _ I h) fun u s1 ⟨x,H1,I1,rx,a,ex,d,q1⟩=>?_);subst ex;obtain rfl:u=Value.ref a:=rx;obtain ⟨t1,t2,_⟩:=x5 I1 d;show ⟨t1,t2,?_⟩;rw [m.trees]
 refine Zn rfl (Calls.evalArgs_plain (Wf (cI (he pX s1 Z H1 _ I1 q1) fun iv s2 ⟨y,H2,I2,ry,q2⟩=>
  Wf (cI (hf pX s2 Z H2 _ I2 q2) fun fv s3 ⟨z,H3,I3,rz,ov,g,q3⟩=>AB ?_))))
 exact zaQ hu I3 g ry rz fun w' s4 I4 ra =>⟨_,H3,I4,ra,q3⟩
def ade (ho:PE X o td)(he:PE X e ty)(m:M1 X o "pop" apos e cW):PE X (.Call (.Attribute o "pop" apos) [e] [] cW) (akq td ty):=by
 intro pX s Z H Q I h;refine wpAny_Call_method m.gw m.few m.line PySem.F.plainAttrs_dict PySem.F.slot_dict_pop PySem.F.type_dict_pop (cI (ho pX s Z H _ I h) fun u s1 ⟨x,H1,I1,rx,a,ex,d,q1⟩=>?_);subst ex;obtain rfl:u=Value.ref a:=rx;obtain ⟨t1,t2,_⟩:=x5 I1 d;show ⟨t1,t2,?_⟩;rw [m.trees];refine Zn rfl (Calls.evalArgs_plain (Wf (cI (he pX s1 Z H1 _ I1 q1) fun iv s2 ⟨y,H2,I2,ry,AD,k,v,ea,ey,l,q2⟩=>AB ?_)));subst ey;exact adW I2 ea ry l (.inl rfl) fun w' s3 I3 ra =>⟨v,_,I3,ra,q2⟩
end
end L2
namespace Ty
open PySem PySem.Spec PyProof.Rows L2
section
variable {X:Cx}
def ahl {Z:L2.St}(I:Inv X pX Z H s):s.heap.NoSeer:=I.ok.mod.seer.keeps I.bk
def cz.py (r:cz k A)(h:32<=k):A.depth+Builtin.pylongFrames<JV:=by
 have:=r.dp;have:Builtin.pylongFrames=100:=rfl;omega
def iu (ht:X.prog.given.tree=none)(hd:X.A.depth+Builtin.pylongFrames<JV)(Qi:X.stack=env::l)(h1:env.scope.isGenerator=false)(h2:env.scope.isCoroutine=false)(h3:env.builtins=builtinsNs)(h4:env.globals=FZ):
  km X (RG .FloorDiv) (rI ZM fun i j=>.int (i.fdiv j)):=by
 intro pX s Z H x y v u Q I rx ry h;obtain ⟨i,j,rfl,rfl,hc,q⟩:=h;obtain ⟨t,rfl⟩:=rx;obtain ⟨t',rfl⟩:=ry;exact floordiv_int hc ⟨.int _,H,I.tok _,⟨_,rfl⟩,q⟩ (.inr (PylongRoom.of I.nolimit hd (SeerAt.of (ahl I) ht (by rw [I.ok.frames,Qi]) h1 h2 h3 h4)))
end
section
variable {prog:FL}{w:World}{A:HL}{E:δ}{s:BW}{KK:Type}[DecidableEq KK]{knd:KeyKind prog w KK}
def ace (hm:s.heap.DictOf knd d AD)(h:Q false s):AX (BD prog w) A (Builtin.List.listLengthHint (.ref d)) Q E s:=by
 unfold Builtin.List.listLengthHint;refine AP (wpAny_specialOf (name:=Q8 "__len__") hm.typeIs F.slot_dict_len.lookup ?_);generalize hid:("dict.__len__":String)=id0
 wp_delta
 rw [show splitId id0=some ("dict","__len__") from by subst hid;decide+kernel];subst hid;refine AP (J_ (T:="dict") (b:=true) hm.typeIs (by rw [isSubtype_type];kernel_rfl) ?_);refine wpAny_ite_split (fun hab=>CH hab cr) (fun _=>?_);refine wpAny_ite_split (fun _=>?_) (fun hab=>CH (by decide+kernel) hab);refine AP (wpAny_typeOf (T:="dict") hm.typeIs ?_);exact B_ h
def aak {R:Θ}(hh:A.handled=none)(hd:(d==Nr)=false)(hm:s.heap.DictAt knd d AD ep)(hlen:AD.length<=BZ)(S:AO)(res:Value)(c₀:Nat)(hS:s.heap.get? S=some {cls:=.type "list",data:=.seq #[] c₀})
  (hR:∀h' tk kI c',(∀b o,b≠S->s.heap.get? b=some o->h'.get? b=some o)->h'.get? S=some {cls:=.type "list",dict:=none,data:=.seq kI c',slots:= #[]}->
   ItemsOf (fun i v=>∃k x,AD[i]?=some (k,x)/\knd.is k v=true) kI AD.length->R (.ok (.ret res)) {s with heap:=h',toks:=tk}):
  AX (BD prog w) A.in1 (QM (.ref S) (.ref d) res)
   (fun fin s'=>match fin with | .done f=>R (.ok f) s' | .again c'=>c'.quiet=true/\Nc (BD prog w) A c' R s') (fun e s'=>R (.error e) s') s:=by
 obtain ⟨od,es,Yj,r_,jJ,hk0,hp0,hn0⟩:=id hm;let hT:s.TypeIs (.ref d) "dict":=hm.dictOf.typeIs
 let hSd:S≠d:=fun e=>by
  rw [e] at hS;erw [hS] at Yj;cases jJ
 let hdI:d≠s.heap.objs.size:=MV (FG Yj);let hSI:S≠s.heap.objs.size:=MV (FG hS)
 let hSf:S∉[s.heap.objs.size,d]:=fun hm=>by
  rcases M_.mp hm with z|z
  ·exact hSI z
  ·exact hSd (GZ.mp z)
 let W:=(Walks.dictKeys (knd:=knd) (A:=A.in1) hh s.heap.objs.size d hdI AD ep).toS;unfold QM;refine AP (wpAny_typeOf (T:="dict") hT ?_);let h1:Builtin.List.listSameRef (.ref S) (.ref d)=false:=by simp [Builtin.List.listSameRef,hSd]
 let h2:(Value.type "dict"==Value.type "list")=false:=cr
 let h3:(Value.type "dict"==Value.type "tuple")=false:=cr
 simp only [h1,h2,h3,amR,uv,if_false];refine AP (wpAny_pyIter_dict hd hm ?_);let hm1:(s.heap.push {cls:=.type "dict_keyiterator",data:=.fields #[.ref d,.int 0 0,.int AD.length 0,.int ep 0]}).DictAt knd d AD ep:=hm.at' fun o e=>FK _ e;refine AP (Ot (ace (knd:=knd) hm1.dictOf ?_));let hS₁:=FK {cls:=.type "dict_keyiterator",data:=.fields #[.ref d,.int 0 0,.int AD.length 0,.int ep 0]} hS;let it₁:(s.heap.push {cls:=.type "dict_keyiterator",data:=.fields #[.ref d,.int 0 0,.int AD.length 0,.int ep 0]}).IsKeyIter s.heap.objs.size d 0 AD.length ep:=⟨_,MD _ rfl,rfl,rfl⟩
 let key:∀(h:Heap)(c₁ tk:Nat),h.IsKeyIter s.heap.objs.size d 0 AD.length ep->h.DictAt knd d AD ep->(∀b o,b≠S->s.heap.get? b=some o->h.get? b=some o)->
   h.get? S=some {cls:=.type "list",data:=.seq #[] c₁}->Nc (BD prog w) A (.builtin "list.extend.loop" ⟨[.ref S,.ref s.heap.objs.size,res],[]⟩) R {s with heap:=h,toks:=tk}:=by
  intro h c₁ tk hit hdm hk hS₁;refine codeAny_extend_loopS W hlen S hSf res AD.length 0 _ #[] c₁ rfl (Mu _) ⟨hit,hdm⟩ hS₁ (ItemsOf.nil _) fun s' kI c' hm' σ7 vi=>?_;rw [Moved.eq_with hm'];refine hR s'.heap s'.toks kI c' (fun b o hb e=>hm'.heap b o (fun Nb=>?_) (hk b o hb e)) σ7 vi
  rcases M_.mp Nb with e'|Nb
  ·exact hb e'
  ·exact CH (FG e) (by rw [GZ.mp Nb];exact QX _)
 refine wpAny_ite_split (fun _=>?_) (fun _=>B_ ⟨xI F.plain_extend_loop _,key _ c₀ _ it₁ hm1 (fun b o _ e=>FK _ e) hS₁⟩);refine AP (wpAny_rule ?_);refine AP ?_;show AX _ _ (updateSeq S (·.push .none) >>=fun _=>updateSeq S (·.pop)) _ _ _;refine AP (JJ hS₁ rfl ?_);let hS₂:=Vj (V4 (·.push Value.none)) hS₁ rfl;refine JJ (hz:=by seq_fits) hS₂ rfl ?_;let hS₃:=Vj (V4 (·.pop)) hS₂ rfl;refine B_ ⟨xI F.plain_extend_loop _,key _ _ _ (it₁.at fun o e=>?_) (hm1.at' fun o e=>?_) (fun b o hb e=>?_) hS₃⟩
 ·exact (S' _ _ hSI).trans ((S' _ _ hSI).trans e)
 ·exact (S' _ _ hSd).trans ((S' _ _ hSd).trans e)
 ·exact (S' _ _ (FN hb)).trans ((S' _ _ (FN hb)).trans (FK _ e))
def aen {R:Θ}(hh:A.handled=none)(hd:(d==Nr)=false)(hm:s.heap.DictAt knd d AD ep)(hlen:AD.length<=BZ)(S:AO)(hS:s.heap.get? S=some {cls:=.type "list",data:=.seq #[]})
  (hR:∀h' tk kI c',(∀b o,b≠S->s.heap.get? b=some o->h'.get? b=some o)->h'.get? S=some {cls:=.type "list",dict:=none,data:=.seq kI c',slots:= #[]}->
   ItemsOf (fun i v=>∃k x,AD[i]?=some (k,x)/\knd.is k v=true) kI AD.length->R (.ok (.ret .none)) {s with heap:=h',toks:=tk}):
  AX (BD prog w) A.in1 (Builtin.«list.__init__» ⟨[.ref S,.ref d],[]⟩)
   (fun fin s'=>match fin with | .done f=>R (.ok f) s' | .again c'=>c'.quiet=true/\Nc (BD prog w) A c' R s') (fun e s'=>R (.error e) s') s:=by
 obtain ⟨od,es,Yj,r_,jJ,hk0,hp0,hn0⟩:=id hm
 let hSd:S≠d:=fun e=>by
  rw [e] at hS;erw [hS] at Yj;cases jJ
 show AX _ _ (do let old <- Builtin.List.listItems (.ref S);Builtin.List.listUpdate (.ref S) (fun _=> #[]);letGo old.toList.reverse;QM (.ref S) (.ref d) .none) _ _ s;refine AP ?_;unfold Builtin.List.listItems;refine AP (VL hS rfl (B_ ?_));show AX _ _ (updateSeq S (fun _=> #[]) >>=fun _=>letGo (#[]:Array Value).toList.reverse >>=fun _=>QM (.ref S) (.ref d) .none) _ _ s;refine AP (JJ hS rfl ?_);let hS₂:=Vj (V4 (fun _=>(#[]:Array Value))) hS rfl
 let VP:∀b o,b≠S->s.heap.get? b=some o->(s.heap.update S (V4 (fun _=>(#[]:Array Value)))).get? b=some o:=
  fun b o hb e=>(S' _ _ (FN hb)).trans e
 refine AP (wpAny_letGo ?_);refine aak hh hd (hm.at' fun o e=>VP d o (FN hSd) e) hlen S .none _ hS₂ fun h' tk kI c' hk σ7 vi=>?_;exact hR h' tk kI c' (fun b o hb e=>hk b o hb (VP b o hb e)) σ7 vi
def aeV {Q:δ}(hh:A.handled=none)(hd:(d==Nr)=false)(hm:s.heap.DictAt knd d AD ep)(hlen:AD.length<=BZ)
  (hQ:∀h' tk kI c',(∀b o,s.heap.get? b=some o->h'.get? b=some o)->
   h'.get? s.heap.objs.size=some {cls:=.type "list",dict:=none,data:=.seq kI c',slots:= #[]}->ItemsOf (fun i v=>∃k x,AD[i]?=some (k,x)/\knd.is k v=true) kI AD.length->Q (.ref s.heap.objs.size) {s with heap:=h',toks:=tk}):
  AX (BD prog w) A (call (.type "list") [.ref d]) Q E s:=by
 refine callType_codes (Q₁:=fun obj oW=>obj=.ref s.heap.objs.size/\oW={s with heap:=s.heap.push {cls:=.type "list",data:=.seq #[]}}) F.called_list (F.typeCall_list_1 _) F.entry_list_init
  (code_list_new _ ⟨rfl,rfl⟩) fun obj oW rG=>?_
 obtain ⟨rfl,rfl⟩:=rG;let hS:(s.heap.push {cls:=.type "list",data:=.seq #[]}).get? s.heap.objs.size=some {cls:=.type "list",data:=.seq #[]}:=MD _ rfl;show ⟨⟨_,hS,rfl⟩,F.args_list_init_2 _ _,aen (A:=A.in1) hh hd (hm.at' fun o e=>FK _ e) hlen _ hS fun h' tk kI c' hk σ7 vi=>?_⟩;show ⟨rfl,hQ h' tk kI c' (fun b o e=>hk b o (MV (FG e)) (FK _ e)) σ7 vi⟩
end
theorem aE :∀{qY:List Y} {qX:List β} {i:Nat} {a:Y},Paired F qY qX->qY[i]?=some a->∃b,qX[i]?=some b/\F a b
 | _,_,_,_,.nil,h=>by simp at h
 | _,_,0,_,.cons r _,h=>by
  cases h;show ⟨_,rfl,r⟩
 | _,_,i+1,_,.cons _ t,h=>by
  obtain ⟨b,e,f⟩:=aE (i:=i) t (by simpa using h);show ⟨b,by simpa using e,f⟩
theorem fW :∀{qY:List Y} {qX:List β},qY.length=qX.length->(∀(i:Nat)(a:Y)(b:β),qY[i]?=some a->qX[i]?=some b->F a b)->Paired F qY qX
 | [],[],_,_=>.nil
 | a::qY,b::qX,h,f=>.cons (f 0 a b rfl rfl) (fW (by simpa using h) fun i a b e1 e2=>f (i+1) a b (by simpa using e1) (by simpa using e2))
 | [],_::_,h,_=>by simp at h
 | _::_,[],h,_=>by simp at h
def rV (h:(bq P w).is k u=true):RelV (kV k) u:=by
 rcases cF h with ⟨i,t,rfl,rfl⟩|⟨x,t,rfl,rfl⟩
 ·show ⟨t,rfl⟩
 ·show ⟨t,rfl⟩
section
variable {X:Cx}
inductive Rh (xs:ζ)(H:Hp)(Q:VK):Prop
|mk (p:AO)(AD:γ)(_:xs=[.ref p])(_:Rd H p (.dK AD))(_:∀l,H l=none->Q (.ref l) (upd H l (.lst (AD.map fun kv=>kV kv.1))))
def fX (hc:X.calm=true):iE X (.type "list") Rh:=by
 intro pX s Z H xs us Q I r h;obtain ⟨p,AD,rfl,hq,q⟩:=h;obtain ⟨u,rfl,r1⟩:=vals1 r;cases r1;obtain ⟨z,hd,vs,rel,o,es,ep,ho,hx,jJ,hk,hp,hn⟩:=jY I.bH hq;let hl:=rel.length;refine aeV (knd:=bq X.prog X.w) (I.ok.hd hc) hd ⟨o,es,ho,hx,jJ,hk,hp,hn⟩ ci fun h' tk kI c' kk hS vi=>?_;have Zr :=I.bH.fresh (DH s.heap.objs.size)
 let rv:Vals (AD.map fun kv=>kV kv.1) kI.toList:=fW (by have:=vi.1;simp;omega) fun i a b e1 e2=>by
  rw [BJ] at e1;obtain ⟨kv,ek,rfl⟩:=GX.mp e1;obtain ⟨q',eq,e3,_⟩:=aE rel ek;obtain ⟨k,x,e4,e5⟩:=vi.2 i b (by simpa using e2);erw [eq] at e4;rw [e3];exact rV e5
 let I2:Inv X pX Z (upd H s.heap.objs.size (.lst (AD.map fun kv=>kV kv.1))) {s with heap:=h',toks:=tk}:=I.laid (t':=tk) kk (DH _) ⟨by rwa [ir],kI.toList,c',rv,by simpa using hS⟩;show ⟨.ref _,_,I2,rfl,q _ Zr⟩
def Inv.freeze {Z:L2.St}(I:Inv X pX Z H s)(e:H d=some (.dK AD))(ho:s.heap.get? d=some o):Inv X pX Z (upd H d (.eZ o (.dK AD))) s:=by
 let nx:∀b u,H b=some u->b≠d->upd H d (.eZ o (.dK AD)) b=some u:=fun b u q n=>by rwa [ah n]
 refine I.step (g':=s.gens) (t':=s.toks) (d':=s.drawn) (ch:=[]) (fun _ z=>nomatch z) (fun b o _ _ _ e _=>e) (fun b o _ _ _ e _=>⟨o.slots,e⟩) (fun b o _ _ n=>by rw [ah (fun z=>by erw [z,e] at n)];exact n) (fun b o _ e=>⟨o,e⟩)
  (fun b xs q=>nx b _ q fun z=>by erw [z,e] at q) (fun b o' u q=>nx b _ q fun z=>by erw [z,e] at q) (fun b ps q=>⟨#[],by rw [nx b _ q fun z=>by erw [z,e] at q];simp⟩) (fun m hm=>hm) (fun b u q=>?_) I.bare
 by_cases hb:b=d
 ·subst hb
  erw [ag] at q;show ⟨ho,I.bH b _ e⟩
 ·rw [ah hb] at q
  exact (I.bH b u q).mK (fun _ _ _ k=>k) (fun c k=>nx c _ k fun z=>by erw [z,e] at k) fun c xs k=>nx c _ k fun z=>by erw [z,e] at k
def Itd (d:AO)(o:Obj)(AD:γ):It:=
 ⟨fun i H=>H d=some (.eZ o (.dK AD))/\i<AD.length,
  fun i H v H'=>∃p k x,AD[i]?=some (k,x)/\v=.ref p/\H p=none/\H'=upd H p (.tup [kV k,x]),
  fun i H=>H d=some (.eZ o (.dK AD))/\AD.length<=i⟩
def pZ (ok:jz P w H h)(e:H d=some (.eZ o (.dK AD)))(he:o.data=.dict Yu ep):
  (d==Nr)=false/\∃vs,KV AD vs/\h.DictAt (bq P w) d vs ep/\AD.length<=BZ:=by
 obtain ⟨h1,z,hd,vs,rel,o',es,ET,ho,hx,jJ,hk,hp,hn⟩:=ok d _ e;erw [h1] at ho;erw [he] at jJ;show ⟨hd,vs,rel,⟨o,Yu,h1,hx,he,hk,hp,hn⟩,z⟩
def ahK:entryFor table "dict_itemiterator.__iter__"=some Builtin.«dict_keyiterator.__iter__»:=
 entryFor_alias (id':="dict_keyiterator.__iter__") (by kernel_rfl) (by first|rfl|decide+kernel|(unfold String.splitOn;simp+decide [String.splitOnAux])) (by decide+kernel) (by kernel_rfl)
def zaa {E:δ}{Q:δ}(st:IsItemIter s.heap it d i n ep ok ov)(h:Q (.ref it) s):AX (BD P w) A (pyIter (.ref it)) Q E s:=by
 let hT:s.TypeIs (.ref it) "dict_itemiterator":=⟨_,st,rfl⟩;refine wpAny_pyIter_slot hT F.slot_dict_itemiterator_iter (Vd F.slot_dict_itemiterator_iter hT ahK ?_ (F.args_dict_itemiterator_iter_1 _));show AX _ _ (ret (.ref it)) _ _ s;exact B_ ⟨_,rfl,"dict_itemiterator",_,hT,F.slot_dict_itemiterator_next.lookup,h⟩
def abH {K:Frag}{es:Β}(d it:AO)(o:Obj)(AD:γ)(he:o.data=.dict Yu ep)(JQ:it≠d):
  Turn P w K (.Tuple es k pos) (Itd d o AD) [it] it (fun i h=>∃ok ov,IsItemIter h it d i AD.length ep ok ov) where
 mem:=by simp
 obj:=fun i h st b hb=>by
  let e:b=it:=by simpa using hb
  subst e;obtain ⟨ok,ov,st⟩:=st;show ⟨_,st,fun v z=>by cases z⟩
 keep:=fun i h h' st k=>by
  obtain ⟨ok,ov,st⟩:=st;show ⟨ok,ov,k it dL _ st⟩
 item:=by
  intro X hP hw hK hc i pX s Z H E I hf st hg;subst hP hw hK;obtain ⟨ok,ov,st⟩:=st;obtain ⟨fz,hi⟩:=hg;obtain ⟨hd,vs,rel,da,_⟩:=pZ I.bH fz he;let ek:AD[i]?=some AD[i]:=gE hi;obtain ⟨⟨k',u⟩,ev,e1,ru⟩:=aE rel ek;let lv:=rel.length;rw [lv] at st;refine wpAny_pyNext_items_item st da ev fun key h' AI out tup sz kk=>?_;show ⟨_,rfl,wpAny_letOwnedTupleGo_items (s:={s with heap:=h'}) out fun JU amt sb=>?_⟩;let hsz:∀c o,s.heap.get? c=some o->s.heap.objs.size≠c:=fun c o e=>V9 (FG e);let tz:s.heap.objs.size≠it:=hsz _ _ st;let nz:∀c,c≠it->∀o,h'.get? c=some o->JU.get? c=some o:=fun c hc o e=>(sb.2 c hc).trans e;let hn:=I.bH.fresh (DH s.heap.objs.size);have MR :AD[i].1=k':=e1
  let I2:Inv X pX Z (upd H s.heap.objs.size (.tup [kV AD[i].1,AD[i].2])) {s with heap:=JU,toks:=s.toks}:=
   Inv.rS I (fun b o hb e=>nz b (by simpa using hb) o (kk b o (by simpa using hb) e)) hf (DH _) (by show 2<=BZ;decide) (AU:=[key,u]) (.cons (by rw [MR];exact rV AI) (.cons ru .nil)) ⟨_,nz _ tz _ tup,rfl,_,rfl⟩
  show ⟨.ref s.heap.objs.size,_,I2,rfl,⟨s.heap.objs.size,AD[i].1,AD[i].2,ek,rfl,hn,rfl⟩,⟨_,_,by rwa [lv]⟩,fun b hb=>?_⟩;let eb:b=it:=by simpa using hb
  rw [ah (by rw [eb];exact FN tz)];exact (hf b hb).1
 done:=by
  intro X hP hw hK hc i pX s Z H E I hf st hg;subst hP hw hK;obtain ⟨ok,ov,st⟩:=st;obtain ⟨fz,hi⟩:=hg;obtain ⟨hd,vs,rel,da,_⟩:=pZ I.bH fz he;let lv:=rel.length;rw [lv] at st;obtain ⟨f0,f1,f2,f3,f4,f5⟩:=hf it dL;exact wpAny_pyNext_items_end (I.ok.hd hc) st da (HX ci) fun h' eb=>⟨rfl,I.turned (t':=s.toks) (fun b o hb e=>eb b o hb e) f0 f1 f3 f4 f5⟩
 self:=fun _ _ _ _ _ st h=>by
  obtain ⟨ok,ov,st⟩:=st;exact zaa st h
inductive JX (R:(It->Hp->Prop))(x:V)(H1:Hp):Prop
|mk (d AD:_)(_:x=.ref d)(_:H1 d=some (.dK AD))(_:∀o,R (Itd d o AD) (upd H1 d (.eZ o (.dK AD))))
def aki (te:TE):TI:=fun Z H R=>te Z H fun x H1=>JX R x H1
def tO {apos cW:Pos}{es:Β}{k:Nat}{xy:Pos}(ho:PE X e te)(kr:V2 e "items" X.env (DC e X.env)=DC e X.env:=by rfl)(sL:(apos.endLine==cW.line)=true:=by rfl):
  PI X (.Tuple es k xy) (.Call (.Attribute e "items" apos) [] [] cW) (aki te):=by
 intro pX s Z H R I h;refine wpAny_Call_method0_late kr sL (cI (ho pX s Z H _ I h) fun v s1 ⟨x,H1,I1,r1,q1⟩=>?_);obtain ⟨d,AD,rfl,e,q⟩:=q1;cases r1;obtain ⟨z,hd,vs,rel,o,σ9,ep,Pz,hx,jJ,hk,hp,hn⟩:=mB I1.bH e;obtain ⟨h1,h2⟩:=aiR (T:="dict") I1 (show RelV (.ref d) (.ref d) from rfl) (.inr (.inr (.inl ⟨rfl,.inl ⟨AD,e⟩⟩)));let da:s1.heap.DictAt (bq X.prog X.w) d vs ep:=⟨o,σ9,Pz,hx,jJ,hk,hp,hn⟩;let lv:=rel.length;show ⟨"dict","dict.items",F.plainAttrs_dict,LY,F.type_dict_items,h1,h2,Zn rfl (PySem.evalArgs_none ?_)⟩;refine ZT LY h1 F.entry_dict_items (F.args_dict_items_1 _) (meets_dict_items (bq X.prog X.w) d hd) ⟨⟨vs,da.dictOf⟩,?_⟩;let I2:=Inv.freeze I1 e Pz;let da2:(s1.heap.push {cls:=.type "dict_items",data:=.fields #[.ref d]}).DictAt (bq X.prog X.w) d vs ep:=da.at' fun o e=>FK _ e;show AX (BD X.prog X.w) X.A (pyIter (.ref s1.heap.objs.size)) _ _ _;refine wpAny_pyIter_items (s:={s1 with heap:=s1.heap.push {cls:=.type "dict_items",data:=.fields #[.ref d]}}) ⟨_,MD _ rfl,rfl,rfl⟩ da2 ?_;let sz:(s1.heap.push {cls:=.type "dict_items",data:=.fields #[.ref d]}).objs.size=s1.heap.objs.size+1:=RP ..
 let ne:(s1.heap.push {cls:=.type "dict_items",data:=.fields #[.ref d]}).objs.size≠d:=by
  rw [sz];exact FN (MV (Wy (FG Pz)))
 let I3:Inv X pX Z (upd H1 d (.eZ o (.dK AD))) {s1 with heap:=(s1.heap.push {cls:=.type "dict_items",data:=.fields #[.ref d]}).push {cls:=.type "dict_itemiterator",data:=.fields #[.none,.bool false,.ref d,.int 0 0,.int vs.length 0,.int ep 0,.none,.none]}}:=I2.kept (t':=s1.toks) fun b o e=>FK _ (FK _ e);show ⟨_,[_],_,_,_,rfl,I3,abH d _ o AD jJ ne,⟨_,_,by rw [lv];exact MD _ rfl⟩,fun b hb=>?_,q o⟩;let eb:b=(s1.heap.push {cls:=.type "dict_items",data:=.fields #[.ref d]}).objs.size:=by simpa using hb
 let le:s1.heap.objs.size<=b:=by rw [eb,sz];exact Vv _
 exact I2.rf le (I2.bH.fresh le)
end
end Ty
namespace Ty
def ev:List Int->(Nat->Rat)->Rat
 | [],_=>0
 | a::r,z=>(a:Rat)*z 0+ev r (fun i=>z (i+1))
theorem amD:∀(l:ξ)(z:Nat->Rat),(∀j,((l.getD j 0:Int):Rat)*z j=0)->ev l z=0
 | [],_,_=>rfl
 | a::r,z,h=>by
  let h0:=h 0;let ih:=amD r (fun i=>z (i+1)) (fun j=>by simpa using h (j+1));simp only [ev];rw [ih];simp at h0;grind
theorem afR:∀(l:ξ)(z:Nat->Rat)(p:Nat),(∀j,j≠p->((l.getD j 0:Int):Rat)*z j=0)->ev l z=((l.getD p 0:Int):Rat)*z p
 | [],_,_,_=>by simp [ev]
 | a::r,z,0,h=>by
  let ih:=amD r (fun i=>z (i+1)) (fun j=>by simpa using h (j+1) ci);simp only [ev];rw [ih];simp;grind
 | a::r,z,p+1,h=>by
  let h0:=h 0 ci;let ih:=afR r (fun i=>z (i+1)) p (fun j hj=>by simpa using h (j+1) ci);simp only [ev];rw [ih];simp at h0;simp;grind
theorem afQ :∀{new line BG:ξ},new.length=line.length->BG.length=line.length->(∀j,s*new.getD j 0=t*line.getD j 0-u*BG.getD j 0)->∀z:Nat->Rat,(s:Rat)*ev new z=t*ev line z-u*ev BG z
 | [],[],[],_,_,_,z=>by simp [ev];grind
 | a::new,b::line,c::BG,h1,h2,h,z=>by
  let h0:=h 0;let ih:=afQ (by simpa using h1) (by simpa using h2) (fun j=>by simpa using h (j+1)) (fun i=>z (i+1));simp at h0;let h0':(s:Rat)*a=t*b-u*c:=by exact_mod_cast h0
  simp only [ev];grind
 | [],_::_,_,h,_,_,_=>by simp at h
 | _::_,[],_,h,_,_,_=>by simp at h
 | _,[],_::_,_,h,_,_=>by simp at h
 | _,_::_,[],_,h,_,_=>by simp at h
def gN:List Rat->List (List Int)->Nat->Rat
 | c::y,o::os,j=>c*((o.getD j 0:Int):Rat)+gN y os j
 | _,_,_=>0
theorem zaw (hs:s≠0)(j:Nat):∀(os:η)(y1 y2:List Rat),y1.length=os.length->y2.length=os.length->s*gN (Ss (fun a b=>(t*a-u*b) / s) y1 y2) os j=t*gN y1 os j-u*gN y2 os j
 | [],[],[],_,_=>by simp [gN];grind
 | o::os,a::y1,b::y2,h1,h2=>by
  let ih:=zaw (t:=t) (u:=u) hs j os y1 y2 (by simpa using h1) (by simpa using h2);simp only [akV,gN];grind
 | [],_::_,_,h,_=>by simp at h
 | [],[],_::_,_,h=>by simp at h
 | _::_,[],_,h,_=>by simp at h
 | _::_,_::_,[],_,h=>by simp at h
theorem wM (j:Nat):∀(os:η),gN (L' os.length 0) os j=0
 | []=>rfl
 | o::os=>by
  simp only [Oy,vB,gN];rw [wM j os];grind
def qa (os:η)(l:ξ):Prop:=∃y:List Rat,y.length=os.length/\∀j,((l.getD j 0:Int):Rat)=gN y os j
theorem zat:∀{os:η} {l:ξ},l∈os->qa os l
 | o::os,l,h=>by
  rcases M_.mp h with z|z
  ·subst z
   show ⟨1::L' os.length 0,by simp,fun j=>?_⟩;simp only [gN];rw [wM];grind
  ·obtain ⟨y,hl,hy⟩:=zat z
   show ⟨0::y,by simp [hl],fun j=>?_⟩;simp only [gN];rw [<-hy j];grind
def acx (hs:s≠0)(h:∀j,s*new.getD j 0=t*line.getD j 0-u*BG.getD j 0)(h1:qa os line)(h2:qa os BG):qa os new:=by
 obtain ⟨y1,l1,e1⟩:=h1;obtain ⟨y2,l2,e2⟩:=h2;have Ym :=eV hs;show ⟨Ss (fun a b=>((t:Rat)*a-u*b) / s) y1 y2,by simp [l1,l2],fun j=>?_⟩;let k:=zaw (t:=(t:Rat)) (u:=(u:Rat)) Ym j os y1 y2 l1 l2;rw [<-e1 j,<-e2 j] at k;let h':(s:Rat)*(new.getD j 0:Int)=t*(line.getD j 0:Int)-u*(BG.getD j 0:Int):=by exact_mod_cast h j
 rw [<-h'] at k;grind
def VQ (y:List Rat):Nat->Rat:=fun i=>if i<y.length then y.getD i 0 else -1
theorem ael (j:Nat)(c:Int):∀(os:η)(y:List Rat),y.length=os.length->ev (os.map (fun o=>o.getD j 0)++[c]) (VQ y)=gN y os j-c
 | [],[],_=>by simp [ev,VQ,gN];grind
 | o::os,a::y,h=>by
  let ih:=ael j c os y (by simpa using h)
  let ez:(fun i=>VQ (a::y) (i+1))=VQ y:=by
   funext i;simp [VQ]
  simp only [HU,akP,ev,gN];rw [ez,ih];simp [VQ];grind
 | [],_::_,h=>by simp at h
 | _::_,[],h=>by simp at h
theorem tQ (k:Rat)(j:Nat):∀(os:η)(y:List Rat),gN (y.map (fun a=>a*k)) os j=gN y os j*k
 | [],_=>by cases ‹List Rat› <;> simp [gN]<;>grind
 | _::_,[]=>by simp [gN]
 | o::os,a::y=>by
  simp only [HU,gN];rw [tQ k j os y];grind
structure va (line BG new:ξ)(c:Nat):Prop where
 len:new.length=line.length
 Rn:new.getD c 0=0
 T8:∃s t u:Int,s≠0/\t≠0/\∀j,s*new.getD j 0=t*line.getD j 0-u*BG.getD j 0
def va.zero (h:va line BG new c)(h1:line.getD j 0=0)(h2:BG.getD j 0=0):new.getD j 0=0:=by
 obtain ⟨s,t,u,hs,_,e⟩:=h.T8;have:=e j;rw [h1,h2,σ8,σ8,Int.sub_self] at this
 rcases akZ.mp this with z|z
 ·exact CH z hs
 ·exact z
theorem va.at (h:va line BG new c)(h2:BG.getD j 0=0)(h1:line.getD j 0≠0):new.getD j 0≠0:=by
 obtain ⟨s,t,u,hs,ht,e⟩:=h.T8;have:=e j;rw [h2] at this;intro z;rw [z,σ8,σ8,Int.sub_zero] at this
 rcases akZ.mp this.symm with y|y
 ·exact ht y
 ·exact h1 y
def va.comb (h:va line BG new c)(h1:qa os line)(h2:qa os BG):qa os new:=by
 obtain ⟨s,t,u,hs,ht,e⟩:=h.T8;exact acx hs e h1 h2
theorem va.ev (h:va line BG new c)(hl:BG.length=line.length)(h2:Ty.ev BG z=0):Ty.ev new z=0 ↔ Ty.ev line z=0:=by
 obtain ⟨s,t,u,hs,ht,e⟩:=h.T8;let k:=afQ h.len hl e z;rw [h2] at k;have Ym :=eV hs;let ht':=eV ht;constructor
 ·intro w
  rw [w] at k;grind
 ·intro w
  rw [w] at k;grind
end Ty
namespace Ty
open PySem PySem.Spec PyProof.Rows L2
def Itn (K:Frag)(a:AO):It:=
 ⟨fun i H=>∃xs x,aK K H a xs/\xs[i]?=some x,
  fun i H v H'=>∃p x,(∀xs,aK K H a xs->xs[i]?=some x)/\v=.ref p/\H p=none/\H'=upd H p (.tup [.int (i:Int),x]),
  fun i H=>∃xs,aK K H a xs/\xs.length<=i⟩
def ahj {K:Frag}{es:Β}(a e it:AO)(JQ:e≠it):
  Turn P w K (.Tuple es k pos) (Itn K a) [e,it] e (fun i h=>(∃old,IsEnum h e it ((i:Nat):Int) old)/\h.IsListIter it a i) where
 mem:=by simp
 obj:=fun i h st c hc=>by
  obtain ⟨⟨old,he⟩,⟨o1,e1,c1,d1⟩⟩:=st;have pD :c=e\/c=it:=by simpa using hc
  rcases pD with z|z<;>subst z
  ·show ⟨_,he,fun v z=>by cases z⟩
  ·show ⟨_,e1,fun v z=>by erw [d1] at z⟩
 keep:=fun i h h' st k=>by
  obtain ⟨⟨old,he⟩,h1⟩:=st;show ⟨⟨old,k e dL _ he⟩,h1.at fun o e=>k it dL o e⟩
 item:=by
  intro X hP hw hK hc i pX s Z H E I hf st hg;subst hP hw hK;obtain ⟨⟨old,he⟩,h1⟩:=st;obtain ⟨xs,x,qx,ex⟩:=hg;obtain ⟨AU,rv,p,_⟩:=I.list qx;obtain ⟨u,hu,ru⟩:=rv.get ex;refine wpAny_pyNext_enum_item he h1 p.isList (x:=u) (by simpa using hu) JQ fun h' a1 a2 a3 a4 a5=>?_;show ⟨_,rfl,wpAny_letOwnedTupleGo_enum (s:={s with heap:=h',toks:=s.toks+1}) a1 fun JU b1 sb=>?_⟩;let nz:∀c,c≠e->∀o,h'.get? c=some o->JU.get? c=some o:=fun c hc o q=>(sb.2 c hc).trans q
  let kk:∀b o,b∉[e,it]->s.heap.get? b=some o->JU.get? b=some o:=fun b o hb q=>by
   have fw :b≠e/\b≠it:=by simpa using hb
   exact nz b fw.1 o (a5 b o fw.1 fw.2 q)
  let sz:∀c o,s.heap.get? c=some o->s.heap.objs.size≠c:=fun c o q=>V9 (FG q);let tz:s.heap.objs.size≠e:=sz _ _ he;let hn:=I.bH.fresh (DH s.heap.objs.size)
  let I2:Inv X pX Z (upd H s.heap.objs.size (.tup [.int (i:Int),x])) {s with heap:=JU,toks:=s.toks+1}:=
   Inv.rS I kk hf (DH _) (by show 2<=BZ;decide) (AU:=[.int i s.toks,u]) (.cons ⟨_,rfl⟩ (.cons ru .nil)) ⟨_,nz _ tz _ a3,rfl,_,rfl⟩
  show ⟨.ref s.heap.objs.size,_,I2,rfl,⟨s.heap.objs.size,x,fun xs' q=>by rwa [I.jb q qx],rfl,hn,rfl⟩,⟨⟨_,by exact b1⟩,a2.at fun o q=>nz _ (FN JQ) o q⟩,fun b hb=>?_⟩
  let ob:∃o,s.heap.get? b=some o:=by
   obtain ⟨o1,e1,_⟩:=h1;have pD :b=e\/b=it:=by simpa using hb
   rcases pD with z|z<;>subst z
   ·show ⟨_,he⟩
   ·show ⟨_,e1⟩
  obtain ⟨o,q⟩:=ob;rw [ah (FN (sz _ _ q))];exact (hf b hb).1
 done:=by
  intro X hP hw hK hc i pX s Z H E I hf st hg;subst hP hw hK;obtain ⟨⟨old,he⟩,h1⟩:=st;obtain ⟨xs,qx,ee⟩:=hg;obtain ⟨AU,rv,p,_⟩:=I.list qx;let l1:=rv.length;refine wpAny_pyNext_enum_end (I.ok.hd hc) he h1 p.isList (by simp;omega) fun h' kk=>⟨rfl,Inv.nZ I (fun b o hb q=>?_) hf⟩;have fw :b≠e/\b≠it:=by simpa using hb
  exact kk b o fw.2 q
 self:=fun _ _ _ _ _ st h=>by
  obtain ⟨⟨old,he⟩,_⟩:=st;exact wpAny_pyIter_enum he h
def boot_enumerate:Nf "enumerate"=some (.type "enumerate"):=by decide+kernel
section
variable {X:Cx}
inductive Ro (K:Frag)(R:(It->Hp->Prop))(vs:ζ)(H1:Hp):Prop
|mk (a:_)(_:vs=[.ref a])(_:(∃xs,aK K H1 a xs))(_:R (Itn K a) H1)
def ad5 (K:Frag)(ta:TA):TI:=fun Z H R=>ta Z H fun vs H1=>Ro K R vs H1
def amC {es:Β}(hg:Gl X "enumerate")(hm:X.mg "enumerate"=none)(ha:PA X [e1] ta)(hs:DI [e1] X.env=[(false,DC e1 X.env)]:=by rfl):
  PI X (.Tuple es k xy) (.Call (.Name "enumerate" p) [e1] [] pos) (ad5 X.K ta):=by
 intro pX s Z H R I h;refine Call_ (iS I hg hm boot_enumerate (Vp (cI (ha pos pX s Z H _ I h) fun us s1 ⟨vs,H1,I1,r1,q1⟩=>?_) hs rfl));obtain ⟨a,e,⟨xs,hx⟩,q⟩:=q1;subst e;cases r1 with
 | cons r rr=>
  cases rr;cases r;obtain ⟨AU,rv,pl,_⟩:=I1.list hx;refine call_enumerate_list pl.isList fun h' hE hI hsz hk=>wpAny_pyIter_enum (s:={s1 with heap:=h'}) hE ?_;show ⟨s1.heap.objs.size+1,[s1.heap.objs.size+1,s1.heap.objs.size],_,_,H1,rfl,I1.kept (t':=s1.toks) hk,ahj a _ _ (Nat.succ_ne_self _),⟨⟨_,hE⟩,hI⟩,fun c hc=>?_,q⟩
  have pD :s1.heap.objs.size<=c:=by
   have:c=s1.heap.objs.size+1\/c=s1.heap.objs.size:=by simpa using hc
   simp only [AO] at*;omega
  exact I1.rf pD (I1.bH.fresh pD)
def any_range (bs:List Bool):(OF bs.length).any (fun i=>(bs[i]?).getD true)=bs.any id:=by
 rw [sY,AF,AF];constructor
 ·rintro ⟨i,hi,h⟩
  have Yq :i<bs.length:=VT.mp hi;rw [gE Yq] at h;show ⟨bs[i],Rk Yq,h⟩
 ·rintro ⟨b,hb,h⟩
  obtain ⟨i,hi⟩:=MF hb;show ⟨i,VT.mpr (Wp.mp hi).1,by rwa [hi]⟩
inductive ad6 (K:Frag)(xs:ζ)(H:Hp)(Q:VK):Prop
|mk (p:AO)(bs:List Bool)(_:xs=[.ref p])(_:aK K H p (bs.map V.bl))(_:Q (.bl (bs.any id)) H)
def acr (hc:X.calm=true):iE X (.builtin "any") (ad6 X.K):=by
 intro pX s Z H xs us Q I r h;obtain ⟨p,bs,rfl,hq,q⟩:=h;obtain ⟨u,rfl,r1⟩:=vals1 r;cases r1;obtain ⟨AU,rv,pl,hz⟩:=I.list hq;refine call_any_walk (QI pl.isList ?_);let JQ:p≠s.heap.objs.size:=by obtain ⟨o,ho,_⟩:=pl.isList;exact MV (FG ho)
 let I1:Inv X pX Z H {s with heap:=s.heap.push {cls:=.type "list_iterator",data:=.fields #[.ref p,.int 0 0]}}:=I.kept (t':=s.toks) fun b o e=>FK _ e;obtain ⟨f0,f1,f2,f3,f4,f5⟩:=I.rf (H':=H) (DH s.heap.objs.size) (I.bH.fresh (DH _));let hl:AU.length=bs.length:=by rw [<-rv.length,ir]
 show ⟨s.heap.objs.size,_,_,_,_,_,fun i=>(bs[i]?).getD true,rfl,Walks.list (A:=X.A.in1) (I.ok.hd hc) s.heap.objs.size p JQ AU.toArray,⟨⟨_,MD _ rfl,rfl,rfl⟩,pl.isList.at fun o e=>FK _ e⟩,?_,fun h' tk kk=>?_⟩
 ·intro i v s' Q' E' hv pE
  have ZD :AU[i]?=some v:=by simpa using hv
  let hi:i<bs.length:=by rw [<-hl];exact (Wp.mp ZD).1
  let eb:(bs.map V.bl)[i]?=some (.bl bs[i]):=by rw [BJ,gE hi];rfl
  obtain ⟨u,eu,ru⟩:=rv.get eb;erw [ZD] at eu;cases ru;dsimp only at pE;rw [gE hi] at pE;exact QD pE
 ·show ⟨.bl (bs.any id),H,I1.turned (t':=tk) (it:=s.heap.objs.size) (fun b o hb e=>kk b o (by simpa using hb) e) f0 f1 f3 f4 f5,?_,q⟩
  show _=_;rw [<-any_range bs,Ni,hl]
def ad7:Nf "any"=some (.builtin "any"):=by decide+kernel
end
def zas {K:Frag}{g:TG}{tb:TS}{D:Ends}(Pv:Nat->L2.St->Hp->Prop)(h0:Pv 0 Z H)(hl:∀i Z H,i<=xs.length->Pv i Z H->aK K H a xs)
  (hs:∀i x Z H p,xs[i]?=some x->Pv i Z H->H p=none->g (.ref p) Z (upd H p (.tup [.int (i:Int),x])) fun Z2 H2=>tb {D with nx:=Pv (i+1),ct:=Pv (i+1),bk:=D.nx} Z2 H2) (hd:∀Z H,Pv xs.length Z H->D.nx Z H):
  ∃W:Nat->Nat->L2.St->Hp->Prop,(∃m,W 0 m Z H)/\∀i m Z H,W i m Z H->
   ((Itn K a).stop i H/\D.nx Z H)\/((Itn K a).go i H/\∃N:L2.St->Hp->Prop,(∀Z' H',N Z' H' ->∃m',m'<m/\W (i+1) m' Z' H')/\∀x H',(Itn K a).Mr i H x H' ->g x Z H' fun Z2 H2=>tb {D with nx:=N,ct:=N,bk:=D.nx} Z2 H2):=by
 show ⟨fun i m Z H=>m=xs.length-i/\i<=xs.length/\Pv i Z H,⟨xs.length,by simp,Mu _,h0⟩,?_⟩;rintro i m Z H ⟨rfl,hi,p⟩;let q:=hl i Z H hi p;by_cases lM:i<xs.length
 ·let e:xs[i]?=some xs[i]:=gE lM
  refine .inr ⟨⟨xs,_,q,e⟩,Pv (i+1),fun Z' H' z=>⟨xs.length-(i+1),ci,rfl,ci,z⟩,fun x H' y=>?_⟩;obtain ⟨pp,x',y1,rfl,np,rfl⟩:=y;exact hs i x' Z H pp (y1 xs q) p np
 ·let e:i=xs.length:=ci
  subst e;exact .inl ⟨⟨xs,q,DH _⟩,hd Z H p⟩
def qb {g:TG}{tb:TS}{D:Ends}(Pv:Nat->L2.St->Hp->Prop)(h0:Pv 0 Z H)(hl:∀i Z H,i<=AD.length->Pv i Z H->H d=some (.eZ o (.dK AD)))
  (hs:∀i k x Z H p,AD[i]?=some (k,x)->Pv i Z H->H p=none->g (.ref p) Z (upd H p (.tup [kV k,x])) fun Z2 H2=>tb {D with nx:=Pv (i+1),ct:=Pv (i+1),bk:=D.nx} Z2 H2) (hd:∀Z H,Pv AD.length Z H->D.nx Z H):
  ∃W:Nat->Nat->L2.St->Hp->Prop,(∃m,W 0 m Z H)/\∀i m Z H,W i m Z H->
   ((Itd d o AD).stop i H/\D.nx Z H)\/((Itd d o AD).go i H/\∃N:L2.St->Hp->Prop,(∀Z' H',N Z' H' ->∃m',m'<m/\W (i+1) m' Z' H')/\∀x H',(Itd d o AD).Mr i H x H' ->g x Z H' fun Z2 H2=>tb {D with nx:=N,ct:=N,bk:=D.nx} Z2 H2):=by
 show ⟨fun i m Z H=>m=AD.length-i/\i<=AD.length/\Pv i Z H,⟨AD.length,by simp,Mu _,h0⟩,?_⟩;rintro i m Z H ⟨rfl,hi,p⟩;let q:=hl i Z H hi p;by_cases lM:i<AD.length
 ·refine .inr ⟨⟨q,lM⟩,Pv (i+1),fun Z' H' z=>⟨AD.length-(i+1),ci,rfl,ci,z⟩,fun x H' y=>?_⟩
  obtain ⟨pp,k,x',y1,rfl,np,rfl⟩:=y;exact hs i k x' Z H pp y1 p np
 ·let e:i=AD.length:=ci
  subst e;exact .inl ⟨⟨q,DH _⟩,hd Z H p⟩
open Builtin.Int (intBits)
section
variable {X:Cx}
def Rp (i j:Int):Prop:=intBits i+intBits j<=134217728
def lW:km X (RG .Mult) (rI Rp fun i j=>.int (i*j)):=
 opI fun _ _ _ _ _ _ _ hc q=>mul_int q (IntMulOk.of_le (DH _) (DH _) hc)
def jo (h1:a.natAbs<=2^m)(h2:b.natAbs<=2^n)(h:m+n<=134000000):Rp a b:=by
 let x1:=lV h1 (SY m);let x2:=lV h2 (SY n);unfold Rp;omega
end
def aq.dI {K:Frag}(e:aq H H')(h:bZ K H a xs):bZ K H' a xs:=by
 rcases h with (h|⟨o,h⟩)|h
 ·exact .inl (.inl (e _ _ h))
 ·exact .inl (.inr ⟨o,e _ _ h⟩)
 ·exact .inr h
section
variable {D:AO}{te:TE}{oY:L2.St}{H1:Hp}{Q:VK}
def acK {K:Frag}(Rel:Nat->V->Hp->Prop)(nD:H1 D=none)(hn:xs.length<BZ)(hl:ys.length=xs.length)(hX:∀H,aq H1 H->aK K H a xs)(hY:∀H,aq H1 H->aK K H b ys)
  (hR:∀i v H H' ys,H D=some (.lst ys)->cx D H H' ->Rel i v H->Rel i v H')
  (he:∀i x y H (R:VK),xs[i]?=some x->ys[i]?=some y->aq H1 H->(∃ys,H D=some (.lst ys))->(∀v H6,aq H H6->Rel i v H6->R v H6)->te (some x::some y::oY) H R)
  (hd:∀zs H,zs.length=xs.length->(∀i v,zs[i]?=some v->Rel i v H)->aq H1 H->H D=some (.lst zs)->Q (.ref D) H):
  pU D (Qh K 2 (AE (cG 0) (AE (cG 1) Zx))) mQ te (ZX K a b) (none::none::oY) H1 Q:=by
 show ⟨fun i m Z zs H=>m=xs.length-i/\i<=xs.length/\(∃o o',Z=o::o'::oY)/\(zs.length=i/\(∀i v,zs[i]?=some v->Rel i v H)/\aq H1 H)/\H D=some (.lst zs),⟨xs.length,by simp,Mu _,⟨none,none,rfl⟩,⟨rfl,fun i v e=>by simp at e,fun b o e=>by rwa [ah (ak e nD)]⟩,ag⟩,?_⟩;rintro i m Z zs H ⟨rfl,hi,⟨o,o',rfl⟩,⟨l,r,s⟩,hD⟩;by_cases lM:i<xs.length
 ·let e1:xs[i]?=some xs[i]:=gE lM
  let e2:ys[i]?=some (ys[i]'ci):=gE ci;refine .inr ⟨⟨xs,ys,_,_,hX H s,hY H s,e1,e2⟩,fun v H' y=>?_⟩;obtain ⟨p,x,y,q1,q2,rfl,np,rfl⟩:=y;let e1:=q1 xs (hX H s);let e2:=q2 ys (hY H s);let sp:aq H (upd H p (.tup [x,y])):=fun b o e=>by rwa [ah (ak e np)]
  show ⟨p,_,rfl,bZ.of ag,rfl,_,_,rfl,_,_,rfl,rfl,?_⟩;unfold mQ;dsimp only;rw [mG rfl];refine he i x y _ _ e1 e2 (fun b o e=>sp _ _ (s _ _ e)) ⟨zs,sp _ _ hD⟩ fun v H6 s6 rv=>⟨s6 _ _ (sp _ _ hD),ci,xs.length-(i+1),ci,rfl,ci,⟨_,_,rfl⟩,⟨by simp [l],fun j u e=>?_,fun b o e=>?_⟩,ag⟩
  ·by_cases c:j<zs.length
   ·rw [Nu c] at e
    let ru:=hR j u H H6 zs hD (cx.of fun b o q=>s6 _ _ (sp _ _ q)) (r j u e);exact hR j u H6 _ zs (s6 _ _ (sp _ _ hD)) cx.upd ru
   ·rw [Qw ci] at e
    let ej:j=i:=by
     by_cases z:j-zs.length=0
     ·omega
     ·rw [HX (by simp;omega)] at e
      cases e
    subst ej
    have:v=u:=by
     rw [show j-zs.length=0 by omega] at e;exact MY e
    subst this;exact hR j v H6 _ zs (s6 _ _ (sp _ _ hD)) cx.upd rv
  ·rw [ah (ak e nD)]
   exact s6 _ _ (sp _ _ (s _ _ e))
 ·let e:i=xs.length:=ci
  subst e;exact .inl ⟨⟨xs,ys,hX H s,hY H s,.inl (DH _)⟩,hd zs H l r s hD⟩
end
def jy (K:Frag)(H:Hp)(v:V)(q:Int×Int):Prop:=∃p,v=.ref p/\bZ K H p [.int q.1,.int q.2]
def jy.gV {K:Frag}(h:jy K H v q)(s:aq H H'):jy K H' v q:=by
 obtain ⟨p,e,k⟩:=h;show ⟨p,e,Ty.aq.dI s k⟩
def cM (K:Frag)(H:Hp)(us:ζ)(qs:χ):Prop:=us.length=qs.length/\∀(i:Nat)(u:V)(q:Int×Int),us[i]?=some u->qs[i]?=some q->jy K H u q
theorem cM.gV {K:Frag}(h:cM K H us qs)(s:aq H H'):cM K H' us qs:=⟨h.1,fun i u q e1 e2=>(h.2 i u q e1 e2).gV s⟩
def cM.at {K:Frag}(h:cM K H us qs){i:Nat}(e:us[i]?=some u):∃q,qs[i]?=some q/\jy K H u q:=by
 let hi:i<us.length:=(Wp.mp e).1;let hl:=h.1;let e2:qs[i]?=some (qs[i]'ci):=gE ci;show ⟨_,e2,h.2 i u _ e e2⟩
theorem cM.set {K:Frag}(h:cM K H us qs)(n:jy K H v q):cM K H (us.set j v) (qs.set j q):=by
 show ⟨by simp [h.1],fun i u q' e1 e2=>?_⟩;rw [VU] at e1 e2;by_cases c:j=i
 ·subst c
  rw [mG rfl] at e1 e2;let l:=h.1;by_cases hj:j<us.length
  ·rw [mG hj] at e1
   rw [mG ci] at e2;cases e1;cases e2;exact n
  ·rw [lH hj] at e1
   cases e1
 ·rw [lH c] at e1 e2
  exact h.2 i u q' e1 e2
def amv (K:Frag)(H:Hp)(a:AO)(qs:χ):Prop:=∃us,aK K H a us/\cM K H us qs
def sumTo:Nat->(Nat->Rat)->Rat
 | 0,_=>0
 | n+1,f=>f 0+sumTo n (fun i=>f (i+1))
theorem wN:∀(n:Nat)(f g:Nat->Rat),sumTo n (fun i=>f i+g i)=sumTo n f+sumTo n g
 | 0,_,_=>by simp [sumTo];grind
 | n+1,f,g=>by
  simp only [sumTo];rw [wN n (fun i=>f (i+1)) (fun i=>g (i+1))];grind
theorem wO (c:Rat):∀(n:Nat)(f:Nat->Rat),sumTo n (fun i=>c*f i)=c*sumTo n f
 | 0,_=>by simp [sumTo]
 | n+1,f=>by
  simp only [sumTo];rw [wO c n (fun i=>f (i+1))];grind
theorem jK:∀(n:Nat)(f:Nat->Rat),(∀i,f i=0)->sumTo n f=0
 | 0,_,_=>rfl
 | n+1,f,h=>by
  simp only [sumTo];rw [h 0,jK n (fun i=>f (i+1)) (fun i=>h (i+1))];grind
theorem tR:∀(n:Nat)(l:ξ)(z:Nat->Rat),l.length<=n->ev l z=sumTo n (fun j=>((l.getD j 0:Int):Rat)*z j)
 | n,[],z,_=>by
  rw [jK n _ (fun i=>by simp)];rfl
 | 0,_::_,_,h=>by simp at h
 | n+1,a::r,z,h=>by
  simp only [ev,sumTo];rw [tR n r (fun i=>z (i+1)) (by simpa using h)];simp
theorem als (n:Nat)(z:Nat->Rat):∀(y:List Rat)(os:η),(∀o∈os,o.length<=n)->(∀o∈os,ev o z=0)->sumTo n (fun j=>gN y os j*z j)=0
 | c::y,o::os,h1,h2=>by
  let ih:=als n z y os (fun x hx=>h1 x (HV _ hx)) (fun x hx=>h2 x (HV _ hx));let e:=h2 o LZ;rw [tR n o z (h1 o LZ)] at e
  let k:(fun j=>gN (c::y) (o::os) j*z j)=fun j=>c*(((o.getD j 0:Int):Rat)*z j)+gN y os j*z j:=by
   funext j;simp only [gN];grind
  rw [k,wN,wO,e,ih];grind
 | [],os,_,_=>jK n _ (fun j=>by cases os<;>simp [gN])
 | _::_,[],_,_=>jK n _ (fun j=>by simp [gN])
def aep {os:η}(h:qa os l)(hl:l.length<=n)(ho:∀o∈os,o.length<=n)(hz:∀o∈os,ev o z=0):ev l z=0:=by
 obtain ⟨y,_,e⟩:=h;rw [tR n l z hl,<-als n z y os ho hz];congr 1;funext j;rw [e j]
section
variable {X:Cx}
inductive Yv (xs:ζ)(H:Hp)(Q:VK):Prop
|mk (p:AO)(AD:γ)(_:xs=[.ref p])(_:Rd H p (.dK AD))(_:Q (.int (AD.length:Int)) H)
def qc:iE X (.builtin "len") Yv:=by
 intro pX s Z H xs us Q I r h;obtain ⟨p,AD,rfl,hq,q⟩:=h;obtain ⟨u,rfl,r1⟩:=vals1 r;cases r1;exact adX I hq fun t s' I'=>⟨.int _,H,I',⟨t,rfl⟩,q⟩
end
section
variable {X:Cx}
def Inv.ad8 {Z:L2.St}(I:Inv X pX Z H s)(e:H d=some (.eZ o u))(n:∀o' u',X.H₀ d≠some (.eZ o' u'))(nt:∀xs,u≠.tup xs):Inv X pX Z (upd H d u) s:=by
 let nx:∀b u',H b=some u' ->b≠d->upd H d u b=some u':=fun b u q n=>by rwa [ah n]
 let nn:∀b,H b=none->upd H d u b=none:=fun b q=>by rw [ah (fun z=>by erw [z,e] at q)];exact q
 show ⟨I.ok,I.os,I.bare,⟨I.gw.keep,I.gw.slot,fun b ob q z hx=>nn b (I.gw.free b ob q z hx),I.gw.there,fun b xs q=>?_,fun b ob u' q=>?_,fun b ps q=>?_⟩,I.loc,I.cell,nn _ I.free,fun x c q=>nn _ (I.fQ x c q),fun p hp=>?_,?_,I.len⟩
 ·let z:=I.gw.jA b xs q
  exact nx b _ z fun y=>by erw [y,e] at z
 ·let z:=I.gw.ja b ob u' q
  exact nx b _ z fun y=>by rw [y] at q;exact n _ _ q
 ·obtain ⟨m,z⟩:=I.gw.jB b ps q
  show ⟨m,nx b _ z fun y=>by erw [y,e] at z⟩
 ·obtain ⟨a1,a2,a3⟩:=I.pin p hp
  show ⟨a1,nn _ a2,a3⟩
 ·let st:∀{b u'},bW X.prog X.w H s.heap b u' ->bW X.prog X.w (upd H d u) s.heap b u':=fun {b u'} k=>k.mK (fun _ _ _ z=>z) (fun c z=>nx c _ z fun y=>by erw [y,e] at z) fun c xs z=>nx c _ z fun y=>by erw [y,e] at z
  intro b u' q;by_cases hb:b=d
  ·subst hb
   erw [ag] at q;exact st (I.bH b _ e).2
  ·rw [ah hb] at q
   exact st (I.bH b u' q)
def ad9 (H0:Hp)(t:TS):TS:=fun D Z H=>t {D with nx:=fun Z' H'=>∃d o AD,H' d=some (.eZ o (.dK AD))/\(∀o' u',H0 d≠some (.eZ o' u'))/\D.nx Z' (upd H' d (.dK AD))} Z H
def oh {st:Stmt}(h:PS X st t):PS X st (ad9 X.H₀ t):=by
 intro pX s Z H D I q;refine L_ (h pX s Z H _ I q) (fun f s' z=>?_) fun _ _ z=>z;cases f with
 | next=>
  obtain ⟨Z',H',I',d,o,AD,e,n,k⟩:=z;show ⟨Z',_,Inv.ad8 I' e n (fun _ z=>nomatch z),k⟩
 | brk=>exact z
 | cont=>exact z
 | ret u=>exact z
def Itk (d:AO)(o:Obj)(AD:γ):It:=
 ⟨fun i H=>H d=some (.eZ o (.dK AD))/\i<AD.length,
  fun i H v H'=>H'=H/\∃k x,AD[i]?=some (k,x)/\v=kV k,
  fun i H=>H d=some (.eZ o (.dK AD))/\AD.length<=i⟩
def ahr {K:Frag}(d it:AO)(o:Obj)(AD:γ)(he:o.data=.dict Yu ep):
  Turn P w K tg (Itk d o AD) [it] it (fun i h=>h.IsKeyIter it d i AD.length ep) where
 mem:=by simp
 obj:=fun i h st b hb=>by
  let e:b=it:=by simpa using hb
  subst e;obtain ⟨o,e,c,d⟩:=st;show ⟨o,e,fun v z=>by erw [d] at z⟩
 keep:=fun i h h' st k=>st.at fun o e=>k it dL o e
 item:=by
  intro X hP hw hK hc i pX s Z H E I hf st hg;subst hP hw hK;obtain ⟨fz,hi⟩:=hg;obtain ⟨hd,vs,rel,da,_⟩:=pZ I.bH fz he;let ek:AD[i]?=some AD[i]:=gE hi;obtain ⟨⟨k',u⟩,ev,e1,ru⟩:=aE rel ek;let lv:=rel.length;rw [lv] at st;obtain ⟨f0,f1,f2,f3,f4,f5⟩:=hf it dL;refine wpAny_pyNext_dict_item st da ev fun key h' AI Ql sb=>?_;let I1:Inv X pX Z H {s with heap:=h'}:=I.turned (t':=s.toks) (fun b o hb e=>(sb.2 b hb).trans e) f0 f1 f3 f4 f5;rw [<-lv] at Ql;obtain ⟨o',e',c',d'⟩:=id Ql;have MR :AD[i].1=k':=e1;show ⟨key,rfl,Qk (s:={s with heap:=h'}) e' c' d' cr ⟨kV AD[i].1,H,I1,by rw [MR];exact rV AI,⟨rfl,AD[i].1,AD[i].2,ek,rfl⟩,Ql,fun b hb=>(hf b hb).1⟩⟩
 done:=by
  intro X hP hw hK hc i pX s Z H E I hf st hg;subst hP hw hK;obtain ⟨fz,hi⟩:=hg;obtain ⟨hd,vs,rel,da,_⟩:=pZ I.bH fz he;let lv:=rel.length;rw [lv] at st;obtain ⟨f0,f1,f2,f3,f4,f5⟩:=hf it dL;exact wpAny_pyNext_dict_end (I.ok.hd hc) st da (HX ci) fun h' eb=>⟨rfl,I.turned (t':=s.toks) (fun b o hb e=>eb b o hb e) f0 f1 f3 f4 f5⟩
 self:=fun _ _ _ _ _ st h=>wpAny_pyIter_keyiter st h
inductive Rr (R:(It->Hp->Prop))(x:V)(H1:Hp):Prop
|mk (d AD:_)(_:x=.ref d)(_:H1 d=some (.dK AD))(_:∀o,R (Itk d o AD) (upd H1 d (.eZ o (.dK AD))))
def aea (te:TE):TI:=fun Z H R=>te Z H fun x H1=>Rr R x H1
def alo (ho:PE X e te):PI X tg e (aea te):=by
 intro pX s Z H R I h;refine cI (ho pX s Z H _ I h) fun v s1 ⟨x,H1,I1,r1,q1⟩=>?_;obtain ⟨d,AD,rfl,e,q⟩:=q1;cases r1;obtain ⟨z,hd,vs,rel,o,σ9,ep,Pz,hx,jJ,hk,hp,hn⟩:=mB I1.bH e;let da:s1.heap.DictAt (bq X.prog X.w) d vs ep:=⟨o,σ9,Pz,hx,jJ,hk,hp,hn⟩;let lv:=rel.length;let I2:=Inv.freeze I1 e Pz;refine wpAny_pyIter_dict hd da ?_;let I3:Inv X pX Z (upd H1 d (.eZ o (.dK AD))) {s1 with heap:=s1.heap.push {cls:=.type "dict_keyiterator",data:=.fields #[.ref d,.int 0 0,.int vs.length 0,.int ep 0]}}:=I2.kept (t':=s1.toks) fun b o e=>FK _ e;show ⟨s1.heap.objs.size,[s1.heap.objs.size],_,_,_,rfl,I3,ahr d _ o AD jJ,(show Heap.IsKeyIter _ _ d 0 AD.length ep from ⟨_,MD _ rfl,rfl,by rw [lv];rfl⟩),fun b hb=>?_,q o⟩;let eb:b=s1.heap.objs.size:=by simpa using hb
 let le:s1.heap.objs.size<=b:=by rw [eb];exact DH _
 exact I2.rf le (I2.bH.fresh le)
def zar {g:TG}{tb:TS}{D:Ends}(Pv:Nat->L2.St->Hp->Prop)(h0:Pv 0 Z H)(hl:∀i Z H,i<=AD.length->Pv i Z H->H d=some (.eZ o (.dK AD)))
  (hs:∀i k x Z H,AD[i]?=some (k,x)->Pv i Z H->g (kV k) Z H fun Z2 H2=>tb {D with nx:=Pv (i+1),ct:=Pv (i+1),bk:=D.nx} Z2 H2) (hd:∀Z H,Pv AD.length Z H->D.nx Z H):
  ∃W:Nat->Nat->L2.St->Hp->Prop,(∃m,W 0 m Z H)/\∀i m Z H,W i m Z H->
   ((Itk d o AD).stop i H/\D.nx Z H)\/((Itk d o AD).go i H/\∃N:L2.St->Hp->Prop,(∀Z' H',N Z' H' ->∃m',m'<m/\W (i+1) m' Z' H')/\∀x H',(Itk d o AD).Mr i H x H' ->g x Z H' fun Z2 H2=>tb {D with nx:=N,ct:=N,bk:=D.nx} Z2 H2):=by
 show ⟨fun i m Z H=>m=AD.length-i/\i<=AD.length/\Pv i Z H,⟨AD.length,by simp,Mu _,h0⟩,?_⟩;rintro i m Z H ⟨rfl,hi,p⟩;let q:=hl i Z H hi p;by_cases lM:i<AD.length
 ·refine .inr ⟨⟨q,lM⟩,Pv (i+1),fun Z' H' z=>⟨AD.length-(i+1),ci,rfl,ci,z⟩,fun x H' y=>?_⟩
  obtain ⟨rfl,k,x',ek,rfl⟩:=y;exact hs i k x' Z _ ek p
 ·let e:i=AD.length:=ci
  subst e;exact .inl ⟨⟨q,DH _⟩,hd Z H p⟩
inductive Rt (xs:ζ)(H:Hp)(Q:VK):Prop
|mk (p:AO)(AD:γ)(_:xs=[.ref p])(_:Rd H p (.dK AD))(_:∀l,H l=none->Q (.ref l) (upd H l (.dK AD)))
def mR:iE X (.type "dict") Rt:=by
 intro pX s Z H vs us Q I r h;obtain ⟨p,AD,rfl,e,q⟩:=h;obtain ⟨u,rfl⟩:∃u,us=[u]:=by cases r with|cons h t=>cases t;show ⟨_,rfl⟩
 cases r with
 | cons h _=>
 cases h;obtain ⟨z,hd,vs,rel,dd⟩:=jY I.bH e;let hn:=I.bH.fresh (DH s.heap.objs.size);refine kt_call_dict hd dd (by rwa [<-rel.length]) fun h' Py sb=>?_;let kk:∀b o,s.heap.get? b=some o->h'.get? b=some o:=fun b o eb=>(sb.2 b (fun z=>CH (FG eb) (by rw [z];exact QX _))).trans (FK _ eb);let I2:Inv X pX Z (upd H s.heap.objs.size (.dK AD)) {s with heap:=h',toks:=s.toks}:=I.laid (t':=s.toks) kk (DH _) (tG z (beq_eq_false_iff_ne.mpr (FN (MV I.big))) rel Py);show ⟨.ref _,_,I2,rfl,q _ hn⟩
end
section
variable {prog:FL}{w:World}{KK:Type}[DecidableEq KK]{knd:KeyKind prog w KK}{A:HL}{E:δ}{s:BW}
def afO (ha:(a==Nr)=false)(hb:(b==Nr)=false)(da:s.heap.DictOf knd a vs)(db:s.heap.DictOf knd b ws)
  (hk:vs.map (·.1)=ws.map (·.1)) (he:∀(i:Nat)(x y:KK×Value),vs[i]?=some x->ws[i]?=some y->WG A s x.2 y.2 true) (h:Q true s):AX (BD prog w) A (Builtin.Dict.samePairs nm a b) Q E s:=by
 obtain ⟨oa,ea,pa,hoa,hca,hda,hka,hpa,hna⟩:=id da;obtain ⟨ob,eb,pb,hob,hcb,rg,hkb,hpb,hnb⟩:=id db;let la:ea.size=vs.length:=by rw [<-hpa.length];simp
 let lb:eb.size=ws.length:=by rw [<-hpb.length];simp
 let lvw:vs.length=ws.length:=by have:=ph Rg hk;simpa using this
 unfold Builtin.Dict.samePairs Builtin.Dict.showsAll;rw [lH (by rw [ha];exact MS),lH (by rw [hb];exact MS)];refine AP (B_ (AP (B_ ?_)));refine AP (Zv hoa hda ?_);refine AP (Zv hob rg ?_);rw [lH (by rw [la,lb,lvw];simp)];refine AP (JZ hoa hda ?_);refine AP ?_;rw [ak6];simp only [am',Nat.sub_zero,Nat.add_sub_cancel,Nat.div_one];refine wpAny_forIn_list _ (fun rest r s'=>r=⟨none,PUnit.unit⟩/\s'=s/\∃i,rest=List.range' i (ea.size-i)/\i<=ea.size) _ ?_ ?_ _ _ ⟨rfl,rfl,0,by simp,Mu _⟩
 ·rintro x rest r s' ⟨rfl,rfl,i,hr,hi⟩
  let lM:i<ea.size:=by
   rcases Nat.lt_or_ge i ea.size with h|h
   ·exact h
   ·rw [Nat.sub_eq_zero_of_le h] at hr;simp at hr
  obtain ⟨rfl,tS⟩:x=i/\rest=List.range' (i+1) (ea.size-(i+1)):=by
   let e:ea.size-i=(ea.size-(i+1))+1:=ci
   rw [e,List.range'_succ] at hr;injection hr with h1 h2
   show ⟨h1,h2⟩
  let hlb:x<eb.size:=ci
  obtain ⟨kv,BO⟩:∃kv,vs[x]?=some kv:=⟨vs[x]'ci,gE _⟩;obtain ⟨kw,hkw⟩:∃kw,ws[x]?=some kw:=⟨ws[x]'ci,gE _⟩;obtain ⟨k,v⟩:=kv;obtain ⟨k2,v2⟩:=kw
  obtain rfl:k=k2:=by
   let e1:(vs.map (·.1))[x]?=some k:=by rw [BJ,BO];rfl
   let e2:(ws.map (·.1))[x]?=some k2:=by rw [BJ,hkw];rfl
   rw [hk,e2] at e1;injection e1 with e1
   exact e1.symm
  obtain ⟨AI,amy⟩:=hpa.get? (e:=ea[x]) (by simp [lM]) BO;obtain ⟨aeb,aec⟩:=hpb.get? (e:=eb[x]) (by simp [hlb]) hkw;obtain ⟨k',aed,aee⟩:=hka ea[x] (Array.getElem_mem lM);obtain rfl:k'=k:=knd.inj _ _ _ aed AI
  let hf:eb.findIdx? (fun e=>knd.is k' e.key)=some x:=by
   rw [Array.findIdx?_eq_some_iff_getElem];show ⟨hlb,aeb,fun j hj z=>?_⟩;let hjb:j<eb.size:=ci
   obtain ⟨⟨kj,vj⟩,hkj⟩:∃kv,ws[j]?=some kv:=⟨ws[j]'ci,gE _⟩;obtain ⟨aef,_⟩:=hpb.get? (e:=eb[j]) (by simp [hjb]) hkj;let e:=knd.inj _ _ _ z aef;let e1:(ws.map (·.1))[j]?=some k':=by rw [BJ,hkj,e];rfl
   let e2:(ws.map (·.1))[x]?=some k':=by rw [BJ,hkw];rfl
   have:=(Wx (by simp;omega) hnb).mp (e1.trans e2.symm);omega
  refine AP (Zv hoa hda ?_);rw [Rm lM];refine AP (Ot (AP ?_));rw [aee];refine wpAny_dictFind_of AI hob rg hkb ?_;rw [hf];refine AP (Zv hob rg ?_);rw [Rm hlb];refine Ot ?_;rw [amy,aec];refine he x _ _ BO hkw prog w _ _ ?_;rw [lH cr];refine AP (JZ hoa hda ?_);rw [lH dL];exact B_ ⟨rfl,rfl,x+1,tS,ci⟩
 ·rintro r s' ⟨rfl,rfl,i,hr,hi⟩
  exact B_ h
open MeetsSeq MeetsSeq2 MeetsSeq3 SeqRoads2 in
open MeetsSeq MeetsSeq2 MeetsSeq3 SeqRoads2 in
end
section
variable {X:Cx}
def aeg (H:Hp)(u v:V):Prop:=∃a b AD,u=.ref a/\v=.ref b/\Rd H a (.dK AD)/\Rd H b (.dK AD)/\∀kv∈AD,jd kv.2=true\/∃c,kv.2=.ref c
end
structure Z_ (K:Frag)(x qual:Str)(st:Stmt)(f:AO)(fd:FuncData):Prop where
 ex:∃(dV oc:Value)(od:Δ)(kV doc pm:Value)(an:Δ)(bE ct:Value)(pM:Ν),
  fd=fnOf x qual (au st) (ar st) (ae st) dV kV doc pm an bE ct/\K.lookup f=some ⟨oc,od,.func fd,pM⟩/\codeIn K bE qual=true
 kp:keepIn K (.ref f)=true
section
variable {P:FL}{w:World}{K:Frag}{mg:ι}{gw:Heap}{CX:nC}
def ady {st:Stmt}{od an:Δ}{pM:Ν}{kV doc pm bE ct:Value}(l:K.lookup f=some ⟨oc,od,.func (fnOf x qual (au st) (ar st) (ae st) dV kV doc pm an bE ct),pM⟩)
  (c:codeIn K bE qual=true) (k:keepIn K (.ref f)=true):Z_ K x qual st f (fnOf x qual (au st) (ar st) (ae st) dV kV doc pm an bE ct):=⟨⟨dV,oc,od,kV,doc,pm,an,bE,ct,pM,rfl,l,c⟩,k⟩
def alA {st:Stmt}(F:qH K name qual st f fd)(S:av N ps (ae st))(len:∀vs H Q E,sp vs H Q E->vs.length=ps.length)
  (gx:∀(bE:Value)(A:HL)(outer:List Env)(s:BW)(H:Hp)(vs:ζ)(Q:VK)(E:XK),cz k (A.deeper (Ng qual (ae st) s.heap.objs.size f bE))->sp vs H Q E->
   ∃t,uS (md P w K mg gw N qual (ae st) f bE A outer s H E).wd (ar st) t/\t {nx:=fun _ H'=>Q .cO H',rt:=Q} (start N vs) H):cK P w K mg gw (aS P w) (k+1) f fd ps sp:=by
 obtain ⟨oc,od,kV,doc,pm,an,bE,ct,pM,rfl,lk,r_⟩:=F.ex
 exact AL lk r_ S len fun A outer s H vs Q E hr zT=>by
  obtain ⟨t,h,q⟩:=gx bE A outer s H vs Q E hr zT;show ⟨t,h.wd,q⟩
def acw {st:Stmt}(F:Z_ K name qual st f fd)(S:av N ps (ae st))(len:∀vs H Q E,sp vs H Q E->vs.length=ps.length)
  (gx:∀(bE:Value)(A:HL)(outer:List Env)(s:BW)(H:Hp)(vs:ζ)(Q:VK)(E:XK),cz k (A.deeper (Ng qual (ae st) s.heap.objs.size f bE))->sp vs H Q E->
   ∃t,uS (md P w K mg gw N qual (ae st) f bE A outer s H E).wd (ar st) t/\t {nx:=fun _ H'=>Q .cO H',rt:=Q} (start N vs) H):cK P w K mg gw (aS P w) (k+1) f fd ps sp:=by
 obtain ⟨dV,oc,od,kV,doc,pm,an,bE,ct,pM,rfl,lk,r_⟩:=F.ex
 exact AL lk r_ S len fun A outer s H vs Q E hr zT=>by
  obtain ⟨t,h,q⟩:=gx bE A outer s H vs Q E hr zT;show ⟨t,h.wd,q⟩
end
structure F_ (P:FL)(w:World)(K:Frag)(mg:ι)(gw:Heap)(CX:nC)(k:Nat)(C:AO)(m:Str)(ps:θ)(ds:ν)(sp:Sp):Prop where
 ex:∃(f:AO)(fd:FuncData),EU K C/\Meth K C m f/\cK P w K mg gw CX k f fd ps sp/\Binds K fd ps ds
section
variable {X:Cx}{CX:nC}{k:Nat}{E:XK}{m:Str}{pos apos:Pos}{e o:Expr}{es:Β}{ta:TE}{t:TA}
inductive Rv (P:FL)(w:World)(K:Frag)(mg:ι)(gw:Heap)(CX:nC)(k:Nat)(m:Str)(E:XK)(t:TA)(Z:L2.St)(Q:VK)(x:V)(H1:Hp):Prop
|mk (a C dx fs ps sp:_)(_:x=.ref a)(_:H1 a=some (.ins C dx fs))(_:fs.lookup m=none)(_:F_ P w K mg gw CX k C m ps [.none] sp)(_:t Z H1 fun vs H2=>sp (x::vs++[.cO]) H2 Q E)
def aeh (P:FL)(w:World)(K:Frag)(mg:ι)(gw:Heap)(CX:nC)(k:Nat)(m:Str)(E:XK)(ta:TE)(t:TA):TE:=fun Z H Q=>ta Z H fun x H1=>Rv P w K mg gw CX k m E t Z Q x H1
def adw {pl:Sem Bool}(he:PE X o ta)(hr:cz k X.A)(hx:Passes CX X E)(ha:PA X (e::es) t)
  (Qi:DI (e::es) X.env=(false,DC e X.env)::DI es X.env:=by rfl) (nE:(MZ pos (DI es X.env)).any (·.1)=false:=by rfl)
  (ht:DC (.Call (.Attribute o m apos) (e::es) [] pos) X.env=(do
   let ov <- DC o X.env
   standAt apos.atName
   let (f,first) <- VI [ov] (getMethod ov m pl)
   callWith pos f first (MZ pos (DI (e::es) X.env)) (backToKw pos (WJ [] X.env))):=by rfl):
  PE X (.Call (.Attribute o m apos) (e::es) [] pos) (aeh X.prog X.w X.K X.mg X.gw CX k m E ta t):=by
 intro pX s Z H Q I h;refine Qj (pl:=pl) (cI (he pX s Z H _ I h) fun u s1 ⟨x,H1,I1,rx,a,C,dx,fs,ps,sp,ex,ea,l,M,q⟩=>?_) ht;subst ex;obtain rfl:u=Value.ref a:=rx;obtain ⟨f,fd,c,hm,F,hb⟩:=M.ex;refine mL I1 ea c hm l ?_;refine rA (first:=[.ref a]) (h₀:=X.gw) I.ok.mod.XR hm.kp (cI (ha pos pX s1 Z H1 _ I1 q) fun us s2 ⟨vs,H2,I2,r,q2⟩=>⟨I2.j8,?_⟩) Qi nE;exact xB (us:=.ref a::us) (vs:=.ref a::vs) (uT:=[.cO]) F hr hb (.cons rfl .nil) hx I2 (.cons rfl r) q2
end
theorem lX {κ:Type}[DecidableEq κ](k j:κ):∀AD:List (κ×V),bB (jh AD k) j=if j=k then none else bB AD j
 | []=>by
  show none=_;split<;>rfl
 | p::r=>by
  let ih:=lX k j r;unfold jh at ih ⊢;rw [Ru];by_cases h:p.1=k
  ·rw [lH (by simp [h]),ih]
   by_cases e:j=k
   ·rw [mG e,mG e]
   ·rw [lH e,lH e,bw (fun z=>e (z.symm.trans h))]
  ·rw [mG (by simp [h])]
   by_cases e:p.1=j
   ·rw [bO e,bO e,lH (fun z=>h (e.trans z))]
   ·rw [bw e,bw e,ih]
theorem zaq {κ:Type}[DecidableEq κ]{k:κ}{v:V}:∀{AD:List (κ×V)},bB AD k=some v->(k,v)∈AD
 | p::r,h=>by
  by_cases e:p.1=k
  ·rw [bO e] at h
   cases h;subst e;exact LZ ..
  ·rw [bw e] at h
   exact HV _ (zaq h)
theorem bS {κ:Type}[DecidableEq κ]{k:κ}:∀{AD:List (κ×V)},k∉AD.map (·.1)->bB AD k=none
 | [],_=>rfl
 | p::r,h=>by
  rw [HU,M_,not_or] at h;rw [bw (fun e=>h.1 e.symm)];exact bS h.2
theorem qd {κ:Type}[DecidableEq κ]{k:κ}:∀{AD:List (κ×V)},k∈AD.map (·.1)->∃v,bB AD k=some v
 | p::r,h=>by
  by_cases e:p.1=k
  ·show ⟨_,bO e⟩
  ·rw [bw e]
   rw [HU,M_] at h
   rcases h with h|h
   ·exact CH h.symm e
   ·exact qd h
def ahH {κ:Type}[DecidableEq κ]{AD:List (κ×V)}{k:κ}{v:V}(P:κ->Prop)(h:∀kv∈AD,P kv.1)(hk:P k):∀kv∈putK AD k v,P kv.1:=by
 unfold putK;split
 ·intro kv m
  obtain ⟨a,ha,e⟩:=CI.mp m;have:=h a ha;by_cases z:a.1=k
  ·rw [mG z] at e;rw [<-e];exact this
  ·rw [lH z] at e;rw [<-e];exact this
 ·intro kv m
  rcases FQ.mp m with m|m
  ·exact h kv m
  ·rw [GZ] at m
   rwa [m]
def pG (K:Frag)(H:Hp)(AD:γ)(F:ο):Prop:=
 ∀nm,(bB AD (.inr nm)=none/\F nm=none)\/∃v q,bB AD (.inr nm)=some v/\F nm=some q/\jy K H v q
theorem pG.gV {K:Frag}(h:pG K H AD F)(s:aq H H'):pG K H' AD F:=fun nm=>by
 rcases h nm with h|⟨v,q,h1,h2,h3⟩
 ·exact .inl h
 ·exact .inr ⟨v,q,h1,h2,h3.gV s⟩
def pG.put {K:Frag}(h:pG K H AD F)(n:jy K H v q):pG K H (putK AD (.inr x) v) (fun nm=>if nm=x then some q else F nm):=fun nm=>by
 rw [jm];by_cases e:nm=x
 ·subst e
  exact .inr ⟨v,q,by rw [mG rfl],by show (if nm=nm then some q else F nm)=some q;rw [mG rfl],n⟩
 ·let e':(GH nm:Key)≠.inr x:=fun z=>e (MQ z)
  show (_/\(if nm=x then some q else F nm)=none)\/∃v' q',_/\(if nm=x then some q else F nm)=some q'/\_;rw [lH e',lH e];exact h nm
def pG.drop {K:Frag}(h:pG K H AD F)(x:Str):pG K H (jh AD (.inr x)) (fun nm=>if nm=x then none else F nm):=fun nm=>by
 rw [lX];by_cases e:nm=x
 ·subst e
  exact .inl ⟨by rw [mG rfl],by show (if nm=nm then none else F nm)=none;rw [mG rfl]⟩
 ·let e':(GH nm:Key)≠.inr x:=fun z=>e (MQ z)
  show (_/\(if nm=x then none else F nm)=none)\/∃v' q',_/\(if nm=x then none else F nm)=some q'/\_;rw [lH e',lH e];exact h nm
def pG.BQ {K:Frag}(h:pG K H AD G)(n:jy K H v q):jy K H ((bB AD (.inr x)).getD v) ((G x).getD q):=by
 rcases h x with ⟨h1,h2⟩|⟨u,q',h1,h2,h3⟩
 ·rw [h1,h2]
  exact n
 ·rw [h1,h2]
  exact h3
structure Rw (K:Frag)(C:AO):Prop where
 cls:EU K C
 pl:ig K C "pin_places"
 wy:ig K C "pin_ways"
 br:ig K C "bar_ends"
abbrev frF (pP pW pB:AO):List (Str×V):=[("pin_places",.ref pP),("pin_ways",.ref pW),("bar_ends",.ref pB)]
abbrev Pt:=(Int×Int)×(Int×Int)
abbrev _root_.Ι:=List (Str×Pt)
abbrev fS (p:Pt):List Da:=[.t [.v (.int p.1.1),.v (.int p.1.2)],.t [.v (.int p.2.1),.v (.int p.2.2)]]
def bf (H H':Hp):Prop:=∀b xs,Rd H b (.tup xs)->Rd H' b (.tup xs)
def bf.of (s:aq H H'):bf H H':=fun b xs e=>by
 rcases e with e|⟨o,e⟩
 ·exact .inl (s _ _ e)
 ·exact .inr ⟨o,s _ _ e⟩
def bf.trans (a:bf H H1)(b:bf H1 H2):bf H H2:=fun c xs e=>b c xs (a c xs e)
def bf.dict (e:H d=some (.dK AD)):bf H (upd H d o):=fun b xs r=>by
 rcases r with r|⟨o,r⟩
 ·exact .inl (by rw [ah (fun z=>by erw [z,e] at r)];exact r)
 ·exact .inr ⟨o,by rw [ah (fun z=>by erw [z,e] at r)];exact r⟩
def bf.list (e:H d=some (.lst xs)):bf H (upd H d o):=fun b xs r=>by
 rcases r with r|⟨o,r⟩
 ·exact .inl (by rw [ah (fun z=>by erw [z,e] at r)];exact r)
 ·exact .inr ⟨o,by rw [ah (fun z=>by erw [z,e] at r)];exact r⟩
def bf.dI {K:Frag}(s:bf H H')(q:bZ K H p xs):bZ K H' p xs:=by
 rcases q with q|q
 ·exact .inl (s _ _ q)
 ·exact .inr q
def jy.aT {K:Frag}(h:jy K H v q)(s:bf H H'):jy K H' v q:=by
 obtain ⟨p,e,k⟩:=h;show ⟨p,e,s.dI k⟩
theorem pG.aT {K:Frag}(h:pG K H AD F)(s:bf H H'):pG K H' AD F:=fun nm=>by
 rcases h nm with h|⟨v,q,h1,h2,h3⟩
 ·exact .inl h
 ·exact .inr ⟨v,q,h1,h2,h3.aT s⟩
def Spot (K:Frag)(H:Hp)(v:V)(p:Pt):Prop:=∃a u1 u2,v=.ref a/\bZ K H a [u1,u2]/\jy K H u1 p.1/\jy K H u2 p.2
theorem Spot.aT {K:Frag}(h:Spot K H v p)(s:bf H H'):Spot K H' v p:=by
 obtain ⟨a,u1,u2,e,h1,h2,h3⟩:=h;show ⟨a,u1,u2,e,s.dI h1,h2.aT s,h3.aT s⟩
def oi {K:Frag}(h:jy K H v q):Is K H (.t [.v (.int q.1),.v (.int q.2)]) v:=by
 obtain ⟨p,rfl,e⟩:=h;unfold Is;show ⟨p,_,rfl,e,?_⟩;unfold iX;show ⟨by unfold Is;show ⟨rfl,rfl⟩,?_⟩;unfold iX;show ⟨by unfold Is;show ⟨rfl,rfl⟩,?_⟩;unfold iX;trivial
def Spot.is {K:Frag}(h:Spot K H v p):Is K H (.t (fS p)) v:=by
 obtain ⟨a,u1,u2,rfl,h1,h2,h3⟩:=h;unfold Is;show ⟨a,_,rfl,h1,?_⟩;unfold iX;show ⟨oi h2,?_⟩;unfold iX;show ⟨oi h3,?_⟩;unfold iX;trivial
def zap (p q:Pt):eE (fS p) (fS q)=decide (p=q):=by
 let e:eE (fS p) (fS q)=((p.1.1==q.1.1 && (p.1.2==q.1.2 && true)) && ((p.2.1==q.2.1 && (p.2.2==q.2.2 && true)) && true)):=by
  simp only [fS,eE,je,rh]
 rw [e];obtain ⟨⟨a,b⟩,c,d⟩:=p;obtain ⟨⟨a',b'⟩,c',d'⟩:=q;by_cases h:a=a' <;> by_cases h1:b=b' <;> by_cases h2:c=c' <;> by_cases h3:d=d' <;> simp [h,h1,h2,h3,Prod.mk.injEq]
def qN (p q:Pt):fV (fS p) (fS q)=true:=by simp [fS,fV,alike]
def wQ (p:Pt):jE (fS p)<=60:=by simp [fS,jE,dep]
structure gZ (K:Frag)(H:Hp)(C a dx pP pW pB:AO)(ps:Ι)(bs:Α)(kP kW kB:γ):Prop where
 obj:H a=some (.ins C dx (frF pP pW pB))
 pl:H pP=some (.dK kP)
 wy:H pW=some (.dK kW)
 br:H pB=some (.dK kB)
 ne1:pP≠pW
 ne2:pP≠pB
 ne3:pW≠pB
 rp:Paired (fun (p:Str×Pt) (kv:Φ)=>kv.1=.inr p.1/\Spot K H kv.2 p.2) ps kP
 rb:Paired (fun (b:Str×Str×Str) (kv:Φ)=>kv.1=.inr b.1/\∃p,kv.2=.ref p/\Rd H p (.tup [.str b.2.1,.str b.2.2])) bs kB
section
variable {K:Frag}{H H':Hp}{C a dx pP pW pB:AO}{ps:Ι}{bs:Α}{kP kW kB:γ}
theorem iH {R:(Str×Y)->(Key×V)->Prop}:∀{l:List (Str×Y)} {AD:γ},Paired (fun b kv=>kv.1=.inr b.1/\R b kv) l AD->AD.map (·.1)=l.map (fun b=>(GH b.1:Key))
 | _,_,.nil=>rfl
 | _,_,.cons h t=>by rw [HU,HU,h.1,iH t]
def iI {l:θ}:(GH x:Key)∈l.map (fun b=>(GH b:Key)) ↔ x∈l:=by
 constructor
 ·intro h
  obtain ⟨y,hy,e⟩:=CI.mp h;exact MQ e▸hy
 ·exact fun h=>CI.mpr ⟨x,h,rfl⟩
def gZ.Rx (R:gZ K H C a dx pP pW pB ps bs kP kW kB)(s:bf H H')(h1:H' a=H a)(h2:H' pP=H pP)(h3:H' pW=H pW)(h4:H' pB=H pB):gZ K H' C a dx pP pW pB ps bs kP kW kB:=
 ⟨h1.trans R.obj,h2.trans R.pl,h3.trans R.wy,h4.trans R.br,R.ne1,R.ne2,R.ne3,Paired.dc R.rp fun _ _ h=>⟨h.1,h.2.aT s⟩,Paired.dc R.rb fun _ _ h=>⟨h.1,by obtain ⟨p,e,k⟩:=h.2;show ⟨p,e,s _ _ k⟩⟩⟩
def gZ.gV (R:gZ K H C a dx pP pW pB ps bs kP kW kB)(s:aq H H'):gZ K H' C a dx pP pW pB ps bs kP kW kB:=
 R.Rx (.of s) ((s _ _ R.obj).trans R.obj.symm) ((s _ _ R.pl).trans R.pl.symm) ((s _ _ R.wy).trans R.wy.symm) ((s _ _ R.br).trans R.br.symm)
def gZ.KG (R:gZ K H C a dx pP pW pB ps bs kP kW kB):kB.map (·.1)=(bs.map (·.1)).map (fun b=>(GH b:Key)):=by
 rw [iH R.rb,MI];rfl
def gZ.KH (R:gZ K H C a dx pP pW pB ps bs kP kW kB):kP.map (·.1)=(ps.map (·.1)).map (fun b=>(GH b:Key)):=by
 rw [iH R.rp,MI];rfl
def gZ.bar (R:gZ K H C a dx pP pW pB ps bs kP kW kB)(x:Str):(bB kB (.inr x)).isSome=decide (x∈bs.map (·.1)):=by
 by_cases h:x∈bs.map (·.1)
 ·obtain ⟨v,e⟩:=qd (AD:=kB) (k:=.inr x) (by rw [R.KG];exact iI.mpr h)
  rw [e,Ms h];rfl
 ·rw [bS (by rw [R.KG];exact fun z=>h (iI.mp z)),Nt h]
  rfl
def gZ.pin (R:gZ K H C a dx pP pW pB ps bs kP kW kB)(x:Str):(bB kP (.inr x)).isSome=decide (x∈ps.map (·.1)):=by
 by_cases h:x∈ps.map (·.1)
 ·obtain ⟨v,e⟩:=qd (AD:=kP) (k:=.inr x) (by rw [R.KH];exact iI.mpr h)
  rw [e,Ms h];rfl
 ·rw [bS (by rw [R.KH];exact fun z=>h (iI.mp z)),Nt h]
  rfl
def gZ.ab (R:gZ K H C a dx pP pW pB ps bs kP kW kB):a≠pP/\a≠pW/\a≠pB:=
 ⟨fun z=>(by have h:=R.obj;erw [z,R.pl] at h),fun z=>(by have h:=R.obj;erw [z,R.wy] at h),fun z=>(by have h:=R.obj;erw [z,R.br] at h)⟩
def gZ.σ' (R:gZ K H C a dx pP pW pB ps bs kP kW kB)(ht:Rd H t (.tup [.str one,.str lG])):
  gZ K (upd H pB (.dK (kB++[(.inr x,.ref t)]))) C a dx pP pW pB ps (bs++[(x,one,lG)]) kP kW (kB++[(.inr x,.ref t)]):=by
 let s:bf H (upd H pB (.dK (kB++[(.inr x,.ref t)]))):=.dict R.br
 show ⟨by rw [ah R.ab.2.2];exact R.obj,by rw [ah R.ne2];exact R.pl,by rw [ah R.ne3];exact R.wy,ag,R.ne1,R.ne2,R.ne3,Paired.dc R.rp fun _ _ h=>⟨h.1,h.2.aT s⟩,
  ZL (Paired.dc R.rb fun _ _ h=>⟨h.1,by obtain ⟨p,e,k⟩:=h.2;show ⟨p,e,s _ _ k⟩⟩) ⟨rfl,t,rfl,s _ _ ht⟩⟩
theorem gB :∀{l:List Y} {m:List β},Paired R l m->Paired (fun b a=>R a b) m l
 | _,_,.nil=>.nil
 | _,_,.cons h t=>.cons h (gB t)
def gZ.aaa (R:gZ K H C a dx pP pW pB ps bs kP kW kB)(ht:Spot K H (.ref t) p):
  gZ K (upd H pP (.dK (kP++[(.inr x,.ref t)]))) C a dx pP pW pB (ps++[(x,p)]) bs (kP++[(.inr x,.ref t)]) kW kB:=by
 let s:bf H (upd H pP (.dK (kP++[(.inr x,.ref t)]))):=.dict R.pl
 show ⟨by rw [ah R.ab.1];exact R.obj,ag,by rw [ah (FN R.ne1)];exact R.wy,by rw [ah (FN R.ne2)];exact R.br,R.ne1,R.ne2,R.ne3,
  ZL (Paired.dc R.rp fun _ _ h=>⟨h.1,h.2.aT s⟩) ⟨rfl,ht.aT s⟩,Paired.dc R.rb fun _ _ h=>⟨h.1,by obtain ⟨p,e,k⟩:=h.2;show ⟨p,e,s _ _ k⟩⟩⟩
def gZ.KI (R:gZ K H C a dx pP pW pB ps bs kP kW kB)(BS :γ):gZ K (upd H pW (.dK BS)) C a dx pP pW pB ps bs kP BS kB:=by
 let s:bf H (upd H pW (.dK BS)):=.dict R.wy
 show ⟨by rw [ah R.ab.2.1];exact R.obj,by rw [ah R.ne1];exact R.pl,ag,by rw [ah (FN R.ne3)];exact R.br,R.ne1,R.ne2,R.ne3,
  Paired.dc R.rp fun _ _ h=>⟨h.1,h.2.aT s⟩,Paired.dc R.rb fun _ _ h=>⟨h.1,by obtain ⟨p,e,k⟩:=h.2;show ⟨p,e,s _ _ k⟩⟩⟩
def jq (xs:θ):(xs.map V.str).all jd=true:=by
 rw [List.all_map,List.all_eq_true];exact fun _ _=>rfl
theorem dy :∀(xs:θ),zV (.str x) (xs.map V.str)=decide (x∈xs)
 | []=>rfl
 | y::ys=>by
  let ih:=dy (x:=x) ys;unfold zV at ih ⊢;rw [HU,rE,ih];by_cases e:y=x
  ·subst e
   simp [rh]
  ·let e':¬ x=y:=fun z=>e z.symm
   simp [rh,e,e']
end
open Builtin.Int (intBits)
def qr (r:Rat):Int×Int:=(r.num,(r.den:Int))
def cZ (r:Rat):0<(qr r).2:=by
 have:=r.den_pos;show (0:Int)<(r.den:Int);omega
def tT (r:Rat):MO (qr r).1 (qr r).2=1:=by
 have:=r.reduced;show MO r.num (r.den:Int)=1;unfold MO;simpa [Nat.Coprime] using this
def iJ (r:Rat):vl (qr r)=r:=by
 show (r.num:Rat) / ((r.den:Int):Rat)=r;rw [<-alp];exact alh r
def wU (h:0<q.2)(g:MO q.1 q.2=1):q=qr (vl q):=acF h (cZ _) g (tT _) (iJ _).symm
def fY (h:b≠0):low t b=qr ((t:Rat) / (b:Rat)):=by
 rw [<-ah7 h];exact wU (lO h) (rN h)
def mS (h:qr a=qr b):a=b:=by
 rw [<-iJ a,<-iJ b,h]
def mT (i:Int):qr (i:Rat)=(i,1):=by
 let e:(i,(1:Int))=qr (vl (i,1)):=wU (by show (0:Int)<1;decide) (by show MO i 1=1;simp)
 let v:vl (i,(1:Int))=(i:Rat):=by
  unfold vl;show (i:Rat) / ((1:Int):Rat)=i;have:((1:Int):Rat)=1:=by rfl
  rw [this];grind
 rw [e,v]
def F' (r:Rat):qr (-r)=(-(qr r).1,(qr r).2):=by
 let e:((-(qr r).1,(qr r).2):Int×Int)=qr (vl (-(qr r).1,(qr r).2)):=wU (cZ r) (by
  have:=tT r;show MO (-(qr r).1) (qr r).2=1;rw [Int.neg_gcd]
  exact this)
 let v:vl (-(qr r).1,(qr r).2)= -r:=by
  let h:=iJ r;unfold vl at h ⊢;push_cast;rw [<-h];grind
 rw [e,v]
def BU :((qr r).2:Rat)≠0:=eV (Nd (cZ r))
def ae_ (a b:Rat):low ((qr a).1*(qr b).2+(qr b).1*(qr a).2) ((qr a).2*(qr b).2)=qr (a+b):=by
 let ha:=cZ a;let hb:=cZ b;rw [fY (Nd (V7 ha hb))];let e1:=iJ a;let e2:=iJ b;let z1:=BU (r:=a);let z2:=BU (r:=b);unfold vl at e1 e2;congr 1;push_cast;grind
def aeY (a b:Rat):low ((qr a).1*(qr b).2-(qr b).1*(qr a).2) ((qr a).2*(qr b).2)=qr (a-b):=by
 let ha:=cZ a;let hb:=cZ b;rw [fY (Nd (V7 ha hb))];let e1:=iJ a;let e2:=iJ b;let z1:=BU (r:=a);let z2:=BU (r:=b);unfold vl at e1 e2;congr 1;push_cast;grind
def agG (a b:Rat):low ((qr a).1*(qr b).1) ((qr a).2*(qr b).2)=qr (a*b):=by
 let ha:=cZ a;let hb:=cZ b;rw [fY (Nd (V7 ha hb))];let e1:=iJ a;let e2:=iJ b;let z1:=BU (r:=a);let z2:=BU (r:=b);unfold vl at e1 e2;congr 1;push_cast;grind
structure Sz (k:Nat)(r:Rat):Prop where
 top:intBits (qr r).1<=k
 bot:intBits (qr r).2<=k
def Sz.up (h:Sz k r)(kl:k<=l):Sz l r:=⟨CT h.top kl,CT h.bot kl⟩
def aca (ha:intBits a<=k)(hb:intBits b<=k):intBits (a+b)<=k+1:=by
 rw [JP] at ha hb ⊢;have:=sZ a b;rw [Wt];omega
def ahc (ha:intBits a<=k)(hb:intBits b<=k):intBits (a-b)<=k+1:=by
 rw [JP] at ha hb ⊢;have:=Int.natAbs_sub_le a b;rw [Wt];omega
def tU (hb:b≠0)(h1:intBits t<=k)(h2:intBits b<=k):Sz k ((t:Rat) / (b:Rat)):=by
 rw [<-ah7 hb];let e:=wU (lO (t:=t) hb) (rN hb);show ⟨by rw [<-e];exact QC (mN hb) h1,by rw [<-e];exact QC (mO hb) h2⟩
def RB (hb:b≠0)(e:low t b=qr r)(h1:intBits t<=k)(h2:intBits b<=k):Sz k r:=by
 let z:=fY (t:=t) hb;rw [z] at e;have:=mS e;rw [<-this];exact tU hb h1 h2
def Sz.add (ha:Sz k a)(hb:Sz l b):Sz (k+l+1) (a+b):=
 RB (Nd (V7 (cZ a) (cZ b))) (ae_ a b) (aca (QR ha.top hb.bot) (by rw [xP];exact QR hb.top ha.bot)) (LA (QR ha.bot hb.bot))
def Sz.sub (ha:Sz k a)(hb:Sz l b):Sz (k+l+1) (a-b):=
 RB (Nd (V7 (cZ a) (cZ b))) (aeY a b) (ahc (QR ha.top hb.bot) (by rw [xP];exact QR hb.top ha.bot)) (LA (QR ha.bot hb.bot))
def Sz.mul (ha:Sz k a)(hb:Sz l b):Sz (k+l) (a*b):=
 RB (Nd (V7 (cZ a) (cZ b))) (agG a b) (QR ha.top hb.top) (QR ha.bot hb.bot)
def Sz.neg (ha:Sz k a):Sz k (-a):=by
 show ⟨?_,?_⟩
 ·rw [F']
  have:=ha.top;rw [JP] at this ⊢;show (-(qr a).1).natAbs<2^k;rw [ak4];exact this
 ·rw [F']
  exact ha.bot
def i6 {i:Int}(h:i.natAbs<2^k)(hk:1<=k):Sz k (i:Rat):=by
 show ⟨?_,?_⟩
 ·rw [mT]
  exact intBits_le_iff.mpr h
 ·rw [mT]
  refine intBits_le_iff.mpr ?_;show 1<2^k;exact Nat.one_lt_two_pow ci
def fe (K:Frag)(H:Hp)(v:V)(r:Rat):Prop:=jy K H v (qr r)
def gC (K:Frag)(H:Hp)(v:V)(p:Rat×Rat):Prop:=∃a u1 u2,v=.ref a/\bZ K H a [u1,u2]/\fe K H u1 p.1/\fe K H u2 p.2
section
variable {K:Frag}{H H':Hp}{v:V}{r:Rat}{p:Rat×Rat}
theorem fe.aT (h:fe K H v r)(s:bf H H'):fe K H' v r:=jy.aT h s
theorem fe.gV (h:fe K H v r)(s:aq H H'):fe K H' v r:=jy.gV h s
theorem gC.aT (h:gC K H v p)(s:bf H H'):gC K H' v p:=by
 obtain ⟨a,u1,u2,e,h1,h2,h3⟩:=h;show ⟨a,u1,u2,e,s.dI h1,h2.aT s,h3.aT s⟩
def gC.gV (h:gC K H v p)(s:aq H H'):gC K H' v p:=h.aT (.of s)
abbrev BV (p:Rat×Rat):Pt:=(qr p.1,qr p.2)
def gC.aei (h:gC K H v p):Spot K H v (BV p):=h
def mf (K:Frag)(H:Hp)(us:ζ)(ps:Ξ):Prop:=Paired (gC K H) us ps
theorem mf.aT (h:mf K H us ps)(s:bf H H'):mf K H' us ps:=Paired.dc h fun _ _ z=>z.aT s
def mf.gV (h:mf K H us ps)(s:aq H H'):mf K H' us ps:=h.aT (.of s)
end
section
variable {X:Cx}
def akw {Z:L2.St}(I:Inv X pX Z H s)(h1:gC X.K H v p)(h2:gC X.K H v q):p=q:=by
 obtain ⟨a,u1,u2,rfl,t1,⟨b1,rfl,n1⟩,b2,rfl,n2⟩:=h1;obtain ⟨a',w1,w2,e,t2,⟨c1,rfl,m1⟩,c2,rfl,m2⟩:=h2;cases e;cases I.lK t1 t2;let e1:=I.lK n1 m1;let e2:=I.lK n2 m2;simp only [List.cons.injEq,V.int.injEq,and_true] at e1 e2;exact ZG (mS (ZG e1.1 e1.2)) (mS (ZG e2.1 e2.2))
def aej (K:Frag)(neg:Bool):R2:=fun x y H Q=>∃p l us ps,y=.ref l/\aK K H l us/\gC K H x p/\mf K H us ps/\Q (.bl (if neg then !decide (p∈ps) else decide (p∈ps))) H
def aek {Z:L2.St}{AU:ν}(I:Inv X pX Z H s)(hu:A.units+60<Nh)(hx:gC X.K H x p)(rx:RelV x v)(hp:mf X.K H us ps)(rv:Vals us AU):
  ∃e:Value->Bool,(∀y,y∈AU.toArray->WG A s y v (e y))/\AU.toArray.any e=decide (p∈ps):=by
 let key:∀(j:Nat)(y:Value),AU[j]?=some y->∃u q,us[j]?=some u/\ps[j]?=some q/\RelV u y/\gC X.K H u q:=fun j y ey=>by
  obtain ⟨u,eu,ru⟩:=aE (gB rv) ey;obtain ⟨q,eq,hq⟩:=aE hp eu;show ⟨u,q,eu,eq,ru,hq⟩
 show ⟨fun y=> @decide (∃u q,RelV u y/\gC X.K H u q/\q=p) (vc _),fun y hy=>?_,?_⟩
 ·obtain ⟨j,hj,ey⟩:=Vy.mp (by simpa using hy:y∈AU)
  obtain ⟨u,q,eu,eq,ru,hq⟩:=key j y (by rw [gE hj,ey]);let z:=amP (A:=A) I (.t (fS (BV q))) (.t (fS (BV p))) u x y v hq.aei.is hx.aei.is (by unfold alike;exact qN _ _) ru rx (by have:=wQ (BV q);unfold dep;simp only [fS,jE,dep] at this ⊢;omega)
  let e:je (.t (fS (BV q))) (.t (fS (BV p)))= @decide (∃u q,RelV u y/\gC X.K H u q/\q=p) (vc _):=by
   unfold je;rw [zap];by_cases c:q=p
   ·subst c
    rw [Ms rfl]
    symm
    exact @Ms _ (vc _) ⟨u,q,ru,hq,rfl⟩
   ·rw [Nt (fun z=>c (ZG (mS (ph anp z)) (mS (ph anq z))))]
    symm
    refine @Nt _ (vc _) fun ⟨u',q',ru',pE,e'⟩=>?_;obtain ⟨a,_,_,rfl,_⟩:=id hq;obtain ⟨a',_,_,rfl,_⟩:=id pE;let r1:y=Value.ref a:=ru;let r2:y=Value.ref a':=ru';erw [r1] at r2;exact c ((akw I hq pE).trans e')
  rwa [e] at z
 ·rw [sY,decide_eq_true_iff]
  simp only [List.any_toArray,AF];constructor
  ·rintro ⟨y,hy,ey⟩
   obtain ⟨j,hj,ej⟩:=Vy.mp hy;obtain ⟨u,q,eu,eq,ru,hq⟩:=key j y (by rw [gE hj,ej]);obtain ⟨u',q',ru',pE,e'⟩:= @Nl _ (vc _) ey;obtain ⟨a,_,_,rfl,_⟩:=id hq;obtain ⟨a',_,_,rfl,_⟩:=id pE;let r1:y=Value.ref a:=ru;let r2:y=Value.ref a':=ru';erw [r1] at r2;rw [<-e',<-akw I hq pE];exact DA eq
  ·intro hm
   obtain ⟨j,hj,ej⟩:=Vy.mp hm;let lu:us.length=ps.length:=HR hp;let li:us.length=AU.length:=rv.length;let hj':j<AU.length:=ci
   show ⟨AU[j],Rk hj',?_⟩;obtain ⟨u,q,eu,eq,ru,hq⟩:=key j AU[j] (gE hj');erw [gE hj,ej] at eq;exact @Ms _ (vc _) ⟨u,p,ru,hq,rfl⟩
def acW (hu:X.A.units+64<Nh):km X (Nj .In) (aej X.K false):=by
 intro pX s Z H x y v u Q I rx ry h;obtain ⟨p,l,us,ps,rfl,hq,hx,hp,q⟩:=h;cases ry;obtain ⟨AU,rv,pl,hz⟩:=I.list hq;obtain ⟨e,he,ea⟩:=aek (A:=X.A.in1) I (by rw [in1_units];omega) hx rx hp rv;refine SeqAt.in_listAt e pl.isList he ⟨.bl _,H,I,rfl,?_⟩;rwa [ea]
end
def mU {R:(Str×Y)->(Key×V)->Prop}:∀{l:List (Str×Y)} {AD:γ},Paired (fun b kv=>kv.1=.inr b.1/\R b kv) l AD->(l.map (·.1)).Nodup->(x,y)∈l->∃v,bB AD (.inr x)=some v/\R (x,y) (.inr x,v):=fun {l AD} p nd m=>by
 induction p with
 | nil=>cases m
 | cons h t ih=>
  rw [HU,Qd] at nd
  rcases M_.mp m with e|m
  ·subst e
   show ⟨_,bO h.1,?_⟩;let h2:=h.2;rwa [<-h.1]
  ·obtain ⟨v,e,r⟩:=ih nd.2 m
   show ⟨v,?_,r⟩;rw [bw (fun z=>?_)]
   ·exact e
   ·rw [h.1] at z
    exact nd.1 (MQ z▸CI.mpr ⟨_,m,rfl⟩)
def EV (K:Frag)(H:Hp)(pw:Ο)(kW:γ):Prop:=
 Paired (fun (p:Str×List (Rat×Rat)) (kv:Φ)=>kv.1=.inr p.1/\∃l us,kv.2=.ref l/\H l=some (.lst us)/\mf K H us p.2) pw kW
theorem EV.gV {K:Frag}(h:EV K H pw kW)(s:aq H H'):EV K H' pw kW:=
 Paired.dc h fun _ _ z=>⟨z.1,by obtain ⟨l,us,e1,e2,e3⟩:=z.2;show ⟨l,us,e1,s _ _ e2,e3.gV s⟩⟩
theorem EV.dict {K:Frag}(h:EV K H pw kW)(e:H d=some (.dK AD)):EV K (upd H d o) pw kW:=
 Paired.dc h fun _ _ z=>⟨z.1,by
  obtain ⟨l,us,e1,e2,e3⟩:=z.2
  show ⟨l,us,e1,by rw [ah (fun q=>by erw [q,e] at e2)];exact e2,e3.aT (.dict e)⟩⟩
def EV.keys {K:Frag}(h:EV K H pw kW):kW.map (·.1)=(pw.map (·.1)).map (fun b=>(GH b:Key)):=by
 rw [iH h,MI];rfl
def gZ.ends {K:Frag}(R:gZ K H C a dx pP pW pB ps bs kP kW kB)(nd:(bs.map (·.1)).Nodup)(m:(x,one,lG)∈bs):
  ∃p,bB kB (.inr x)=some (.ref p)/\Rd H p (.tup [.str one,.str lG]):=by
 obtain ⟨v,e,p,ep,r⟩:=mU R.rb nd m;have ET :v=.ref p:=ep;show ⟨p,by rw [e,ET],r⟩
def gZ.place {K:Frag}(R:gZ K H C a dx pP pW pB ps bs kP kW kB)(nd:(ps.map (·.1)).Nodup)(m:(x,p)∈ps):
  ∃v,bB kP (.inr x)=some v/\Spot K H v p:=mU R.rp nd m
structure aY where
 nm:Str
 sp:Rat×Rat
 ws:List (Rat×Rat)
abbrev _root_.ς:=List aY
structure bK where
 nm:Str
 one:aY
 lG:aY
abbrev _root_.Η:=List bK
inductive x6 (K:Frag)(H:Hp)(C a:AO)(pX:ς)(ao:Η):Prop
|mk (dx pP pW pB:AO)(kP kW kB:γ)(_:gZ K H C a dx pP pW pB (pX.map fun p=>(p.nm,BV p.sp)) (ao.map fun b=>(b.nm,b.one.nm,b.lG.nm)) kP kW kB)(_:EV K H (pX.map fun p=>(p.nm,p.ws)) kW)
def x6.ex {K:Frag}(h:x6 K H C a pX ao):x6 K H C a pX ao:=h
structure iK (pX:ς)(ao:Η):Prop where
 np:(pX.map (·.nm)).Nodup
 nb:(ao.map (·.nm)).Nodup
 ends:∀b∈ao,b.one∈pX/\b.lG∈pX/\b.one.nm≠b.lG.nm
 sz:∀p∈pX,Sz 24 p.sp.1/\Sz 24 p.sp.2/\∀w∈p.ws,Sz 22 w.1/\Sz 22 w.2
 lp:pX.length<=9
 lb:ao.length<=14
 lw:∀p∈pX,p.ws.length<=2
theorem x6.gV {K:Frag}(h:x6 K H C a pX ao)(s:aq H H'):x6 K H' C a pX ao:=by
 obtain ⟨dx,pP,pW,pB,kP,kW,kB,R,W⟩:=h.ex;show ⟨dx,pP,pW,pB,kP,kW,kB,R.gV s,W.gV s⟩
def Nk (K:Frag)(H:Hp)(AD:γ)(F:ρ):Prop:=
 ∀nm,(bB AD (.inr nm)=none/\F nm=none)\/∃v p,bB AD (.inr nm)=some v/\F nm=some p/\gC K H v p
section
variable {K:Frag}{H H':Hp}{AD:γ}
theorem Nk.gV (h:Nk K H AD F)(s:aq H H'):Nk K H' AD F:=fun nm=>by
 rcases h nm with h|⟨v,q,h1,h2,h3⟩
 ·exact .inl h
 ·exact .inr ⟨v,q,h1,h2,h3.gV s⟩
def Nk.BQ (h:Nk K H AD F)(n:gC K H v q):gC K H ((bB AD (.inr x)).getD v) ((F x).getD q):=by
 rcases h x with ⟨h1,h2⟩|⟨u,q',h1,h2,h3⟩
 ·rw [h1,h2]
  exact n
 ·rw [h1,h2]
  exact h3
end
def ac1 {K:Frag}{g:TG}{tb:TS}{D:Ends}(Pv:Nat->L2.St->Hp->Prop)(h0:Pv 0 Z H)(hl:∀i Z H,Pv i Z H->aK K H a xs/\aK K H b ys)
  (hs:∀i x y Z H p,xs[i]?=some x->ys[i]?=some y->Pv i Z H->H p=none->g (.ref p) Z (upd H p (.tup [x,y])) fun Z2 H2=>tb {D with nx:=Pv (i+1),ct:=Pv (i+1),bk:=D.nx} Z2 H2) (hd:∀Z H,Pv (min xs.length ys.length) Z H->D.nx Z H):
  ∃W:Nat->Nat->L2.St->Hp->Prop,(∃m,W 0 m Z H)/\∀i m Z H,W i m Z H->
   ((ZX K a b).stop i H/\D.nx Z H)\/((ZX K a b).go i H/\∃N:L2.St->Hp->Prop,(∀Z' H',N Z' H' ->∃m',m'<m/\W (i+1) m' Z' H')/\∀x H',(ZX K a b).Mr i H x H' ->g x Z H' fun Z2 H2=>tb {D with nx:=N,ct:=N,bk:=D.nx} Z2 H2):=by
 show ⟨fun i m Z H=>m=min xs.length ys.length-i/\i<=min xs.length ys.length/\Pv i Z H,⟨min xs.length ys.length,by simp,Mu _,h0⟩,?_⟩;rintro i m Z H ⟨rfl,hi,p⟩;obtain ⟨q1,q2⟩:=hl i Z H p;by_cases lM:i<min xs.length ys.length
 ·let l1:i<xs.length:=ci
  let l2:i<ys.length:=ci
  refine .inr ⟨⟨xs,ys,xs[i],ys[i],q1,q2,gE l1,gE l2⟩,Pv (i+1),fun Z' H' z=>⟨min xs.length ys.length-(i+1),ci,rfl,ci,z⟩,fun v H' y=>?_⟩;obtain ⟨c,x,y,e1,e2,rfl,nc,rfl⟩:=y;exact hs i x y Z H c (e1 xs q1) (e2 ys q2) p nc
 ·let e:i=min xs.length ys.length:=ci
  subst e;exact .inl ⟨⟨xs,ys,q1,q2,ci⟩,hd Z H p⟩
def kJ {Y:Type}{nm:Y->Str}{l:List Y}(nd:(l.map nm).Nodup){b b':Y}(h:l[i]?=some b)(m:b' ∈l.take i):nm b'≠nm b:=fun e=>by
 let il:=(Wp.mp h).1;obtain ⟨j,hj,ej⟩:=Vy.mp m;rw [KR] at ej;rw [HQ] at hj;let q1:(l.map nm)[j]?=some (nm b):=by rw [BJ,gE ci,ej,<-e];rfl
 let q2:(l.map nm)[i]?=some (nm b):=by rw [BJ,h];rfl
 have:=(Wx (by rw [ir];omega) nd).mp (q1.trans q2.symm);omega
def take_snoc {Y:Type}{l:List Y}{b:Y}(h:l[i]?=some b):l.take (i+1)=l.take i++[b]:=by rw [Q0,h];rfl
theorem oj {κ:Type}[DecidableEq κ]:∀{AD:List (κ×V)} {t:Nat} {k:κ} {y:V},(AD.map (·.1)).Nodup->AD[t]?=some (k,y)->bB AD k=some y
 | p::r,0,k,y,nd,e=>by
  cases e;exact bO rfl
 | p::r,t+1,k,y,nd,e=>by
  rw [HU,Qd] at nd;let e':r[t]?=some (k,y):=e;rw [bw (fun z=>nd.1 (z▸CI.mpr ⟨_,DA e',rfl⟩))];exact oj nd.2 e'
def qe (s:aq H H')(n:H' p=none):H p=none:=by
 cases e:H p with
 | none=>rfl
 | some o=>erw [s _ _ e] at n
abbrev ix (h:Heap)(z TI TO:AO)(f0:Value)(fb:Bool):Prop:=
 h.get? z=some {cls:=.type "zip",dict:=none,data:=.fields #[f0,.bool fb,.bool false,.ref TI,.ref TO],slots:= #[]}
section
variable {prog:FL}{w:World}{A:HL}{E:δ}{s:BW}
def abA (h:s.heap.get? a=some o)(q:Q (some o) s):AX (BD prog w) A (loadIfAlive a) Q E s:=fun Γ p _=>by
 show Sem.wp _ _ (.loadIfAlive a .pure) _ _ _ _;rwa [Sem.wp_loadIfAlive,h]
def zal {z TI TO T:AO}(hz:ix s.heap z TI TO (Mv T) fb)(hT:s.heap.get? T=some o)
  (hQ:∀h',ix h' z TI TO (Mv T) true->SO z s.heap h' ->Q false {s with heap:=h'}):AX (BD prog w) A (WA (.ref z)) Q E s:=by
 unfold WA;refine AP (Q7 hz rfl (x:=Mv T) rfl ?_);show AX _ _ (loadIfAlive ((T:Int)).toNat >>=_) _ _ _;refine AP (abA (o:=o) (by simpa using hT) ?_);simp only [Option.isNone_some,uv,if_false];refine AP (Q7 hz rfl (x:=.bool fb) rfl ?_);cases fb with
 | true=>
  show AX _ _ (if (Value.bool true !=Value.bool true)=true then _ else _) _ _ _;rw [lH cr];exact B_ (hQ s.heap hz ⟨rfl,fun _ _=>rfl⟩)
 | false=>
  show AX _ _ (if (Value.bool false !=Value.bool true)=true then _ else _) _ _ _;rw [mG cr];refine AP (p_ hz dL fun h' hz' Ym =>B_ (hQ h' hz' Ym))
def abL {z TI TO T i1 i2 l1 l2:AO}{xs ys:Κ}{Q:δ}(D:ZipApart z TI TO i1 i2 l1 l2)
  (hz:ix s.heap z TI TO (Mv T) fb) (hT:s.heap.get? T=some o) (gL:MU s.heap TI (.ref i1) (.ref i2))
  (h1:s.heap.IsListIter i1 l1 k1) (h2:s.heap.IsListIter i2 l2 k2) (KN:s.heap.IsList l1 xs) (AR:s.heap.IsList l2 ys) (hx:xs[k1]?=some x) (hy:ys[k2]?=some y)
  (hQ:∀h',ix h' z TI TO (Mv T) true->h'.IsListIter i1 l1 (k1+1)->h'.IsListIter i2 l2 (k2+1)->MU h' s.heap.objs.size x y->h'.objs.size=s.heap.objs.size+1->
   (∀c o,c≠z->c≠i1->c≠i2->s.heap.get? c=some o->h'.get? c=some o)->Q (.ref s.heap.objs.size) {s with heap:=h'}):
  AX (BD prog w) A (Builtin.«zip.__next__» ⟨[.ref z],[]⟩) (fun fin s'=>∃v,fin=.done (.ret v)/\Q v s') E s:=by
 show AX _ _ (field (.ref z) 2 >>=_) _ _ _;refine AP (Q7 hz rfl (x:=.bool false) rfl ?_);show AX _ _ (field (.ref z) 3 >>=_) _ _ _;refine AP (Q7 hz rfl (x:=.ref TI) rfl ?_);refine AP (VL gL rfl ?_);show AX _ _ (WA (.ref z) >>=_) _ _ _;refine AP (zal hz hT fun rG hz₁ GB=>?_);simp only [uv,if_false];refine AP ?_;show AX _ _ (forIn [Value.ref i1,Value.ref i2].toArray _ _) _ _ _;rw [ali];simp only [KP,LN];refine AP (AP (Ot ?_));show AX _ _ (V' (.ref i1) >>=_) _ _ _;refine AP (Qq (h1.extBut GB.extBut D.i1z) (KN.extBut GB.extBut D.l1z) hx fun uU h1₂ RD=>B_ ?_);refine B_ ?_;refine AP (AP (Ot ?_));show AX _ _ (V' (.ref i2) >>=_) _ _ _;refine AP (Qq ((h2.extBut GB.extBut D.i2z).extBut RD.extBut D.i12.symm) ((AR.extBut GB.extBut D.l2z).extBut RD.extBut D.l2i1) hy fun h₄ h2₄ hs₄=>B_ ?_);refine B_ (B_ ?_);refine AP (wpAny_newTuple (hsz:=(by show 2<=BZ;decide)) ?_);let hsz:h₄.objs.size=s.heap.objs.size:=by rw [hs₄.1,RD.1,GB.1]
 refine B_ ⟨_,rfl,?_⟩;let hz₄:ix h₄ z TI TO (Mv T) true:=hs₄.extBut _ _ D.i2z.symm (RD.extBut _ _ D.i1z.symm hz₁);show Q (.ref h₄.objs.size) _;rw [hsz];refine hQ _ (FK _ hz₄) ((h1₂.extBut hs₄.extBut D.i12).at fun o e=>FK _ e) (h2₄.at fun o e=>FK _ e) ?_ (by rw [RP,hsz]) fun c o c1 c3 c4 e=>FK _ (hs₄.extBut _ _ c4 (RD.extBut _ _ c3 (GB.extBut _ _ c1 e)));show (h₄.push _).get? _=_;rw [<-hsz];exact MD _ rfl
def ahW {z TI TO T i1 i2 l1 l2:AO}{xs ys:Κ}(hh:A.handled=none)(D:ZipApart z TI TO i1 i2 l1 l2)
  (hz:ix s.heap z TI TO (Mv T) fb) (hT:s.heap.get? T=some o) (gL:MU s.heap TI (.ref i1) (.ref i2))
  (h1:s.heap.IsListIter i1 l1 k1) (h2:s.heap.IsListIter i2 l2 k2) (KN:s.heap.IsList l1 xs) (AR:s.heap.IsList l2 ys) (Nn:xs[k1]?=none\/ys[k2]?=none)
  (hE:∀h' e,(∀c o,c≠z->c≠i1->c≠i2->s.heap.get? c=some o->h'.get? c=some o)->(∃o,h'.get? e=some o/\o.cls=.type "StopIteration")->E (.ref e) {s with heap:=h'}):
  AX (BD prog w) A (Builtin.«zip.__next__» ⟨[.ref z],[]⟩) Q E s:=by
 show AX _ _ (field (.ref z) 2 >>=_) _ _ _;refine AP (Q7 hz rfl (x:=.bool false) rfl ?_);show AX _ _ (field (.ref z) 3 >>=_) _ _ _;refine AP (Q7 hz rfl (x:=.ref TI) rfl ?_);refine AP (VL gL rfl ?_);show AX _ _ (WA (.ref z) >>=_) _ _ _;refine AP (zal hz hT fun rG hz₁ GB=>?_);simp only [uv,if_false];refine AP ?_;show AX _ _ (forIn [Value.ref i1,Value.ref i2].toArray _ _) _ _ _;rw [ali];simp only [KP,LN];refine AP (AP (Ot ?_));show AX _ _ (V' (.ref i1) >>=_) _ _ _;cases hx:xs[k1]? with
 | none=>
  refine AP (wpAny_nextOf_list_end hh (h1.extBut GB.extBut D.i1z) (KN.extBut GB.extBut D.l1z) hx fun uU e RD he=>?_);exact hE uU e (fun c o c1 c3 _ x=>RD _ _ c3 (GB.extBut _ _ c1 x)) he
 | some x=>
  let hy:ys[k2]?=none:=by rcases Nn with h|h;erw [hx] at h;exact h
  refine AP (Qq (h1.extBut GB.extBut D.i1z) (KN.extBut GB.extBut D.l1z) hx fun uU h1₂ RD=>B_ ?_);refine B_ ?_;refine AP (AP (Ot ?_));show AX _ _ (V' (.ref i2) >>=_) _ _ _;refine AP (wpAny_nextOf_list_end hh ((h2.extBut GB.extBut D.i2z).extBut RD.extBut D.i12.symm) ((AR.extBut GB.extBut D.l2z).extBut RD.extBut D.l2i1) hy fun h₄ e hs₄ he=>?_);exact hE h₄ e (fun c o c1 c3 c4 x=>hs₄ _ _ c4 (RD.extBut _ _ c3 (GB.extBut _ _ c1 x))) he
def aaF {z TI TO T i1 i2 l1 l2:AO}{xs ys:Κ}{Q:Λ}(D:ZipApart z TI TO i1 i2 l1 l2)
  (hz:ix s.heap z TI TO (Mv T) fb) (hT:s.heap.get? T=some o) (gL:MU s.heap TI (.ref i1) (.ref i2))
  (h1:s.heap.IsListIter i1 l1 k1) (h2:s.heap.IsListIter i2 l2 k2) (KN:s.heap.IsList l1 xs) (AR:s.heap.IsList l2 ys) (hx:xs[k1]?=some x) (hy:ys[k2]?=some y)
  (hQ:∀h',ix h' z TI TO (Mv T) true->h'.IsListIter i1 l1 (k1+1)->h'.IsListIter i2 l2 (k2+1)->MU h' s.heap.objs.size x y->h'.objs.size=s.heap.objs.size+1->
   (∀c o,c≠z->c≠i1->c≠i2->s.heap.get? c=some o->h'.get? c=some o)->Q (some (.ref s.heap.objs.size)) {s with heap:=h'}):
  AX (BD prog w) A (RE (.ref z)) Q E s:=by
 let hT':s.TypeIs (.ref z) "zip":=⟨_,hz,rfl⟩;unfold RE
 exact AP (wpAny_attempt (wpAny_callSpecial?_slot (name:=Q8 "__next__") hT' Vk
  (Vd Vk hT' KC
   (abL D hz hT gL h1 h2 KN AR hx hy fun h' a1 a3 a4 a5 a6 a7=>B_ (hQ h' a1 a3 a4 a5 a6 a7)) (LX _))))
def zae {z TI TO T i1 i2 l1 l2:AO}{xs ys:Κ}{Q:Λ}(hh:A.handled=none)(D:ZipApart z TI TO i1 i2 l1 l2)
  (hz:ix s.heap z TI TO (Mv T) fb) (hT:s.heap.get? T=some o) (gL:MU s.heap TI (.ref i1) (.ref i2))
  (h1:s.heap.IsListIter i1 l1 k1) (h2:s.heap.IsListIter i2 l2 k2) (KN:s.heap.IsList l1 xs) (AR:s.heap.IsList l2 ys) (Nn:xs[k1]?=none\/ys[k2]?=none)
  (hQ:∀h',(∀c o,c≠z->c≠i1->c≠i2->s.heap.get? c=some o->h'.get? c=some o)->Q none {s with heap:=h'}):AX (BD prog w) A (RE (.ref z)) Q E s:=by
 let hT':s.TypeIs (.ref z) "zip":=⟨_,hz,rfl⟩;unfold RE
 refine AP (wpAny_attempt (wpAny_callSpecial?_slot (name:=Q8 "__next__") hT' Vk
  (Vd Vk hT' KC (ahW hh D hz hT gL h1 h2 KN AR Nn fun h' e hk he=>?_) (LX _))))
 obtain ⟨o,ho,hc⟩:=he;refine AP (J_ (T:="StopIteration") (b:=true) ⟨o,ho,hc⟩ isSubtype_stop ?_);exact B_ (hQ _ hk)
end
def T9 (h:Heap)(z TI TO i1 i2 a b S:AO)(i:Nat):Prop:=(ix h z TI TO .none false\/∃(T:AO)(o:Obj)(fb:Bool),ix h z TI TO (Mv T) fb/\h.get? T=some o/\T≠z/\T≠TO/\T≠i1/\T≠i2/\T≠S)/\MU h TI (.ref i1) (.ref i2)/\(∃x y,MU h TO x y)/\h.IsListIter i1 a i/\h.IsListIter i2 b i
section
variable {prog:FL}{w:World}{A:HL}{E:δ}{s:BW}{z TI TO i1 i2 a b S:AO}{i:Nat}
def T9.frame (st:T9 h z TI TO i1 i2 a b S i)(k:∀c o,c≠S->h.get? c=some o->h'.get? c=some o)(nz:z≠S)(n1:TI≠S)(n2:TO≠S)(n3:i1≠S)(n4:i2≠S):T9 h' z TI TO i1 i2 a b S i:=by
 obtain ⟨hz,gL,⟨x,y,lR⟩,h1,h2⟩:=st;show ⟨?_,k _ _ n1 gL,⟨x,y,k _ _ n2 lR⟩,h1.at fun o e=>k _ o n3 e,h2.at fun o e=>k _ o n4 e⟩
 rcases hz with hz|⟨T,o,fb,hz,hT,t1,t2,t3,t4,t5⟩
 ·exact .inl (k _ _ nz hz)
 ·exact .inr ⟨T,o,fb,k _ _ nz hz,k _ _ t5 hT,t1,t2,t3,t4,t5⟩
def T9.item {xs ys:Κ}{Q:Λ}(D:ZipApart z TI TO i1 i2 a b)(st:T9 s.heap z TI TO i1 i2 a b S i)(hS:s.heap.get? S=some oS)
  (KN:s.heap.IsList a xs) (AR:s.heap.IsList b ys) (hx:xs[i]?=some x) (hy:ys[i]?=some y)
  (hQ:∀h',T9 h' z TI TO i1 i2 a b S (i+1)->MU h' s.heap.objs.size x y->(∀c o,c∉[z,TI,TO,i1,i2]->s.heap.get? c=some o->h'.get? c=some o)->Q (some (.ref s.heap.objs.size)) {s with heap:=h'}):
  AX (BD prog w) A (RE (.ref z)) Q E s:=by
 obtain ⟨hz,gL,⟨x0,y0,lR⟩,h1,h2⟩:=st;let lt:∀{c o},s.heap.get? c=some o->s.heap.objs.size≠c:=fun e=>V9 (FG e);let e1:∃o,s.heap.get? i1=some o:=by obtain ⟨o,e,_⟩:=h1;show ⟨o,e⟩
 let e2:∃o,s.heap.get? i2=some o:=by obtain ⟨o,e,_⟩:=h2;show ⟨o,e⟩
 obtain ⟨o1,e1⟩:=e1;obtain ⟨o2,e2⟩:=e2;let nin:∀{c:AO},c∉[z,TI,TO,i1,i2]->c≠z/\c≠TI/\c≠TO/\c≠i1/\c≠i2:=fun h=>by simpa using h
 rcases hz with hz|⟨T,o,fb,hz,hT,t1,t2,t3,t4,t5⟩
 ·refine wpAny_pyNext_zip_item D hz gL lR h1 h2 KN AR hx hy fun h' a1 a2 a3 a4 a5 a6 a7=>?_
  refine hQ h' ⟨.inr ⟨_,_,false,a1,a5,lt hz,lt lR,lt e1,lt e2,lt hS⟩,a7 _ _ D.TIz D.TITO D.TIi1 D.TIi2 gL,⟨_,_,a2⟩,a3,a4⟩ a5 fun c o hc e=>?_;obtain ⟨c1,c2,c3,c4,c5⟩:=nin hc;exact a7 c o c1 c3 c4 c5 e
 ·refine aaF D hz hT gL h1 h2 KN AR hx hy fun h' a1 a3 a4 a5 a6 a7=>?_
  refine hQ h' ⟨.inr ⟨T,o,true,a1,a7 _ _ t1 t3 t4 hT,t1,t2,t3,t4,t5⟩,a7 _ _ D.TIz D.TIi1 D.TIi2 gL,⟨_,_,a7 _ _ D.TOz D.TOi1 D.TOi2 lR⟩,a3,a4⟩ a5 fun c o hc e=>?_;obtain ⟨c1,c2,c3,c4,c5⟩:=nin hc;exact a7 c o c1 c4 c5 e
def T9.fin {xs ys:Κ}{Q:Λ}(hh:A.handled=none)(D:ZipApart z TI TO i1 i2 a b)(st:T9 s.heap z TI TO i1 i2 a b S i)
  (KN:s.heap.IsList a xs) (AR:s.heap.IsList b ys) (Nn:xs[i]?=none\/ys[i]?=none)
  (hQ:∀h',(∀c o,c∉[z,TI,TO,i1,i2]->s.heap.get? c=some o->h'.get? c=some o)->Q none {s with heap:=h'}):AX (BD prog w) A (RE (.ref z)) Q E s:=by
 obtain ⟨hz,gL,⟨x0,y0,lR⟩,h1,h2⟩:=st;let nin:∀{c:AO},c∉[z,TI,TO,i1,i2]->c≠z/\c≠TI/\c≠TO/\c≠i1/\c≠i2:=fun h=>by simpa using h
 rcases hz with hz|⟨T,o,fb,hz,hT,t1,t2,t3,t4,t5⟩
 ·refine wpAny_pyNext_zip_end hh D hz gL lR h1 h2 KN AR Nn fun h' kk=>hQ h' fun c o hc e=>?_
  obtain ⟨c1,c2,c3,c4,c5⟩:=nin hc;exact kk c o c1 c3 c4 c5 e
 ·refine zae hh D hz hT gL h1 h2 KN AR Nn fun h' kk=>hQ h' fun c o hc e=>?_
  obtain ⟨c1,c2,c3,c4,c5⟩:=nin hc;exact kk c o c1 c4 c5 e
end
section
variable {X:Cx}{pX:ε}{Z:L2.St}
def aci (h:H p=none)(o:HO):aq H (upd H p o):=fun b u q=>by rwa [ah (ak q h)]
def boot_list:Nf "list"=some (.type "list"):=by decide+kernel
end
section
variable {X:Cx}
def zak {K:Frag}(hK:X.K=K)(he:PE X e ta)(hb:V2 e f X.env (DC e X.env)=DC e X.env):PE X (.Attribute e f pos) (Yi K ta f):=by
 subst hK;exact acu he hb
end
def thE (H0:Hp)(E:XK):XK:=fun cls dx H'=>E cls dx H' \/∃d o AD,H' d=some (.eZ o (.dK AD))/\(∀o' u',H0 d≠some (.eZ o' u'))/\E cls dx (upd H' d (.dK AD))
def aS.VX (h:aS P w outer H s (thE H E) e s'):aS P w outer H s E e s':=by
 obtain ⟨a,cls,a0,dx,H',B,rfl,fl,da,un,ok,os,bare,th,tr,hE⟩:=h
 rcases hE with hE|⟨d,o,AD,ed,nf,hE⟩
 ·show ⟨a,cls,a0,dx,H',B,rfl,fl,da,un,ok,os,bare,th,tr,hE⟩
 ·let nx:∀b u',H' b=some u' ->b≠d->upd H' d (.dK AD) b=some u':=fun b u q n=>by rwa [ah n]
  show ⟨a,cls,a0,dx,upd H' d (.dK AD),B,rfl,fl,da,⟨un.keep,un.slot,fun b ob q n hx=>?_,un.there,fun b xs q=>?_,fun b ob u q=>?_,fun b ps q=>?_⟩,?_,os,bare,th,fun b u q=>?_,hE⟩
  ·let z:=un.free b ob q n hx
   rw [ah (fun y=>by erw [y,ed] at z)];exact z
  ·let z:=un.jA b xs q
   exact nx b _ z fun y=>by erw [y,ed] at z
  ·let z:=un.ja b ob u q
   exact nx b _ z fun y=>by rw [y] at q;exact nf _ _ q
  ·obtain ⟨m,z⟩:=un.jB b ps q
   show ⟨m,nx b _ z fun y=>by erw [y,ed] at z⟩
  ·let stt:∀{b u'},bW P w H' s'.heap b u' ->bW P w (upd H' d (.dK AD)) s'.heap b u':=fun {b u'} k=>k.mK (fun _ _ _ z=>z) (fun c z=>nx c _ z fun y=>by erw [y,ed] at z) fun c xs z=>nx c _ z fun y=>by erw [y,ed] at z
   intro b u' q;by_cases hb:b=d
   ·subst hb
    erw [ag] at q;exact stt (ok b _ ed).2
   ·rw [ah hb] at q
    exact stt (ok b u' q)
  ·by_cases hb:b=d
   ·subst hb
    exact tr b _ ed
   ·rw [ah hb] at q
    exact tr b u q
section
variable {P:FL}{w:World}{K:Frag}{mg:ι}{gw:Heap}
def zaz (len:∀vs H Q E,sp vs H Q E->vs.length=ps.length)(h:∀vs H Q E,sp vs H Q E->sp' vs H Q (thE H E))(F:cK P w K mg gw (aS P w) k f fd ps sp'):cK P w K mg gw (aS P w) k f fd ps sp:=
 ⟨len,fun A outer s H args us vs Q E hr he hb hv hs=>Wn (F.run A outer s H args us vs Q (thE H E) hr he hb hv (h _ _ _ _ hs)) fun r s' hq=>by
  cases r with
  | error e=>exact aS.VX hq
  | ok fl=>
   cases fl with
   | ret u=>exact hq
   | next=>exact hq
   | brk=>exact hq
   | cont=>exact hq⟩
end
def zaj (l:AO)(AU:Κ)(n:Nat)(b:AO)(fP:Κ)(n2:Nat)(d:Δ)(sl:Ν)(hs0:¬(!AU.isEmpty && z9 (AU.size+fP.size))=true)(hs1:AU.size<=BZ)(wj:AU.size+fP.size<=BZ+1):
  Meets (Builtin.«list.extend» ⟨[.ref l,.ref b],[]⟩) (fun _ R s=>s.heap.get? l=some {cls:=.type "list",dict:=none,data:=.seq AU n,slots:= #[]}/\s.heap.get? b=some {cls:=.type "tuple",dict:=d,data:=.seq fP n2,slots:=sl}/\
   R (.ok (.ret Value.none)) {s with heap:=s.heap.update l (V4 fun x=>x++fP),toks:=s.toks}):=
 .of_wp fun prog w A R s h=>by
  obtain ⟨hp,g,dd,tk,os⟩:=s;obtain ⟨hl,hb,h⟩:=h;let f1:=AutoSeq1.idx_int;let f2:=AutoSeq1.sub_tuple_tuple;let f3:=AutoSeq1.sub_list_list;let f4:=AutoSeq1.sub_tuple_list;let f5:=AutoSeq1.sub_list_tuple;let hz':(AU++fP).size<=BZ+1:=by rwa [Array.size_append]
  wp_walk using (JJ hl rfl (hz:=hs1) (_hz':=hz')),wpAny_loadPart' hl,wpAny_loadPart' hb
  show ⟨_,rfl,h⟩
section
variable {X:Cx}
def aeo (K:Frag):V->List V->Hp->VK->Prop:=fun x vs H Q=>∃l b xs zs,x=.ref l/\vs=[.ref b]/\H l=some (.lst xs)/\bZ K H b zs/\xs.length+zs.length<=1000/\Q .cO (upd H l (.lst (xs++zs)))
def acB:MtR X "list.extend" (aeo X.K):=by
 intro pX s Z H x vs v us Q I rx rv h;obtain ⟨l,b,xs,zs,rfl,rfl,hH,hB,hz,q⟩:=h;cases rx;obtain ⟨u,rfl,ru⟩:=rv.one;cases ru;obtain ⟨z,AU,n,r,hl,e⟩:=I.sM hH;obtain ⟨fP,r2,tp,z2⟩:=I.tuple hB;let AR:=r2.length;let big:(1000:Nat)<=BZ:=cr
 let hsz:AU.toArray.size+fP.toArray.size<=BZ:=by rw [Ni,Ni];omega
 let QE:¬ (!AU.toArray.isEmpty && z9 (AU.toArray.size+fP.toArray.size))=true:=by
  rw [aeA hsz,LP];exact MS
 obtain ⟨⟨c,d,dt,sl⟩,e2,hc,n2,hd⟩:=tp;obtain rfl:c=Value.type "tuple":=hc;obtain rfl:dt=_:=hd
 refine call_meets F.slot_list_extend ⟨_,e,rfl⟩ F.entry_list_extend (F.args_list_extend_2 _ _)
  (zaj l AU.toArray n b fP.toArray n2 d sl QE (by rw [Ni];omega) ci) ⟨e,e2,?_⟩
 show ⟨.cO,_,I.adk (rH:=AU++fP) hH e dL (r.append r2) ?_,rfl,q⟩;rw [IA];omega
end
def amr:typeLookup (.type "zip") "__getattr__"=pure none:=by rw [typeLookup_type,builtinLookup_eq_fast];kernel_rfl
def ahb:typeLookup (.type "zip") "keys"=pure none:=by rw [typeLookup_type,builtinLookup_eq_fast];kernel_rfl
def acq:entryFor table "zip.__getattribute__"=some Builtin.«object.__getattribute__»:=
 entryFor_alias (id':="object.__getattribute__") (by kernel_rfl) (by decide+kernel) (by decide+kernel) (by kernel_rfl)
def qO:entryFor table "dict.update.loop"=some Builtin.«dict.update.loop»:=entryFor_of_tree (by kernel_rfl)
def iL:plainId "dict.update.loop"=true:=by decide+kernel
def acE (a:AO)(vs:Κ)(u:Tok):
  Meets (Builtin.«object.__getattribute__» ⟨[.ref a,.str "keys" u],[]⟩) (fun A R s=>s.heap.get? a=some {cls:=.type "zip",dict:=none,data:=.fields vs,slots:= #[]}/\raisesAttr (.ref a) "keys" A R s):=
 Meets.of_wp fun prog w A R s hs=>by
  obtain ⟨hp,g,d,tk,os⟩:=s;obtain ⟨hx,hs⟩:=hs;let hT:(⟨hp,g,d,tk,os⟩:BW).TypeIs (.ref a) "zip":=⟨_,hx,rfl⟩;let hm:=ahb;unfold Builtin.«object.__getattribute__»
  repeat (any_goals (first|(assumption)|wp_step))
  exact wpAny_raiseAttrError hs.1 hs.2 (attrMsg_fits (by decide+kernel) (by decide+kernel))
section
variable {prog:FL}{w:World}{A:HL}{E:δ}{s:BW}
def abw {vs:Κ}{Q:Λ}(hx:s.heap.get? z=some {cls:=.type "zip",dict:=none,data:=.fields vs,slots:= #[]})(hA:A.handled=none)
  (h:∀h' tk,(∀b o,s.heap.get? b=some o->h'.get? b=some o)->Q none {s with heap:=h',toks:=tk}):AX (BD prog w) A (getAttr? (.ref z) "keys") Q E s:=by
 obtain ⟨hp,g,d,tk,os⟩:=s;let hT:∀tk',(⟨hp,g,d,tk',os⟩:BW).TypeIs (.ref z) "zip":=fun _=>⟨_,hx,rfl⟩;let f1:=sub_AttributeError;let f3:=F.slot_zip_getattribute.lookup;let f4:=F.slot_zip_getattribute.bind (.ref z);let f5:=amr;unfold getAttr? getAttrBy? getAttrBy
 repeat (any_goals (first|(assumption)|exact hT _|((with_reducible show AX _ _ (call (Value.builtin "zip.__getattribute__") _ _) _ _ _);refine call_meets F.slot_zip_getattribute (hT _) acq (F.args_zip_getattribute_2 _ _) (acE z vs _) ⟨hx,hA,fun h' tk' e T6 =>?_⟩)|wp_step))
 obtain ⟨t',u',he⟩:=T6.there;show AX _ _ (getattributeRaised _ _ _ _ _ _ _) _ _ _;unfold getattributeRaised
 repeat (any_goals (first|(assumption)|wp_step))
 exact h _ _ T6.keeps
def zaW {z TI TO:AO}{Q:δ}(hA:A.in1.in1.handled=none)(hz:Nv s.heap z TI TO f0)
  (hL:∀(h':Heap)(tk:Nat)(R:Θ),(∀b o,s.heap.get? b=some o->h'.get? b=some o)->h'.get? s.heap.objs.size=some {cls:=.type "dict",data:=.dict #[]}->
   (∀s',Q (.ref s.heap.objs.size) s' ->R (.ok (.ret .none)) s')->Nc (BD prog w) A.in1 (.builtin "dict.update.loop" ⟨[.ref s.heap.objs.size,.ref z,Mv 0,.none],[]⟩) R {s with heap:=h',toks:=tk}):
  AX (BD prog w) A (call (.type "dict") [.ref z]) Q E s:=by
 refine callType_codes (Q₁:=fun obj oW=>obj=.ref s.heap.objs.size/\oW={s with heap:=s.heap.push {cls:=.type "dict",data:=.dict #[]}}) F.kt_called_dict (F.kt_typeCall_dict_1 _) F.entry_dict_init (kt_code_dict_new _ ⟨rfl,rfl⟩) ?_;rintro obj oW ⟨rfl,rfl⟩;let hS:(s.heap.push {cls:=.type "dict",data:=.dict #[]}).get? s.heap.objs.size=some {cls:=.type "dict",data:=.dict #[]}:=MD _ rfl;let k0:∀b o,s.heap.get? b=some o->(s.heap.push {cls:=.type "dict",data:=.dict #[]}).get? b=some o:=fun b o e=>FK _ e;generalize hN:s.heap.objs.size=S at hS hL ⊢;generalize s.heap.push {cls:=.type "dict",data:=.dict #[]}=hp at hS k0 ⊢;let hz2:hp.get? z=_:=k0 _ _ hz;let hTS:Shared.TypeIs {s with heap:=hp} (.ref S) "dict":=⟨_,hS,rfl⟩;let hT:Shared.TypeIs {s with heap:=hp} (.ref z) "zip":=⟨_,hz2,rfl⟩;show ⟨hTS,F.args_dict_init_2 _ _,?_⟩;unfold Builtin.«dict.__init__»;refine AP ?_;unfold Builtin.Dict.selfAndRest;refine AP (wpAny_notOrdered_dict hTS ?_);refine B_ ?_;show AX _ _ (Builtin.Dict.updateFrom "dict.__init__" S (.ref z) [] .none) _ _ _;unfold Builtin.Dict.updateFrom;refine AP (wpAny_typeOf hT ?_);rw [mG cr];refine AP (abw (s:={s with heap:=hp}) hz2 hA fun h' tk k1=>?_);rw [mG (by rfl)];refine AP (wpAny_rule ?_);let hz3:Nv h' z TI TO f0:=k1 _ _ hz2;refine AP (ym (s:={s with heap:=h',toks:=tk}) hz3 ?_);exact B_ ⟨xI iL _,hL _ _ _ (fun b o e=>k1 _ _ (k0 _ _ e)) (k1 _ _ hS) fun s' hq=>⟨rfl,hq⟩⟩
end
section
variable {X:Cx}{pX:ε}{Z:L2.St}
def abu (AD more:γ)(kv:Φ):dj AD (more++[kv])=putK (dj AD more) kv.1 kv.2:=by
 unfold dj;rw [alq];rfl
def aab {z TI TO i1 i2 a b S:AO}{R:Θ}{ks:List Key}(hh:A'.in1.handled=none)(D:ZipApart z TI TO i1 i2 a b)(na:a≠S)(nb:b≠S)(hk1:ks.length<=1000):
  ∀(k i:Nat)(s:BW)(H:Hp),min ks.length ys.length-i=k->i<=min ks.length ys.length->Inv X pX Z H s->(∀c∈[z,TI,TO,i1,i2],ma X pX H c)->T9 s.heap z TI TO i1 i2 a b S i->
  H a=some (.lst (ks.map kV))->H b=some (.lst ys)->H S=some (.dK (dj [] ((ks.zip ys).take i)))->cx S H0 H->
  (∀s' H',Inv X pX Z H' s' ->cx S H0 H' ->H' S=some (.dK (dj [] (ks.zip ys)))->R (.ok (.ret .none)) s')->
  Nc (BD X.prog X.w) A' (.builtin "dict.update.loop" ⟨[.ref S,.ref z,Mv (i:Int),.none],[]⟩) R s:=by
 let aEF:(ks.zip ys).length=min ks.length ys.length:=ame;intro k
 induction k with
 | zero=>
  intro i s H hk hi I hf st ha hb hS T_ hR;refine codeAny_builtin qO ?_;rw [Around.under_plainId iL _];show AX _ A'.in1 (RE (.ref z) >>=_) _ _ s;obtain ⟨z1,AU,n1,r1,l1,e1⟩:=I.sM ha;obtain ⟨z2,ZY,n2,r2,l2,e2⟩:=I.sM hb;rw [ir] at l1;refine AP (st.fin hh D ⟨_,e1,rfl,_,rfl⟩ ⟨_,e2,rfl,_,rfl⟩ ?_ fun h' kk=>?_)
  ·by_cases c:ks.length<=i
   ·exact .inl (by simp;omega)
   ·exact .inr (by simp;omega)
  ·rw [SS ci] at hS
   exact AP (B_ (B_ (hR _ H (Inv.nZ (t':=s.toks) I kk hf) T_ hS)))
 | succ k ih=>
  intro i s H hk hi I hf st ha hb hS T_ hR;refine codeAny_builtin qO ?_;rw [Around.under_plainId iL _];show AX _ A'.in1 (RE (.ref z) >>=_) _ _ s;obtain ⟨z1,AU,n1,r1,l1,e1⟩:=I.sM ha;obtain ⟨z2,ZY,n2,r2,l2,e2⟩:=I.sM hb;let lx:i<ks.length:=ci
  let ly:i<ys.length:=ci
  obtain ⟨u,hu,ru⟩:=r1.get (i:=i) (x:=kV ks[i]) (by rw [BJ,gE lx];rfl);obtain ⟨v,hv,rv⟩:=r2.get (i:=i) (x:=ys[i]) (gE ly);obtain ⟨zS0,aEG,vs0,amB,dd0⟩:=mB I.bH hS;obtain ⟨oS,_,_,eS,_⟩:=id dd0;refine AP (st.item D eS ⟨_,e1,rfl,_,rfl⟩ ⟨_,e2,rfl,_,rfl⟩ (x:=u) (y:=v) (by simpa using hu) (by simpa using hv) fun h' Ql ht kk=>?_)
  let fpS:∀c∈[z,TI,TO,i1,i2],c≠S:=fun c hc e=>by
   have:=(hf c hc).1;erw [e,hS] at this
  let I2:Inv X pX Z H {s with heap:=h',toks:=s.toks}:=Inv.nZ (t':=s.toks) I kk hf;obtain ⟨zS,hdS,vs,rel,dd⟩:=mB I2.bH hS;let hT:Shared.TypeIs {s with heap:=h',toks:=s.toks} (.ref s.heap.objs.size) "tuple":=⟨_,ht,rfl⟩;refine AP (Ot ?_);refine AP (wpAny_tryCatch ?_);unfold Builtin.Dict.pairItems;refine AP (wpAny_typeOf hT ?_);rw [mG cr];refine AP (VL ht rfl (B_ ?_));show AX _ A'.in1 (VI [u,v] (dictSet S u v)) _ _ _;refine Ot ?_;let hlen:vs.length<=BZ:=by rwa [<-rel.length]
  refine wpAny_dictSet_pairs (hsz:=hlen) (n_ ru) dd fun h2 dd2 sb=>?_;let he:∃q,h2.get? S=some q:=let ⟨q,_,_,hq,_⟩:=dd2;⟨q,hq⟩
  let etk:(ks.zip ys).take (i+1)=(ks.zip ys).take i++[(ks[i],ys[i])]:=by
   rw [Q0];have:(ks.zip ys)[i]?=some (ks[i],ys[i]):=by rw [agv];show ⟨gE lx,gE ly⟩
   rw [this];rfl
  let aeq:dj [] ((ks.zip ys).take (i+1))=putK (dj [] ((ks.zip ys).take i)) ks[i] ys[i]:=by rw [etk,abu]
  let hl:(putK (dj [] ((ks.zip ys).take i)) ks[i] ys[i]).length<=BZ:=by
   rw [<-aeq];let h1:=i5 ((ks.zip ys).take (i+1)) [];rw [HQ,akY] at h1;exact CT (show (dj [] ((ks.zip ys).take (i+1))).length<=1000 by omega) cr
  let I3:Inv X pX Z (upd H S (.dK (putK (dj [] ((ks.zip ys).take i)) ks[i] ys[i]))) {s with heap:=h2,toks:=s.toks+1}:=og (s:={s with heap:=h',toks:=s.toks}) (t':=s.toks+1) I2 (by rw [hS];exact True.intro) sb he (tG hl hdS (rel.put ks[i] rv) dd2);let kS:∀c o,c≠S->h'.get? c=some o->h2.get? c=some o:=fun c o n e=>(sb.2 c n).trans e;refine B_ ⟨xI iL _,?_⟩;let nn:∀{c:AO} {o:HO},H c=some o->c≠S->(upd H S (.dK (putK (dj [] ((ks.zip ys).take i)) ks[i] ys[i]))) c=some o:=fun {c o} e n=>by rwa [ah n]
  refine ih (i+1) _ _ ci ci I3 (fun c hc=>?_) (Ql.frame kS (fpS z dL) (fpS TI dL) (fpS TO dL) (fpS i1 dL) (fpS i2 dL)) (nn ha na) (nn hb nb) (by rw [aeq,ag]) (fun c o n e=>nn (T_ c o n e) n) hR;obtain ⟨f0,f1,f2,f3,f4,f5⟩:=hf c hc;show ⟨by rwa [ah (fpS c hc)],f1,f2,f3,f4,f5⟩
def aac (ta:TA):TE:=fun Z H Q=>ta Z H fun vs H1=>∃(a b:AO)(ks:List Key)(ys:ζ),vs=[.ref a,.ref b]/\H1 a=some (.lst (ks.map kV))/\H1 b=some (.lst ys)/\ks.length<=1000/\
 ∀(l:AO)(H':Hp),aq H1 H' ->H1 l=none->H' l=some (.dK (dj [] (ks.zip ys)))->Q (.ref l) H'
def boot_dict:Nf "dict"=some (.type "dict"):=by decide+kernel
def ahG {p pos p' pos':Pos}(hc:X.calm=true)(hgl:Gl X "dict")(hml:X.mg "dict"=none)(hg:Gl X "zip")(hm:X.mg "zip"=none)(ha:PA X [e1,e2] ta)(hs:DI [e1,e2] X.env=[(false,DC e1 X.env),(false,DC e2 X.env)]:=by rfl)(wj:DI [e2] X.env=[(false,DC e2 X.env)]:=by rfl)
  (hs3:DI [(.Call (.Name "zip" p) [e1,e2] [] pos:Expr)] X.env=[(false,DC (.Call (.Name "zip" p) [e1,e2] [] pos) X.env)]:=by rfl):
  PE X (.Call (.Name "dict" p') [.Call (.Name "zip" p) [e1,e2] [] pos] [] pos') (aac ta):=by
 intro pX s Z H Q I h;refine Call_ (iS I hgl hml boot_dict (Vp ?_ hs3 rfl));rw [hs3];show AX _ _ (spliced ((false,DC (.Call (.Name "zip" p) [e1,e2] [] pos) X.env)::[])) _ _ s;refine Wf ?_;refine Call_ (iS I hg hm boot_zip (Vp (cI (ha pos pX s Z H _ I h) fun us s1 ⟨vs,H1,I1,r1,q1⟩=>?_) (by rw [hs,wj]) (by rw [wj];rfl)));obtain ⟨a,b,ks,ys,e,hx,hy,hkl,q⟩:=q1;subst e;cases r1 with
 | cons r rr=>
  cases rr with
  | cons r' rr=>
   cases rr;cases r;cases r';obtain ⟨z1,AU,n1,r1,l1,e1⟩:=I1.sM hx;obtain ⟨z2,ZY,n2,r2,l2,e2⟩:=I1.sM hy;let lt1:a<s1.heap.objs.size:=FG e1;let lt2:b<s1.heap.objs.size:=FG e2;refine call_zip_2 ⟨_,e1,rfl,_,rfl⟩ ⟨_,e2,rfl,_,rfl⟩ fun h' hz gL lR wI ZZ hsz hk=>AB ?_;let I2:Inv X pX Z H1 {s1 with heap:=h',toks:=s1.toks}:=I1.kept (t':=s1.toks) hk;let hS:=I2.bH.fresh (DH h'.objs.size);refine zaW (s:={s1 with heap:=h'}) (I1.ok.hd hc) hz fun h2 tk R k2 hS2 hR=>?_;let lt':FZ<h'.objs.size:=(I2.mod.glob.keeps I2.bk).lt;let ns:(h'.objs.size==Nr)=false:=beq_eq_false_iff_ne.mpr (FN (MV (LL cr lt')));let I3:Inv X pX Z (upd H1 h'.objs.size (.dK [])) {s1 with heap:=h2,toks:=tk}:=I2.laid (t':=tk) k2 (DH _) ⟨Mu _,ns,[],.nil,_,_,_,hS2,⟨rfl,rfl,rfl⟩,rfl,fun _ he=>by simp at he,Pairs.nil,rj⟩
   let st:T9 h2 (s1.heap.objs.size+4) (s1.heap.objs.size+2) (s1.heap.objs.size+3) s1.heap.objs.size (s1.heap.objs.size+1) a b h'.objs.size 0:=
    ⟨.inl (k2 _ _ hz),k2 _ _ gL,⟨_,_,k2 _ _ lR⟩,wI.at fun o e=>k2 _ o e,ZZ.at fun o e=>k2 _ o e⟩
   let na:a≠h'.objs.size:=ak hx hS;let nb:b≠h'.objs.size:=ak hy hS;let x9:=aci hS (.dK []);refine aab (A':=X.A.in1) (H0:=H1) (ks:=ks) (ys:=ys) (I1.ok.hd hc) ?_ na nb hkl (min ks.length ys.length) 0 _ _ ci (Mu _) I3 (fun c' pD =>?_) st (x9 _ _ hx) (x9 _ _ hy) ag (fun b' o n e=>x9 _ _ e) fun s' H' I' ks' σ7 =>hR s' ⟨.ref h'.objs.size,H',I',rfl,q _ H' (fun b' o e=>ks' b' o (ak e hS) e) hS σ7⟩
   ·constructor<;>(intro z;simp only [AO] at*;omega)
   ·let hc2:c'=s1.heap.objs.size+4\/c'=s1.heap.objs.size+2\/c'=s1.heap.objs.size+3\/c'=s1.heap.objs.size\/c'=s1.heap.objs.size+1:=by simpa using pD
    let hb:s1.heap.objs.size<=c':=by
     simp only [AO] at*;omega
    let hb2:c'≠h'.objs.size:=by
     rw [hsz];simp only [AO] at*;omega
    refine I1.rf hb ?_;rw [ah hb2];exact I1.bH.fresh hb
end
def cM.snoc {K:Frag}(h:cM K H us qs)(n:jy K H v q):cM K H (us++[v]) (qs++[q]):=by
 show ⟨by simp [h.1],fun i u q' e1 e2=>?_⟩;let l:=h.1;by_cases c:i<us.length
 ·rw [Nu c] at e1
  rw [Nu ci] at e2;exact h.2 i u q' e1 e2
 ·rw [Qw ci] at e1 e2
  by_cases z:i-us.length=0
  ·rw [z] at e1
   rw [show i-qs.length=0 by omega] at e2;cases e1;cases e2;exact n
  ·rw [HX (by simp;omega)] at e1
   cases e1
theorem cM.aT {K:Frag}(h:cM K H us qs)(s:bf H H'):cM K H' us qs:=⟨h.1,fun i u q e1 e2=>(h.2 i u q e1 e2).aT s⟩
variable {X:Cx}
section
variable {X:Cx}{pX:ε}{Z:L2.St}{H:Hp}{s:BW}
def Inv.laidIn (I:Inv X pX Z H s)(f:ma X pX H a)(new:bW X.prog X.w (upd H a o) s.heap a o):Inv X pX Z (upd H a o) s:=by
 obtain ⟨f0,f1,f2,f3,f4,f5⟩:=f;let nx:∀b u,H b=some u->upd H a o b=some u:=fun b u q=>by rw [ah (fun z=>by erw [z,f0] at q)];exact q
 show ⟨I.ok,I.os,I.bare,⟨I.gw.keep,I.gw.slot,fun b ob q z hx=>?_,I.gw.there,fun b xs q=>nx b _ (I.gw.jA b xs q),fun b ob u' q=>nx b _ (I.gw.ja b ob u' q),fun b ps q=>?_⟩,I.loc,I.cell,?_,fun x c q=>?_,fun p hp=>?_,?_,I.len⟩
 ·rw [ah (fun e=>?_)]
  ·exact I.gw.free b ob q z hx
  ·rcases f3 with f3|f3
   ·exact hx (e▸f3)
   ·exact CH (FG q) (by rw [e];exact Nat.not_lt.mpr f3)
 ·obtain ⟨m,z⟩:=I.gw.jB b ps q
  show ⟨m,nx b _ z⟩
 ·rw [ah (FN f1)]
  exact I.free
 ·rw [ah (f4 x c q)]
  exact I.fQ x c q
 ·obtain ⟨a1,a2,a3⟩:=I.pin p hp
  show ⟨a1,by rwa [ah (f5 p hp)],a3⟩
 ·intro b u q
  by_cases hb:b=a
  ·subst hb
   erw [ag] at q;exact new
  ·rw [ah hb] at q
   exact (I.bH b u q).mK (fun _ _ _ z=>z) (fun c z=>nx c _ z) fun c xs z=>nx c _ z
theorem wV:∀(as:υ)(AD:γ)(H:Hp),Inv X pX Z H s->as.Pairwise (· < ·)->(∀a∈as,ma X pX H a)->as.length=AD.length->
  (∀(j:Nat)(a:AO)(kv:Φ),as[j]?=some a->AD[j]?=some kv->∃AU,Vals [kV kv.1,kv.2] AU/\IsTup s.heap a AU.toArray)->
  ∃H',Inv X pX Z H' s/\(∀b,b∉as->H' b=H b)/\∀(j:Nat)(a:AO)(kv:Φ),as[j]?=some a->AD[j]?=some kv->H' a=some (.tup [kV kv.1,kv.2])
 | [],AD,H,I,_,_,_,_=>⟨H,I,fun _ _=>rfl,fun j a kv e=>by simp at e⟩
 | a::as,[],H,_,_,_,hl,_=>by simp at hl
 | a::as,kv::AD,H,I,hr,hf,hl,hp=>by
  obtain ⟨r1,r2⟩:=alj.mp hr;obtain ⟨AU,v,t⟩:=hp 0 a kv rfl rfl;let I2:=Inv.laidIn (o:=.tup [kV kv.1,kv.2]) I (hf a LZ) ⟨by show 2<=BZ;decide,AU,v,t⟩
  obtain ⟨H',I',k',t'⟩:=wV as AD _ I2 r2 (fun b hb=>by
   obtain ⟨f0,f1⟩:=hf b (HV _ hb)
   show ⟨by rwa [ah (V9 (r1 b hb))],f1⟩) (by simpa using hl) (fun j b iC e1 e2=>hp (j+1) b iC (by simpa using e1) (by simpa using e2))
  let na:a∉as:=fun z=>QX _ (r1 a z);show ⟨H',I',fun b hb=>?_,fun j b iC e1 e2=>?_⟩
  ·rw [k' b (fun z=>hb (HV _ z)),ah (fun z=>hb (by rw [z];exact LZ))]
  ·cases j with
   | zero=>
    cases e1;cases e2;rw [k' a na,ag]
   | succ j=>exact t' j b iC (by simpa using e1) (by simpa using e2)
inductive CA (Q:VK)(x:V)(H1:Hp):Prop
|mk (d AD:_)(_:x=.ref d)(_:H1 d=some (.dK AD))(_:∀(l:AO)(us:ζ)(H':Hp),aq H1 H' ->H1 l=none->H' l=some (.lst us)->Paired (fun u (kv:Φ)=>∃p,u=.ref p/\H' p=some (.tup [kV kv.1,kv.2])) us AD->Q (.ref l) H')
def zag (te:TE):TE:=fun Z H Q=>te Z H fun x H1=>CA Q x H1
def wW {apos cW p pos:Pos}(hc:X.calm=true)(hg:Gl X "list")(hm:X.mg "list"=none)(ho:PE X e te)(kr:V2 e "items" X.env (DC e X.env)=DC e X.env:=by rfl)(sL:(apos.endLine==cW.line)=true:=by rfl)
  (hs:DI [(.Call (.Attribute e "items" apos) [] [] cW:Expr)] X.env=[(false,DC (.Call (.Attribute e "items" apos) [] [] cW) X.env)]:=by rfl):
  PE X (.Call (.Name "list" p) [.Call (.Attribute e "items" apos) [] [] cW] [] pos) (zag te):=by
 intro pX s Z H Q I h;refine Call_ (iS I hg hm boot_list (Vp ?_ hs rfl));rw [hs];show AX _ _ (spliced ((false,DC (.Call (.Attribute e "items" apos) [] [] cW) X.env)::[])) _ _ s;refine Wf ?_;refine wpAny_Call_method0_late kr sL (cI (ho pX s Z H _ I h) fun v s1 ⟨x,H1,I1,r1,q1⟩=>?_);obtain ⟨d,AD,rfl,e,q⟩:=q1;cases r1;obtain ⟨h1,h2,hd⟩:=x5 I1 (.inl ⟨AD,.inl e⟩);obtain ⟨z,T4,vs,rel,o,σ9,ep,Pz,hx,jJ,hk,hp,hn⟩:=mB I1.bH e;let da:s1.heap.DictAt (bq X.prog X.w) d vs ep:=⟨o,σ9,Pz,hx,jJ,hk,hp,hn⟩;let lv:=rel.length;show ⟨"dict","dict.items",F.plainAttrs_dict,LY,F.type_dict_items,h1,h2,Zn rfl (PySem.evalArgs_none ?_)⟩;refine ZT LY h1 F.entry_dict_items (F.args_dict_items_1 _) (meets_dict_items (bq X.prog X.w) d hd) ⟨⟨vs,da.dictOf⟩,AB ?_⟩;let da2:(s1.heap.push {cls:=.type "dict_items",data:=.fields #[.ref d]}).DictAt (bq X.prog X.w) d vs ep:=da.at' fun o e=>FK _ e;let I2:Inv X pX Z H1 {s1 with heap:=s1.heap.push {cls:=.type "dict_items",data:=.fields #[.ref d]},toks:=s1.toks}:=I1.kept (t':=s1.toks) fun b o e=>FK _ e;refine PySem.W.kdx_call (s:={s1 with heap:=s1.heap.push {cls:=.type "dict_items",data:=.fields #[.ref d]}}) (knd:=bq X.prog X.w) (r:=s1.heap.objs.size) (kvs:=vs) (ep:=ep) (I1.ok.hd hc) ⟨_,MD _ rfl,rfl,rfl⟩ da2 ci fun h' tk acc c as kk hS hl hG vi=>?_;generalize wj:(s1.heap.push {cls:=.type "dict_items",data:=.fields #[.ref d]})=T7 at*;have Zr :=I2.bH.fresh (DH T7.objs.size);let sz:as.length<=BZ:=ci
 let I3:Inv X pX Z H1 {s1 with heap:=h',toks:=tk}:=I2.kept (t':=tk) kk;let fp:∀{b:AO},T7.objs.size<=b->ma X pX H1 b:=fun {b} hb=>I2.rf hb (I2.bH.fresh hb)
 let I4:=Inv.laidIn (o:=.lst (as.map V.ref)) I3 (fp (DH _)) ⟨by rwa [ir],acc.toList,c,by
  rw [vi]
  exact fW dL fun i a b e1 e2=>by
   rw [BJ] at e1 e2;obtain ⟨x,ex,rfl⟩:=GX.mp e1;erw [ex] at e2
   rfl,by simpa using hS⟩
 obtain ⟨H',I5,k5,t5⟩:=wV as AD _ I4 hG.rise (fun a ha=>by
  obtain ⟨f0,f1⟩:=fp (RF (hG.above a ha))
  show ⟨by rwa [ah (V9 (hG.above a ha))],f1⟩) ci (fun j a kv e1 e2=>by
  obtain ⟨key,k,x,g1,g2,g3⟩:=hG.pairs j a e1;obtain ⟨q',eq,e3,e4⟩:=aE rel e2;erw [eq] at g1
  show ⟨[key,x],.cons (by rw [e3];exact rV g2) (.cons e4 .nil),⟨_,g3,rfl,_,rfl⟩⟩)
 let nS:T7.objs.size∉as:=fun z=>QX _ (hG.above _ z);show ⟨.ref _,H',I5,rfl,q _ (as.map V.ref) H' (fun b o eb=>?_) Zr (by rw [k5 _ nS,ag]) (fW (by rw [ir];omega) fun i u kv e1 e2=>?_)⟩
 ·let nb:∀{b':AO},T7.objs.size<=b' ->b≠b':=fun {b'} hb z=>by erw [z,(fp hb).1] at eb
  rwa [k5 b (fun z=>nb (RF (hG.above b z)) rfl),ah (nb (DH _))]
 ·rw [BJ] at e1
  obtain ⟨a,ea,rfl⟩:=GX.mp e1;show ⟨a,rfl,t5 i a kv ea e2⟩
end
def tV {K:Frag}{oY:L2.St}{xs:ζ}(p:Y->Bool)(hp:Paired Rl xs zs)(nD:H1 D=none)(hn:xs.length<BZ)(hS:∀H,aq H1 H->aK K H a xs)
  (ht:∀x z H (R:Bool->Hp->Prop),Rl x z->z∈zs->aq H1 H->(∀H',aq H H' ->R (p z) H')->tt (some x::oY) H R)
  (he:∀x z H (R:VK),Rl x z->aq H1 H->R x H->te (some x::oY) H R)
  (hd:∀ys H,Paired Rl ys (zs.filter p)->aq H1 H->H D=some (.lst ys)->Q (.ref D) H):
  pU D (cG 0) tt te (Ve K a) (none::oY) H1 Q:=by
 let lz:xs.length=zs.length:=HR hp
 let ps:∀{qY:ζ} {qX:List Y} {a:V} {b:Y},Paired Rl qY qX->Rl a b->Paired Rl (qY++[a]) (qX++[b]):=fun {qY qX a b} h h'=>by
  induction h with
  | nil=>exact .cons h' .nil
  | cons x _ ih=>exact .cons x ih
 show ⟨fun i m Z ys H=>m=xs.length-i/\i<=xs.length/\(∃o,Z=o::oY)/\aq H1 H/\H D=some (.lst ys)/\Paired Rl ys ((zs.take i).filter p)/\ys.length<=i,⟨xs.length,by simp,Mu _,⟨none,rfl⟩,fun b o e=>by rwa [ah (ak e nD)],ag,by simpa using Paired.nil,DH _⟩,?_⟩;rintro i m Z ys H ⟨rfl,hi,⟨o,rfl⟩,s,hD,ey,ly⟩;by_cases lM:i<xs.length
 ·refine .inr ⟨⟨xs,xs[i],hS H s,gE lM⟩,fun v H' y=>?_⟩
  obtain ⟨rfl,y2⟩:=y;let q1:=y2 xs (hS _ s);obtain ⟨z,ez,hz⟩:=aE hp q1
  let er:(zs.take (i+1)).filter p=(zs.take i).filter p++(if p z=true then [z] else []):=by
   rw [take_snoc ez,akG];by_cases c:p z=true
   ·rw [mG c,akQ c]
    rfl
   ·rw [lH c,akR c]
    rfl
  unfold cG;refine ht v z _ _ hz (DA ez) s fun H2 s2=>?_;let j9:aq H1 H2:=fun b o e=>s2 _ _ (s _ _ e);let hD2:=s2 _ _ hD;by_cases c:p z=true
  ·rw [mG c]
   rw [mG c] at er;refine he v z _ _ hz j9 ⟨hD2,ci,xs.length-(i+1),ci,rfl,ci,⟨_,rfl⟩,?_,ag,?_,by simp;omega⟩
   ·exact fun b o e=>by
     rw [ah (ak e nD)];exact j9 _ _ e
   ·rw [er]
    exact ps ey hz
  ·rw [lH c]
   rw [lH c,Sw] at er;show ⟨xs.length-(i+1),ci,rfl,ci,⟨_,rfl⟩,j9,hD2,by rwa [er],ci⟩
 ·let e:i=xs.length:=ci
  subst e;refine .inl ⟨⟨xs,hS _ s,DH _⟩,hd ys H ?_ s hD⟩;rwa [lz,Nq] at ey
section
variable {X:Cx}{o e:Expr}{es:Β}{to:TE}{t:TA}{name:Str}{apos cW:Pos}{T id:String}{r:Χ}
def mC {K:Frag}(h:X.K=K):km X (Nj .NotIn) (rIn K true):=by subst h;exact gW
end
theorem tW {Y:Type}[DecidableEq Y]:∀{l m:List Y},l.Nodup->(∀x∈l,x∈m)->l.length<=m.length
 | [],_,_,_=>Mu _
 | x::l,m,h,k=>by
  obtain ⟨h1,h2⟩:=Qd.mp h;let hx:=k x LZ;have:=tW (l:=l) (m:=m.erase x) h2 fun y hy=>(ak7 (fun z:y=x=>h1 (by rwa [<-z]))).mpr (k y (HV _ hy));rw [akN hx] at this;let p:=Ry hx;show l.length+1<=m.length;omega
theorem bf.ks (h0:H D=some (.lst ys))(ks:cx D H H'):bf H H':=fun b xs r=>by
 rcases r with r|⟨o',r⟩
 ·exact .inl (ks _ _ (fun e=>by erw [e,h0] at r) r)
 ·exact .inr ⟨o',ks _ _ (fun e=>by erw [e,h0] at r) r⟩
section
variable {D:AO}{te:TE}{oY:L2.St}{H1:Hp}{Q:VK}
def tX {K:Frag}(J:List V->Hp->Prop)(nD:H1 D=none)(hn:xs.length<BZ)(hS:∀H,aq H1 H->aK K H a xs)(h0:J [] (upd H1 D (.lst [])))
  (he:∀(i:Nat) x ys H (R:VK),xs[i]?=some x->ys.length=i->J ys H->aq H1 H->H D=some (.lst ys)->(∀v H6,aq H H6->J (ys++[v]) (upd H6 D (.lst (ys++[v])))->R v H6)->te (some x::oY) H R)
  (hd:∀ys H,ys.length=xs.length->J ys H->aq H1 H->H D=some (.lst ys)->Q (.ref D) H):
  pU D (cG 0) mQ te (Ve K a) (none::oY) H1 Q:=by
 refine xY xs.length (fun i=>(xs[i]?).getD .cO) (fun i ys H=>ys.length=i/\J ys H/\aq H1 H) ⟨rfl,h0,fun b o e=>by rwa [ah (ak e nD)]⟩ ?_ ?_ ?_ ?_
 ·rintro i ys H hi ⟨_,_,s⟩
  show ⟨⟨xs,xs[i],hS H s,gE hi⟩,fun x H' y=>⟨y.1,by rw [y.2 xs (hS H s)];rfl⟩⟩
 ·rintro ys H ⟨_,_,s⟩
  show ⟨xs,hS H s,DH _⟩
 ·rintro i ys H R hi ⟨l,j,s⟩ hD k
  let e:xs[i]?=some xs[i]:=gE hi;let k':=he i _ ys H R e l j s hD fun v H6 s6 jv=>k v H6 (s6 _ _ hD) ci ⟨by simp [l],jv,fun b o e=>by rw [ah (ak e nD)];exact s6 _ _ (s _ _ e)⟩;rw [<-(show (xs[i]?).getD .cO=xs[i] by rw [e];rfl)] at k';exact k'
 ·rintro ys H ⟨l,j,s⟩ hD
  exact hd ys H l j s hD
end
end Ty
namespace Ty
theorem wX {Y:Type}[DecidableEq Y]:∀{l m:List Y},l.Nodup->(∀x∈l,x∈m)->l.length<=m.length
 | [],_,_,_=>Mu _
 | x::l,m,h,k=>by
  obtain ⟨h1,h2⟩:=Qd.mp h;let hx:=k x LZ;have:=wX (l:=l) (m:=m.erase x) h2 fun y hy=>(ak7 (fun z:y=x=>h1 (by rwa [<-z]))).mpr (k y (HV _ hy));rw [akN hx] at this;let p:=Ry hx;show l.length+1<=m.length;omega
def box (B:Nat):Nat->List (List Int)
 | 0=>[[]]
 | n+1=>(box B n).flatMap fun y=>(OF (B+1)).map fun (a:Nat)=>(a:Int)::y
theorem akv {Y:Type}(c:Nat):∀l:List Y,(l.map fun _=>c).sum=l.length*c
 | []=>by simp
 | _::l=>by
  rw [HU,ald,akv c l,Oy,V5];omega
theorem x_ (B:Nat):∀n,(box B n).length=(B+1)^n
 | 0=>rfl
 | n+1=>by
  let ih:=x_ B n;unfold box;rw [List.length_flatMap];have:((box B n).map fun y=>((OF (B+1)).map fun (a:Nat)=>(a:Int)::y).length)=(box B n).map fun _=>B+1:=RI fun y _=>by rw [ir,Ww]
  rw [this,akv,ih,Wt]
theorem wY (B:Nat):∀n,(box B n).Nodup
 | 0=>by simp [box]
 | n+1=>by
  let ih:=wY B n;unfold box;unfold List.Nodup at ih ⊢;rw [List.pairwise_flatMap];show ⟨fun y _=>?_,ih.imp fun {y1 y2} ne x hx z hz e=>?_⟩
  ·rw [alr]
   exact alW.imp fun {a b} ne e=>ne (by injection e with e _;exact Int.ofNat.inj e)
  ·obtain ⟨a,_,rfl⟩:=CI.mp hx
   obtain ⟨b,_,rfl⟩:=CI.mp hz;injection e with _ e
   exact ne e
theorem lY :∀{n:Nat} {y:ξ},y∈box B n ↔ y.length=n/\∀a∈y,0<=a/\a<=(B:Int)
 | 0,y=>by
  unfold box;rw [GZ];constructor
  ·intro e
   rw [e];show ⟨rfl,fun a h=>nomatch h⟩
  ·intro h
   exact ag_.mp h.1
 | n+1,y=>by
  unfold box;rw [Wz];constructor
  ·rintro ⟨z,hz,hy⟩
   obtain ⟨a,ha,rfl⟩:=CI.mp hy;obtain ⟨h1,h2⟩:=(lY (n:=n)).mp hz;have:=VT.mp ha;show ⟨by simp [h1],fun b hb=>?_⟩
   rcases M_.mp hb with e|e
   ·rw [e]
    omega
   ·exact h2 b e
  ·rintro ⟨h1,h2⟩
   match y,h1 with
   | a::z,h1=>
    let ha:=h2 a LZ;show ⟨z,(lY (n:=n)).mpr ⟨by simpa using h1,fun b hb=>h2 b (HV _ hb)⟩,CI.mpr ⟨a.toNat,VT.mpr (show a.toNat<B+1 by omega),?_⟩⟩;rw [show ((a.toNat:Nat):Int)=a by omega]
def jr:List Int->List Int->Int
 | a::e,b::y=>a*b+jr e y
 | _,_=>0
theorem zaY:∀(e:ξ) {y z:ξ},y.length=z.length->jr e (Ss (fun a b=>a-b) y z)=jr e y-jr e z
 | [],y,z,h=>by simp [jr]
 | a::e,[],[],h=>by simp [jr]
 | a::e,b::y,c::z,h=>by
  let ih:=zaY e (y:=y) (z:=z) (by simpa using h);rw [akV];simp only [jr];rw [ih,Int.mul_sub];omega
theorem akt :∀{e y:ξ},(∀a∈e,a.natAbs<=A)->(∀b∈y,b.natAbs<=B)->(jr e y).natAbs<=e.length*(A*B)
 | [],y,_,_=>by simp [jr]
 | a::e,[],_,_=>by simp [jr]
 | a::e,b::y,h1,h2=>by
  let ih:=akt (e:=e) (y:=y) (fun x hx=>h1 x (HV _ hx)) fun x hx=>h2 x (HV _ hx);simp only [jr]
  let m:(a*b).natAbs<=A*B:=by
   rw [VS];exact SV (h1 a LZ) (h2 b LZ)
  let t:=sZ (a*b) (jr e y);rw [Oy,V5,LQ];omega
def agE {eqs:η}(hn:eqs.length<n)(hA:1<=A)(he:∀e∈eqs,e.length=n/\∀a∈e,a.natAbs<=A):∃z:List Int,z.length=n/\(∃a∈z,a≠0)/\(∀a∈z,a.natAbs<=(2*n*A)^eqs.length)/\∀e∈eqs,jr e z=0:=by
 generalize hC:2*n*A=C;generalize hB:C^eqs.length=B
 let c1:1<=C:=by
  rw [<-hC];exact SV (show 1<=2*n by omega) hA
 generalize hM:n*(A*B)=M
 let key:¬ ∀y∈box B n,∀z∈box B n,(eqs.map fun e=>jr e y+(M:Int))=(eqs.map fun e=>jr e z+(M:Int))->y=z:=by
  intro inj
  let nd:((box B n).map fun y=>eqs.map fun e=>jr e y+(M:Int)).Nodup:=by
   unfold List.Nodup;rw [alr];refine List.Pairwise.imp_of_mem (fun {y z} hy hz ne e=>ne (inj y hy z hz e)) (wY B n)
  let le:=wX nd (m:=box (2*M) eqs.length) fun x hx=>by
   obtain ⟨y,hy,rfl⟩:=CI.mp hx;obtain ⟨ly,by'⟩:=lY.mp hy;refine lY.mpr ⟨by simp,fun a ha=>?_⟩;obtain ⟨e,hee,rfl⟩:=CI.mp ha
   let b1:=akt (A:=A) (B:=B) (he e hee).2 (y:=y) fun b hb=>by
    have:=by' b hb
    omega
   rw [(he e hee).1,hM] at b1;omega
  rw [ir,x_,x_] at le
  let e1:2*M+1<=C*(B+1):=by
   let e3:2*M=C*B:=by rw [<-hM,<-hC,<-Nat.mul_assoc,<-Nat.mul_assoc]
   rw [e3,Nat.mul_add];omega
  let e2:(2*M+1)^eqs.length<=B*(B+1)^eqs.length:=by
   have:=akx e1 eqs.length;rwa [Nat.mul_pow,hB] at this
  let e4:(B+1)^(eqs.length+1)<=(B+1)^n:=Qn ci hn
  let e5:B*(B+1)^eqs.length<(B+1)^(eqs.length+1):=by
   rw [Wt,xK ((B+1)^eqs.length)];exact Nat.mul_lt_mul_of_pos_right (SY B) (Nat.pow_pos ci)
  omega
 obtain ⟨y,k1⟩:=ak9.mp key;obtain ⟨hy,k2⟩:=akL.mp k1;obtain ⟨z,k3⟩:=ak9.mp k2;obtain ⟨hz,k4⟩:=akL.mp k3;obtain ⟨ee,ne⟩:=akL.mp k4;obtain ⟨ly,by'⟩:=lY.mp hy;obtain ⟨lz,bz⟩:=lY.mp hz;let hl:y.length=z.length:=ci
 show ⟨Ss (fun a b=>a-b) y z,by rw [List.length_zipWith];omega,?_,?_,fun e hee=>?_⟩
 ·apply vD
  intro h;refine ne (List.ext_getElem hl fun i h1 h2=>?_);let h':∀a∈Ss (fun a b=>a-b) y z,a=0:=fun a ha=>vD fun q=>h ⟨a,ha,q⟩
  let m:y[i]-z[i]∈Ss (fun a b=>a-b) y z:=by
   refine DA (i:=i) ?_;rw [AS,gE h1,gE h2]
  have:=h' _ m;omega
 ·intro a ha
  obtain ⟨i,ei⟩:=MF ha;rw [AS] at ei
  let hi:i<y.length:=by
   apply vD;intro q;erw [HX ci] at ei
  rw [gE hi,gE (show i<z.length by omega)] at ei;let ea:y[i]-z[i]=a:=MY ei;let q1:=by' _ (Rk hi)
  let q2:=bz _ (Rk (show i<z.length by omega));omega
 ·rw [zaY e hl]
  obtain ⟨i,ei⟩:=MF hee;let e1:=ph (fun l:List Int=>l[i]?) ee;simp only [BJ,ei,rn,Option.some.injEq] at e1;omega
def col (l:ξ)(j:Nat):Rat:=((l.getD j 0:Int):Rat)
inductive c_ (A:η):(Nat->Rat)->Prop
 | zero:c_ A (fun _=>0)
 | put {f:Nat->Rat} (c:Rat) {a:ξ} (h:a∈A) (hf:c_ A f):c_ A (fun j=>f j+c*col a j)
def c_.congr (h:c_ A f)(e:∀j,f j=g j):c_ A g:=(funext e:f=g)▸h
def c_.add (hf:c_ A f)(hg:c_ A g):c_ A (fun j=>f j+g j):=by
 induction hg with
 | zero=>exact hf.congr fun j=>by grind
 | put c h _ ih=>exact (c_.put c h ih).congr fun j=>by grind
def c_.mul (k:Rat)(hf:c_ A f):c_ A (fun j=>k*f j):=by
 induction hf with
 | zero=>exact c_.zero.congr fun j=>by grind
 | put c h _ ih=>exact (c_.put (k*c) h ih).congr fun j=>by grind
def c_.mem (h:a∈A):c_ A (col a):=(c_.put 1 h c_.zero).congr fun j=>by grind
def c_.trans (hf:c_ A f)(h:∀a∈A,c_ B (col a)):c_ B f:=by
 induction hf with
 | zero=>exact c_.zero
 | put c ha _ ih=>exact ih.add ((h _ ha).mul c)
def c_.mono (hf:c_ A f)(h:∀a∈A,a∈B):c_ B f:=hf.trans fun a ha=>c_.mem (h a ha)
def c_.first {l:ξ}{A:η}(hf:c_ (l::A) f):∃a:Rat,c_ A (fun j=>f j-a*col l j):=by
 induction hf with
 | zero=>show ⟨0,c_.zero.congr fun j=>by grind⟩
 | put c h _ ih=>
  obtain ⟨a,ha⟩:=ih
  rcases M_.mp h with e|e
  ·subst e
   show ⟨a+c,ha.congr fun j=>by grind⟩
  ·show ⟨a,(c_.put c e ha).congr fun j=>by grind⟩
def c_.last (hf:c_ (A++[l]) f):∃a:Rat,c_ A (fun j=>f j-a*col l j):=c_.first (hf.mono fun a ha=>by
 rcases FQ.mp ha with z|z
 ·exact HV _ z
 ·rw [GZ.mp z]
  exact LZ)
def c_.van (hf:c_ A f)(h:∀a∈A,col a c=0):f c=0:=by
 induction hf with
 | zero=>rfl
 | put k ha _ ih=>
  dsimp only;rw [ih,h _ ha];grind
structure PD (nd:π):Prop where
 nn:(nd.map (·.1)).Nodup
 here:∀x∈nd,x.2.getD x.1 0≠0
 off:∀x∈nd,∀y∈nd,x.1≠y.1->x.2.getD y.1 0=0
theorem PD.zero:∀{nd:π} {f:Nat->Rat},PD nd->c_ (nd.map (·.2)) f->(∀x∈nd,f x.1=0)->∀j,f j=0
 | [],f,_,hf,_=>fun j=>by
  have:∀{g:Nat->Rat},c_ [] g->g j=0:=fun {g} h=>h.van fun a ha=>nomatch ha;exact this hf
 | x::r,f,P,hf,hz=>by
  obtain ⟨a,ha⟩:=c_.first hf;let nn:=Qd.mp P.nn
  let v:f x.1-a*col x.2 x.1=0:=ha.van (c:=x.1) fun b hb=>by
   obtain ⟨y,hy,rfl⟩:=CI.mp hb;unfold col;rw [P.off y (HV _ hy) x LZ (fun z=>nn.1 (by show x.1∈_;rw [<-z];exact CI.mpr ⟨y,hy,rfl⟩))];rfl
  rw [hz x LZ] at v;let JQ:col x.2 x.1≠0:=eV (P.here x LZ);let a0:a=0:=by grind
  subst a0;let P':PD r:=⟨nn.2,fun y hy=>P.here y (HV _ hy),fun y hy z hz=>P.off y (HV _ hy) z (HV _ hz)⟩;exact PD.zero P' (ha.congr (g:=f) fun j=>by grind) fun y hy=>hz y (HV _ hy)
def PD.one (P:PD nd)(hf:c_ (nd.map (·.2)) f)(hx:x∈nd)(hz:∀y∈nd,y.1≠x.1->f y.1=0):∃a:Rat,∀j,f j=a*col x.2 j:=by
 let JQ:col x.2 x.1≠0:=eV (P.here x hx);show ⟨f x.1 / col x.2 x.1,fun j=>?_⟩;let g:c_ (nd.map (·.2)) fun j=>f j+ -(f x.1 / col x.2 x.1)*col x.2 j:=c_.put _ (CI.mpr ⟨x,hx,rfl⟩) hf
 have:=P.zero g (fun y hy=>by
  by_cases c:y.1=x.1
  ·rw [c]
   grind
  ·rw [hz y hy c]
   have:col x.2 y.1=0:=by
    unfold col;rw [P.off x hx y hy (FN c)];rfl
   rw [this]
   grind) j
 grind
def mD:List Int->List (List Int)->Nat->Int
 | z::zs,a::A,j=>z*a.getD j 0+mD zs A j
 | _,_,_=>0
theorem om:∀(zs:ξ)(A:η),c_ A (fun j=>((mD zs A j:Int):Rat))
 | [],A=>c_.zero.congr fun j=>by simp [mD]
 | _::_,[]=>c_.zero.congr fun j=>by simp [mD]
 | z::zs,a::A=>by
  let ih:=(om zs A).mono (B:=a::A) fun b hb=>HV _ hb;refine (c_.put (z:Rat) (LZ) ih).congr fun j=>?_;simp only [mD,col];push_cast;grind
theorem ya (c:Nat):∀(zs:ξ)(A:η),jr (A.map fun a=>a.getD c 0) zs=mD zs A c
 | [],A=>by cases A<;>simp [mD,jr]
 | _::_,[]=>by simp [mD,jr]
 | z::zs,a::A=>by
  simp only [HU,jr,mD];rw [ya c zs A,VR]
theorem GJ (j:Nat):∀{zs:ξ} {A:η},(∀z∈zs,z.natAbs<=σ)->(∀a∈A,(a.getD j 0).natAbs<=E)->(mD zs A j).natAbs<=A.length*(σ*E)
 | [],A,_,_=>by simp [mD]
 | _::_,[],_,_=>by simp [mD]
 | z::zs,a::A,h1,h2=>by
  let ih:=GJ j (zs:=zs) (A:=A) (fun x hx=>h1 x (HV _ hx)) fun x hx=>h2 x (HV _ hx);simp only [mD]
  let m:(z*a.getD j 0).natAbs<=σ*E:=by
   rw [VS];exact SV (h1 z LZ) (h2 a LZ)
  let t:=sZ (z*a.getD j 0) (mD zs A j);rw [Oy,V5,LQ];omega
theorem tY (j:Nat):∀{zs:ξ} {A:η} (z:Int) (a:ξ),zs.length=A.length->mD (zs++[z]) (A++[a]) j=mD zs A j+z*a.getD j 0
 | [],[],z,a,_=>by simp [mD]
 | y::zs,b::A,z,a,h=>by
  let ih:=tY j (zs:=zs) (A:=A) z a (by simpa using h);simp only [akP,mD];rw [ih];omega
def Prm (l:ξ):Prop:=∀d:Int,(∀j,d ∣ l.getD j 0)->d.natAbs=1
def agA (p:Prm l){v:Nat->Int}(ha:a≠0)(h:∀j,((v j:Int):Rat)=a*col l j)(j:Nat):(l.getD j 0).natAbs<=(v j).natAbs:=by
 let e:∀j,v j*(a.den:Int)=a.num*l.getD j 0:=fun j=>by
  let h1:=h j
  let h2:a=(a.num:Rat) / ((a.den:Int):Rat):=by
   rw [<-alp];exact (alh a).symm
  let hd:((a.den:Int):Rat)≠0:=eV (by have:=a.den_pos;omega);rw [h2] at h1;unfold col at h1
  let h3:((v j*(a.den:Int):Int):Rat)=((a.num*l.getD j 0:Int):Rat):=by
   rw [VD,VD];generalize ((a.den:Int):Rat)=D at hd h1;grind
  exact KO.mp h3
 let dv:∀j,(a.den:Int) ∣ l.getD j 0:=fun j=>by
  let h1:a.den ∣ a.num.natAbs*(l.getD j 0).natAbs:=by
   rw [<-VS,<-e j,VS];show ⟨(v j).natAbs,by rw [xK];rfl⟩
  let h2:=Nat.Coprime.dvd_of_dvd_mul_left (Nat.Coprime.symm a.reduced) h1;exact Rj.mp (by simpa using h2)
 let d1:a.den=1:=by simpa using p _ dv
 let ej:=e j;rw [d1] at ej;let n0:a.num≠0:=fun z=>ha (Rat.num_eq_zero.mp z);have:v j=a.num*l.getD j 0:=by simpa using ej
 rw [this,VS];exact Nat.le_mul_of_pos_left _ ci
def ah5 (p:Prm l):¬ ∀j,l.getD j 0=0:=fun h=>by
 have:=p 0 fun j=>by rw [h j];exact Int.dvd_refl 0
 simp at this
structure PJ (os:η)(nd:π)(lv ps qs:η):Prop where
 po:∀p∈ps,p∈os
 qo:∀q∈qs,q∈os
 lp:ps.length=nd.length
 lq:qs.length=lv.length
 s1:∀x∈nd,c_ ps (col x.2)
 s2:∀p∈ps,c_ (nd.map (·.2)) (col p)
 s3:∀(i:Nat)(l q:ξ),lv[i]?=some l->qs[i]?=some q->c_ (ps++[q]) (col l)/\c_ (nd.map (·.2)++[l]) (col q)
 ind:∀zs:List Int,zs.length=ps.length->(∀j,mD zs ps j=0)->∀a∈zs,a=0
def PJ.start (os:η):PJ os [] os [] os:=by
 show ⟨by simp,fun q hq=>hq,rfl,rfl,by simp,by simp,fun i l q e1 e2=>?_,fun zs h _ a ha=>?_⟩
 ·rw [e1] at e2
  cases e2;show ⟨c_.mem dL,c_.mem dL⟩
 ·rw [ag_.mp h] at ha
  cases ha
def PD.cols (P:PD nd)(hl:c_ (nd.map (·.2)) (col l))(hz:∀x∈nd,l.getD x.1 0=0):∀j,l.getD j 0=0:=fun j=>by
 have:=P.zero hl (fun x hx=>by unfold col;rw [hz x hx];rfl) j;unfold col at this;exact KO.mp (this.trans (by rfl))
def zaU {A:η}(hA:∀a∈A,∀j,(a.getD j 0).natAbs<=2^b):(A.map fun a=>a.getD c 0).length=A.length/\∀x∈A.map (fun a=>a.getD c 0),x.natAbs<=2^b:=by
 show ⟨by simp,fun x hx=>?_⟩;obtain ⟨a,ha,rfl⟩:=CI.mp hx;exact hA a ha c
def PJ.left (O:PJ os nd lv ps qs)(P:PD nd){i b:Nat}{l:ξ}(e:lv[i]?=some l)(hz:∀x∈nd,l.getD x.1 0=0)(hb:∀o∈os,∀j,(o.getD j 0).natAbs<=2^b)(pr:Prm l)(j:Nat):(l.getD j 0).natAbs<=(nd.length+1)*((2*(nd.length+1)*2^b)^nd.length*2^b):=by
 let hi:i<qs.length:=by
  rw [O.lq];exact (Wp.mp e).1
 obtain ⟨q,eq⟩:∃q,qs[i]?=some q:=⟨_,gE hi⟩;obtain ⟨t1,t2⟩:=O.s3 i l q e eq
 let hA:∀a∈ps++[q],∀j,(a.getD j 0).natAbs<=2^b:=fun a ha=>by
  rcases FQ.mp ha with z|z
  ·exact hb a (O.po a z)
  ·rw [GZ.mp z]
   exact hb q (O.qo q (DA eq))
 let lA:(ps++[q]).length=nd.length+1:=by simp [O.lp]
 obtain ⟨zs,lz,nz,bz,sz⟩:=agE (n:=nd.length+1) (A:=2^b) (eqs:=nd.map fun x=>(ps++[q]).map fun a=>a.getD x.1 0) dL (RA) fun y hy=>by
  obtain ⟨x,hx,rfl⟩:=CI.mp hy;rw [<-lA];exact zaU hA
 rw [ir] at bz
 let v0:∀x∈nd,mD zs (ps++[q]) x.1=0:=fun x hx=>by
  rw [<-ya];exact sz _ (CI.mpr ⟨x,hx,rfl⟩)
 let hv:c_ (nd.map (·.2)++[l]) fun j=>((mD zs (ps++[q]) j:Int):Rat):=(om zs (ps++[q])).trans fun a ha=>by
  rcases FQ.mp ha with z|z
  ·exact (O.s2 a z).mono fun y hy=>OA _ hy
  ·rw [GZ.mp z]
   exact t2
 obtain ⟨a,ha⟩:=c_.last hv
 let ez:=P.zero ha fun x hx=>by
  rw [v0 x hx];unfold col;rw [hz x hx];show ((0:Int):Rat)-a*((0:Int):Rat)=0;grind
 by_cases c:a=0
 ·exfalso
  subst c
  let vz:∀j,mD zs (ps++[q]) j=0:=fun j=>by
   have:=ez j;let h:((mD zs (ps++[q]) j:Int):Rat)=((0:Int):Rat):=by grind
   exact KO.mp h
  obtain ⟨yb,z,rfl⟩:∃yb z,zs=yb ++[z]:=by
   rcases ak1 zs with h|⟨yb,z,h⟩
   ·rw [h] at lz
    simp at lz
   ·show ⟨yb,z,by rw [h,ak2]⟩
  let lz':yb.length=ps.length:=by
   rw [O.lp];simpa using lz
  let sp:∀j,mD yb ps j+z*q.getD j 0=0:=fun j=>by
   rw [<-tY j z q lz'];exact vz j
  by_cases z0:z=0
  ·subst z0
   obtain ⟨x,hx,nx⟩:=nz;let all:=O.ind yb lz' fun j=>by simpa using sp j
   rcases FQ.mp hx with h|h
   ·exact nx (all x h)
   ·exact nx (GZ.mp h)
  ·let hq:c_ ps (col q):=((om yb ps).mul (-1 / (z:Rat))).congr fun j=>by
    let s':((mD yb ps j+z*q.getD j 0:Int):Rat)=((0:Int):Rat):=by rw [sp j]
    rw [amh,VD] at s';let zr:(z:Rat)≠0:=eV z0;unfold col;grind
   let hl:c_ ps (col l):=t1.trans fun a ha=>by
    rcases FQ.mp ha with h|h
    ·exact c_.mem h
    ·rw [GZ.mp h]
     exact hq
   exact ah5 pr (P.cols (hl.trans O.s2) hz)
 ·let le:=agA pr c (v:=fun j=>mD zs (ps++[q]) j) (fun j=>by have:=ez j;grind) j
  refine CT le ?_;have:=GJ j (zs:=zs) (A:=ps++[q]) bz fun a ha=>hA a ha j;rwa [lA] at this
def PJ.need (O:PJ os nd lv ps qs)(P:PD nd)(hx:x∈nd)(hb:∀o∈os,∀j,(o.getD j 0).natAbs<=2^b)(pr:Prm x.2)(j:Nat):(x.2.getD j 0).natAbs<=(nd.length+1)*((2*(nd.length+1)*2^b)^nd.length*2^b):=by
 let hA:∀a∈ps,∀j,(a.getD j 0).natAbs<=2^b:=fun a ha=>hb a (O.po a ha)
 let lf:(nd.filter fun y=>decide (y.1≠x.1)).length<nd.length:=by
  let h1:(nd.filter fun y=>decide (y.1≠x.1)).length<=nd.length:=uf ..
  rcases Nat.lt_or_eq_of_le h1 with h|h
  ·exact h
  ·have:=List.length_filter_eq_length_iff.mp h x hx
   simp at this
 obtain ⟨zs,lz,nz,bz,sz⟩:=agE (n:=nd.length) (A:=2^b) (eqs:=(nd.filter fun y=>decide (y.1≠x.1)).map fun y=>ps.map fun a=>a.getD y.1 0) (by rwa [ir]) (RA) fun y hy=>by
  obtain ⟨z,hz,rfl⟩:=CI.mp hy;rw [<-O.lp];exact zaU hA
 rw [ir] at bz
 let v0:∀y∈nd,y.1≠x.1->mD zs ps y.1=0:=fun y hy ne=>by
  rw [<-ya];exact sz _ (CI.mpr ⟨y,Wu.mpr ⟨hy,by simpa using ne⟩,rfl⟩)
 let hv:c_ (nd.map (·.2)) fun j=>((mD zs ps j:Int):Rat):=(om zs ps).trans O.s2
 obtain ⟨a,ha⟩:=P.one hv hx fun y hy ne=>by
  rw [v0 y hy ne];rfl
 let c:a≠0:=fun z=>by
  subst z;obtain ⟨y,hy,ny⟩:=nz;refine ny (O.ind zs (by rw [lz,O.lp]) (fun j=>?_) y hy)
  let h:((mD zs ps j:Int):Rat)=((0:Int):Rat):=by
   rw [ha j];show 0*col x.2 j=0;grind
  exact KO.mp h
 let le:=agA pr c (v:=fun j=>mD zs ps j) ha j;refine CT le ?_;have:=GJ j (zs:=zs) (A:=ps) bz fun a ha=>hA a ha j;rw [O.lp] at this;refine CT this (SV ci (SV ?_ (DH _)));refine CT (akx (RU _ (show 2*nd.length<=2*(nd.length+1) by omega)) _) ?_;exact Qn (Nat.mul_pos ci (amj _)) ci
def aad (hs:s+1<=1024):(s+1)*((2*(s+1)*2^b)^s*2^b)<=2^((s+1)*(b+11)):=by
 let h1:2*(s+1)*2^b<=2^(b+11):=by
  have:2*(s+1)<=2^11:=by
   show 2*(s+1)<=2048;omega
  rw [σ6,xK (2^b)];exact RU _ this
 let h2:(2*(s+1)*2^b)^s<=2^((b+11)*s):=by
  rw [Nat.pow_mul];exact akx h1 s
 let h3:s+1<=2^11:=by
  show s+1<=2048;omega
 let e:(s+1)*(b+11)=11+((b+11)*s+b):=by
  rw [V5,LQ,xK s];omega
 rw [e,σ6,σ6];exact SV h3 (RU _ h2)
def aks (k:va line BG new c)(h1:c_ B (col line))(h2:c_ B (col BG)):c_ B (col new):=by
 obtain ⟨s,t,u,hs,ht,e⟩:=k.T8;let zs:=eV hs;refine ((h1.mul ((t:Rat) / s)).add (h2.mul (-(u:Rat) / s))).congr fun j=>?_;let ej:((s*new.getD j 0:Int):Rat)=((t*line.getD j 0-u*BG.getD j 0:Int):Rat):=by rw [e j]
 rw [VD,amn,VD,VD] at ej;unfold col;grind
def akk (k:va line BG new c)(h1:c_ B (col new))(h2:c_ B (col BG)):c_ B (col line):=by
 obtain ⟨s,t,u,hs,ht,e⟩:=k.T8;let zt:=eV ht;refine ((h1.mul ((s:Rat) / t)).add (h2.mul ((u:Rat) / t))).congr fun j=>?_;let ej:((s*new.getD j 0:Int):Rat)=((t*line.getD j 0-u*BG.getD j 0:Int):Rat):=by rw [e j]
 rw [VD,amn,VD,VD] at ej;unfold col;grind
def PJ.step {nd mh :π}{lv GK ps qs:η}{BG:ξ}{j c:Nat}(O:PJ os nd lv ps qs)(P:PD nd)(ej:lv[j]?=some BG)(hz:∀x∈nd,BG.getD x.1 0=0)(hc:BG.getD c 0≠0)
  (lL:GK.length=(lv.eraseIdx j).length) (ML:∀(i:Nat)(x:ξ),(lv.eraseIdx j)[i]?=some x->∃y,GK[i]?=some y/\va x BG y c) (lN:mh.length=nd.length) (MN:∀(i:Nat)(x:ξ),(nd.map (·.2))[i]?=some x->∃y,(mh.map (·.2))[i]?=some y/\va x BG y c):∃ps' RL,PJ os (mh ++[(c,BG)]) GK ps' RL :=by
 let hj:j<lv.length:=(Wp.mp ej).1;obtain ⟨q,eq⟩:∃q,qs[j]?=some q:=⟨_,gE (by rwa [O.lq])⟩;obtain ⟨t1,t2⟩:=O.s3 j BG q ej eq;let ml:BG∈(mh ++[(c,BG)]).map (·.2):=by simp
 let old:∀x∈nd.map (·.2),c_ ((mh ++[(c,BG)]).map (·.2)) (col x):=fun x hx=>by
  obtain ⟨i,ei⟩:=MF hx;obtain ⟨y,ey,k⟩:=MN i x ei;refine akk k (c_.mem ?_) (c_.mem ml);rw [MX];exact OA _ (DA ey)
 let amG:∀y∈mh.map (·.2),∃x∈nd.map (·.2),va x BG y c:=fun y hy=>by
  obtain ⟨i,ei⟩:=MF hy;let hi:=(Wp.mp ei).1;rw [ir] at hi;obtain ⟨x,ex⟩:∃x,(nd.map (·.2))[i]?=some x:=⟨_,gE (by rw [ir];omega)⟩;obtain ⟨y',PK,k⟩:=MN i x ex;erw [ei] at PK;show ⟨x,DA ex,k⟩
 let up:∀{f:Nat->Rat},c_ ps f->c_ (ps++[q]) f:=fun h=>h.mono fun a ha=>OA _ ha;show ⟨ps++[q],qs.eraseIdx j,fun p hp=>?_,fun p hp=>O.qo p (S0 hp),by simp [O.lp,lN],?_,fun x hx=>?_,fun p hp=>?_,fun i l' q' e1 e2=>?_,fun zs lz hzs a ha=>?_⟩
 ·rcases FQ.mp hp with z|z
  ·exact O.po p z
  ·rw [GZ.mp z]
   exact O.qo q (DA eq)
 ·rw [lL,AQ,AQ,O.lq]
 ·rcases FQ.mp hx with z|z
  ·obtain ⟨y,hy,k⟩:=amG x.2 (CI.mpr ⟨x,z,rfl⟩)
   obtain ⟨x0,hx0,rfl⟩:=CI.mp hy;exact aks k (up (O.s1 x0 hx0)) t1
  ·rw [GZ.mp z]
   exact t1
 ·rcases FQ.mp hp with z|z
  ·exact (O.s2 p z).trans old
  ·rw [GZ.mp z]
   refine t2.trans fun a ha=>?_
   rcases FQ.mp ha with h|h
   ·exact old a h
   ·rw [GZ.mp h]
    exact c_.mem ml
 ·let hi:=(Wp.mp e1).1
  obtain ⟨x,ex⟩:∃x,(lv.eraseIdx j)[i]?=some x:=⟨_,gE ci⟩;obtain ⟨y',PK,k⟩:=ML i x ex;erw [e1] at PK
  obtain ⟨i',f1,f2⟩:∃i',lv[i']?=some x/\qs[i']?=some q':=by
   rw [Rf] at ex e2;by_cases h:i<j
   ·rw [mG h] at ex e2
    show ⟨_,ex,e2⟩
   ·rw [lH h] at ex e2
    show ⟨_,ex,e2⟩
  obtain ⟨u1,u2⟩:=O.s3 i' x q' f1 f2;constructor
  ·refine aks k (u1.mono fun a ha=>?_) (t1.mono fun a ha=>OA _ ha)
   rcases FQ.mp ha with h|h
   ·exact OA _ (OA _ h)
   ·exact Qv _ h
  ·refine u2.trans fun a ha=>?_
   rcases FQ.mp ha with h|h
   ·exact (old a h).mono fun b hb=>OA _ hb
   ·rw [GZ.mp h]
    exact akk k (c_.mem dL) (c_.mem (OA _ ml))
 ·obtain ⟨yb,z,rfl⟩:∃yb z,zs=yb ++[z]:=by
   rcases ak1 zs with h|⟨yb,z,h⟩
   ·rw [h] at lz
    simp at lz
   ·show ⟨yb,z,by rw [h,ak2]⟩
  let lz':yb.length=ps.length:=by simpa using lz
  let sp:∀j,mD yb ps j+z*q.getD j 0=0:=fun j=>by
   rw [<-tY j z q lz'];exact hzs j
  let z0:z=0:=by
   apply vD;intro z0
   let hq:c_ ps (col q):=((om yb ps).mul (-1 / (z:Rat))).congr fun j=>by
    let s':((mD yb ps j+z*q.getD j 0:Int):Rat)=((0:Int):Rat):=by rw [sp j]
    rw [amh,VD] at s';let zr:(z:Rat)≠0:=eV z0;unfold col;grind
   let hl:c_ ps (col BG):=t1.trans fun a ha=>by
    rcases FQ.mp ha with h|h
    ·exact c_.mem h
    ·rw [GZ.mp h]
     exact hq
   exact hc (P.cols (hl.trans O.s2) hz c)
  rcases FQ.mp ha with h|h
  ·exact O.ind yb lz' (fun j=>by have:=sp j;rw [z0] at this;simpa using this) a h
  ·rw [GZ.mp h]
   exact z0
end Ty
namespace Ty
open PySem PySem.Spec PyProof.Rows L2
def abC {oY:L2.St}(p:Nat->Bool)(nD:H1 D=none)(hn:n<BZ)
  (ht:∀i H (R:Bool->Hp->Prop),i<n->aq H1 H->(∀H',aq H H' ->R (p i) H')->tt (some (.int (i:Int))::oY) H R)
  (he:∀i H (R:VK),R (.int (i:Int)) H->te (some (.int (i:Int))::oY) H R)
  (hd:∀H,aq H1 H->H D=some (.lst (((OF n).filter p).map fun i:Nat=>V.int (i:Int)))->Q (.ref D) H):
  pU D (cG 0) tt te (XY 0 n) (none::oY) H1 Q:=by
 show ⟨fun i m Z ys H=>m=n-i/\i<=n/\(∃o,Z=o::oY)/\aq H1 H/\H D=some (.lst ys)/\ys=((OF i).filter p).map fun i:Nat=>V.int (i:Int),⟨n,by simp,Mu _,⟨none,rfl⟩,fun b o e=>by rwa [ah (ak e nD)],ag,rfl⟩,?_⟩;rintro i m Z ys H ⟨rfl,hi,⟨o,rfl⟩,s,hD,ey⟩;by_cases lM:i<n
 ·refine .inr ⟨lM,fun v H' y=>?_⟩
  obtain ⟨rfl,rfl⟩:=y;rw [Ow];unfold cG;refine ht i _ _ lM s fun H2 s2=>?_;let j9:aq H1 H2:=fun b o e=>s2 _ _ (s _ _ e)
  let ly:ys.length<=i:=by
   rw [ey,ir];have:=uf p (OF i);rwa [Ww] at this
  by_cases c:p i=true
  ·rw [mG c]
   refine he i _ _ ⟨s2 _ _ hD,ci,n-(i+1),ci,rfl,ci,⟨_,rfl⟩,?_,ag,?_⟩
   ·exact fun b o e=>by
     rw [ah (ak e nD)];exact j9 _ _ e
   ·rw [ak0,akG,akQ c,ey,MX]
    rfl
  ·rw [lH c]
   show ⟨n-(i+1),ci,rfl,ci,⟨_,rfl⟩,j9,s2 _ _ hD,?_⟩;rw [ak0,akG,akR c,ey,List.filter_nil,Sw]
 ·let e:i=n:=ci
  subst e;rw [ey] at hD;exact .inl ⟨DH _,hd H s hD⟩
section
variable {prog:FL}{w:World}{Kt:Type}[DecidableEq Kt]{knd:KeyKind prog w Kt}{A:HL}{E:δ}{s:BW}
def aae {Q:δ}(g:s.heap.IsValIter it d i ps.length ep)(m:s.heap.DictAt knd d ps ep)(hx:ps[i]?=some (k,v))
  (q:∀h',h'.IsValIter it d (i+1) ps.length ep->SO it s.heap h' ->Q v {s with heap:=h'}):AX (BD prog w) A (V' (.ref it)) Q E s:=by
 obtain ⟨o,g1,g2,g3⟩:=id g;obtain ⟨od,es,t1,t2,t3,t4,t5,t6⟩:=id m;let n0:es.size=ps.length:=by rw [<-t5.length];simp
 let lt:i<ps.length:=(Wp.mp hx).1;let lt2:i<es.size:=by rwa [n0]
 let ev:es[i].val=v:=(t5.get? (e:=es[i]) (by simp [lt2]) hx).2;let ow:Builtin.Dict_items.ownsTuple "dict_valueiterator"=false:=cr
 unfold V';refine AP (wpAny_callSpecial?_slot (name:=Q8 "__next__") g.typeIs QU (Vd QU g.typeIs F.entry_dict_valueiterator_next ?_ (F.args_dict_valueiterator_next_1 _)));refine AP (B_ (AP (AP ?_)))
 first|refine AP (QO g.typeIs (B_ (AP (JO g1 g3 ?_))))|refine AP (QL g.typeIs (B_ (AP (JO g1 g3 ?_))))
 simp only [ow,uv,if_false];show AX _ _ (if (Value.ref d==Value.none)=true then _ else _) _ _ s;rw [lH (fun z=>nomatch z)];refine AP (B_ (AP (Zv t1 t3 ?_)));rw [lH (by rw [n0];simp)];refine AP (B_ (AP (JZ t1 t3 ?_)));rw [lH dL];refine B_ ?_;simp only [show ¬ ((i:Int)<0) from by omega,if_false,Q4,Rm lt2];refine AP ?_
 first|refine AP (QO g.typeIs (B_ (AP (Q_ g.typeIs ?_))))|refine AP (QL g.typeIs (B_ (AP (Q_ g.typeIs ?_))))
 show AX _ _ (setField (.ref it) 1 (Mv ((i:Int)+1)) >>=_) _ _ s;refine AP (wpAny_setField g1 g3 dL ?_)
 let g':(s.heap.update it (Wh (·.setIfInBounds 1 (Mv ((i:Int)+1))))).IsValIter it d (i+1) ps.length ep:=
  ⟨_,Vj _ g1 (Obj.isFreed_of_fields (Obj.data_mapFields g3 _)),(Obj.cls_mapFields ..).trans g2,by rw [Obj.data_mapFields g3];simp [Mv]⟩
 let sb:SO it s.heap (s.heap.update it (Wh (·.setIfInBounds 1 (Mv ((i:Int)+1))))):=Heap.SameBut.update ..;generalize s.heap.update it (Wh (·.setIfInBounds 1 (Mv ((i:Int)+1))))=h' at g' sb ⊢;let ty:Shared.TypeIs {s with heap:=h'} (.ref it) "dict_valueiterator":=g'.typeIs (s:={s with heap:=h'});refine AP (Ot (AP (Q_ ty (AP (Q_ ty ?_)))));show AX _ _ (pure es[i].val) _ _ _;exact B_ (B_ ⟨_,rfl,B_ (ev▸q _ g' sb)⟩)
def aht {Q:δ}(hh:A.handled=none)(g:s.heap.IsValIter it d i ps.length ep)(m:s.heap.DictAt knd d ps ep)(hx:ps.length<=i)
  (q:∀h' e,Heap.ExtBut it s.heap h' ->(∃o,h'.get? e=some o/\o.cls=.type "StopIteration")->E (.ref e) {s with heap:=h'}):AX (BD prog w) A (V' (.ref it)) Q E s:=by
 obtain ⟨o,g1,g2,g3⟩:=id g;obtain ⟨od,es,t1,t2,t3,t4,t5,t6⟩:=id m;let n0:es.size=ps.length:=by rw [<-t5.length];simp
 let ge:es.size<=i:=by rwa [n0]
 let ow:Builtin.Dict_items.ownsTuple "dict_valueiterator"=false:=cr
 unfold V';refine AP (wpAny_callSpecial?_slot (name:=Q8 "__next__") g.typeIs QU (Vd QU g.typeIs F.entry_dict_valueiterator_next ?_ (F.args_dict_valueiterator_next_1 _)));refine AP (B_ (AP (AP ?_)))
 first|refine AP (QO g.typeIs (B_ (AP (JO g1 g3 ?_))))|refine AP (QL g.typeIs (B_ (AP (JO g1 g3 ?_))))
 simp only [ow,uv,if_false];show AX _ _ (if (Value.ref d==Value.none)=true then _ else _) _ _ s;rw [lH (fun z=>nomatch z)];refine AP (B_ (AP (Zv t1 t3 ?_)));rw [lH (by rw [n0];simp)];refine AP (B_ (AP (JZ t1 t3 ?_)));rw [lH dL];refine B_ ?_;simp only [show ¬ ((i:Int)<0) from by omega,if_false,Q4,Array.getElem?_eq_none ge];refine AP ?_
 first|refine AP (QO g.typeIs (B_ ?_))|refine AP (QL g.typeIs (B_ ?_))
 show AX _ _ (setField (.ref it) 0 .none >>=_) _ _ s;refine AP (wpAny_setField g1 g3 dL ?_);show AX _ _ (newExc (.type "StopIteration") [] >>=_) _ _ _;refine AP ?_;simp only [newExc,newTuple];refine AP (Zz ?_ (by size_fits));refine AP (m:=firstArgMember _ _) (wpAny_of_eq (a:=Value.none) (by first|rfl|(simp only [firstArgMember];rfl)) ?_);refine Zz ?_ (by size_fits);simp only [raiseNew];refine AP (wpAny_handled ?_)
 first|rw [show A.in1.handled=none from hh]|rw [hh]
 refine AP (B_ (wpAny_throw ?_));exact q _ _ (((Heap.SameBut.update ..).extBut.push _).push _) ⟨_,MD _ rfl,rfl⟩
def ahg {z TI TO i1 i2 d l:AO}{ys:Κ}{Q:δ}(D:ZipApart z TI TO i1 i2 d l)
  (hz:Nv s.heap z TI TO .none) (gL:MU s.heap TI (.ref i1) (.ref i2)) (lR:MU s.heap TO a b)
  (h1:s.heap.IsValIter i1 d k ps.length ep) (m:s.heap.DictAt knd d ps ep) (h2:s.heap.IsListIter i2 l k) (hl:s.heap.IsList l ys) (hx:ps[k]?=some (kk,x)) (hy:ys[k]?=some y)
  (q:∀h',Nv h' z TI TO (Mv s.heap.objs.size)->MU h' TO x y->h'.IsValIter i1 d (k+1) ps.length ep->h'.IsListIter i2 l (k+1)->MU h' s.heap.objs.size x y->
   (∀c o,c≠z->c≠TO->c≠i1->c≠i2->s.heap.get? c=some o->h'.get? c=some o)->Q (.ref s.heap.objs.size) {s with heap:=h'}):
  AX (BD prog w) A (Builtin.«zip.__next__» ⟨[.ref z],[]⟩) (fun fin s'=>∃v,fin=.done (.ret v)/\Q v s') E s:=by
 show AX _ _ (field (.ref z) 2 >>=_) _ _ _;refine AP (Q7 hz rfl (x:=.bool false) rfl ?_);show AX _ _ (field (.ref z) 3 >>=_) _ _ _;refine AP (Q7 hz rfl (x:=.ref TI) rfl (AP (VL gL rfl ?_)));show AX _ _ (WA (.ref z) >>=_) _ _ _;refine AP ?_;unfold WA;refine AP (Q7 hz rfl (x:=.none) rfl (B_ ?_));simp only [if_true];refine AP (wpAny_rule (AP (Q7 hz rfl (x:=.ref TO) rfl (AP (p_ hz dL fun p1 z1 b1=>?_)))));let z1:Nv p1 z TI TO .ellipsis:=z1;refine AP ?_;simp only [al1,amo,KP,LN];refine AP (AP (wpAny_onRaise ?_));show AX _ _ (V' (.ref i1) >>=_) _ _ _;let m1:p1.DictAt knd d ps ep:=m.at' fun o e=>(b1.2 d D.l1z).trans e;refine AP (aae (s:={s with heap:=p1}) (h1.extBut b1.extBut D.i1z) m1 hx fun p2 g2 b2=>B_ ?_);let b2:SO i1 p1 p2:=b2;let o2:MU p2 TO a b:=b2.extBut _ _ D.TOi1 (b1.extBut _ _ D.TOz lR);refine AP (VL o2 rfl (AP (wpAny_updateSeq_pair o2 fun p3 o3 b3=>?_)));let b3:SO TO p2 p3:=b3;let o3:MU p3 TO x b:=o3;refine AP (wpAny_letGo (B_ (AP (AP (wpAny_onRaise ?_)))));show AX _ _ (V' (.ref i2) >>=_) _ _ _;let j3:p3.IsListIter i2 l k:=((h2.extBut b1.extBut D.i2z).extBut b2.extBut D.i12.symm).extBut b3.extBut D.TOi2.symm;let l3:p3.IsList l ys:=((hl.extBut b1.extBut D.l2z).extBut b2.extBut D.l2i1).extBut b3.extBut D.l2TO;refine AP (Qq (s:={s with heap:=p3}) j3 l3 hy fun p4 j4 b4=>B_ ?_);let b4:SO i2 p3 p4:=b4;let o4:MU p4 TO x b:=b4.extBut _ _ D.TOi2 o3;refine AP (VL o4 rfl (AP (wpAny_updateSeq_pair o4 fun p5 o5 b5=>?_)));let b5:SO TO p4 p5:=b5;let o5:MU p5 TO x y:=o5;refine AP (wpAny_letGo (B_ (B_ (AP (VL o5 rfl (AP (wpAny_newTuple ?_)))))));let sz:p5.objs.size=s.heap.objs.size:=by rw [b5.1,b4.1,b3.1,b2.1,b1.1]
 let z5:Nv p5 z TI TO .ellipsis:=b5.extBut _ _ D.TOz.symm (b4.extBut _ _ D.i2z.symm (b3.extBut _ _ D.TOz.symm (b2.extBut _ _ D.i1z.symm z1)));let c5:∀c o,c≠z->c≠TO->c≠i1->c≠i2->s.heap.get? c=some o->p5.get? c=some o:=fun c o c1 c2 c3 c4 e=>b5.extBut _ _ c2 (b4.extBut _ _ c4 (b3.extBut _ _ c2 (b2.extBut _ _ c3 (b1.extBut _ _ c1 e))));let g5:p5.IsValIter i1 d (k+1) ps.length ep:=((g2.extBut b3.extBut D.TOi1.symm).extBut b4.extBut D.i12).extBut b5.extBut D.TOi1.symm;let j5:p5.IsListIter i2 l (k+1):=j4.extBut b5.extBut D.TOi2.symm;let zl:z<p5.objs.size:=FG z5;show AX _ _ (Builtin.SmallTypes.ownedTupleHandOut (.ref z) (.ref p5.objs.size) >>=_) _ _ _;refine AP ?_;unfold Builtin.SmallTypes.ownedTupleHandOut;let z6:Nv (p5.push {cls:=.type "tuple",data:=.seq #[x,y]}) z TI TO .ellipsis:=FK _ z5;refine AP (p_ z6 dL fun p7 z7 b7=>?_);let z7:Nv p7 z TI TO (Mv p5.objs.size):=z7;refine p_ z7 dL fun p8 z8 b8=>?_;let z8:Nv p8 z TI TO (Mv p5.objs.size):=z8;let up:∀c o,c≠z->p5.get? c=some o->p8.get? c=some o:=fun c o c1 e=>b8.extBut _ _ c1 (b7.extBut _ _ c1 (FK _ e));let t8:MU p8 p5.objs.size x y:=b8.extBut _ _ (V9 zl) (b7.extBut _ _ (V9 zl) (MD _ rfl));rw [sz] at z8 t8;refine B_ ⟨_,rfl,?_⟩;show Q (.ref p5.objs.size) _;rw [sz];exact q p8 z8 (up _ _ D.TOz o5) (g5.at fun o e=>up _ o D.i1z e) (j5.at fun o e=>up _ o D.i2z e) t8 fun c o c1 c2 c3 c4 e=>up c o c1 (c5 c o c1 c2 c3 c4 e)
def aaf {z TI TO i1 i2 d:AO}(hh:A.handled=none)(n1:i1≠z)(n2:d≠z)
  (hz:Nv s.heap z TI TO .none) (gL:MU s.heap TI (.ref i1) (.ref i2)) (h1:s.heap.IsValIter i1 d k ps.length ep) (m:s.heap.DictAt knd d ps ep) (hx:ps.length<=k)
  (q:∀h' e,(∀c o,c≠z->c≠i1->s.heap.get? c=some o->h'.get? c=some o)->(∃o,h'.get? e=some o/\o.cls=.type "StopIteration")->E (.ref e) {s with heap:=h'}):
  AX (BD prog w) A (Builtin.«zip.__next__» ⟨[.ref z],[]⟩) Q E s:=by
 show AX _ _ (field (.ref z) 2 >>=_) _ _ _;refine AP (Q7 hz rfl (x:=.bool false) rfl ?_);show AX _ _ (field (.ref z) 3 >>=_) _ _ _;refine AP (Q7 hz rfl (x:=.ref TI) rfl (AP (VL gL rfl ?_)));show AX _ _ (WA (.ref z) >>=_) _ _ _;refine AP ?_;unfold WA;refine AP (Q7 hz rfl (x:=.none) rfl (B_ ?_));simp only [if_true];refine AP (wpAny_rule (AP (Q7 hz rfl (x:=.ref TO) rfl (AP (p_ hz dL fun p1 z1 b1=>?_)))));let z1:Nv p1 z TI TO .ellipsis:=z1;refine AP ?_;simp only [al1,amo,KP,LN];refine AP (AP (wpAny_onRaise ?_));show AX _ _ (V' (.ref i1) >>=_) _ _ _;let m1:p1.DictAt knd d ps ep:=m.at' fun o e=>(b1.2 d n2).trans e;refine AP (aht (s:={s with heap:=p1}) hh (h1.extBut b1.extBut n1) m1 hx fun p2 e b2 he=>?_);obtain ⟨oe,e1,e2⟩:=he;let z2:Nv p2 z TI TO .ellipsis:=b2 _ _ n1.symm z1;let ne:e≠z:=fun x=>by subst x;erw [z2] at e1;simp at e2
 exact p_ (s:={s with heap:=p2}) z2 dL fun p3 _ b3=>q p3 e (fun c o c1 c2 x=>b3.extBut _ _ c1 (b2 _ _ c2 (b1.extBut _ _ c1 x))) ⟨oe,b3.extBut _ _ ne e1,e2⟩
def aev {z TI TO i1 i2 d l:AO}{ys:Κ}{Q:Λ}(D:ZipApart z TI TO i1 i2 d l)
  (hz:Nv s.heap z TI TO .none) (gL:MU s.heap TI (.ref i1) (.ref i2)) (lR:MU s.heap TO a b)
  (h1:s.heap.IsValIter i1 d k ps.length ep) (m:s.heap.DictAt knd d ps ep) (h2:s.heap.IsListIter i2 l k) (hl:s.heap.IsList l ys) (hx:ps[k]?=some (kk,x)) (hy:ys[k]?=some y)
  (q:∀h',Nv h' z TI TO (Mv s.heap.objs.size)->MU h' TO x y->h'.IsValIter i1 d (k+1) ps.length ep->h'.IsListIter i2 l (k+1)->MU h' s.heap.objs.size x y->
   (∀c o,c≠z->c≠TO->c≠i1->c≠i2->s.heap.get? c=some o->h'.get? c=some o)->Q (some (.ref s.heap.objs.size)) {s with heap:=h'}):
  AX (BD prog w) A (RE (.ref z)) Q E s:=by
 let ty:s.TypeIs (.ref z) "zip":=⟨_,hz,rfl⟩;unfold RE;exact AP (wpAny_attempt (wpAny_callSpecial?_slot (name:=Q8 "__next__") ty Vk (Vd Vk ty KC (ahg D hz gL lR h1 m h2 hl hx hy fun h' a1 a2 a3 a4 a5 a6=>B_ (q h' a1 a2 a3 a4 a5 a6)) (LX _))))
def aag {z TI TO i1 i2 d:AO}{Q:Λ}(hh:A.handled=none)(n1:i1≠z)(n2:d≠z)
  (hz:Nv s.heap z TI TO .none) (gL:MU s.heap TI (.ref i1) (.ref i2)) (h1:s.heap.IsValIter i1 d k ps.length ep) (m:s.heap.DictAt knd d ps ep) (hx:ps.length<=k)
  (q:∀h',(∀c o,c≠z->c≠i1->s.heap.get? c=some o->h'.get? c=some o)->Q none {s with heap:=h'}):AX (BD prog w) A (RE (.ref z)) Q E s:=by
 let ty:s.TypeIs (.ref z) "zip":=⟨_,hz,rfl⟩;unfold RE;refine AP (wpAny_attempt (wpAny_callSpecial?_slot (name:=Q8 "__next__") ty Vk (Vd Vk ty KC (aaf hh n1 n2 hz gL h1 m hx fun h' e hk he=>?_) (LX _))));obtain ⟨o,e1,e2⟩:=he;exact AP (J_ (T:="StopIteration") (b:=true) ⟨o,e1,e2⟩ isSubtype_stop (B_ (q _ hk)))
abbrev BF (h:Heap)(d:AO)(n ep:Nat):Heap:=h.push {cls:=.type "dict_valueiterator",data:=.fields #[.ref d,.int 0 0,.int n 0,.int ep 0]}
abbrev BE (h:Heap)(d l:AO)(n ep:Nat):Heap:=(BF h d n ep).push {cls:=.type "list_iterator",data:=.fields #[.ref l,.int 0 0]}
abbrev BC (h:Heap)(d l:AO)(n ep:Nat):Heap:=(BE h d l n ep).push {cls:=.type "tuple",data:=.seq #[.ref h.objs.size,.ref (BF h d n ep).objs.size]}
abbrev AZ (h:Heap)(d l:AO)(n ep:Nat):Heap:=(BC h d l n ep).push {cls:=.type "tuple",data:=.seq #[.none,.none]}
abbrev σ3 (h:Heap)(d l:AO)(n ep:Nat):Heap:=(AZ h d l n ep).push {cls:=.type "zip",data:=.fields #[.none,.bool false,.bool false,.ref (BE h d l n ep).objs.size,.ref (BC h d l n ep).objs.size]}
def ahP (knd:KeyKind prog w Kt)(v l d:AO)(ps:List (Kt×Value))(ep:Nat)(ys:Κ):
  MeetsIn prog w (Builtin.«zip.__new__» ⟨[.type "zip",.ref v,.ref l],[]⟩) (fun _ R s=>s.heap.IsValuesView v d/\s.heap.DictAt knd d ps ep/\s.heap.IsList l ys/\
   R (.ok (.ret (.ref (AZ s.heap d l ps.length ep).objs.size))) {s with heap:=σ3 s.heap d l ps.length ep}):=
 .of_wp fun A R s h=>by
  obtain ⟨hp,g,dr,tk,os⟩:=s;obtain ⟨h1,h2,h3,q⟩:=h;let aEN:=sub_zip;let hV:Heap.IsValuesView (Shared.heap ⟨hp,g,dr,tk,os⟩) v d:=h1;let hD:Heap.DictAt knd (Shared.heap ⟨hp,g,dr,tk,os⟩) d ps ep:=h2;let hL:Heap.IsList (Shared.heap ⟨hp.push {cls:=.type "dict_valueiterator",data:=.fields #[.ref d,.int 0 0,.int ps.length 0,.int ep 0]},g,dr,tk,os⟩) l ys:=Heap.IsList.push h3 _
  wp_walk using wpAny_pyIter_values hV hD,QI hL
  show ⟨_,rfl,q⟩
def acI {ys:Κ}{Q:δ}(hv:s.heap.IsValuesView v d)(m:s.heap.DictAt knd d ps ep)(hl:s.heap.IsList l ys)
  (q:∀h',Nv h' (s.heap.objs.size+4) (s.heap.objs.size+2) (s.heap.objs.size+3) .none->MU h' (s.heap.objs.size+2) (.ref s.heap.objs.size) (.ref (s.heap.objs.size+1))->
   MU h' (s.heap.objs.size+3) .none .none->h'.IsValIter s.heap.objs.size d 0 ps.length ep->h'.IsListIter (s.heap.objs.size+1) l 0->(∀c o,s.heap.get? c=some o->h'.get? c=some o)->Q (.ref (s.heap.objs.size+4)) {s with heap:=h'}):
  AX (BD prog w) A (call (.type "zip") [.ref v,.ref l]) Q E s:=by
 refine callType_newIn F.called_zip cr (F.typeCall_zip_2 _ _) (F.newCall_zip_2 _ _) (fun obj=>F.args_object_init_3 obj _ _) F.entry_zip_new (ahP knd v l d ps ep ys) ⟨hv,m,hl,?_⟩;let z1:(BF s.heap d ps.length ep).objs.size=s.heap.objs.size+1:=RP ..;let z2:(BE s.heap d l ps.length ep).objs.size=s.heap.objs.size+2:=by rw [RP,z1]
 let z3:(BC s.heap d l ps.length ep).objs.size=s.heap.objs.size+3:=by rw [RP,z2]
 let z4:(AZ s.heap d l ps.length ep).objs.size=s.heap.objs.size+4:=by rw [RP,z3]
 let on:∀{h:Heap} {c:AO} {o p:Obj},h.get? c=some o->(h.push p).get? c=some o:=fun e=>FK _ e;let g5:(σ3 s.heap d l ps.length ep).get? (AZ s.heap d l ps.length ep).objs.size=some _:=MD _ rfl;let g4:(σ3 s.heap d l ps.length ep).get? (BC s.heap d l ps.length ep).objs.size=some _:=on (MD _ rfl);let g3:(σ3 s.heap d l ps.length ep).get? (BE s.heap d l ps.length ep).objs.size=some _:=on (on (MD _ rfl));let g2:(σ3 s.heap d l ps.length ep).get? (BF s.heap d ps.length ep).objs.size=some _:=on (on (on (MD _ rfl)));let g1:(σ3 s.heap d l ps.length ep).get? s.heap.objs.size=some _:=on (on (on (on (MD _ rfl))));show _/\_;rw [z2,z3,z4] at g5;rw [z1,z2] at g3;rw [z3] at g4;rw [z1] at g2;rw [z4];show ⟨⟨_,g5,rfl⟩,q _ g5 g3 g4 ⟨_,g1,rfl,rfl⟩ ⟨_,g2,rfl,rfl⟩ fun c o x=>on (on (on (on (on x))))⟩
end
def RO (K:Frag)(d:AO)(o:Obj)(AD:γ)(b:AO):It:=
 ⟨fun i H=>H d=some (.eZ o (.dK AD))/\i<AD.length/\∃ys y,aK K H b ys/\ys[i]?=some y,
  fun i H v H'=>∃p k x y,AD[i]?=some (k,x)/\(∀ys,aK K H b ys->ys[i]?=some y)/\v=.ref p/\H p=none/\H'=upd H p (.tup [x,y]),
  fun i H=>H d=some (.eZ o (.dK AD))/\AD.length<=i⟩
def aeu {K:Frag}{es:Β}(d b z TI TO i1 i2:AO)(o:Obj)(AD:γ)(he:o.data=.dict Yu ep)(D:ZipApart z TI TO i1 i2 d b):
  Turn P w K (.Tuple es k pos) (RO K d o AD b) [z,TI,TO,i1,i2] z (fun i h=>Nv h z TI TO .none/\MU h TI (.ref i1) (.ref i2)/\(∃x y,MU h TO x y)/\h.IsValIter i1 d i AD.length ep/\h.IsListIter i2 b i) where
 mem:=by simp
 obj:=fun i h st c hc=>by
  obtain ⟨hz,gL,⟨x,y,lR⟩,⟨o1,e1,c1,d1⟩,⟨o2,e2,c2,d2⟩⟩:=st;have pD :c=z\/c=TI\/c=TO\/c=i1\/c=i2:=by simpa using hc
  rcases pD with e|e|e|e|e<;>subst e
  ·show ⟨_,hz,fun v z=>by cases z⟩
  ·show ⟨_,gL,fun v z=>by cases z⟩
  ·show ⟨_,lR,fun v z=>by cases z⟩
  ·show ⟨_,e1,fun v z=>by erw [d1] at z⟩
  ·show ⟨_,e2,fun v z=>by erw [d2] at z⟩
 keep:=fun i h h' st k=>by
  obtain ⟨hz,gL,⟨x,y,lR⟩,h1,h2⟩:=st;show ⟨k z dL _ hz,k TI dL _ gL,⟨x,y,k TO dL _ lR⟩,h1.at fun o e=>k i1 dL o e,h2.at fun o e=>k i2 dL o e⟩
 item:=by
  intro X hP hw hK hc i pX s Z H E I hf st hg;subst hP hw hK;obtain ⟨hz,gL,⟨x0,y0,lR⟩,h1,h2⟩:=st;obtain ⟨fz,hi,ys,y,qy,ey⟩:=hg;obtain ⟨hd,vs,rel,da,_⟩:=pZ I.bH fz he;let ek:AD[i]?=some AD[i]:=gE hi;obtain ⟨⟨k',u⟩,ev,e1,ru⟩:=aE rel ek;let lv:=rel.length;rw [lv] at h1;obtain ⟨ZY,ra,p',_⟩:=I.list qy;obtain ⟨v,hv,rv'⟩:=ra.get ey;refine aev D hz gL lR h1 da h2 p'.isList ev (y:=v) (by simpa using hv) fun h' a1 a2 a3 a4 a5 a7=>?_;show ⟨_,rfl,wpAny_letOwnedTupleGo_zip (s:={s with heap:=h'}) a1 fun JU b1 sb=>?_⟩;let nz:∀c,c≠z->∀o,h'.get? c=some o->JU.get? c=some o:=fun c hc o e=>(sb.2 c hc).trans e
  let kk:∀b o,b∉[z,TI,TO,i1,i2]->s.heap.get? b=some o->JU.get? b=some o:=fun b o hb e=>by
   have fw :b≠z/\b≠TI/\b≠TO/\b≠i1/\b≠i2:=by simpa using hb
   exact nz b fw.1 o (a7 b o fw.1 fw.2.2.1 fw.2.2.2.1 fw.2.2.2.2 e)
  let sz:∀c o,s.heap.get? c=some o->s.heap.objs.size≠c:=fun c o e=>V9 (FG e);let hn:=I.bH.fresh (DH s.heap.objs.size)
  let I2:Inv X pX Z (upd H s.heap.objs.size (.tup [AD[i].2,y])) {s with heap:=JU,toks:=s.toks}:=
   Inv.rS I kk hf (DH _) (by show 2<=BZ;decide) (AU:=[u,v]) (.cons ru (.cons rv' .nil)) ⟨_,nz _ (sz _ _ hz) _ a5,rfl,_,rfl⟩
  rw [<-lv] at a3;show ⟨.ref s.heap.objs.size,_,I2,rfl,⟨s.heap.objs.size,AD[i].1,AD[i].2,y,ek,fun ys' q=>by rwa [I.jb q qy],rfl,hn,rfl⟩,⟨b1,nz _ D.TIz _ (a7 _ _ D.TIz D.TITO D.TIi1 D.TIi2 gL),⟨_,_,nz _ D.TOz _ a2⟩,a3.at fun o e=>nz _ D.i1z o e,a4.at fun o e=>nz _ D.i2z o e⟩,fun b hb=>?_⟩
  let ob:∃o,s.heap.get? b=some o:=by
   obtain ⟨o1,e1,_⟩:=h1;obtain ⟨o2,e2,_⟩:=h2;have pD :b=z\/b=TI\/b=TO\/b=i1\/b=i2:=by simpa using hb
   rcases pD with e|e|e|e|e<;>subst e
   ·show ⟨_,hz⟩
   ·show ⟨_,gL⟩
   ·show ⟨_,lR⟩
   ·show ⟨_,e1⟩
   ·show ⟨_,e2⟩
  obtain ⟨o,e⟩:=ob;rw [ah (FN (sz _ _ e))];exact (hf b hb).1
 done:=by
  intro X hP hw hK hc i pX s Z H E I hf st hg;subst hP hw hK;obtain ⟨hz,gL,⟨x0,y0,lR⟩,h1,h2⟩:=st;obtain ⟨fz,hi⟩:=hg;obtain ⟨hd,vs,rel,da,_⟩:=pZ I.bH fz he;let lv:=rel.length;rw [lv] at h1;refine aag (I.ok.hd hc) D.i1z D.l1z hz gL h1 da ci fun h' kk=>⟨rfl,Inv.nZ I (fun b o hb e=>?_) hf⟩;have fw :b≠z/\b≠TI/\b≠TO/\b≠i1/\b≠i2:=by simpa using hb
  exact kk b o fw.1 fw.2.2.2.1 e
 self:=fun _ _ _ _ _ st h=>ym st.1 h
section
variable {X:Cx}
def aew (K:Frag)(te:TE)(ta:TA):TI:=fun Z H R=>te Z H fun x H1=>∃d,x=.ref d/\(∃AD,H1 d=some (.dK AD))/\ta Z H1 fun vs H2=>∃b AD,vs=[.ref b]/\(∃ys,aK K H2 b ys)/\H2 d=some (.dK AD)/\∀o,R (RO K d o AD b) (upd H2 d (.eZ o (.dK AD)))
def Inv.aah {Z:L2.St}(I:Inv X pX Z H s)(h:s.heap.get? a=some o/\H a=none/\a≠X.env.locals/\a∉X.fs/\∀v,o.data≠.cell v):Inv X ((a,o)::pX) Z H s:=by
 show ⟨I.ok,I.os,I.bare,I.gw,I.loc,I.cell,I.free,I.fQ,fun p hp=>?_,I.bH,I.len⟩
 rcases FQ.mp hp with z|z
 ·exact I.pin p (OA _ z)
 ·rcases M_.mp z with z|z
  ·rw [z]
   exact h
  ·exact I.pin p (Qv _ z)
def Inv.V6 {pX:ε}{Z:L2.St}(I:Inv X (p::pX) Z H s):Inv X pX Z H s:=by
 show ⟨I.ok,I.os,I.bare,I.gw,I.loc,I.cell,I.free,I.fQ,fun p hp=>?_,I.bH,I.len⟩
 rcases FQ.mp hp with z|z
 ·exact I.pin p (OA _ z)
 ·exact I.pin p (Qv _ (HV _ z))
def aet {p pos apos cW:Pos}{es:Β}{k:Nat}{xy:Pos}(hg:Gl X "zip")(hm:X.mg "zip"=none)(ho:PE X e te)(ha:PA X [e2] ta)
  (hs:DI [.Call (.Attribute e "values" apos) [] [] cW,e2] X.env=[(false,DC (.Call (.Attribute e "values" apos) [] [] cW) X.env),(false,DC e2 X.env)]:=by rfl) (wj:DI [e2] X.env=[(false,DC e2 X.env)]:=by rfl)
  (kr:V2 e "values" X.env (DC e X.env)=DC e X.env:=by rfl) (sL:(apos.endLine==cW.line)=true:=by rfl):
  PI X (.Tuple es k xy) (.Call (.Name "zip" p) [.Call (.Attribute e "values" apos) [] [] cW,e2] [] pos) (aew X.K te ta):=by
 intro pX s Z H R I h;refine Call_ (iS I hg hm boot_zip (Vp ?_ (by rw [hs,wj]) (by rw [wj];rfl)));rw [hs];show AX _ _ (spliced ((false,DC (.Call (.Attribute e "values" apos) [] [] cW) X.env)::MZ pos [(false,DC e2 X.env)])) _ _ s;refine Wf (wpAny_Call_method0_late kr sL (cI (ho pX s Z H _ I h) fun v s1 ⟨x,H1,I1,r1,q1⟩=>?_));obtain ⟨d,rfl,⟨kv0,e0⟩,q⟩:=q1;cases r1;obtain ⟨h1,h2,hd⟩:=x5 I1 (.inl ⟨kv0,.inl e0⟩);obtain ⟨_,_,vs0,amB,dd0⟩:=mB I1.bH e0;show ⟨"dict","dict.values",F.plainAttrs_dict,F.slot_dict_values,F.type_dict_values,h1,h2,Zn rfl (PySem.evalArgs_none ?_)⟩;refine ZT F.slot_dict_values h1 F.entry_dict_values (F.args_dict_values_1 _) (meets_dict_values (bq X.prog X.w) d hd) ⟨⟨vs0,dd0⟩,?_⟩;let I2:Inv X pX Z H1 {s1 with heap:=s1.heap.push {cls:=.type "dict_values",data:=.fields #[.ref d]}}:=I1.kept (t':=s1.toks) fun b o e=>FK _ e;obtain ⟨f0,f1,f2,f3,f4,f5⟩:=I1.rf (DH s1.heap.objs.size) (I1.bH.fresh (DH _));let I3:=Inv.aah I2 (a:=s1.heap.objs.size) (o:={cls:=.type "dict_values",data:=.fields #[.ref d]}) ⟨MD _ rfl,f0,f1,f2,fun v z=>by cases z⟩;let hb2:MZ pos [(false,DC e2 X.env)]=MZ pos (DI [e2] X.env):=by rw [wj]
 show AX _ _ (spliced (MZ pos [(false,DC e2 X.env)])) _ _ _;rw [hb2];refine cI (ha pos _ _ Z H1 _ I3 q) fun us s3 ⟨ws,H3,I4,r4,q4⟩=>?_;obtain ⟨b,AD,rfl,⟨ys,hy⟩,ed,q⟩:=q4;obtain ⟨u,rfl⟩:∃u,us=[u]:=by cases r4 with|cons h t=>cases t;show ⟨_,rfl⟩
 cases r4 with
 | cons rb _=>
 cases rb;let hv:=(I4.pin (s1.heap.objs.size,_) (Qv _ LZ)).1;let I5:=Inv.V6 I4;obtain ⟨z,T4,vs,rel,o,σ9,ep,Pz,hx,jJ,hk,hp,hn⟩:=mB I5.bH ed;let da:s3.heap.DictAt (bq X.prog X.w) d vs ep:=⟨o,σ9,Pz,hx,jJ,hk,hp,hn⟩;let lv:=rel.length;let I6:=Inv.freeze I5 ed Pz;obtain ⟨ZY,ra,pl,_⟩:=I5.list hy;let lt1:d<s3.heap.objs.size:=FG Pz;let lt2:b<s3.heap.objs.size:=by obtain ⟨ob,e1,_⟩:=pl.isList;exact FG e1
 refine acI (knd:=bq X.prog X.w) (d:=d) ⟨_,hv,rfl,rfl⟩ da pl.isList fun h' hz gL lR wI ZZ hk=>ym (s:={s3 with heap:=h'}) hz ?_;rw [<-lv] at wI;show ⟨s3.heap.objs.size+4,[s3.heap.objs.size+4,s3.heap.objs.size+2,s3.heap.objs.size+3,s3.heap.objs.size,s3.heap.objs.size+1],_,_,_,rfl,I6.kept (t':=s3.toks) hk,aeu d b _ _ _ _ _ o AD jJ ?_,⟨hz,gL,⟨_,_,lR⟩,wI,ZZ⟩,fun c hc=>?_,q o⟩
 ·constructor<;>(intro z;simp only [AO] at*;omega)
 ·have pD :s3.heap.objs.size<=c:=by
   have:c=s3.heap.objs.size+4\/c=s3.heap.objs.size+2\/c=s3.heap.objs.size+3\/c=s3.heap.objs.size\/c=s3.heap.objs.size+1:=by simpa using hc
   simp only [AO] at*;omega
  exact I6.rf pD (I6.bH.fresh pD)
def ag9 {K:Frag}{g:TG}{tb:TS}{D:Ends}(Pv:Nat->L2.St->Hp->Prop)(hy:AD.length<=ys.length)(h0:Pv 0 Z H)(hl:∀i Z H,i<=AD.length->Pv i Z H->H d=some (.eZ o (.dK AD))/\aK K H b ys)
  (hs:∀i k x y Z H p,AD[i]?=some (k,x)->ys[i]?=some y->Pv i Z H->H p=none->g (.ref p) Z (upd H p (.tup [x,y])) fun Z2 H2=>tb {D with nx:=Pv (i+1),ct:=Pv (i+1),bk:=D.nx} Z2 H2) (hd:∀Z H,Pv AD.length Z H->D.nx Z H):
  ∃W:Nat->Nat->L2.St->Hp->Prop,(∃m,W 0 m Z H)/\∀i m Z H,W i m Z H->
   ((RO K d o AD b).stop i H/\D.nx Z H)\/((RO K d o AD b).go i H/\∃N:L2.St->Hp->Prop,(∀Z' H',N Z' H' ->∃m',m'<m/\W (i+1) m' Z' H')/\∀x H',(RO K d o AD b).Mr i H x H' ->g x Z H' fun Z2 H2=>tb {D with nx:=N,ct:=N,bk:=D.nx} Z2 H2):=by
 show ⟨fun i m Z H=>m=AD.length-i/\i<=AD.length/\Pv i Z H,⟨AD.length,by simp,Mu _,h0⟩,?_⟩;rintro i m Z H ⟨rfl,hi,p⟩;obtain ⟨q1,q2⟩:=hl i Z H hi p;by_cases lM:i<AD.length
 ·let ey:ys[i]?=some ys[i]:=gE ci
  refine .inr ⟨⟨q1,lM,ys,ys[i],q2,ey⟩,Pv (i+1),fun Z' H' z=>⟨AD.length-(i+1),ci,rfl,ci,z⟩,fun x H' y=>?_⟩;obtain ⟨a,k,x',y',ek,PK,rfl,na,rfl⟩:=y;exact hs i k x' y' Z _ a ek (PK ys q2) p na
 ·let e:i=AD.length:=ci
  subst e;exact .inl ⟨⟨q1,DH _⟩,hd Z H p⟩
end
section
variable {D:AO}{te:TE}{oY:L2.St}{H1:Hp}{Q:VK}
def aam (J:List V->Hp->Prop)(nD:H1 D=none)(hn:n<BZ)(h0:J [] (upd H1 D (.lst [])))
  (he:∀(i:Nat) ys H (R:VK),i<n->ys.length=i->J ys H->aq H1 H->H D=some (.lst ys)->(∀v H6,aq H H6->J (ys++[v]) (upd H6 D (.lst (ys++[v])))->R v H6)->te (some (.int (0+(i:Int)))::oY) H R)
  (hd:∀ys H,ys.length=n->J ys H->aq H1 H->H D=some (.lst ys)->Q (.ref D) H):
  pU D (cG 0) mQ te (XY 0 n) (none::oY) H1 Q:=by
 refine xY n (fun i=>.int (0+(i:Int))) (fun i ys H=>ys.length=i/\J ys H/\aq H1 H) ⟨rfl,h0,fun b o e=>by rwa [ah (ak e nD)]⟩ ?_ ?_ ?_ ?_
 ·rintro i ys H hi _
  show ⟨hi,fun x H' y=>y⟩
 ·rintro ys H _
  exact DH n
 ·rintro i ys H R hi ⟨l,j,s⟩ hD k
  exact he i ys H R hi l j s hD fun v H6 s6 jv=>k v H6 (s6 _ _ hD) ci ⟨by simp [l],jv,fun b o e=>by rw [ah (ak e nD)];exact s6 _ _ (s _ _ e)⟩
 ·rintro ys H ⟨l,j,s⟩ hD
  exact hd ys H l j s hD
end
def ag8 {K:Frag}(h:X.K=K)(hu:X.A.units+64<Nh):km X (Nj .NotEq) (AV K):=by subst h;exact nN hu
def acn (x y z:Value):argsOk "min" ⟨[x,y,z],[]⟩:=by
 unfold argsOk
 kernel_rfl
abbrev vm (i j k:Int)(t u v:Tok):Array (Int×Tok):= #[(i,t),(j,u),(k,v)]
def acN {E:δ}{R:δ}(hb:B.handled=none)
  (h:∀(m:Int)(tm:Tok)(h':Heap)(n:Nat),(m=i\/m=j\/m=k)->m<=i->m<=j->m<=k->(∀b o,s.heap.get? b=some o->h'.get? b=some o)->R (.int m tm) {s with heap:=h',toks:=n}):
  AX (BD P w) B (call (.builtin "min") [.int i t,.int j u,.int k v]) R E s:=by
 let nm:(toString "min"++toString ".loop":String)="min.loop":=cr
 let tup:(s.heap.push {cls:=.type "tuple",data:=.seq #[Value.int i t,Value.int j u,Value.int k v]}).IsTuple s.heap.objs.size (intItems (vm i j k t u v)):=
  ⟨_,MD _ rfl,rfl,0,by simp [intItems]⟩
 let CJ:(s.heap.push {cls:=.type "tuple",data:=.seq #[Value.int i t,Value.int j u,Value.int k v]}).objs.size=s.heap.objs.size+1:=
  RP ..
 let aex:(intItems (vm i j k t u v)).size=3:=by simp [intItems]
 refine call_function_tree F.kind_min F.plain_min F.entry_min
  (acn _ _ _) ?_
 show AX _ B.in1 (Builtin.Builtins.bindParams "min"
  ["key","default"] 0 ⟨[],[]⟩ >>=_) _ _ s
 refine AP (wpAny_of_eq (show Builtin.Builtins.bindParams "min"
  ["key","default"] 0 ⟨[],[]⟩=pure [none,none] from rfl) ?_)
 show AX _ B.in1 (newTuple [.int i t,.int j u,.int k v] >>=_) _ _ s;refine AP (Zz ?_ (by show 3<=BZ;decide));refine AP (wpAny_pyIter_tuple tup ?_);refine AP (Zz ?_ (by first|(show 0<=BZ;decide)|(show 1<=BZ;decide)|(show 2<=BZ;decide)));rw [nm];let nI:s.heap.objs.size≠(s.heap.push {cls:=.type "tuple",data:=.seq #[Value.int i t,Value.int j u,Value.int k v]}).objs.size:=by rw [CJ];omega
 let W:=Walks.tuple (prog:=P) (w:=w) (A:=B.in1) hb _ s.heap.objs.size nI (intItems (vm i j k t u v))
 let low:∀b,b∈[(s.heap.push {cls:=.type "tuple",data:=.seq #[Value.int i t,Value.int j u,Value.int k v]}).objs.size,s.heap.objs.size]->b<s.heap.objs.size+2:=fun b fw =>by
  rw [CJ] at fw
  rcases M_.mp fw with e|fw
  ·omega
  ·have:=GZ.mp fw
   omega
 refine B_ ⟨xI F.plain_min_loop _,?_⟩
 refine codeAny_min_loop_first W _ (CmpOf.ints_lt (numAt (vm i j k t u v)) fun _ _=>intItems_at) _ (fun hm=>?_) (by rw [aex];decide)
  (W.frame 0 _ _ ⟨⟨_,MD _ rfl,rfl,rfl⟩,tup.push _⟩ fun b _ o e=>FK _ e) (MD _ rfl) fun r h' n hr hk=>?_
 ·have:=low _ hm
  revert this
  show ¬ ((s.heap.push _).push _).objs.size<_;rw [RP,CJ];omega
 ·rw [aex] at hr
  let v0:numAt (vm i j k t u v) 0=i:=rfl;let v1:numAt (vm i j k t u v) 1=j:=rfl;let v2:numAt (vm i j k t u v) 2=k:=rfl
  obtain ⟨a,ea,ha⟩:∃a,argBest (fun i' j'=>decide (numAt (vm i j k t u v) i'<numAt (vm i j k t u v) j')) 2=a/\((a=0/\i<=j/\i<=k)\/(a=1/\j<=i/\j<=k)\/(a=2/\k<=i/\k<=j)):=by
   show ⟨_,rfl,?_⟩;by_cases c1:j<i
   ·by_cases c2:k<j
    ·exact .inr (.inr ⟨by simp [argBest,v0,v1,v2,c1,c2],ci,ci⟩)
    ·exact .inr (.inl ⟨by simp [argBest,v0,v1,v2,c1,c2],ci,ci⟩)
   ·by_cases c2:k<i
    ·exact .inr (.inr ⟨by simp [argBest,v0,v1,v2,c1,c2],ci,ci⟩)
    ·exact .inl ⟨by simp [argBest,v0,v1,v2,c1,c2],ci,ci⟩
  let hr':(intItems (vm i j k t u v))[a]?=some r:=by rwa [<-ea]
  obtain ⟨tm,rfl⟩:=intItems_at hr'
  let old:∀b o,s.heap.get? b=some o->h'.get? b=some o:=fun b o e=>by
   refine hk b o (fun hm=>?_) (fun z=>?_) (FK _ (FK _ (FK _ e)))
   ·have:=FG e
    rw [GZ.mp hm] at this;let more:(s.heap.push {cls:=.type "tuple",data:=.seq #[Value.int i t,Value.int j u,Value.int k v]}).objs.size<s.heap.objs.size:=this;rw [CJ] at more;omega
   ·have:=FG e
    rw [z] at this;let more:((s.heap.push _).push _).objs.size<s.heap.objs.size:=this;rw [RP,CJ] at more;omega
  rcases ha with ⟨rfl,h1,h2⟩|⟨rfl,h1,h2⟩|⟨rfl,h1,h2⟩
  ·exact h i tm h' n (.inl rfl) (LK _) h1 h2 old
  ·exact h j tm h' n (.inr (.inl rfl)) h1 (LK _) h2 old
  ·exact h k tm h' n (.inr (.inr rfl)) h1 h2 (LK _) old
section
variable {X:Cx}
def vals3 {us:ν}(r:Vals [x,y,z] us):∃a b c,us=[a,b,c]/\RelV x a/\RelV y b/\RelV z c:=by
 cases r with
 | cons r1 r2=>
  obtain ⟨b,c,rfl,r3,r4⟩:=vals2 r2;show ⟨_,b,c,rfl,r1,r3,r4⟩
inductive Yw (xs:ζ)(H:Hp)(Q:VK):Prop
|mk (i j k:Int)(_:xs=[.int i,.int j,.int k])(_:∀m:Int,(m=i\/m=j\/m=k)->m<=i->m<=j->m<=k->Q (.int m) H)
def ab6 (hc:X.calm=true):iE X (.builtin "min") Yw:=by
 intro pX s Z H xs us Q I r h;obtain ⟨i,j,k,rfl,q⟩:=h;obtain ⟨a,b,c,rfl,⟨t,rfl⟩,⟨t',rfl⟩,⟨t'',rfl⟩⟩:=vals3 r;exact acN (I.ok.hd hc) fun m tm h' n h1 h2 h3 h4 kk=>⟨.int m,H,I.kept kk,⟨_,rfl⟩,q m h1 h2 h3 h4⟩
end
section
variable {prog:FL}{w:World}{KK:Type}[DecidableEq KK]{knd:KeyKind prog w KK}{A:HL}{E:δ}{s:BW}
def ahY (hu:A.units<Nh)(ha:(a==Nr)=false)(hb:(b==Nr)=false)(da:s.heap.DictOf knd a vs)(db:s.heap.DictOf knd b ws)
  (hk:vs.map (·.1)=ws.map (·.1)) (he:∀(i:Nat)(x y:KK×Value),vs[i]?=some x->ws[i]?=some y->WG A.in1 s x.2 y.2 true) {Q:δ} (q:Q (.bool false) s):
  AX (BD prog w) A (richCompare .NotEq (.ref a) (.ref b)) Q E s:=by
 refine wpAny_richCompare_same_room da.typeIs db.typeIs F.slot_dict_ne (Vd F.slot_dict_ne da.typeIs F.entry_dict_ne ?_ (F.args_dict_ne_2 _ _)) hu;show AX _ _ (Builtin.Dict.dictSlotArgs "__ne__" ⟨[.ref a,.ref b],[]⟩ >>=_) _ _ s;unfold Builtin.Dict.dictSlotArgs;refine AP (AP (wpAny_notOrdered_dict da.typeIs ?_));show AX _ _ (pure (Value.ref a,Value.ref b)) _ _ s;refine B_ ?_;refine AP (J_ db.typeIs isSubtype_dict_dict ?_);rw [lH cr];show AX _ _ (Builtin.Dict.samePairs _ a b >>=_) _ _ s;refine AP (afO ha hb da db hk he ?_);exact B_ ⟨.bool false,rfl,(fun z=>nomatch z),q⟩
end
section
variable {X:Cx}
def amH:R2:=fun x y H Q=>aeg H x y/\Q (.bl false) H
def aai (hu:X.A.units+64<Nh):km X (Nj .NotEq) amH:=by
 intro pX s Z H x y v u Q I rx ry h;obtain ⟨⟨a,b,AD,rfl,rfl,e1,e2,fl⟩,q⟩:=h;cases rx;cases ry;obtain ⟨z,hd,vs,rel,dd⟩:=jY I.bH e1;obtain ⟨z2,hd2,ws,aey,dd2⟩:=jY I.bH e2;refine ahY ci hd hd2 dd dd2 (by rw [<-rel.keys,<-aey.keys]) (fun i x y hx hy=>?_) ⟨.bl false,H,I,rfl,q⟩
 let li:i<AD.length:=by
  have:=(Wp.mp hx).1;rw [rel.length];exact this
 let ek:AD[i]?=some AD[i]:=gE li;obtain ⟨x',ex,_,rx⟩:=aE rel ek;obtain ⟨y',ey,_,ry⟩:=aE aey ek;rw [hx] at ex;rw [hy] at ey;cases ex;cases ey
 rcases fl AD[i] (Rk li) with f|⟨c,f⟩
 ·have:=FR (A:=X.A.in1) (s:=s) rx ry f f
  rwa [sP f] at this
 ·rw [f] at rx ry
  have kz :x.2=Value.ref c:=rx;have T7 :y.2=Value.ref c:=ry;rw [kz,T7];exact .same _
end
inductive CK {A0 A1:Type}(p:A0->A1->Prop):Prop where
 | mk (a0:A0)(a1:A1)(h:p a0 a1):CK p
inductive KU {A0 A1 A2:Type}(p:A0->A1->A2->Prop):Prop where
 | mk (a0:A0)(a1:A1)(a2:A2)(h:p a0 a1 a2):KU p
inductive Nw {A0 A1 A2 A3:Type}(p:A0->A1->A2->A3->Prop):Prop where
 | mk (a0:A0)(a1:A1)(a2:A2)(a3:A3)(h:p a0 a1 a2 a3):Nw p
inductive Ex5 {A0 A1 A2 A3 A4:Type}(p:A0->A1->A2->A3->A4->Prop):Prop where
 | mk (a0:A0)(a1:A1)(a2:A2)(a3:A3)(a4:A4)(h:p a0 a1 a2 a3 a4):Ex5 p
inductive Ex7 {A0 A1 A2 A3 A4 A5 A6:Type}(p:A0->A1->A2->A3->A4->A5->A6->Prop):Prop where
 | mk (a0:A0)(a1:A1)(a2:A2)(a3:A3)(a4:A4)(a5:A5)(a6:A6)(h:p a0 a1 a2 a3 a4 a5 a6):Ex7 p
inductive Ex9 {A0 A1 A2 A3 A4 A5 A6 A7 A8:Type}(p:A0->A1->A2->A3->A4->A5->A6->A7->A8->Prop):Prop where
 | mk (a0:A0)(a1:A1)(a2:A2)(a3:A3)(a4:A4)(a5:A5)(a6:A6)(a7:A7)(a8:A8)(h:p a0 a1 a2 a3 a4 a5 a6 a7 a8):Ex9 p
section
variable {P:FL}{w:World}{K:Frag}{mg:ι}{gw:Heap}{CX:nC}{N ps:θ}{k:Nat}{sp:Sp}{st:Stmt}
def Def.oo (D:Def K mg x st ps)(S:av N ps (ae st))
  (gx:∀{f:AO} {bE:Value} {A:HL} {outer:List Env} {s:BW} {vs:ζ} {Q:VK} {E:XK} (H:Hp),cz k (A.deeper (Ng x (ae st) s.heap.objs.size f bE))->sp vs H Q E->
   ∃t,uS (j6 CX P w K mg gw N x (ae st) f bE A outer s H E).wd (ar st) t/\t {nx:=fun _ H'=>Q .cO H',rt:=Q} (start N vs) H) (len:∀vs H Q E,sp vs H Q E->vs.length=ps.length:=by intro vs H Q E h;cases h;subst_vars;rfl):Fn P w K mg gw CX (k+1) x ps sp:=D.ok S len fun _ _ _ _ _ H _ _ _ hr h=>gx H hr h
def Def.op (D:Def K mg x st ps)(S:av N ps (ae st))
  (gx:∀(f:AO)(bE:Value)(A:HL)(outer:List Env)(s:BW)(H:Hp)(vs:ζ)(Q:VK)(E:XK),cz k (A.deeper (Ng x (ae st) s.heap.objs.size f bE))->sp vs H Q E->
   ∃t,uS (j6 CX P w K mg gw N x (ae st) f bE A outer s H E).wd (ar st) t/\t {nx:=fun _ H'=>Q .cO H',rt:=Q} (start N vs) H) (len:∀vs H Q E,sp vs H Q E->vs.length=ps.length:=by intro vs H Q E h;cases h;subst_vars;rfl):Fn P w K mg gw CX (k+1) x ps sp:=D.ok S len gx
def fH (F:qH K name qual st f fd)(S:av N ps (ae st))
  (gx:∀{bE:Value} {A:HL} {outer:List Env} {s:BW} {vs:ζ} {Q:VK} {E:XK} (H:Hp),cz k (A.deeper (Ng qual (ae st) s.heap.objs.size f bE))->sp vs H Q E->
   ∃t,uS (md P w K mg gw N qual (ae st) f bE A outer s H E).wd (ar st) t/\t {nx:=fun _ H'=>Q .cO H',rt:=Q} (start N vs) H) (len:∀vs H Q E,sp vs H Q E->vs.length=ps.length:=by intro vs H Q E h;cases h;subst_vars;rfl):cK P w K mg gw (aS P w) (k+1) f fd ps sp:=alA F S len fun _ _ _ _ H _ _ _ hr h=>gx H hr h
def Ua (P:FL)(w:World){X:Cx}:Passes (aS P w) X.wd E0:=kF aS.AY
end
section
variable {X:Cx}{i:Nat}{x y:Str}{a b c d e e1 e2 e3 e4 e5 elt target iter:Expr}{es ifs:Β}{te ta tb t1 t2 t3 t4 t5:TE}{wi:TI}{g:TG}{tt:TT}{pos pos' py vh p:Pos}{scope:Scope}{tn fr:θ}{oV:List Nat}
def aA (i:Nat)(hN:X.N.Nodup)(he:PE X e te)(hi:X.N[i]?=some x:=by rfl)(hx:Loc X.env.scope x:=by first|exact .inl rfl|exact .inr rfl)(hs:Sg e (some (.Name x pos')) pos.line X.env=pure false:=by rfl)(hf:X.fn x=true\/X.env.scope.names.lookup x=some .local:=by first|exact .inl rfl|exact .inr rfl|assumption):
  PS X (.Assign [.Name x pos'] e pos) (FE te (cG i)):=ahN hN hi hx he hs hf
def b6 (i:Nat)(hN:X.N.Nodup)(hi:X.N[i]?=some x:=by rfl)(hx:Loc X.env.scope x:=by first|exact .inl rfl|exact .inr rfl)(hf:X.fn x=true\/X.env.scope.names.lookup x=some .local:=by first|exact .inl rfl|exact .inr rfl|assumption):PG X (.Name x pos) (cG i):=fC hN hi hx hf
def bL (hr:ZF X r)(ha:PE X a ta)(hb:PE X b tb)(hs:ams b:=by exact fun _ _=>rfl):PE X (.Subscript a b pos) (X2 r ta tb):=Qz hr ha hb hs
def bg (ho:km X (Nj op) r)(ha:PE X a ta)(hb:PE X b tb)(hm:ZO op b=false:=by exact agj _):PT X (.Compare a [op] [b] pos) (X5 (X2 r ta tb)):=jD ho ha hb hm
def aV (h1:PE X e1 t1)(s1:isStar e1=false:=by rfl):PA X [e1] (qG t1 mM):=rR h1 iV s1
def aF (h1:PE X e1 t1)(h2:PE X e2 t2)(s1:isStar e1=false:=by rfl)(s2:isStar e2=false:=by rfl):PA X [e1,e2] (qG t1 (qG t2 mM)):=rR h1 (aV h2 s2) s1
def bx (h1:PE X e1 t1)(h2:PE X e2 t2)(h3:PE X e3 t3)(s1:isStar e1=false:=by rfl)(s2:isStar e2=false:=by rfl)(s3:isStar e3=false:=by rfl):PA X [e1,e2,e3] (qG t1 (qG t2 (qG t3 mM))):=rR h1 (aF h2 h3 s2 s3) s1
def KW (h1:closureFor scope X.env=pure (ba X.env fr):=by exact rfl)(h2:∀y∈scope.names,y.2≠.cell:=by decide+kernel)(h3:scope.kind=.function:=by exact rfl)(h4:∀y∈scope.names,y.2=.local->scope.names.lookup y.1=some .local:=by decide+kernel)(h5:∀y∈scope.names,y.2=.free->y.1∈fr:=by decide+kernel)(h6:oV.map (fun i=>X.N[i]?)=fr.map some:=by exact rfl)
  (h7:i0 X.env fr:=by repeat (first|exact trivial|show ⟨by first|exact RY rfl|exact WD rfl,?_⟩)) (h8:i0 (compEnvC scope [] 0 X.env) fr:=by repeat (first|exact trivial|show ⟨by first|exact RY rfl|exact WD rfl,?_⟩)):xX X scope fr oV:=⟨h1,h2,h3,h4,h5,h6,h7,h8⟩
def GL (hi:PI X target iter wi)(hg:∀C s H fp,PG (rP X (tn++fr) scope (ba X.env fr) C s H fp) target g)(ht:∀C s H fp,PF (rP X (tn++fr) scope (ba X.env fr) C s H fp) ifs tt)(he:∀{C s H fp},PE (rP X (tn++fr) scope (ba X.env fr) C s H fp) elt te)
  (hc:X.calm=true:=by rfl) (B:xX X scope fr oV:=by exact KW) (hs:∀x,VO iter X.env x=pure x:=by intro _;rfl):PE X (.ListComp elt [⟨target,iter,ifs,0⟩] scope pos) (qL tn.length oV wi g tt te):=amK hc B hi hg ht (fun _ _ _ _=>he) hs
def aez (hN:(tn++fr).Nodup)(h0:(tn++fr)[0]?=some y)(hx:∀C s H fp,Loc (rP X (tn++fr) scope (ba X.env fr) C s H fp).env.scope y)(hl:∀C s H fp,(rP X (tn++fr) scope (ba X.env fr) C s H fp).fn y=true\/(rP X (tn++fr) scope (ba X.env fr) C s H fp).env.scope.names.lookup y=some .local):∀C s H fp,PG (rP X (tn++fr) scope (ba X.env fr) C s H fp) (.Name y py) (cG 0):=fun C s H fp=>fC hN h0 (hx C s H fp) (hl C s H fp)
def g6 (hi:PI X (.Name y py) iter wi)(he:∀{C s H fp},PE (rP X (tn++fr) scope (ba X.env fr) C s H fp) elt te)
  (hc:X.calm=true:=by rfl) (B:xX X scope fr oV:=by exact KW) (hs:∀x,VO iter X.env x=pure x:=by intro _;rfl) (hN:(tn++fr).Nodup:=by decide+kernel) (h0:(tn++fr)[0]?=some y:=by rfl) (hx:∀C s H fp,Loc (rP X (tn++fr) scope (ba X.env fr) C s H fp).env.scope y:=by exact fun _ _ _ _=>.inl rfl) (hl:∀C s H fp,(rP X (tn++fr) scope (ba X.env fr) C s H fp).fn y=true\/(rP X (tn++fr) scope (ba X.env fr) C s H fp).env.scope.names.lookup y=some .local:=by intro _ _ _ _;first|exact .inl rfl|exact .inr rfl):PE X (.ListComp elt [⟨.Name y py,iter,[],0⟩] scope pos) (qL tn.length oV wi (cG 0) mQ te):=amK hc B hi (aez hN h0 hx hl) (fun _ _ _ _=>tf) (fun _ _ _ _=>he) hs
def GN (hN:X.N.Nodup)(hi:PI X target iter wi)(hg:∀C s H fp,PG (rP X (tn++fr) scope (ba X.env fr) C s H fp) target g)(ht:∀C s H fp,PF (rP X (tn++fr) scope (ba X.env fr) C s H fp) ifs tt)(he:∀{C s H fp},PE (rP X (tn++fr) scope (ba X.env fr) C s H fp) elt te)
  (ZV:X.N[i]?=some x:=by rfl) (hx:Loc X.env.scope x:=by first|exact .inl rfl|exact .inr rfl) (hc:X.calm=true:=by rfl) (B:xX X scope fr oV:=by exact KW) (Px:Sg (.ListComp elt [⟨target,iter,ifs,0⟩] scope pos) (some (.Name x py)) vh.line X.env=pure true:=by rfl)
  (hs:∀x,VO iter X.env x=pure x:=by intro _;rfl) (hf:X.fn x=true\/X.env.scope.names.lookup x=some .local:=by first|exact .inl rfl|exact .inr rfl|assumption):
  PS X (.Assign [.Name x py] (.ListComp elt [⟨target,iter,ifs,0⟩] scope pos) vh) (FE (qL tn.length oV wi g tt te) (cG i)):=amJ hN ZV hx hc B hi hg ht (fun _ _ _ _=>he) Px hs hf
def qf (hN:X.N.Nodup)(hi:PI X (.Name y yp) iter wi)(he:∀{C s H fp},PE (rP X (tn++fr) scope (ba X.env fr) C s H fp) elt te)
  (ZV:X.N[i]?=some x:=by rfl) (hx:Loc X.env.scope x:=by first|exact .inl rfl|exact .inr rfl) (hc:X.calm=true:=by rfl) (B:xX X scope fr oV:=by exact KW) (Px:Sg (.ListComp elt [⟨.Name y yp,iter,[],0⟩] scope pos) (some (.Name x py)) vh.line X.env=pure true:=by rfl)
  (hs:∀x,VO iter X.env x=pure x:=by intro _;rfl) (hf:X.fn x=true\/X.env.scope.names.lookup x=some .local:=by first|exact .inl rfl|exact .inr rfl|assumption) (hN2:(tn++fr).Nodup:=by decide+kernel) (h0:(tn++fr)[0]?=some y:=by rfl) (MG:∀C s H fp,Loc (rP X (tn++fr) scope (ba X.env fr) C s H fp).env.scope y:=by exact fun _ _ _ _=>.inl rfl) (hl:∀C s H fp,(rP X (tn++fr) scope (ba X.env fr) C s H fp).fn y=true\/(rP X (tn++fr) scope (ba X.env fr) C s H fp).env.scope.names.lookup y=some .local:=by intro _ _ _ _;first|exact .inl rfl|exact .inr rfl):
  PS X (.Assign [.Name x py] (.ListComp elt [⟨.Name y yp,iter,[],0⟩] scope pos) vh) (FE (qL tn.length oV wi (cG 0) mQ te) (cG i)):=amJ hN ZV hx hc B hi (aez hN2 h0 MG hl) (fun _ _ _ _=>tf) (fun _ _ _ _=>he) Px hs hf
def aU {E:XK}(F:Fn X.prog X.w X.K X.mg X.gw (aS P w) k x ps sp)(hr:cz l X.A)(ha:PA X (e::es) t)(hk:k<=l:=by decide)(hx:Passes (aS P w) X E:=by exact kF aS.AY)(hg:Gl X x:=by rfl)(rg:(x==("__debug__":Str))=false:=by decide)
  (he:DI (e::es) X.env=(false,DC e X.env)::DI es X.env:=by rfl) (nE:(MZ pos (DI es X.env)).any (·.1)=false:=by rfl):PE X (.Call (.Name x p) (e::es) [] pos) (JK sp [] E t):=cR F (hr.mono hk) hx ha hg rg he nE
def RW {E:XK}(F:Fn X.prog X.w X.K X.mg X.gw (aS P w) k x ps sp)(hr:cz l X.A)(ha:PA X (e::es) t)(hk:k<=l:=by decide)(hx:Passes (aS P w) X E:=by exact adN aS.AY rfl)(hg:Gl X x:=by rfl)(rg:(x==("__debug__":Str))=false:=by decide)
  (he:DI (e::es) X.env=(false,DC e X.env)::DI es X.env:=by rfl) (nE:(MZ pos (DI es X.env)).any (·.1)=false:=by rfl):PE X (.Call (.Name x p) (e::es) [] pos) (JK sp [] E t):=cR F (hr.mono hk) hx ha hg rg he nE
end
end Ty
namespace T_k62
open PySem PySem.Spec PyProof.Rows L2 Ty
open Builtin.Int (intBits)
abbrev ac (P:FL)(w:World)(K:Frag)(mg:ι)(gw:Heap):=Fn P w K mg gw (aS P w)
abbrev ad (P:FL)(w:World)(K:Frag)(mg:ι)(gw:Heap):=cK P w K mg gw (aS P w)
abbrev am (P:FL)(w:World)(K:Frag)(mg:ι)(gw:Heap):=bQ P w K mg gw (aS P w)
abbrev ap (a:AO):Option V:=some (.ref a)
theorem sq2 {a b c:TS}{D Z H}(s:let y:=c;let z:=FO b y;FO a z D Z H):FO a (FO b c) D Z H:=s
theorem sq3 {a b c d:TS}{D Z H}(s:let x:=d;let y:=FO c x;let z:=FO b y;FO a z D Z H):FO a (FO b (FO c d)) D Z H:=s
theorem sq4 {a b c d e:TS}{D Z H}(s:let w:=e;let x:=FO d w;let y:=FO c x;let z:=FO b y;FO a z D Z H):FO a (FO b (FO c (FO d e))) D Z H:=s
theorem sq6 {a b c d e f g:TS}{D Z H}(s:let u:=g;let v:=FO f u;let w:=FO e v;let x:=FO d w;let y:=FO c x;let z:=FO b y;FO a z D Z H):FO a (FO b (FO c (FO d (FO e (FO f g))))) D Z H:=s
theorem sq10 {a b c d e f g h i j k:TS}{D Z H}(s:let B:=k;let A:=FO j B;let r:=FO i A;let t:=FO h r;let u:=FO g t;let v:=FO f u;let w:=FO e v;let x:=FO d w;let y:=FO c x;let z:=FO b y;FO a z D Z H):FO a (FO b (FO c (FO d (FO e (FO f (FO g (FO h (FO i (FO j k))))))))) D Z H:=s
local macro_rules|`(tactic|sleep 2)=>`(tactic|(try dsimp only [md,j6,Cx.wd,Cx.q_];refine sq2 ?_;intros))|`(tactic|sleep 3)=>`(tactic|(try dsimp only [md,j6,Cx.wd,Cx.q_];refine sq3 ?_;intros))|`(tactic|sleep 4)=>`(tactic|(try dsimp only [md,j6,Cx.wd,Cx.q_];refine sq4 ?_;intros))|`(tactic|sleep 6)=>`(tactic|(try dsimp only [md,j6,Cx.wd,Cx.q_];refine sq6 ?_;intros))|`(tactic|sleep 10)=>`(tactic|(try dsimp only [md,j6,Cx.wd,Cx.q_];refine sq10 ?_;intros))
abbrev ce:=Nat->L2.St->Hp->Prop
def z0L:0<=BZ:=cr
def uX:1<=BZ:=cr
def qZ:2<=BZ:=cr
def z3L:3<=BZ:=cr
def z4L:4<=BZ:=cr
def z5L:5<=BZ:=cr
def z6L:6<=BZ:=cr
def z10L:10<=BZ:=cr
seal L2.PE L2.PS L2.uS L2.PA
abbrev FY:List Str:=["one","other"]
abbrev Q6:List Str:=["_law_cell","_law_prime","_law_many"]
abbrev V_:List Str:=["_law_pins_here","_law_bars_here","_law_pulls_here","_law_pushes_here"]
abbrev SH:List Str:=["_law_one","_law_other"]
abbrev Np:List Str:=["self","pin"]
abbrev MA:List Str:=["self"]
abbrev V1:List Str:=["_law_script","_law_k"]
abbrev vf:List Str:=["_law_found","_law_k","_law_axis","_law_draw"]
abbrev VH:List Str:=["_law_top","_law_bottom"]
abbrev VZ:List Str:=["self","name","one","other"]
abbrev BY:List Str:=["_law_told","_law_strange_here","_law_thing","_law_cell"]
abbrev BX:List Str:=["_law_frame_here","_law_grips_here","_law_pulls_here"]
abbrev Qx:List Str:=["self","bar"]
abbrev S_:List Str:=["F","one","other"]
abbrev ve:List Str:=["_law_pins_here","_law_bar","_law_axis"]
abbrev BR:List Str:=["_law_script","_law_bars_here","_law_grips_here"]
abbrev BP:List Str:=["_law_frame_here","_law_grips_here","_law_load"]
abbrev BN:List Str:=["_law_bars_here","_law_grips_here","_law_names"]
abbrev BM:List Str:=["_law_script","_law_bars_here","_law_start"]
abbrev BL:List Str:=["_law_script","_law_pins_here","_law_start"]
abbrev zau:List Str:=["F","grips","load","loaded","firm","many","rows","ways","told","moves","pulls","pushes"]
abbrev vd:List Str:=["_law_grips_here","_law_due_here"]
abbrev BK:List Str:=["_law_cell","_law_known","_law_others"]
abbrev VE:List Str:=["top","bottom"]
abbrev BI:List Str:=["_law_pins_here","_law_bars_here"]
abbrev VY:List Str:=["lines","many"]
abbrev JH:List Str:=["_law_script","_law_pins_here"]
abbrev JG:List Str:=["_law_script","_law_bars_here"]
abbrev DL:List Str:=["self","name","x","y","hold"]
abbrev Vc:List Str:=["F","numbers"]
abbrev vw:List Str:=["_law_cell","_law_k"]
abbrev DJ:List Str:=["_law_script","_law_most"]
abbrev DG:List Str:=["_law_cell","_law_kind"]
abbrev zaH:List Str:=["F","grips","pulls","firm","twice","bar","pull"]
abbrev DF:List Str:=["line","lead","column"]
abbrev Vb:List Str:=["_law_one"]
abbrev C_:List Str:=["F","firm","bar_rows"]
abbrev zaL:List Str:=["_law_cell","_law_k","_law_style","_law_at"]
abbrev CZ:List Str:=["rows","due","many"]
abbrev CU:List Str:=["F","grips","pulls"]
abbrev vt:List Str:=["self","x","y"]
abbrev CP:List Str:=["F","grips","load"]
abbrev σ4:List Str:=["F","draws"]
abbrev vo:List Str:=["rows","many"]
abbrev CM:List Str:=["lines","column"]
abbrev vn:List Str:=["_law_error"]
abbrev CD:List Str:=["firm","longer"]
abbrev zaV:List Str:=["F","grips","firm","bar","grip"]
abbrev vk:List Str:=["F","grips"]
abbrev zaX:List Str:=["whole","other","times","less"]
abbrev CC:List Str:=["F","motion"]
abbrev vg:List Str:=["numbers"]
abbrev JI:List Str:=["_law_cell"]
abbrev za1:List Str:=["share","whole"]
def sq {N P:θ}{sc:Scope}(a:sc.kind=.function:=by exact rfl)(b:sc.isCoroutine=false:=by exact rfl)(c:sc.isGenerator=false:=by exact rfl)(d:N.Nodup:=by decide+kernel)(e:N.take P.length=P:=by exact rfl)(f:∀x∈P,sc.names.lookup x=some .local\/sc.names.lookup x=some .cell:=by decide+kernel)(g:∀y∈sc.names,y.2≠.free:=by decide+kernel):av N P sc:=⟨a,b,c,d,e,f,g⟩
def pY (P:FL)(w:World){X:Cx}:Passes (aS P w) X.wd E0:=kF aS.AY
def pins {X:Cx}:Passes (aS P w) X.wd E0:=kF aS.AY
def _root_.L2.cz.mo (r:L2.cz k A)(h:j<=k:=by decide):L2.cz j A:=r.mono h
def aG (h:PE X a ta):PE X (.Subscript a (.Constant (.int i) j p1) p2) (X2 (Vr X.K) ta (tC (.int i))):=Qz sr h af (fun _ _=>rfl)
def iM (h:PE X a ta):PE X (.Subscript a (.Constant (.int i) j p1) p2) (X2 (Vq X.K) ta (tC (.int i))):=Qz aQ h af (fun _ _=>rfl)
def bl1{P:List Value->Prop}(h:∀a:Value,P [a]):∀us:List Value,us.length=1->P us|[_],_=>h _
def blS{P:List Value->Prop}{n:Nat}(h:∀a us,us.length=n->P (a::us)):∀us:List Value,us.length=n+1->P us|a::us,e=>h a us (Nat.succ.inj e)
def bl2{P:List Value->Prop}(h:∀a b:Value,P [a,b]):∀us:List Value,us.length=2->P us:=blS fun a=>bl1 (h a)
def bl3{P:List Value->Prop}(h:∀a b c:Value,P [a,b,c]):∀us:List Value,us.length=3->P us:=blS fun a=>bl2 (h a)
def bl4{P:List Value->Prop}(h:∀a b c d:Value,P [a,b,c,d]):∀us:List Value,us.length=4->P us:=blS fun a=>bl3 (h a)
def bl5{P:List Value->Prop}(h:∀a b c d e:Value,P [a,b,c,d,e]):∀us:List Value,us.length=5->P us:=blS fun a=>bl4 (h a)
def bl6{P:List Value->Prop}(h:∀a b c d e f:Value,P [a,b,c,d,e,f]):∀us:List Value,us.length=6->P us:=blS fun a=>bl5 (h a)
def bl7{P:List Value->Prop}(h:∀a b c d e f g:Value,P [a,b,c,d,e,f,g]):∀us:List Value,us.length=7->P us:=blS fun a=>bl6 (h a)
def _root_.L2.qH.EW {K:Frag}{st:Stmt}(F:L2.qH K x qual st f fd)
 (h:∀(kV doc pm:Value)(an:Δ)(bE ct:Value)(us:ν),us.length=ps.length->bindArgs (fnOf x qual (au st) (ar st) (ae st) .none kV doc pm an bE ct) ⟨us,[]⟩=pure (ps.zip us):=by intro _ _ _ _ _ _;first|exact bl1 fun _=>rfl|exact bl2 fun _ _=>rfl|exact bl3 fun _ _ _=>rfl|exact bl4 fun _ _ _ _=>rfl|exact bl5 fun _ _ _ _ _=>rfl):Binds K fd ps []:=F.binds h
inductive oX (K:Frag)(x:Str)(st:Stmt):Prop|mk{f:AO}{oc:Value}{od an:Δ}{pM:Ν}{kV doc pm bE ct:Value}(a:nsIn K FZ x=some (some (.ref f)))(l:K.lookup f=some ⟨oc,od,.func (fnOf x x (au st) (ar st) (ae st) .none kV doc pm an bE ct),pM⟩)(c:codeIn K bE x=true)(k:keepIn K (.ref f)=true):oX K x st
inductive uW (K:Frag)(C:AO)(x q:Str)(st:Stmt):Prop|mk{f:AO}{oc:Value}{od an:Δ}{pM:Ν}{kV doc pm bE ct:Value}(a:H_ K (.ref C) x=some (some (.ref f)))(i:ZW K (.ref f)=true)(l:K.lookup f=some ⟨oc,od,.func (fnOf x q (au st) (ar st) (ae st) .none kV doc pm an bE ct),pM⟩)(c:codeIn K bE q=true)(k:keepIn K (.ref f)=true):uW K C x q st
def fJ {K:Frag}{mg:ι}{st:Stmt}(X:K.In h)(G:h.Ns FZ mg)(H:oX K x st)
 (b:∀(kV doc pm:Value)(an:Δ)(bE ct:Value)(us:ν),us.length=ps.length->bindArgs (fnOf x x (au st) (ar st) (ae st) .none kV doc pm an bE ct) ⟨us,[]⟩=pure (ps.zip us):=by intro _ _ _ _ _ _;first|exact bl1 fun _=>rfl|exact bl2 fun _ _=>rfl|exact bl3 fun _ _ _=>rfl|exact bl4 fun _ _ _ _=>rfl|exact bl5 fun _ _ _ _ _=>rfl|exact bl6 fun _ _ _ _ _ _=>rfl|exact bl7 fun _ _ _ _ _ _ _=>rfl):Def K mg x st ps:=have ⟨a,l,c,k⟩:=H;Def.of (df l c k) ((df l c k).binds b) (mg_of X G a)
def top (i:Nat):Stmt:=PySem.Challenge.pw_trussyard_k62_grips_refused.main.body.getD i (.Pass ⟨0,0,0,0⟩)
abbrev iy:Stmt:=top 16
abbrev GO:Stmt:=top 17
abbrev dk:Stmt:=top 18
abbrev cU:Stmt:=top 19
abbrev CL:Stmt:=top 20
abbrev Ny:Stmt:=top 21
abbrev c6:Stmt:=top 24
abbrev Nz:Stmt:=top 25
abbrev GP:Stmt:=top 26
abbrev cL:Stmt:=top 27
abbrev NA:Stmt:=top 29
abbrev GQ:Stmt:=top 30
abbrev dm:Stmt:=top 31
abbrev NC:Stmt:=top 32
abbrev NF:Stmt:=top 33
abbrev NG:Stmt:=top 34
abbrev NH:Stmt:=top 35
abbrev NI:Stmt:=top 36
abbrev NJ:Stmt:=top 38
abbrev NK:Stmt:=top 39
abbrev NL:Stmt:=top 40
abbrev NM:Stmt:=top 41
abbrev NO:Stmt:=top 42
abbrev NP:Stmt:=top 43
abbrev NQ:Stmt:=top 44
abbrev NR:Stmt:=top 45
abbrev fZ:Stmt:=top 47
abbrev dP:Stmt:=top 48
abbrev dQ:Stmt:=top 49
abbrev h_:Stmt:=top 50
abbrev fg:Stmt:=top 51
abbrev dY:Stmt:=top 52
abbrev NS:Stmt:=top 62
abbrev NT:Stmt:=top 63
abbrev NU:Stmt:=top 64
abbrev NV:Stmt:=top 65
abbrev NW:Stmt:=top 66
abbrev NX:Stmt:=top 67
abbrev GU:Stmt:=top 69
abbrev NY:Stmt:=top 70
abbrev NZ:Stmt:=top 71
abbrev N0:Stmt:=top 72
abbrev N3:Stmt:=top 73
abbrev N4:Stmt:=top 74
abbrev N5:Stmt:=top 75
abbrev N6:Stmt:=top 76
abbrev N7:Stmt:=top 77
abbrev fh:Stmt:=top 78
abbrev fj:Stmt:=top 79
abbrev dZ:Stmt:=top 80
abbrev dF:Stmt:=top 81
abbrev N8:Stmt:=top 82
abbrev d3:Stmt:=top 83
abbrev d5:Stmt:=top 84
abbrev ia:Stmt:=top 85
abbrev f9:Stmt:=top 86
abbrev f_:Stmt:=top 87
abbrev d6:Stmt:=top 88
abbrev f':Stmt:=top 89
abbrev oq:Stmt:=top 90
abbrev N9:Stmt:=inClass (top 7) 0
abbrev N_:Stmt:=inClass (top 9) 0
abbrev dG:Stmt:=inClass (top 12) 0
abbrev N':Stmt:=inClass (top 56) 0
abbrev rq:Stmt:=inClass (top 56) 1
abbrev Oa:Stmt:=inClass (top 56) 2
abbrev Ob:Stmt:=inClass (top 56) 3
abbrev Oc:Stmt:=inClass (top 56) 4
abbrev Od:Stmt:=inClass (top 56) 7
abbrev Oe:Stmt:=inClass (top 56) 8
abbrev Of:Stmt:=inClass (top 56) 9
abbrev Og:Stmt:=inClass (top 56) 10
abbrev Oh:Stmt:=inClass (top 56) 11
abbrev V8:Stmt:=inClass (top 58) 0
abbrev Oi:Stmt:=inClass (top 59) 0
abbrev Oj:Stmt:=inClass (top 59) 1
abbrev Ol:Stmt:=inClass (top 60) 0
section
variable {P:FL}{w:World}{K:Frag}{mg:ι}{gw:Heap}{CX:nC}
def Nm (H:Hp)(v:V)(q:Int×Int):Prop:=∃p,v=.ref p/\H p=some (.tup [.int q.1,.int q.2])
structure mi (k:Nat)(q:Int×Int):Prop where
 pos:0<q.2
 top:intBits q.1<=k
 bot:intBits q.2<=k
def aC (h:H p=none)(o:HO):aq H (upd H p o):=fun b u q=>by rwa [ah (ak q h)]
def nw (n:H l=none)(e:upd H l o=H'):aq H H'/\H' l=some o:=by subst e;show ⟨aC n o,ag⟩
local macro_rules|`(tactic|intros $l:ident $n:ident $h:ident $s:ident $e:ident)=>`(tactic|(intro $l:ident $n:ident;generalize eX:upd _ $l _=$h;have ⟨$s,$e⟩:=nw $n eX))
def tZ (hb:b≠0)(h1:intBits t<=k)(h2:intBits b<=k):mi k (low t b):=
 ⟨lO hb,QC (mN hb) h1,QC (mO hb) h2⟩
def gives (H:Hp)(Q:VK)(q:Int×Int):Prop:=∀(p:AO)(H':Hp),aq H H' ->H' p=some (.tup [.int q.1,.int q.2])->Q (.ref p) H'
inductive js (vs:ζ)(H:Hp)(Q:VK)(E_:XK):Prop
|mk (a b:Int)(_:vs=[.int a,.int b])(_:Q (.int (gz a b)) H)
def addQ (x y:Int×Int):Int×Int:=low (x.1*y.2+y.1*x.2) (x.2*y.2)
def subQ (x y:Int×Int):Int×Int:=low (x.1*y.2-y.1*x.2) (x.2*y.2)
def mulQ (x y:Int×Int):Int×Int:=low (x.1*y.1) (x.2*y.2)
def ou (hx:mi k x)(hy:mi l y):x.2*y.2≠0:=Nd (V7 hx.pos hy.pos)
def ib {a b:V}:jc [a,b] 0=some a:=rfl
def iD {a b:V}:jc [a,b] 1=some b:=rfl
def Nm.kept (h:Nm H v q)(hD:H D=some (.lst ys))(k:cx D H H'):Nm H' v q:=by
 obtain ⟨p,e,z⟩:=h;show ⟨p,e,k p _ (fun e=>by erw [e,hD] at z) z⟩
inductive Ln (H:Hp)(v:V)(l:ξ):Prop
|mk (p:_)(_:v=.ref p)(_:H p=some (.lst (l.map V.int)))
def Ln.gV (h:Ln H v l)(s:aq H H'):Ln H' v l:=by
 obtain ⟨p,e,k⟩:=h;show ⟨p,e,s _ _ k⟩
def vb (H:Hp)(us:ζ)(ls:η):Prop:=us.length=ls.length/\∀(i:Nat)(u:V)(l:ξ),us[i]?=some u->ls[i]?=some l->Ln H u l
theorem vb.gV (h:vb H us ls)(s:aq H H'):vb H' us ls:=⟨h.1,fun i u l e1 e2=>(h.2 i u l e1 e2).gV s⟩
def wZ {l:ξ}(h:j<l.length):jc (l.map V.int) (j:Int)=some (.int (l.getD j 0)):=bF (by rw [BJ,gE h,Oq,gE h];rfl)
def getD_mem {l:ξ}(e:l[j]?=some x):l.getD j 0=x:=by rw [Oq,e];rfl
def Bd (b:Nat)(l:ξ):Prop:=∀j,(l.getD j 0).natAbs<=2^b
def Bd.mem (h:Bd b l)(hx:x∈l):x.natAbs<=2^b:=by
 obtain ⟨i,hi⟩:=MF hx;rw [<-getD_mem hi];exact h i
def Bd.up (h:Bd b l)(hc:b<=c):Bd c l:=fun j=>tD (h j) hc
def KY:av ["one","other","left"] FY (ae Ny):=sq
def aeB (D:Def K mg "greatest_shared" Ny FY)(w4:mg "abs"=none):Fn P w K mg gw CX 1 "greatest_shared" FY js:=by
 refine D.oo KY fun H hr h=>?_;obtain ⟨a,b,rfl,q⟩:=h
 show ⟨_,(aa (si HM (bg AG (pv 1) af) (aa (aA 2 KY.nd (aw dS (pv 0) (pv 1))) (aa (aA 0 KY.nd (pv 1)) (aj (aA 1 KY.nd (pv 2)))))) (aj (aD (aR afT rfl w4 Yb (aV (pv 0)))))),?_⟩
 refine agu (fun Z H'=>KU fun (x y:Int) (l:ω)=>Z=[some (.int x),some (.int y),l]/\H'=H/\MO x y=MO a b) (fun Z _=>match Z with|[_,some (.int y),_]=>y.natAbs|_=>0) ⟨a,b,none,rfl,rfl,rfl⟩ ?_ ?_
 ·rintro Z H' ⟨x,y,l,rfl,rfl,g⟩
  show ⟨_,rfl,rfl,_,rfl,?_⟩;refine bD (fun c=>?_) (fun c=>?_)
  ·let hy:y≠0:=by
    intro z;subst z;simp at c
   show ⟨_,rfl,_,rfl,_,_,rfl,rfl,hy,_,rfl,_,rfl,⟨_,_,_,rfl,rfl,by rwa [ad']⟩,wC hy⟩
  ·let hy:y=0:=by
    have:=AH.mpr c;simp at this;exact this
   subst hy;show ⟨_,rfl,x,rfl,?_⟩
   let e:(if x<0 then -x else x)=gz a b:=by
    rw [alk] at g;unfold gz;rw [<-g];split<;>omega
   rwa [e]
 ·rintro Z H' Q1 Q2 h ⟨v,e1,e2,k,ek,z⟩
  show ⟨v,e1,e2,k,ek,h _ _ z⟩
inductive ft (vs:ζ)(H:Hp)(Q:VK)(E_:XK):Prop
|mk (t b:Int)(_:vs=[.int t,.int b])(_:b≠0)(_:gives H Q (low t b))
def RX:av ["top","bottom","shared"] VE (ae CL):=sq
def aeC (ht:P.given.tree=none)(D:Def K mg "lowest_terms" CL VE)(GV:ac P w K mg gw 1 "greatest_shared" FY js):ac P w K mg gw 33 "lowest_terms" VE ft:=by
 refine D.op RX fun f bE A outer s H vs Q E hr h=>?_;obtain ⟨t,b,rfl,hb,q⟩:=h
 let aeD:∃tt,uS (j6 (aS P w) P w K mg gw ["top","bottom","shared"] "lowest_terms" (ae CL) f bE A outer s H E).wd ((ar CL).drop 2) tt/\∀g:Int,g=sg t b->tt {nx:=fun _ H'=>Q .cO H',rt:=Q} [some (.int t),some (.int b),some (.int g)] H:=by
  show ⟨_,(aj (aD (aJ (aF (aw (iu ht (Ty.cz.py hr cr) rfl rfl rfl rfl rfl) (pv 0) (pv 2)) (aw (iu ht (Ty.cz.py hr cr) rfl rfl rfl rfl rfl) (pv 1) (pv 2)))))),?_⟩;rintro g rfl;let c:=sN (t:=t) hb;show ⟨_,rfl,_,rfl,_,_,rfl,rfl,c,_,rfl,_,rfl,_,_,rfl,rfl,c,qZ,fun p hp=>?_⟩;exact q p _ (aC hp _) ag
 obtain ⟨t2,p2,q2⟩:=aeD;show ⟨_,(aa (aA 2 RX.nd (aU GV hr (aF (pv 0) (pv 1)))) (aa (bh (bg sk (pv 1) af) (aj (aA 2 RX.nd (Qp FH (pv 2)))) aI) p2)),_,rfl,_,rfl,t,b,rfl,_,rfl,_,_,rfl,rfl,_,rfl,?_⟩;refine bD (fun c=>?_) (fun c=>?_)
 ·show ⟨_,rfl,_,rfl,q2 _ ?_⟩
  let c':b<0:=Nl c;unfold sg;rw [mG c']
 ·refine q2 _ ?_
  let c':¬ b<0:=of_decide_eq_false (AH.mpr c);unfold sg;rw [lH c']
inductive aaj (K:Frag)(vs:ζ)(H:Hp)(Q:VK)(E_:XK):Prop
|mk (a:AO)(qs:χ)(T B:Nat)(_:vs=[.ref a])(_:amv K H a qs)(_:(∀q∈qs,Sm T B q))(_:T<=20000)(_:B*qs.length<=100000)(_:B<=8000)(_:qs.length<=1000)(_:∀(p l:AO)(ts:ξ)(b:Int)(H':Hp),aq H H' ->H l=none->H' p=some (.tup [.ref l,.int b])->H' l=some (.lst (ts.map V.int))->0<b->b.natAbs<=2^(B*qs.length)->Yr ts qs b->(∀t∈ts,t.natAbs<=2^(T+B*qs.length))->Q (.ref p) H')
def KZ:av ["row","bottom","number"] ["row"] (ae NL):=sq
def aeE (D:Def K mg "whole_row" NL ["row"])(GV:ac P w K mg gw 1 "greatest_shared" FY js):ac P w K mg gw 2 "whole_row" ["row"] (aaj K):=by
 refine D.oo KZ fun H hr h=>?_;obtain ⟨a,qs,T,B,rfl,⟨us,hS,hN⟩,sm,hT,hB,hB1,hl,q⟩:=h
 show ⟨_,(aa (aA 1 KZ.nd af) (aa (a_ HM rfl (a9 (pv 0)) (b6 2 KZ.nd) (aj (aA 1 KZ.nd (aw b9 (aw nK (pv 1) (aU GV hr (aF (pv 1) (aG (pv 2))))) (aG (pv 2)))))) (aj (aD (aJ (aF (g6 (tn:=["number"]) (fr:=["bottom"]) (oV:=[1]) (a9 (pv 0)) (aw b9 (bL (fF (K:=K) rfl) (pv 0) af) (aw nK (pv 1) (bL (fF (K:=K) rfl) (pv 0) af)))) (pv 1))))))),?_⟩;sleep 2
 let hlu:=hN.1
 let qat:∀{i:Nat} {u:V},us[i]?=some u->∃q,qs[i]?=some q/\jy K H u q/\Sm T B q:=fun {i u} e=>by
  let hi:i<us.length:=(Wp.mp e).1;let e2:qs[i]?=some (qs[i]'ci):=gE ci;show ⟨_,e2,hN.2 i u _ e e2,sm _ (Rk _)⟩
 show ⟨_,rfl,a,rfl,⟨_,hS⟩,let I:ce:=fun i Z H'=>CK fun (b:Int) (o:ω)=>Z=[ap a,some (.int b),o]/\H'=H/\0<b/\b.natAbs<=2^(B*i)/\∀j,j<i->∀q,qs[j]?=some q->q.2 ∣ b;bM (K:=K) (a:=a) (xs:=us) I ⟨1,none,rfl,rfl,cr,by simp,fun j h=>CH h (Vx _)⟩ (fun i Z H' _ ⟨b,o,_,e,_⟩=>by rwa [e]) ?_ ?_⟩
 ·rintro i u Z H' hu ⟨b,o,rfl,rfl,hb,hs,hd⟩
  obtain ⟨n,en,⟨p,rfl,hp⟩,sn⟩:=qat hu;let hi:i<qs.length:=(Wp.mp en).1;let nb:n.2.natAbs<=2^B:=sn.bot;obtain ⟨l1,l2,l3,l4⟩:=ahh hb sn.pos;let gp:=xH (t:=b) (b:=n.2) (by have:=sn.pos;omega);let gl:=adq (t:=b) (b:=n.2) (by have:=sn.pos;omega)
  let sz:(b.fdiv (gz b n.2)*n.2).natAbs<=2^(B*(i+1)):=by
   refine CT l4 ?_;rw [Nat.mul_succ,σ6];exact SV hs nb
  let bi:B*i<=100000:=CT (Nat.mul_le_mul_left B ci) hB;let g1:gz b n.2 ∣ b:=tN ..;show ⟨_,rfl,_,rfl,_,rfl,p,_,_,_,rfl,rfl,hp,iD,b,n.2,rfl,_,_,rfl,rfl,⟨ci,CT (lV (CT gl nb) (SY B)) ci⟩,_,rfl,p,_,_,_,rfl,rfl,hp,iD,_,_,rfl,rfl,rT (CT (jg ci g1) hs) nb ci ci,_,_,rfl,rfl,l1,sz,fun j hj q' e'=>?_⟩
  rcases vE.mp hj with z|z
  ·exact Int.dvd_trans (hd j z q' e') l2
  ·subst z
   erw [en] at e';exact l3
 ·rintro Z H' ⟨b,o,rfl,rfl,hb,hs,hd⟩
  rw [hlu] at hs hd;show ⟨_,rfl,a,rfl,⟨_,hS⟩,fun D nD=>?_⟩;refine dE (oY:=[some (.int b)]) (K:=K) (a:=a) (xs:=us) (fun i v _=>∃q,qs[i]?=some q/\v=.int (q.1*b.fdiv q.2)) nD (by rw [hlu];exact GG hl cr) (fun H2 s2=>s2.seq hS) (fun _ _ _ _ _ _ _ h=>h) ?_ ?_
  ·intro i u H2 R hu s2 k
   obtain ⟨n,en,⟨p,rfl,hp⟩,sn⟩:=qat hu;let hp2:=Ty.aq.dI s2 hp;let dv:=hd i (Wp.mp en).1 n en;let n0:n.2≠0:=by have:=sn.pos;omega
   show ⟨_,rfl,p,_,_,_,rfl,rfl,hp2,ib,_,rfl,_,rfl,p,_,_,_,rfl,rfl,hp2,iD,_,_,rfl,rfl,⟨n0,CT (lV sn.bot (SY B)) ci⟩,_,_,rfl,rfl,rT sn.top (CT (jg n0 dv) hs) ci ci,k _ _ (aq.refl _) ⟨n,en,rfl⟩⟩
  ·intro ys H2 hy kK s2 hD
   let ey:ys=(qs.map fun n=>n.1*b.fdiv n.2).map V.int:=by
    refine V0 fun i=>?_;by_cases hi:i<ys.length
    ·let e1:ys[i]?=some ys[i]:=gE hi
     obtain ⟨n,en,ev⟩:=kK i _ e1;rw [e1,ev,BJ,BJ,en];rfl
    ·rw [HX ci,HX (by simp;omega)]
   show ⟨_,rfl,qZ,fun p np=>?_⟩;let s3:=aC np (.tup [.ref D,.int b]);refine q p D (qs.map fun n=>n.1*b.fdiv n.2) b _ (s2.trans s3) nD ag (s3 _ _ (by rw [hD,ey])) hb hs ⟨by simp,fun i t n e1 e2=>?_⟩ (fun t ht=>?_)
   ·rw [BJ,e2] at e1
    have MR :n.1*b.fdiv n.2=t:=MY e1;rw [<-MR];exact acg (sm n (DA e2)).pos (hd i (Wp.mp e2).1 n e2)
   ·obtain ⟨n,hn,rfl⟩:=CI.mp ht
    obtain ⟨i,hi⟩:=MF hn;let n0:n.2≠0:=by have:=(sm n hn).pos;omega
    exact x4 (sm n hn).top (CT (jg n0 (hd i (Wp.mp hi).1 n hi)) hs)
structure Dv (l l':ξ):Prop where
 len:l'.length=l.length
 fac:∃g:Int,g≠0/\∀j,g*l'.getD j 0=l.getD j 0
def PrZ (l:ξ):Prop:=Prm l\/∀j,l.getD j 0=0
def zaS {l:ξ}(h:∀j,d ∣ l.getD j 0){i:Nat}(e:l[i]?=some x):d ∣ x:=by
 rw [<-getD_mem e];exact h i
inductive qg (vs:ζ)(H:Hp)(Q:VK)(E_:XK):Prop
|mk (v:V)(l:ξ)(_:vs=[v])(_:Ln H v l)(_:l.length<=1000)(_:∀v' l' H',aq H H' ->Ln H' v' l' ->Dv l l' ->PrZ l' ->(v'=v\/∃p,v'=.ref p/\H p=none)->Q v' H')
def ad2 (l:ξ):Dv l l:=⟨rfl,1,cr,fun j=>Int.one_mul _⟩
def K_:av ["line","shared","whole"] ["line"] (ae NR):=sq
def aeF (ht:P.given.tree=none)(D:Def K mg "divided" NR ["line"])(GV:ac P w K mg gw 1 "greatest_shared" FY js):ac P w K mg gw 33 "divided" ["line"] qg:=by
 refine D.op K_ fun f bE A outer s H vs Q E hr h=>?_;obtain ⟨v,l,rfl,⟨a,rfl,ha⟩,hn,q⟩:=h;let gV:PrZ l->Q (.ref a) H:=fun pz=>q _ l H (aq.refl H) ⟨a,rfl,ha⟩ (ad2 l) pz (.inl rfl)
 show ⟨_,(aa (aA 1 K_.nd af) (aa (a_ HM rfl (a9 (pv 0)) (b6 2 K_.nd) (aa (aA 1 K_.nd (aU GV hr (aF (pv 2) (pv 1)))) (aj (bh (bg cY (pv 1) af) (aj (aD (pv 0))) aI)))) (aj (aD (ah1 (bg Qs (pv 1) af) (g6 (tn:=["whole"]) (fr:=["shared"]) (oV:=[1]) (a9 (pv 0)) (aw (iu ht (Ty.cz.py hr cr) rfl rfl rfl rfl rfl) (pv 0) (pv 1))) (pv 0)))))),?_⟩;sleep 2
 show ⟨_,rfl,a,rfl,⟨_,aK.of ha⟩,let I:ce:=fun i Z H'=>CK fun (g:Int) (o:ω)=>Z=[ap a,some (.int g),o]/\H'=H/\0<=g/\(∀j,j<i->∀x,l[j]?=some x->g ∣ x)/\(∀d:Int,(∀j,j<i->∀x,l[j]?=some x->d ∣ x)->d ∣ g)/\(0<i->g≠1);bM (K:=K) (a:=a) (xs:=l.map V.int) I ⟨0,none,rfl,rfl,cr,(fun j h=>CH h (Vx _)),(fun d _=>Int.dvd_zero d),fun h=>CH h (QX _)⟩ (fun i Z H' _ ⟨g,o,_,e,_⟩=>by rw [e];exact aK.of ha) ?_ ?_⟩
 ·rintro i u Z H' hu ⟨g,o,rfl,rfl,g0,hg,hd,_⟩
  rw [BJ] at hu;obtain ⟨x,ex,rfl⟩:=GX.mp hu;let d1:gz x g ∣ x:=tN ..;let d2:gz x g ∣ g:=tK ..;let p0:0<=gz x g:=Int.natCast_nonneg _;show ⟨_,rfl,_,rfl,x,g,rfl,_,rfl,rfl,_,rfl,?_⟩;refine bD (fun z=>⟨_,rfl,gV (.inl fun d T4 =>?_)⟩) (fun z=>?_)
  ·let z':gz x g=1:=by simpa using Nl z
   let h1:d ∣ gz x g:=amq (zaS T4 ex) (hd d fun j _ y ey=>zaS T4 ey);rw [z'] at h1;have:=Rj.mpr h1;simpa using this
  show ⟨_,_,rfl,rfl,p0,fun j hj y ey=>?_,fun d h=>?_,fun _ e=>z (by rw [e];rfl)⟩
  ·rcases vE.mp hj with z|z
   ·exact Int.dvd_trans d2 (hg j z y ey)
   ·subst z
    erw [ex] at ey;exact d1
  ·exact amq (h i (SY _) x ex) (hd d fun j hj y ey=>h j (Wy hj) y ey)
 ·rintro Z H' ⟨g,o,rfl,rfl,g0,hg,hd,hg1⟩
  rw [ir] at hg hd hg1;show ⟨_,rfl,_,_,rfl,rfl,_,rfl,bD (fun c=>?_) (fun c=>⟨_,rfl,gV (.inr fun j=>?_)⟩)⟩;rotate_left
  ·let c':¬ (1:Int)<g:=fun z=>c (Ms z)
   by_cases hj:j<l.length
   ·let gz:g=0:=by
     have:=hg1 ci;omega
    let ej:l[j]?=some l[j]:=gE hj;have:=hg j hj _ ej;rw [gz] at this;rw [getD_mem ej];exact Int.zero_dvd.mp this
   ·rw [Oq,HX ci]
    rfl
  let g1:(1:Int)<g:=Nl c;let gn:g≠0:=ci
  show ⟨_,rfl,a,rfl,⟨_,aK.of ha⟩,fun D nD=>?_⟩;refine dE (oY:=[some (.int g)]) (K:=K) (a:=a) (xs:=l.map V.int) (fun i v _=>∃x,l[i]?=some x/\v=.int (x.fdiv g)) nD (by rw [ir];exact GG hn cr) (fun H2 s2=>aK.of (s2 _ _ ha)) (fun _ _ _ _ _ _ _ h=>h) ?_ ?_
  ·intro i u H2 R hu s2 k
   rw [BJ] at hu;obtain ⟨x,ex,rfl⟩:=GX.mp hu;show ⟨_,rfl,_,rfl,_,_,rfl,rfl,gn,k _ _ (aq.refl _) ⟨x,ex,rfl⟩⟩
  ·intro ys H2 hy kK s2 hD
   rw [ir] at hy
   let ey:ys=(l.map fun x=>x.fdiv g).map V.int:=by
    refine V0 fun i=>?_;by_cases hi:i<ys.length
    ·let e1:ys[i]?=some ys[i]:=gE hi
     obtain ⟨x,ex,ev⟩:=kK i _ e1;rw [e1,ev,BJ,BJ,ex];rfl
    ·rw [HX ci,HX (by simp;omega)]
   let fac:∀j,g*(l.map fun x=>x.fdiv g).getD j 0=l.getD j 0:=fun j=>by
    by_cases hj:j<l.length
    ·let ej:l[j]?=some l[j]:=gE hj
     rw [getD_mem (l:=l.map fun x=>x.fdiv g) (x:=l[j].fdiv g) (by rw [BJ,ej];rfl),getD_mem ej];exact (cQ gn (hg j hj _ ej)).symm
    ·rw [Oq,Oq,HX (by simp;omega),HX ci]
     simp
   refine q _ (l.map fun x=>x.fdiv g) H2 s2 ⟨D,rfl,by rw [hD,ey]⟩ ⟨by simp,g,gn,fac⟩ (.inl fun d T4 =>?_) (.inr ⟨D,rfl,nD⟩)
   let h1:d*g ∣ g:=hd (d*g) fun j hj x ex=>by
    rw [<-getD_mem ex,<-fac j,VR];exact Int.mul_dvd_mul_left g (T4 j)
   obtain ⟨k,hk⟩:=h1
   let h2:g*(d*k)=g*1:=by
    rw [Int.mul_one];rw [<-xw,VR g d];exact hk.symm
   let h3:=Int.eq_of_mul_eq_mul_left gn h2;let h4:d ∣ 1:=⟨k,h3.symm⟩;simpa using Rj.mpr h4
inductive qh (vs:ζ)(H:Hp)(Q:VK)(E_:XK):Prop
|mk (u v:V)(l m:ξ)(c b1 b2:Nat)(_:vs=[u,v,.int (c:Int)])(_:Ln H u l)(_:Ln H v m)(_:m.length=l.length)(_:c<l.length)(_:l.length<=1000)(_:m.getD c 0≠0)(_:Bd b1 l)(_:Bd b2 m)(_:b1<=29000000)(_:b2<=29000000)(_:∀v' l' H',aq H H' ->Ln H' v' l' ->va l m l' c->Bd (b1+b2+1) l' ->(l'=l\/PrZ l')->(v'=u\/∃p,v'=.ref p/\H p=none)->Q v' H')
def zac (ha:a≠0):a=gz a b*a.fdiv (gz a b)/\b=gz a b*b.fdiv (gz a b)/\gz a b≠0/\a.fdiv (gz a b)≠0/\(a.fdiv (gz a b)).natAbs<=a.natAbs/\(b.fdiv (gz a b)).natAbs<=b.natAbs:=by
 let gn:gz a b≠0:=by
  intro z;let z':((MO a b:Nat):Int)=0:=z;have:MO a b=0:=ci
  exact ha (Int.gcd_eq_zero_iff.mp this).1
 let d1:gz a b ∣ a:=tN ..;let d2:gz a b ∣ b:=tK ..;let e1:=cQ gn d1;show ⟨e1,cQ gn d2,gn,fun z=>?_,jg gn d1,jg gn d2⟩;rw [z,σ8] at e1;exact ha e1
def acL {l m:ξ}{ys:ζ}(hl:m.length=l.length)(hy:ys.length=l.length)(h:∀(i:Nat)(v:V),ys[i]?=some v->∃x y,l[i]?=some x/\m[i]?=some y/\v=.int (t*x-u*y)):ys=(Ss (fun x y=>t*x-u*y) l m).map V.int:=by
 refine V0 fun i=>?_;by_cases hi:i<ys.length
 ·let e1:ys[i]?=some ys[i]:=gE hi
  obtain ⟨x,y,ex,ey,ev⟩:=h i _ e1;rw [e1,ev,BJ,AS,ex,ey];rfl
 ·rw [HX ci,HX (by simp;omega)]
def akr {l m:ξ}(hl:m.length=l.length)(j:Nat):(Ss (fun x y=>t*x-u*y) l m).getD j 0=t*l.getD j 0-u*m.getD j 0:=by
 by_cases hj:j<l.length
 ·let e1:l[j]?=some l[j]:=gE hj
  let e2:m[j]?=some (m[j]'ci):=gE ci;rw [getD_mem e1,getD_mem e2];exact getD_mem (by rw [AS,e1,e2])
 ·rw [Oq,Oq,Oq,HX (by simp;omega),HX ci,HX ci]
  simp
def K':av ["line","lead","column","shared","times","less"] DF (ae NQ):=sq
def aeG (ht:P.given.tree=none)(D:Def K mg "cleared" NQ DF)(gQ:mg "zip"=none)(GV:ac P w K mg gw 1 "greatest_shared" FY js)(amI:ac P w K mg gw 33 "divided" ["line"] qg):ac P w K mg gw 34 "cleared" DF qh:=by
 refine D.oo K' fun H hr h=>?_;obtain ⟨u,v,l,m,c,b1,b2,rfl,⟨a,rfl,ha⟩,⟨a',rfl,ha'⟩,hl,hc,hn,hm,B1,B2,hb1,hb2,q⟩:=h
 show ⟨_,(aa (bh (bg cY (bL aQ (pv 0) (pv 2)) af) (aj (aD (pv 0))) aI) (aa (aA 3 K'.nd (aU GV hr (aF (bL aQ (pv 1) (pv 2)) (bL aQ (pv 0) (pv 2))))) (aa (aA 4 K'.nd (aw (iu ht (Ty.cz.py hr cr) rfl rfl rfl rfl rfl) (bL aQ (pv 1) (pv 2)) (pv 3))) (aa (aA 5 K'.nd (aw (iu ht (Ty.cz.py hr cr) rfl rfl rfl rfl rfl) (bL aQ (pv 0) (pv 2)) (pv 3))) (aj (aD (aU amI hr (aV (GL (tn:=["whole","other"]) (fr:=["times","less"]) (oV:=[4,5]) (xZ rfl gQ (aF (pv 0) (pv 1))) (fun _ _ _ _=>(x3 (K:=K) (n:=2) rfl rfl (bu (fC (i:=0) (show (zaX:List Str).Nodup from by decide+kernel) rfl (RY rfl)) (bu (fC (i:=1) (show (zaX:List Str).Nodup from by decide+kernel) rfl (RY rfl)) e_)))) (fun _ _ _ _=>tf) (aw cJ (aw b9 (pv 2) (pv 0)) (aw b9 (pv 3) (pv 1)))))))))))),?_⟩;sleep 4
 let ea:=wZ (l:=l) hc;let em:=wZ (l:=m) (j:=c) ci;show ⟨_,rfl,_,rfl,a,_,_,_,rfl,rfl,aK.of ha,ea,rfl,_,rfl,?_⟩;refine bD (fun z=>?_) (fun z=>?_)
 ·let z':l.getD c 0=0:=by simpa using Nl z
  show ⟨_,rfl,q _ l H (aq.refl H) ⟨a,rfl,ha⟩ ⟨rfl,z',1,1,0,cr,cr,fun j=>ci⟩ (B1.up ci) (.inl rfl) (.inl rfl)⟩
 ·obtain ⟨f1,f2,f3,f4,f5,f6⟩:=zac (a:=m.getD c 0) (b:=l.getD c 0) hm
  show ⟨_,rfl,_,rfl,a',_,_,_,rfl,rfl,aK.of ha',em,_,rfl,_,rfl,a,_,_,_,rfl,rfl,aK.of ha,ea,_,_,rfl,_,rfl,_,rfl,a',_,_,_,rfl,rfl,aK.of ha',em,_,rfl,_,_,rfl,rfl,f3,_,rfl,_,rfl,a,_,_,_,rfl,rfl,aK.of ha,ea,_,rfl,_,_,rfl,rfl,f3,_,rfl,_,rfl,a,a',rfl,⟨_,aK.of ha⟩,⟨_,aK.of ha'⟩,fun D1 n1=>?_⟩;let st:((m.getD c 0).fdiv (gz (m.getD c 0) (l.getD c 0))).natAbs<=2^b2:=CT f5 (B2 c);let su:((l.getD c 0).fdiv (gz (m.getD c 0) (l.getD c 0))).natAbs<=2^b1:=CT f6 (B1 c);refine zv3 (oY:=[some (.int ((m.getD c 0).fdiv (gz (m.getD c 0) (l.getD c 0)))),some (.int ((l.getD c 0).fdiv (gz (m.getD c 0) (l.getD c 0))))]) (K:=K) (xs:=l.map V.int) (ys:=m.map V.int) (fun i v _=>∃x y,l[i]?=some x/\m[i]?=some y/\v=.int ((m.getD c 0).fdiv (gz (m.getD c 0) (l.getD c 0))*x-(l.getD c 0).fdiv (gz (m.getD c 0) (l.getD c 0))*y)) n1 (by rw [ir];exact GG hn cr) (by simpa using hl) (fun H2 s2=>aK.of (s2 _ _ ha)) (fun H2 s2=>aK.of (s2 _ _ ha')) (fun _ _ _ _ _ _ _ h=>h) ?_ ?_
  ·intro i x y H2 R ex ey s2 k
   rw [BJ] at ex ey;obtain ⟨x',u_,rfl⟩:=GX.mp ex;obtain ⟨y',PK,rfl⟩:=GX.mp ey;show ⟨_,rfl,_,rfl,_,_,rfl,rfl,rT st (B1.mem (DA u_)) ci ci,_,rfl,_,rfl,_,_,rfl,rfl,rT su (B2.mem (DA PK)) ci ci,_,_,rfl,rfl,k _ _ (aq.refl _) ⟨x',y',u_,PK,rfl⟩⟩
  ·intro ys H2 hy kK s2 hD
   rw [ir] at hy;let ey:=acL hl hy kK;show ⟨_,_,rfl,⟨D1,rfl,by rw [hD,ey]⟩,by simp;omega,fun v' l' H3 s3 L3 dv pz fr=>?_⟩;obtain ⟨g,gn,hg⟩:=dv.fac;let T8:∀j,g*l'.getD j 0=(m.getD c 0).fdiv (gz (m.getD c 0) (l.getD c 0))*l.getD j 0-(l.getD c 0).fdiv (gz (m.getD c 0) (l.getD c 0))*m.getD j 0:=fun j=>by rw [hg j,akr hl]
   refine q v' l' H3 (s2.trans s3) L3 ⟨by rw [dv.len];simp [hl],?_,g,_,_,gn,f4,T8⟩ (fun j=>?_) (.inr pz) ?_
   ·let e:=T8 c
    let z2:(m.getD c 0).fdiv (gz (m.getD c 0) (l.getD c 0))*l.getD c 0-(l.getD c 0).fdiv (gz (m.getD c 0) (l.getD c 0))*m.getD c 0=0:=by
     generalize gz (m.getD c 0) (l.getD c 0)=G at*;generalize (m.getD c 0).fdiv G=t at*;generalize (l.getD c 0).fdiv G=u at*;rw [f1,f2];grind
    rw [z2] at e
    rcases akZ.mp e with y|y
    ·exact CH y gn
    ·exact y
   ·let b:(g*l'.getD j 0).natAbs<=2^(b1+b2+1):=by
     rw [T8 j,Int.sub_eq_add_neg];refine ac5 (tD (x4 st (B1 j)) ci) ?_;rw [ak4];exact x4 su (B2 j)
    exact CT (eQ gn) b
   ·rcases fr with z|⟨p,e,n⟩
    ·exact .inr ⟨D1,z,n1⟩
    ·exact .inr ⟨p,e,s2.free n⟩
inductive yc (K:Frag)(vs:ζ)(H:Hp)(Q:VK)(E_:XK):Prop
|mk (a:AO)(us:ζ)(ls:List (List Int:_))(c:Nat)(_:vs=[.ref a,.int (c:Int)])(_:aK K H a us)(_:vb H us ls)(_:(∀l∈ls,c<l.length))(_:(∀(i:Nat)(l:ξ)(H':Hp),aq H H' ->ls[i]?=some l->l.getD c 0≠0->Q (.int (i:Int)) H'))(_:((∀l∈ls,l.getD c 0=0)->∀H',aq H H' ->Q .cO H'))
def vb.at (h:vb H us ls){i:Nat}(e:us[i]?=some u):∃l,ls[i]?=some l/\Ln H u l:=by
 let hi:i<us.length:=(Wp.mp e).1;let hl:=h.1;let e2:ls[i]?=some (ls[i]'ci):=gE ci;show ⟨_,e2,h.2 i u _ e e2⟩
def vb.at' (h:vb H us ls){i:Nat}{l:ξ}(e:ls[i]?=some l):∃u,us[i]?=some u/\Ln H u l:=by
 let hi:i<ls.length:=(Wp.mp e).1;let hl:=h.1;let e2:us[i]?=some (us[i]'ci):=gE ci;show ⟨_,e2,h.2 i _ l e2 e⟩
def RZ:av ["lines","column","at","line"] CM (ae NP):=sq
def aeH (D:Def K mg "first_not_nought" NP CM)(fu:mg "enumerate"=none):ac P w K mg gw 1 "first_not_nought" CM (yc K):=by
 refine D.oo RZ fun H hr h=>?_;obtain ⟨a,us,ls,c,rfl,hS,L,hc,q1,q2⟩:=h;let lu:=L.1
 show ⟨_,(aa (a_ HM rfl (amC rfl fu (aV (pv 0))) (iU rfl (bu (b6 2 RZ.nd) (bu (b6 3 RZ.nd) e_))) (aj (bh (bg AG (bL aQ (pv 3) (pv 1)) af) (aj (aD (pv 2))) aI))) (aj (aD kc))),?_⟩
 show ⟨_,rfl,a,rfl,⟨_,hS⟩,let I:ce:=fun i Z H'=>∃o1 o2:Option V,Z=[ap a,some (.int (c:Int)),o1,o2]/\aq H H'/\∀j,j<i->∀l,ls[j]?=some l->l.getD c 0=0;zas (K:=K) (a:=a) (xs:=us) I ⟨none,none,rfl,aq.refl H,fun j h=>CH h (Vx _)⟩ (fun i Z H' _ ⟨o1,o2,_,s1,_⟩=>s1.seq hS) ?_ ?_⟩
 ·rintro i u Z H' p hu ⟨o1,o2,rfl,s1,z⟩ np
  obtain ⟨l,el,b,rfl,hb⟩:=L.at hu;let s2:=s1.trans (aC np (.tup [.int (i:Int),.ref b]));let xR:=hc l (DA el);show ⟨p,_,rfl,bZ.of ag,rfl,_,_,rfl,_,_,rfl,rfl,_,rfl,_,rfl,b,_,_,_,rfl,rfl,aK.of (s2 _ _ hb),wZ xR,rfl,_,rfl,?_⟩;refine bD (fun y=>?_) (fun y=>?_)
  ·let y':l.getD c 0≠0:=by simpa using y
   show ⟨_,rfl,q1 i l _ s2 el y'⟩
  ·let y':l.getD c 0=0:=by simpa using y
   show ⟨_,_,rfl,s2,fun j hj l' e'=>?_⟩
   rcases vE.mp hj with w|w
   ·exact z j w l' e'
   ·subst w
    erw [el] at e';exact y'
 ·rintro Z H' ⟨o1,o2,rfl,s1,z⟩
  refine q2 (fun l hl=>?_) H' s1;obtain ⟨j,hj⟩:=MF hl;exact z j (by have:=(Wp.mp hj).1;omega) l hj
structure Red (os:η)(L c b:Nat)(nd:π)(lv:η):Prop where
 yd:∀x∈nd,x.2.length=L
 oy:∀l∈lv,l.length=L
 cols:∀x∈nd,x.1<c
 asc:(nd.map (·.1)).Pairwise (· < ·)
 here:∀x∈nd,x.2.getD x.1 0≠0
 off:∀x∈nd,∀y∈nd,x.1≠y.1->x.2.getD y.1 0=0
 low:∀x∈nd,∀j,j<x.1->x.2.getD j 0=0
 zero:∀l∈lv,∀j,j<c->l.getD j 0=0
 CO:∀x∈nd,qa os x.2
 oz:∀l∈lv,qa os l
 sol:∀z,((∀x∈nd,ev x.2 z=0)/\(∀l∈lv,ev l z=0)) ↔ ∀o∈os,ev o z=0
 Ub:∀x∈nd,Bd b x.2
 R9:∀l∈lv,Bd b l
 cnt:nd.length+lv.length=os.length
def Red.start {os:η}(hL:∀o∈os,o.length=L)(hb:∀o∈os,Bd b o):Red os L 0 b [] os where
 yd:=by simp
 oy:=hL
 cols:=by simp
 asc:=by simp
 here:=by simp
 off:=by simp
 low:=by simp
 zero:=fun _ _ j h=>CH h (Vx _)
 CO:=by simp
 oz:=fun l h=>zat h
 sol:=fun z=>by simp
 Ub:=by simp
 R9:=hb
 cnt:=by simp
def Red.skip {os:η}(h:Red os L c b nd lv)(hz:∀l∈lv,l.getD c 0=0):Red os L (c+1) b nd lv where
 yd:=h.yd
 oy:=h.oy
 cols:=fun x hx=>Wy (h.cols x hx)
 asc:=h.asc
 here:=h.here
 off:=h.off
 low:=h.low
 zero:=fun l hl j hj=>by
  rcases vE.mp hj with z|z
  ·exact h.zero l hl j z
  ·subst z
   exact hz l hl
 CO:=h.CO
 oz:=h.oz
 sol:=h.sol
 Ub:=h.Ub
 R9:=h.R9
 cnt:=h.cnt
structure Made (os:η)(BG:ξ)(c b:Nat)(xs ys:η):Prop where
 len:ys.length=xs.length
 to:∀(i:Nat)(x:ξ),xs[i]?=some x->∃y,ys[i]?=some y/\va x BG y c/\Bd b y
def Made.ex {os:η}(h:Made os BG c b xs ys){y:ξ}(hy:y∈ys):∃x∈xs,va x BG y c/\Bd b y:=by
 obtain ⟨i,hi⟩:=MF hy;let hl:=h.len;let lM:i<ys.length:=(Wp.mp hi).1;let e:xs[i]?=some (xs[i]'ci):=gE ci;obtain ⟨y',e',r⟩:=h.to i _ e;erw [hi] at e';show ⟨_,DA e,r⟩
def Made.all {os:η}(h:Made os BG c b xs ys){x:ξ}(hx:x∈xs):∃y∈ys,va x BG y c/\Bd b y:=by
 obtain ⟨i,hi⟩:=MF hx;obtain ⟨y,e,r⟩:=h.to i x hi;show ⟨y,DA e,r⟩
def Red.step {os:η}{lv GK rest:η}{BG:ξ}(h:Red os L c b nd lv)(iz:BG∈lv)(tS:∀l∈rest,l∈lv)(QF:∀l∈lv,l=BG\/l∈rest)(hlen:rest.length+1=lv.length)
  (hc:BG.getD c 0≠0) (ML:Made os BG c (2*b+1) rest GK) (hk:mh.map (·.1)=nd.map (·.1)) (MN:Made os BG c (2*b+1) (nd.map (·.2)) (mh.map (·.2))):Red os L (c+1) (2*b+1) (mh ++[(c,BG)]) GK :=by
 let ll:=h.oy BG iz;let lz:=h.zero BG iz;let hl':mh.length=nd.length:=by simpa using ph Rg hk
 let pairs:∀x' ∈mh,∃x∈nd,x.1=x'.1/\va x.2 BG x'.2 c/\Bd (2*b+1) x'.2:=by
  intro x' T6;obtain ⟨i,hi⟩:=MF T6;let lM:i<mh.length:=(Wp.mp hi).1;let e:nd[i]?=some (nd[i]'ci):=gE ci;let e1:(mh.map (·.1))[i]?=(nd.map (·.1))[i]? :=by rw [hk]
  rw [BJ,BJ,hi,e] at e1;obtain ⟨y,e2,r⟩:=MN.to i (nd[i]'ci).2 (by rw [BJ,e];rfl);rw [BJ,hi] at e2;simp at e1 e2;subst e2;show ⟨_,DA e,e1.symm,r⟩
 let back:∀x∈nd,∃x' ∈mh,x'.1=x.1/\va x.2 BG x'.2 c:=by
  intro x hx;obtain ⟨i,hi⟩:=MF hx;let lM:i<nd.length:=(Wp.mp hi).1;let e:mh[i]?=some (mh[i]'ci):=gE ci;let e1:(mh.map (·.1))[i]?=(nd.map (·.1))[i]? :=by rw [hk]
  rw [BJ,BJ,hi,e] at e1;obtain ⟨y,e2,r⟩:=MN.to i x.2 (by rw [BJ,hi];rfl);rw [BJ,e] at e2;simp at e1 e2;show ⟨_,DA e,e1,by rw [e2];exact r.1⟩
 let Wa:∀x∈mh ++[(c,BG)],x∈mh \/x=(c,BG):=fun x hx=>by simpa using hx
 exact {
  yd:=fun x hx=>by
   rcases Wa x hx with z|z
   ·obtain ⟨y,hy,_,k,_⟩:=pairs x z
    rw [k.len];exact h.yd y hy
   ·subst z
    exact ll
  oy:=fun l hl=>by
   obtain ⟨x,hx,k,_⟩:=ML.ex hl;rw [k.len];exact h.oy x (tS x hx)
  cols:=fun x hx=>by
   rcases Wa x hx with z|z
   ·obtain ⟨y,hy,e,_⟩:=pairs x z
    rw [<-e];exact Wy (h.cols y hy)
   ·subst z
    exact SY _
  asc:=by
   rw [MX,hk,List.pairwise_append];show ⟨h.asc,by simp,fun a ha b' fw =>?_⟩;obtain ⟨x,hx,rfl⟩:=CI.mp ha;have:b'=c:=by simpa using fw
   subst this;exact h.cols x hx
  here:=fun x hx=>by
   rcases Wa x hx with z|z
   ·obtain ⟨y,hy,e,k,_⟩:=pairs x z
    rw [<-e];exact k.at (lz _ (h.cols y hy)) (h.here y hy)
   ·subst z
    exact hc
  off:=fun x hx y hy ne=>by
   rcases Wa x hx with z|z<;>rcases Wa y hy with u|u
   ·obtain ⟨x0,hx0,e0,k0,_⟩:=pairs x z
    obtain ⟨y0,R_,e1,_⟩:=pairs y u;rw [<-e1];exact k0.zero (h.off x0 hx0 y0 R_ (by rwa [e0,e1])) (lz _ (h.cols y0 R_))
   ·subst u
    obtain ⟨x0,hx0,e0,k0,_⟩:=pairs x z;exact k0.Rn
   ·subst z
    obtain ⟨y0,R_,e1,_⟩:=pairs y u;rw [<-e1];exact lz _ (h.cols y0 R_)
   ·subst z
    subst u;exact CH rfl ne
  low:=fun x hx j hj=>by
   rcases Wa x hx with z|z
   ·obtain ⟨y,hy,e,k,_⟩:=pairs x z
    rw [<-e] at hj;exact k.zero (h.low y hy j hj) (lz j (LL hj (h.cols y hy)))
   ·subst z
    exact lz j hj
  zero:=fun l hl j hj=>by
   obtain ⟨x,hx,k,_⟩:=ML.ex hl
   rcases vE.mp hj with z|z
   ·exact k.zero (h.zero x (tS x hx) j z) (lz j z)
   ·subst z
    exact k.Rn
  CO:=fun x hx=>by
   rcases Wa x hx with z|z
   ·obtain ⟨y,hy,_,k,_⟩:=pairs x z
    exact k.comb (h.CO y hy) (h.oz BG iz)
   ·subst z
    exact h.oz BG iz
  oz:=fun l hl=>by
   obtain ⟨x,hx,k,_⟩:=ML.ex hl;exact k.comb (h.oz x (tS x hx)) (h.oz BG iz)
  sol:=fun z=>by
   rw [<-h.sol z];constructor
   ·rintro ⟨a1,a2⟩
    let az:ev BG z=0:=a1 (c,BG) dL;show ⟨fun x hx=>?_,fun l hl=>?_⟩
    ·obtain ⟨x',T6,_,k⟩:=back x hx
     exact (k.ev (by rw [ll,h.yd x hx]) az).mp (a1 x' (by simp [T6]))
    ·rcases QF l hl with u|u
     ·rw [u]
      exact az
     ·obtain ⟨y,hy,k,_⟩:=ML.all u
      exact (k.ev (by rw [ll,h.oy l hl]) az).mp (a2 y hy)
   ·rintro ⟨a1,a2⟩
    let az:=a2 BG iz;show ⟨fun x hx=>?_,fun l hl=>?_⟩
    ·rcases Wa x hx with u|u
     ·obtain ⟨y,hy,_,k,_⟩:=pairs x u
      exact (k.ev (by rw [ll,h.yd y hy]) az).mpr (a1 y hy)
     ·subst u
      exact az
    ·obtain ⟨x,hx,k,_⟩:=ML.ex hl
     exact (k.ev (by rw [ll,h.oy x (tS x hx)]) az).mpr (a2 x (tS x hx))
  Ub:=fun x hx=>by
   rcases Wa x hx with z|z
   ·obtain ⟨y,hy,_,_,k⟩:=pairs x z
    exact k
   ·subst z
    exact (h.R9 BG iz).up ci
  R9:=fun l hl=>by
   obtain ⟨x,hx,_,k⟩:=ML.ex hl;exact k
  cnt:=by
   let a:=ML.len;let b:=h.cnt;rw [IA,hl'];simp
   omega}
def w6 (H:Hp)(AD:γ)(nd:π):Prop:=AD.length=nd.length/\∀(i:Nat)(kv:Φ)(x:Nat×List Int),AD[i]?=some kv->nd[i]?=some x->kv.1=.inl (x.1:Int)/\Ln H kv.2 x.2
theorem w6.gV (h:w6 H AD nd)(s:aq H H'):w6 H' AD nd:=⟨h.1,fun i kv x e1 e2=>⟨(h.2 i kv x e1 e2).1,(h.2 i kv x e1 e2).2.gV s⟩⟩
def Ln.put (h:Ln H v l)(e:H d=some (.dK AD)):Ln (upd H d o) v l:=by
 obtain ⟨p,e1,k⟩:=h;show ⟨p,e1,by rw [ah (fun z=>by erw [z,e] at k)];exact k⟩
theorem vb.put (h:vb H us ls)(e:H d=some (.dK AD)):vb (upd H d o) us ls:=⟨h.1,fun i u l e1 e2=>(h.2 i u l e1 e2).put e⟩
theorem w6.put (h:w6 H AD nd)(e:H d=some (.dK kv2)):w6 (upd H d o) AD nd:=⟨h.1,fun i kv x e1 e2=>⟨(h.2 i kv x e1 e2).1,(h.2 i kv x e1 e2).2.put e⟩⟩
def oB (s:aq H H')(n:H d=none):aq H (upd H' d o):=fun b o' e=>by
 rw [ah (fun z=>by erw [z,n] at e)];exact s _ _ e
def w6.at (h:w6 H AD nd){i:Nat}(e:nd[i]?=some x):∃v,AD[i]?=some (.inl (x.1:Int),v)/\Ln H v x.2:=by
 let hi:i<nd.length:=(Wp.mp e).1;let hl:=h.1;let e2:AD[i]?=some (AD[i]'ci):=gE ci;obtain ⟨a,b⟩:=h.2 i _ x e2 e;show ⟨(AD[i]'ci).2,by rw [e2,<-a],b⟩
def w6.keys (h:w6 H AD nd):AD.map (·.1)=nd.map (fun x=>(VJ (x.1:Int):Key)):=by
 refine V0 fun i=>?_;let hl:=h.1;rw [BJ,BJ];by_cases hi:i<nd.length
 ·let e:nd[i]?=some nd[i]:=gE hi
  obtain ⟨v,e2,_⟩:=h.at e;rw [e,e2];rfl
 ·rw [HX ci,HX ci]
  rfl
theorem rW :∀{AD:γ} {i:Nat},(AD.map (·.1)).Nodup->AD[i]?=some (k,v)->bB AD k=some v
 | [],_,_,e=>by simp at e
 | p::r,0,_,e=>by
  cases e;exact bO (p:=(k,v)) rfl
 | p::r,i+1,n,e=>by
  rw [HU,Qd] at n;let e':r[i]?=some (k,v):=by simpa using e
  let ne:¬ p.1=k:=fun z=>n.1 (by rw [z];exact CI.mpr ⟨(k,v),DA e',rfl⟩);rw [bw ne];exact rW n.2 e'
theorem akj :∀{AD:γ},k∉AD.map (·.1)->bB AD k=none
 | [],_=>rfl
 | p::r,h=>by
  let h':k≠p.1/\k∉r.map (·.1):=by simpa using h
  rw [bw (fun z=>h'.1 z.symm)];exact akj h'.2
theorem map_put :∀{AD:γ} {i:Nat},(AD.map (·.1)).Nodup->AD[i]?=some (k,v)->AD.map (fun kv=>if kv.1=k then (kv.1,v') else kv)=AD.set i (k,v')
 | [],_,_,e=>by simp at e
 | p::r,0,n,e=>by
  rw [HU,Qd] at n;cases e
  let hr:r.map (fun kv=>if kv.1=k then (kv.1,v') else kv)=r:=by
   refine (RI (fun q hq=>?_)).trans (List.map_id r);let ne:¬ q.1=k:=fun z=>n.1 (by show k∈_;rw [<-z];exact CI.mpr ⟨q,hq,rfl⟩);rw [lH ne];rfl
  rw [HU,hr,mG rfl,List.set_cons_zero]
 | p::r,i+1,n,e=>by
  rw [HU,Qd] at n;let e':r[i]?=some (k,v):=by simpa using e
  let ne:¬ p.1=k:=fun z=>n.1 (by rw [z];exact CI.mpr ⟨(k,v),DA e',rfl⟩);rw [HU,lH ne,map_put n.2 e',List.set_cons_succ]
def aiH {AD:γ}(n:(AD.map (·.1)).Nodup)(e:AD[i]?=some (k,v)):putK AD k v'=AD.set i (k,v'):=by
 unfold putK;rw [jk,rW n e];exact map_put n e
theorem w6.set (h:w6 H AD nd){i c:Nat}(hv:Ln H v l):w6 H (AD.set i (.inl (c:Int),v)) (nd.set i (c,l)):=by
 let hl:=h.1;show ⟨by simp [hl],fun j kv x e1 e2=>?_⟩;rw [VU] at e1 e2;by_cases z:i=j
 ·subst z
  rw [mG rfl] at e1 e2;by_cases hi:i<AD.length
  ·rw [mG hi] at e1
   rw [mG ci] at e2;cases e1;cases e2;show ⟨rfl,hv⟩
  ·rw [lH hi] at e1
   cases e1
 ·rw [lH z] at e1 e2
  exact h.2 j kv x e1 e2
def w6.snoc (h:w6 H AD nd){c:Nat}(hv:Ln H v l):w6 H (AD++[(.inl (c:Int),v)]) (nd++[(c,l)]):=by
 let hl:=h.1;show ⟨by simp [hl],fun j kv x e1 e2=>?_⟩;by_cases z:j<AD.length
 ·rw [Nu z] at e1
  rw [Nu ci] at e2;exact h.2 j kv x e1 e2
 ·rw [Qw ci] at e1 e2
  rw [<-hl] at e2;by_cases y:j-AD.length=0
  ·rw [y] at e1 e2
   cases e1;cases e2;show ⟨rfl,hv⟩
  ·rw [HX (by simp;omega)] at e1
   cases e1
theorem keys_nodup:∀{nd:π},(nd.map (·.1)).Pairwise (· < ·)->(nd.map (fun x=>(VJ (x.1:Int):Key))).Nodup
 | [],_=>by simp
 | x::r,h=>by
  rw [HU,alj] at h;rw [HU,Qd];show ⟨fun z=>?_,keys_nodup h.2⟩;obtain ⟨y,hy,e⟩:=CI.mp z;let e':(y.1:Int)=x.1:=al9 e;have:=h.1 y.1 (CI.mpr ⟨y,hy,rfl⟩);omega
def bb (b k:Nat):Nat:=(k+1)*(b+11)
def ye (b:Nat)(h:k<=m):bb b k<=bb b m:=RU _ ci
def yf (b k:Nat):b<=bb b k:=by
 unfold bb;rw [V5,LQ];omega
def Red.piv {os:η}(R:Red os L c b nd lv):PD nd:=⟨R.asc.imp fun h e=>ci,R.here,R.off⟩
def Pr (os:η)(l:ξ):Prop:=l∈os\/PrZ l
def Red.small {os:η}(R:Red os L c b nd lv)(O:PJ os nd lv ps qs)(hb:∀o∈os,Bd b0 o)(hk:nd.length<=k)(hk2:k<=1000)(pN:∀x∈nd,Pr os x.2)(pL:∀l∈lv,Pr os l):Red os L c (bb b0 k) nd lv:=by
 let le:∀{n:Nat},n<=(nd.length+1)*((2*(nd.length+1)*2^b0)^nd.length*2^b0)->n<=2^bb b0 k:=fun {n} h=>CT h (CT (aad ci) (Qn cr (RU _ ci)));let z:∀{n:Nat},n=0->n<=2^bb b0 k:=fun {n} h=>by rw [h];exact Mu _
 refine {R with Ub:=fun x hx j=>?_,R9:=fun l hl j=>?_}
 ·rcases pN x hx with h|h|h
  ·exact CT (hb _ h j) (Qn cr (yf _ _))
  ·exact le (O.need R.piv hx hb h j)
  ·exact z (by rw [h j];rfl)
 ·rcases pL l hl with h|h|h
  ·exact CT (hb _ h j) (Qn cr (yf _ _))
  ·obtain ⟨i,ei⟩:=MF hl
   exact le (O.left R.piv ei (fun x hx=>R.zero l hl x.1 (R.cols x hx)) hb h j)
  ·exact z (by rw [h j];rfl)
def jL {i:Nat}(h:i<=xs.length):iW xs none (some (i:Int))=xs.take i:=by
 unfold iW;rw [HT.rL,HT.AN,KJ h];rfl
def gc {i:Nat}(h:i<=xs.length):iW xs (some (i:Int)) none=xs.drop i:=by
 unfold iW;rw [HT.rL,HT.AN,KJ h];exact SS dL
theorem Red.up {os:η}(h:Red os L c b nd lv)(hb:b<=b'):Red os L c b' nd lv:={h with Ub:=fun x hx=>(h.Ub x hx).up hb,R9:=fun x hx=>(h.R9 x hx).up hb}
def vb.erase (h:vb H us ls)(j:Nat):vb H (us.eraseIdx j) (ls.eraseIdx j):=by
 let hl:=h.1;show ⟨by rw [AQ,AQ,hl],fun i u l e1 e2=>?_⟩;rw [Rf] at e1 e2;by_cases z:i<j
 ·rw [mG z] at e1 e2
  exact h.2 _ _ _ e1 e2
 ·rw [lH z] at e1 e2
  exact h.2 _ _ _ e1 e2
theorem qi {Y β:Type}{P:Nat->Y->β->Prop}:∀(xs:List Y),(∀i x,xs[i]?=some x->∃y,P i x y)->∃ys:List β,ys.length=xs.length/\∀i x y,xs[i]?=some x->ys[i]?=some y->P i x y
 | [],_=>⟨[],rfl,fun i x y e=>by simp at e⟩
 | x::xs,h=>by
  obtain ⟨y,hy⟩:=h 0 x rfl;obtain ⟨ys,hl,hp⟩:=qi (P:=fun i=>P (i+1)) xs (fun i x e=>h (i+1) x (by simpa using e));show ⟨y::ys,by simp [hl],fun i x' y' e1 e2=>?_⟩;cases i with
  | zero=>
   cases e1;cases e2;exact hy
  | succ i=>exact hp i x' y' (by simpa using e1) (by simpa using e2)
inductive qj (K:Frag)(vs:ζ)(H:Hp)(Q:VK)(E_:XK):Prop
|mk (a:AO)(us:ζ)(os:List (List Int:_))(L m b:Nat)(_:vs=[.ref a,.int (m:Int)])(_:aK K H a us)(_:vb H us os)(_:(∀o∈os,o.length=L))(_:m<=L)(_:L<=1000)(_:os.length<=1000)(_:(∀o∈os,Bd b o))(_:bb b (min m os.length)<=29000000)(_:∀(p d a':AO)(AD:γ)(pF :ζ)(nd:π)(lv:η)(H':Hp),aq H H' ->H d=none->H p=none->H' p=some (.tup [.ref d,.ref a'])->H' d=some (.dK AD)->aK K H' a' pF ->w6 H' AD nd->vb H' pF lv->Red os L m (bb b (min m os.length)) nd lv->Q (.ref p) H')
def qP:av ["lines","many","needed","left","column","at","lead","place"] VY (ae NO):=sq
def aeI (D:Def K mg "reduced" NO VY)(aZ:mg "range"=none)(cj:mg "list"=none)(amL:ac P w K mg gw 1 "first_not_nought" CM (yc K))(aeJ:ac P w K mg gw 34 "cleared" DF qh):ac P w K mg gw 35 "reduced" VY (qj K):=by
 refine D.oo qP fun H hr h=>?_;obtain ⟨a,us,os,L,m,b,rfl,hS,hL,hlen,hm,hL1,ho,hB,hb,q⟩:=h
 show ⟨_,(aa (aA 2 qP.nd cT) (aa (aA 3 qP.nd (pv 0)) (aa (a_ HM rfl (bV rfl aZ (aV (pv 1))) (b6 4 qP.nd) (aa (aA 5 qP.nd (aU amL hr (aF (pv 3) (pv 4)))) (aa (bh (bg FI (pv 5) kc) (aj kvs) aI) (aa (aA 6 qP.nd (bL aQ (pv 3) (pv 5))) (aa (qf (i:=3) (tn:=["line"]) (fr:=["lead","column"]) (oV:=[6,4]) qP.nd (a9 (aw fU (bY cX (pv 3) cP (cC (pv 5))) (bY cX (pv 3) (cC (aw bG (pv 5) af)) cP))) (RW aeJ hr (bx (pv 0) (pv 1) (pv 2)))) (aa (a_ HM rfl (a9 (cu (fX rfl) rfl cj kE (aV (pv 2)))) (b6 7 qP.nd) (aj (cy (bU hr) (pv 2) (pv 7) (aU aeJ hr (bx (iG (bU hr) (pv 2) (pv 7) (fun _ _=>rfl)) (pv 6) (pv 4))) rfl))) (aj (cy (bU hr) (pv 2) (pv 4) (pv 6) rfl)))))))) (aj (aD (aJ (aF (pv 2) (pv 3)))))))),?_⟩;sleep 3
 refine fun d Yx=>?_;let s0:aq H (upd H d (.dK [])):=aC Yx _;show ⟨_,rfl,_,rfl,_,rfl,ci,ci,?_⟩
 refine let I:ce:=fun i Z H'=>Ex9 fun (al:AO) (t_:ζ) (AD:γ) (nd:π) (lv:η) (o4 o5 o6 o7:ω)=>Z=[ap a,some (.int (m:Int)),ap d,ap al,o4,o5,o6,o7]/\aq H H'/\H' d=some (.dK AD)/\aK K H' al t_/\vb H' t_ lv/\w6 H' AD nd/\nd.length<=i/\Red os L i (bb b (min m os.length)) nd lv/\(∃ps qs,PJ os nd lv ps qs)/\(∀x∈nd,Pr os x.2)/\∀l∈lv,Pr os l;cq (lo:=0) (n:=m) I
  ⟨a,us,[],[],os,none,none,none,none,rfl,s0,ag,s0.seq hS,hL.gV s0,⟨rfl,by simp⟩,DH _,(Red.start hlen hB).up (yf _ _),⟨[],os,PJ.start os⟩,dL,fun l hl=>.inl hl⟩ ?_ ?_
 ·rintro i Z H1 hi ⟨al,t_,AD,nd,lv,o4,o5,o6,o7,rfl,s1,hd,Yy,Om,hN,hni,R,⟨ps,qs,O⟩,pN,pL⟩
  show ⟨_,rfl,_,rfl,al,t_,lv,i,by rw [Ow];rfl,Yy,Om,fun l hl=>by rw [R.oy l hl];omega,fun j BG H2 s2 ej hj=>?_,fun hz H2 s2=>?_⟩
  ·let hjl:j<lv.length:=(Wp.mp ej).1
   let hul:=Om.1;let cnt:=R.cnt;let hbk:=hb;let hd2:=s2 _ _ hd;let hS2:=s2.seq Yy;let hL2:=Om.gV s2;let hN2:=hN.gV s2;obtain ⟨u,eu,hu⟩:=hL2.at' ej;let iz:BG∈lv:=DA ej;show ⟨_,rfl,rfl,_,rfl,bD (fun z=>by simp at z) (fun _=>?_)⟩;show ⟨_,rfl,_,rfl,al,_,_,_,rfl,rfl,hS2,bF eu,_,rfl,_,rfl,_,rfl,al,t_,rfl,hS2,fun p1 n1=>?_⟩;let t1:=aC n1 (.lst (iW t_ none (some (j:Int))));show ⟨_,rfl,_,rfl,_,_,rfl,rfl,_,rfl,al,t_,rfl,t1.seq hS2,fun p2 n2=>?_⟩;let t2:=aC n2 (.lst (iW t_ (some ((j:Int)+1)) none))
   let aeK:iW t_ none (some (j:Int))++iW t_ (some ((j:Int)+1)) none=t_.eraseIdx j:=by
    rw [jL ci,show ((j:Int)+1)=((j+1:Nat):Int) from by omega,gc ci,List.eraseIdx_eq_take_drop_succ]
   let amN:(iW t_ none (some (j:Int))).length+(iW t_ (some ((j:Int)+1)) none).length<=BZ:=by
    rw [<-IA,aeK];exact CT (CT (akS ..) (show t_.length<=1000 by omega)) cr
   show ⟨p1,p2,_,_,rfl,rfl,t2 _ _ ag,ag,amN,fun p3 n3=>?_⟩;let t3:=aC n3 (.lst (iW t_ none (some (j:Int))++iW t_ (some ((j:Int)+1)) none));show ⟨p3,rfl,⟨_,aK.of ag⟩,fun D nD=>?_⟩;let tt:=(t1.trans t2).trans t3;let hE:=(hL2.gV tt).erase j;let hu3:=hu.gV tt;let er:(t_.eraseIdx j).length<=1000:=CT (akS ..) (show t_.length<=1000 by omega);refine tE (oY:=[some u,some (.int ((0:Int)+i))]) (K:=K) (a:=p3) (xs:=t_.eraseIdx j) (fun k v H=>∃x y p,(lv.eraseIdx j)[k]?=some x/\v=.ref p/\p≠D/\H p=some (.lst (y.map V.int))/\va x BG y i/\Bd (2*bb b (min m os.length)+1) y/\(y=x\/PrZ y)) nD (GG er cr) (fun H3 s3=>aK.of (s3 _ _ (by rw [ag,aeK]))) ?_ ?_ ?_
   ·rintro k v H3 H4 ys hD3 ks ⟨x,y,p,e1,e2,e3,e4,e5⟩
    show ⟨x,y,p,e1,e2,e3,ks _ _ e3 e4,e5⟩
   ·rintro k x H3 RR ex s3 ⟨ys0,amO⟩ kk
    obtain ⟨l,el,hl⟩:=hE.at ex;let Nb:l∈lv:=S0 (DA el);let hll:=R.oy l Nb;let hld:=R.oy BG iz;show ⟨_,rfl,_,rfl,_,rfl,x,u,l,BG,i,bb b (min m os.length),bb b (min m os.length),by rw [Ow];rfl,hl.gV s3,hu3.gV s3,by rw [hll,hld],ci,ci,hj,R.R9 l Nb,R.R9 BG iz,hbk,hbk,fun v' l' H4 s4 L4 cl bd pz fr=>?_⟩;obtain ⟨p,e1,e2⟩:=L4;refine kk v' H4 s4 ⟨l,l',p,el,e1,?_,e2,cl,by rwa [Nat.two_mul],pz⟩
    rcases fr with z|⟨p',z,n⟩
    ·obtain ⟨px',z1,z2⟩:=hl
     erw [z1,e1] at z;exact ak z2 nD
    ·rw [e1] at z
     cases z;exact fun y=>by erw [y,amO] at n
   ·intro ys H3 hy kK s3 hD
    obtain ⟨GK,hl',hp⟩:=qi (P:=fun k v y=>∃x p,(lv.eraseIdx j)[k]?=some x/\v=.ref p/\p≠D/\H3 p=some (.lst (y.map V.int))/\va x BG y i/\Bd (2*bb b (min m os.length)+1) y/\(y=x\/PrZ y)) ys (fun k v e=>by
     obtain ⟨x,y,p,r⟩:=kK k v e
     show ⟨y,x,p,r⟩)
    let hLn:vb H3 ys GK :=⟨hl'.symm,fun k v y e1 e2=>by
     obtain ⟨x,p,_,e,_,r,_⟩:=hp k v y e1 e2
     show ⟨p,e,r⟩⟩
    let les:(t_.eraseIdx j).length=(lv.eraseIdx j).length:=hE.1
    let ML:Made os BG i (2*bb b (min m os.length)+1) (lv.eraseIdx j) GK :=⟨ci,fun k x e=>by
     let hk:k<(lv.eraseIdx j).length:=(Wp.mp e).1;let e1:ys[k]?=some (ys[k]'ci):=gE ci;let e2:GK[k]?=some (GK[k]'ci):=gE ci;obtain ⟨x',p,r1,_,_,_,r2,r3,_⟩:=hp k _ _ e1 e2;erw [e] at r1
     show ⟨_,e2,r2,r3⟩⟩
    let PL:∀l∈GK,Pr os l:=fun l hl=>by
     obtain ⟨k,ek⟩:=MF hl;let hk:k<GK.length:=(Wp.mp ek).1;let e1:ys[k]?=some (ys[k]'ci):=gE ci;obtain ⟨x',p,r1,_,_,_,_,_,r4⟩:=hp k _ _ e1 ek
     rcases r4 with z|z
     ·rw [z]
      exact pL x' (S0 (DA r1))
     ·exact .inr z
    let x9:=tt.trans s3;let Yz:=x9 _ _ hd2;let hN3:=hN2.gV x9;let hu4:=hu3.gV s3;show ⟨_,rfl,d,AD,rfl,Rd.of Yz,fun l3 n3=>?_⟩;let t4:=aC n3 (.lst (AD.map fun kv=>kV kv.1));show ⟨l3,rfl,⟨_,aK.of ag⟩,?_⟩;let dl:d≠l3:=ak Yz n3
    refine let I:ce:=fun t Z H'=>KU fun (o7:ω) (jt :γ) (mh :π)=>Z=[ap a,some (.int (m:Int)),ap d,ap D,some (.int ((0:Int)+i)),some (.int (j:Int)),some u,o7]/\aq H H'/\H' d=some (.dK jt)/\H' l3=some (.lst (AD.map fun kv=>kV kv.1))/\H' D=some (.lst ys)/\vb H' ys GK /\Ln H' u BG/\w6 H' jt mh /\mh.map (·.1)=nd.map (·.1)/\ ∀(k:Nat)(x:Nat×List Int),nd[k]?=some x->∃y,mh[k]?=some (x.1,y)/\(t<=k->y=x.2)/\(k<t->(va x.2 BG y i/\Bd (2*bb b (min m os.length)+1) y)/\(y=x.2\/PrZ y));bM (K:=K) (a:=l3) (xs:=AD.map fun kv=>kV kv.1) I
     ⟨_,AD,nd,rfl,((s1.trans s2).trans x9).trans t4,t4 _ _ Yz,ag,t4 _ _ hD,hLn.gV t4,hu4.gV t4,hN3.gV t4,rfl,fun k x e=>⟨x.2,e,fun _=>rfl,fun z=>CH z (Vx _)⟩⟩ (fun t Z H' _ h=>by
      obtain ⟨_,_,_,_,_,_,h,_⟩:=h
      exact aK.of h) ?_ ?_
    ·rintro t u7 Z H4 hu7 ⟨o7,jt,mh,rfl,s4,EX,hl4,hD4,hL4,hu5,Uc,hk4,hx4⟩
     rw [BJ] at hu7;obtain ⟨kv,mj,rfl⟩:=GX.mp hu7;let htl:t<AD.length:=(Wp.mp mj).1;let hnl:=hN.1;let ex:nd[t]?=some (nd[t]'ci):=gE ci;obtain ⟨x,hx⟩:∃x,nd[t]?=some x:=⟨_,ex⟩;obtain ⟨kx,hxm⟩:kv.1=.inl (x.1:Int)/\x∈nd:=⟨(hN3.2 t kv x mj hx).1,DA hx⟩;obtain ⟨y,ey,y1,_⟩:=hx4 t x hx;let y2:=y1 (DH _);subst y2;obtain ⟨v,ev,hv⟩:=Uc.at ey
     let nk:(jt.map (·.1)).Nodup:=by
      rw [Uc.keys];exact keys_nodup (by rw [hk4];exact R.asc)
     let vat:=rW nk ev;let hxl:=R.yd x hxm;let hld:=R.oy BG iz
     let dg:dX H4 d (kV kv.1) (some v):=by
      rw [kx,<-vat];exact dX.k EX
     show ⟨_,rfl,_,rfl,d,v,rfl,dg,_,rfl,_,rfl,v,u,x.2,BG,i,bb b (min m os.length),bb b (min m os.length),by rw [Ow];rfl,hv,hu5,by rw [hxl,hld],ci,ci,hj,R.Ub x hxm,R.R9 BG iz,hbk,hbk,fun v' l' H5 s5 L5 cl bd pz fr=>?_⟩;let hd5:=s5 _ _ EX;let l4':=Uc.1;let l5':mh.length=nd.length:=by simpa using ph Rg hk4
     show ⟨_,rfl,_,rfl,d,_,rfl,gM.k hd5 (GG (show jt.length<=1000 by omega) cr),?_⟩;rw [kx,aiH nk ev];let dn:d≠D:=fun z=>by erw [z,hD4] at EX
     show ⟨_,jt.set t (.inl (x.1:Int),v'),mh.set t (x.1,l'),rfl,oB (s4.trans s5) Yx,ag,by rw [ah (FN dl)];exact s5 _ _ hl4,by rw [ah (FN dn)];exact s5 _ _ hD4,(hL4.gV s5).put hd5,(hu5.gV s5).put hd5,((Uc.gV s5).set L5).put hd5,?_,fun k x' ek=>?_⟩
     ·rw [List.map_set,hk4]
      refine V0 fun k=>?_;rw [VU];by_cases z:t=k
      ·subst z
       rw [mG rfl,mG (by simp;omega),BJ,hx];rfl
      ·rw [lH z]
     ·obtain ⟨y',PK,a1,a2⟩:=hx4 k x' ek
      by_cases z:t=k
      ·subst z
       erw [hx] at ek;show ⟨l',by rw [VU,mG rfl,mG ci],fun w=>ci,fun _=>⟨⟨cl,by rwa [Nat.two_mul]⟩,pz⟩⟩
      ·show ⟨y',by rwa [VU,lH z],fun w=>a1 ci,fun w=>a2 ci⟩
    ·rintro Z H4 ⟨o7,jt,mh,rfl,s4,EX,hl4,hD4,hL4,hu5,Uc,hk4,hx4⟩
     let l4':=Uc.1;let l5':mh.length=nd.length:=by simpa using ph Rg hk4
     let hnl:=hN.1;rw [ir] at hx4
     let MN:Made os BG i (2*bb b (min m os.length)+1) (nd.map (·.2)) (mh.map (·.2)):=⟨by simp [l5'],fun k x e=>by
      rw [BJ] at e;obtain ⟨x0,e0,rfl⟩:=GX.mp e;let hk:k<nd.length:=(Wp.mp e0).1;obtain ⟨y,ey,_,a2⟩:=hx4 k x0 e0
      show ⟨y,by rw [BJ,ey];rfl,(a2 ci).1⟩⟩
     let hno:bB jt (.inl ((0:Int)+i))=none:=akj (fun z=>by
      rw [Uc.keys] at z;obtain ⟨x',T6,e⟩:=CI.mp z;let e1:(x'.1:Int)=0+i:=al9 e;have:x'.1∈nd.map (·.1):=by rw [<-hk4];exact CI.mpr ⟨x',T6,rfl⟩
      obtain ⟨x,hx,e2⟩:=CI.mp this;have:=R.cols x hx
      omega)
     show ⟨_,rfl,_,rfl,_,rfl,d,_,rfl,gM.k (k:=.inl ((0:Int)+i)) EX (GG (show jt.length<=1000 by omega) cr),?_⟩;rw [dw u hno];let dn:d≠D:=fun z=>by erw [z,hD4] at EX
     let amT:∀l∈lv.eraseIdx j,l∈lv:=fun l h=>S0 h
     let amU:∀l∈lv,l=BG\/l∈lv.eraseIdx j:=fun l h=>by
      obtain ⟨k,ek⟩:=MF h
      rcases alu k j with z|z|z
      ·exact .inr (DA (i:=k) (by rwa [Rf,mG z]))
      ·subst z
       erw [ej] at ek;exact .inl rfl
      ·exact .inr (DA (i:=k-1) (by rwa [Rf,lH ci,show k-1+1=k by omega]))
     let aan:(lv.eraseIdx j).length+1=lv.length:=by rw [AQ,mG hjl];omega
     let R2:=R.step iz amT amU aan hj ML hk4 MN
     obtain ⟨ps',RL,O2⟩:=O.step R.piv ej (fun x hx=>R.zero BG iz x.1 (R.cols x hx)) hj ML.len (fun k x e=>by
      obtain ⟨y,ey,k1,_⟩:=ML.to k x e
      show ⟨y,ey,k1⟩) l5' fun k x e=>by
      obtain ⟨y,ey,k1,_⟩:=MN.to k x e;show ⟨y,ey,k1⟩
     let PN:∀x∈mh ++[(i,BG)],Pr os x.2:=fun x hx=>by
      rcases FQ.mp hx with z|z
      ·obtain ⟨k,ek⟩:=MF z
       let hk:k<mh.length:=(Wp.mp ek).1;obtain ⟨x0,e0⟩:∃x0,nd[k]?=some x0:=⟨_,gE ci⟩;obtain ⟨y,ey,_,a2⟩:=hx4 k x0 e0;erw [ek] at ey
       rcases (a2 ci).2 with u|u
       ·show Pr os y
        rw [u];exact pN x0 (DA e0)
       ·exact .inr u
      ·rw [GZ.mp z]
       exact pL BG iz
     let aeM:=R2.cnt;let R3:=R2.small O2 hB (k:=min m os.length) (by rw [IA] at aeM ⊢;simp at aeM ⊢;omega) ci PN PL;show ⟨D,ys,_,mh ++[(i,BG)],GK,_,_,_,_,rfl,oB s4 Yx,ag,aK.of (by rwa [ah (FN dn)]),hL4.put EX,(by rw [Ow];exact (Uc.snoc hu5).put EX),by simp;omega,R3,⟨ps',RL,O2⟩,PN,PL⟩
  ·show ⟨_,rfl,rfl,_,rfl,bD (fun _=>?_) (fun z=>by simp at z)⟩
   show ⟨al,t_,AD,nd,lv,_,_,_,_,rfl,s1.trans s2,s2 _ _ hd,s2.seq Yy,Om.gV s2,hN.gV s2,ci,R.skip hz,⟨ps,qs,O⟩,pN,pL⟩
 ·rintro Z H1 ⟨al,t_,AD,nd,lv,o4,o5,o6,o7,rfl,s1,hd,Yy,Om,hN,hni,R,⟨ps,qs,O⟩,pN,pL⟩
  show ⟨_,rfl,_,rfl,qZ,fun p np=>?_⟩;let sp:=aC np (.tup [.ref d,.ref al]);let cnt:=R.cnt;exact q p d al AD t_ nd lv _ (s1.trans sp) Yx (s1.free np) ag (sp _ _ hd) (sp.seq Yy) (hN.gV sp) (Om.gV sp) R
def akh (hb:b≠0)(h1:t.natAbs<=2^T)(h2:b.natAbs<=2^B):Sm T B (low t b):=⟨lO hb,rN hb,CT (mN hb) h1,CT (mO hb) h2⟩
def zaP {l:ξ}(h:l.length<=j):l.getD j 0=0:=by
 rw [Oq,HX h];rfl
def Oo (m t:Nat)(nd:π)(qs:χ):Prop:=qs.length=m/\(∀i,i<t->∀x,nd[i]?=some x->qs[x.1]?=some (low (x.2.getD m 0) (x.2.getD x.1 0)))/\∀j,j<m->(∀i,i<t->∀x,nd[i]?=some x->x.1≠j)->qs[j]?=some (0,1)
def Oo.sm {os:η}(R:Red os (m+1) m b nd lv)(F:Oo m nd.length nd qs):∀q∈qs,Sm b b q:=by
 intro q hq;obtain ⟨j,hj⟩:=MF hq;let hjm:j<m:=by have:=(Wp.mp hj).1;rw [<-F.1];exact this
 by_cases c:∃(i:Nat)(x:Nat×List Int),nd[i]?=some x/\x.1=j
 ·obtain ⟨i,x,e,rfl⟩:=c
  let hi:i<nd.length:=(Wp.mp e).1;let h1:=F.2.1 i hi x e;erw [hj] at h1;let hm:=DA e;exact akh (R.here x hm) (R.Ub x hm m) (R.Ub x hm x.1)
 ·let h1:=F.2.2 j hjm (fun i _ x e z=>c ⟨i,x,e,z⟩)
  erw [hj] at h1;show ⟨cr,cr,Mu _,RA⟩
def Oo.put {os:η}(R:Red os (m+1) m b nd lv)(F:Oo m t nd qs)(e:nd[t]?=some x):Oo m (t+1) nd (qs.set x.1 (low (x.2.getD m 0) (x.2.getD x.1 0))):=by
 let ql:=F.1;let hx:=R.cols x (DA e)
 let dis:∀i y,i<t->nd[i]?=some y->y.1≠x.1:=fun i y hi ey=>by
  let a:=List.pairwise_iff_getElem.mp R.asc i t (by rw [ir];exact (Wp.mp ey).1) (by rw [ir];exact (Wp.mp e).1) hi;simp only [List.getElem_map] at a;let e1:=(Wp.mp ey).2;let e2:=(Wp.mp e).2;rw [e1,e2] at a;omega
 show ⟨by simp [ql],fun i hi y ey=>?_,fun j hj h=>?_⟩
 ·rcases vE.mp hi with z|z
  ·rw [VU,lH (FN (dis i y z ey))]
   exact F.2.1 i z y ey
  ·subst z
   erw [e] at ey;rw [VU,mG rfl,mG ci]
 ·rw [VU,lH (h t (SY _) x e)]
  exact F.2.2 j hj (fun i hi y ey=>h i (Wy hi) y ey)
def aao (h:j<n):Pu n (j:Int)=some j:=by
 unfold Pu;simp;omega
def bZ.putL (h:bZ K H a xs)(e:H d=some (.lst ys)):bZ K (upd H d o) a xs:=by
 rcases h with (h|⟨o',h⟩)|h
 ·exact .inl (.inl (by rw [ah (fun z=>by erw [z,e] at h)];exact h))
 ·exact .inl (.inr ⟨o',by rw [ah (fun z=>by erw [z,e] at h)];exact h⟩)
 ·exact .inr h
inductive mV (K:Frag)(vs:ζ)(H:Hp)(Q:VK)(E_:XK):Prop
|mk (a:AO)(us:ζ)(os:List (List Int:_))(m b:Nat)(_:vs=[.ref a,.int (m:Int)])(_:aK K H a us)(_:vb H us os)(_:(∀o∈os,o.length=m+1))(_:m<=900)(_:os.length<=900)(_:(∀o∈os,Bd b o))(_:bb b (min m os.length)<=29000000)(_:(∀(l:ξ)(H':Hp),aq H H' ->l.length=m+1->qa os l->(∀j,j<m->l.getD j 0=0)->l.getD m 0≠0->Q .cO H'))(_:(∀(x:AO)(pF :ζ)(qs:χ)(H':Hp),aq H H' ->H x=none->H' x=some (.lst pF)->cM K H' pF qs->qs.length=m->(∀q∈qs,Sm (bb b (min m os.length)) (bb b (min m os.length)) q)->Q (.ref x) H'))
def CQ:av ["lines","many","told","x","column","line"] VY (ae NM):=sq
def aeN (hN:∀H:Hp,bZ K H aN [.int 0,.int 1])(kN:mg "NOUGHT"=some (.ref aN))(D:Def K mg "solution_of" NM VY)(Sa:mg "any"=none)(amV:ac P w K mg gw 35 "reduced" VY (qj K))(ua:ac P w K mg gw 33 "lowest_terms" VE ft):ac P w K mg gw 36 "solution_of" VY (mV K):=by
 refine D.oo CQ fun H hr h=>?_;obtain ⟨a,us,os,m,b,rfl,hS,hL,hlen,hm,ho,hB,hb,q1,q2⟩:=h
 show ⟨_,(aa (aA 2 CQ.nd (aU amV hr (aF (pv 0) (pv 1)))) (aa (bh (EZ (aR (acr rfl) rfl Sa ad7 (aV (g6 (tn:=["line"]) (fr:=["many"]) (oV:=[1]) (a9 (aG (pv 2))) (ahi AG (bL (tw (K:=K) rfl) (pv 0) (pv 1)) af (agj _)))))) (aj (aD kc)) aI) (aa (aA 3 CQ.nd (aw xF (bI (aV (dJ (v:=.ref aN) rfl kN rfl))) (pv 1))) (aa (a_ HM rfl (tO (aG (pv 2))) (iU rfl (bu (b6 4 CQ.nd) (bu (b6 5 CQ.nd) e_))) (aj (FF (aU ua hr (aF (bL aQ (pv 5) (pv 1)) (bL aQ (pv 5) (pv 4)))) (FD (pv 3) (pv 4) set_list)))) (aj (aD (pv 3))))))),?_⟩;sleep 4
 show ⟨_,rfl,_,rfl,a,us,os,m+1,m,b,rfl,hS,hL,hlen,ci,ci,ci,hB,hb,fun p d a' AD pF nd lv H1 s1 Yx np hp hd Yy hN1 hL1 R=>?_⟩;let lu:=hL1.1;let cnt:=R.cnt;show ⟨_,rfl,p,_,_,_,rfl,rfl,bZ.of hp,iD,a',rfl,⟨_,Yy⟩,fun D1 n1=>?_⟩;refine dE (oY:=[some (.int (m:Int))]) (K:=K) (a:=a') (xs:=pF) (fun k v _=>∃l,lv[k]?=some l/\v=.bl (decide (l.getD m 0≠0))) n1 (GG (show pF.length<=1000 by omega) cr) (fun H2 s2=>s2.seq Yy) (fun _ _ _ _ _ _ _ h=>h) ?_ ?_
 ·intro k x H2 RR ex s2 kk
  obtain ⟨l,el,b',rfl,fw⟩:=hL1.at ex;let hll:=R.oy l (DA el);show ⟨_,rfl,_,rfl,b',_,_,_,rfl,rfl,aK.of (s2 _ _ fw),wZ ci,rfl,kk _ _ (aq.refl _) ⟨l,el,?_⟩⟩;simp
 ·intro ys H2 hy kK s2 hD
  let ey:ys=(lv.map fun l=>decide (l.getD m 0≠0)).map V.bl:=by
   refine V0 fun i=>?_;by_cases hi:i<ys.length
   ·let e1:ys[i]?=some ys[i]:=gE hi
    obtain ⟨l,el,e⟩:=kK i _ e1;rw [e1,e,BJ,BJ,el];rfl
   ·rw [HX ci,HX (by simp;omega)]
  subst ey;show ⟨D1,_,rfl,aK.of hD,_,rfl,?_⟩;let j9:=s1.trans s2;refine bD (fun c=>?_) (fun c=>?_)
  ·obtain ⟨b',fw,hb1⟩:=AF.mp c
   obtain ⟨l,hl,rfl⟩:=CI.mp fw;let hn:l.getD m 0≠0:=Nl hb1;exact q1 l H2 j9 (R.oy l hl) (R.oz l hl) (R.zero l hl) hn
  ·show ⟨uX,fun p3 n3=>?_⟩
   let s3:=aC n3 (.lst [V.ref aN]);show ⟨_,rfl,p3,_,_,rfl,rfl,ag,ci,ci,CT (show 1*(m:Int).toNat<=1000 by omega) cr,fun x n4=>?_⟩;let s4:=aC n4 (.lst (L' (m:Int).toNat [V.ref aN]).flatten);let LD:=(j9.trans s3).trans s4;let nx:H x=none:=(j9.trans s3).free n4;let er:(L' (m:Int).toNat [V.ref aN]).flatten=L' m (V.ref aN):=by simp
   let hp4:=s4 _ _ (s3 _ _ (s2 _ _ hp));let EX:=s4 _ _ (s3 _ _ (s2 _ _ hd));let Uc:=((hN1.gV s2).gV s3).gV s4;let dx:d≠x:=ak (s3 _ _ (s2 _ _ hd)) n4;show ⟨_,rfl,p,_,_,_,rfl,rfl,bZ.of hp4,ib,d,AD,rfl,EX,fun o=>?_⟩
   refine let I:ce:=fun t Z H'=>Nw fun (o4 o5:ω) (Sb:ζ) (qs:χ)=>Z=[ap a,some (.int (m:Int)),ap p,ap x,o4,o5]/\aq H H'/\H' d=some (.eZ o (.dK AD))/\H' x=some (.lst Sb)/\cM K H' Sb qs/\w6 H' AD nd/\Oo m t nd qs;qb (d:=d) (o:=o) (AD:=AD) I
    ⟨none,none,L' m (V.ref aN),L' m (0,1),rfl,oB LD Yx,ag,by rw [ah (FN dx),ag,er],⟨by simp,fun i u q' e1 e2=>?_⟩,Uc.put EX,⟨by simp,fun i hi=>CH hi (Vx _),fun j hj _=>by rw [σ0,mG hj]⟩⟩ (fun t Z H' _ h=>by
     obtain ⟨_,_,_,_,_,_,h,_⟩:=h
     exact h) ?_ ?_
   ·rw [σ0] at e1 e2
    by_cases z:i<m
    ·rw [mG z] at e1 e2
     cases e1;cases e2;show ⟨aN,rfl,hN _⟩
    ·rw [lH z] at e1
     cases e1
   ·rintro t k v Z H5 p7 mj ⟨o4,o5,Sb,qs,rfl,s5,hd5,hx5,Wc,hN5,F⟩ n7
    let ht:t<AD.length:=(Wp.mp mj).1;let hl5:=hN5.1;obtain ⟨c,ec⟩:∃c,nd[t]?=some c:=⟨_,gE ci⟩;obtain ⟨k1,k2⟩:=hN5.2 t _ c mj ec;let k1':k=.inl (c.1:Int):=k1;subst k1';obtain ⟨b',eb,fw⟩:=k2;let eb':v=.ref b':=eb;subst eb';let hcm:=DA ec;let xR:=R.yd c hcm;let hcc:=R.cols c hcm;let s7:=aC n7 (.tup [kV (.inl (c.1:Int)),.ref b']);let hb7:=s7 _ _ fw;show ⟨p7,_,rfl,bZ.of ag,rfl,_,_,rfl,_,_,rfl,rfl,_,rfl,_,rfl,b',_,_,_,rfl,rfl,aK.of hb7,wZ ci,_,rfl,_,rfl,b',_,_,_,rfl,rfl,aK.of hb7,wZ ci,_,_,rfl,R.here c hcm,fun p8 H8 s8 e8=>?_⟩;let Wd:=s7.trans s8;let hx8:=Wd _ _ hx5;let l2:=Wc.1;let xn:∀{b0:AO} {o0:HO},H b0=some o0->b0≠x:=fun e=>ak e nx;let dx8:=Wd _ _ hd5;show ⟨_,rfl,_,rfl,x,Sb,_,c.1,rfl,rfl,hx8,aao (by rwa [l2,F.1]),?_⟩;show ⟨_,_,Sb.set c.1 (.ref p8),qs.set c.1 (low (c.2.getD m 0) (c.2.getD c.1 0)),rfl,oB (s5.trans Wd) nx,by rwa [ah dx],ag,?_,?_,F.put R ec⟩
    ·let gw:cM K H8 (Sb.set c.1 (.ref p8)) (qs.set c.1 (low (c.2.getD m 0) (c.2.getD c.1 0))):=(Wc.gV Wd).set ⟨p8,rfl,bZ.of e8⟩
     show ⟨gw.1,fun i u q' e1 e2=>?_⟩;obtain ⟨p9,e9,h9⟩:=gw.2 i u q' e1 e2;show ⟨p9,e9,bZ.putL h9 hx8⟩
    ·let gw:=hN5.gV Wd
     show ⟨gw.1,fun i kv y e1 e2=>⟨(gw.2 i kv y e1 e2).1,?_⟩⟩;obtain ⟨p9,e9,h9⟩:=hN1.2 i kv y e1 e2 |>.2
     show ⟨p9,e9,?_⟩
     let px9:p9≠x:=fun z=>by
      have:=(s3 _ _ (s2 _ _ h9));erw [z,n4] at this
     rw [ah px9];obtain ⟨p10,e10,h10⟩:=(gw.2 i kv y e1 e2).2;erw [e9] at e10;exact h10
   ·rintro Z H5 ⟨o4,o5,Sb,qs,rfl,s5,hd5,hx5,Wc,hN5,F⟩
    let hl5:=hN5.1;rw [hl5] at F;show ⟨_,rfl,q2 x Sb qs H5 s5 nx hx5 Wc F.1 (F.sm R)⟩
def j7 (H:Hp)(r:AO)(ls:υ)(b_:Ζ):Prop:=H r=some (.lst (ls.map V.ref))/\ls.length=b_.length/\∀(i:Nat)(l:AO)(vs:ζ),ls[i]?=some l->b_[i]?=some vs->H l=some (.lst vs)
def j7.gV (h:j7 H r ls b_)(s:aq H H'):j7 H' r ls b_:=⟨s _ _ h.1,h.2.1,fun i l vs e1 e2=>s _ _ (h.2.2 i l vs e1 e2)⟩
def Shape (T B m:Nat)(gI:Ε):Prop:=∀qs∈gI,qs.length=m/\∀q∈qs,Sm T B q
def iA (K:Frag)(H:Hp)(b_:Ζ)(gI:Ε):Prop:=b_.length=gI.length/\∀(i:Nat)(vs:ζ)(qs:χ),b_[i]?=some vs->gI[i]?=some qs->cM K H vs qs
theorem iA.gV (h:iA K H b_ gI)(s:aq H H'):iA K H' b_ gI:=⟨h.1,fun i vs qs e1 e2=>(h.2 i vs qs e1 e2).gV s⟩
def Sd {Y:Type}{xs:List Y}{x y:Y}(e:(xs++[x])[j]?=some y):(j<xs.length/\xs[j]?=some y)\/(j=xs.length/\x=y):=by
 by_cases c:j<xs.length
 ·rw [Nu c] at e
  exact .inl ⟨c,e⟩
 ·rw [Qw ci] at e
  by_cases z:j-xs.length=0
  ·rw [z] at e
   exact .inr ⟨ci,MY e⟩
  ·rw [HX (by simp;omega)] at e
   cases e
def j7.snoc (h:j7 H r ls b_)(nr:r∉ls)(hD:H D=some (.lst us))(nD:D≠r):j7 (upd H r (.lst (ls.map V.ref++[.ref D]))) r (ls++[D]) (b_++[us]):=by
 obtain ⟨m1,m2,m3⟩:=h;show ⟨by rw [ag,MX];rfl,by simp [m2],fun j l vs e1 e2=>?_⟩
 rcases Sd e1 with ⟨c1,d1⟩|⟨c1,d1⟩<;>rcases Sd e2 with ⟨c2,d2⟩|⟨c2,d2⟩
 ·let ne:l≠r:=fun z=>nr (by rw [<-z];exact DA d1)
  rw [ah ne];exact m3 j l vs d1 d2
 ·omega
 ·omega
 ·subst d1 d2
  rwa [ah nD]
def j7.row (h:j7 H r ls b_){i:Nat}{vs:ζ}(e:b_[i]?=some vs):∃l,ls[i]?=some l/\H l=some (.lst vs):=by
 let hi:i<b_.length:=(Wp.mp e).1;let l1:=h.2.1;let e1:ls[i]?=some (ls[i]'ci):=gE ci;show ⟨_,e1,h.2.2 i _ _ e1 e⟩
def qk (b_:Ζ)(j:Nat):List V:=b_.map fun vs=>vs.getD j .cO
def jZ (b_:Ζ)(m:Nat):List (List V):=(OF m).map fun j=>qk b_ j
inductive uc (vs:ζ)(H:Hp)(Q:VK)(E_:XK):Prop
|mk (r:AO)(ls:υ)(b_:List (List V:_))(m:Int)(_:vs=[.ref r,.int m])(_:j7 H r ls b_)(_:0<=m)(_:m<=1000)(_:ls.length<=1000)(_:(∀vs∈b_,m<=(vs.length:Int)))(_:∀c cs H',aq H H' ->j7 H' c cs (jZ b_ m.toNat)->Q (.ref c) H')
inductive oC (vs:ζ)(H:Hp)(Q:VK)(E_:XK):Prop
|mk (r:AO)(ls:υ)(b_:List (List V:_))(m:Int)(_:vs=[.ref r,.int m])(_:j7 H r ls b_)(_:0<=m)(_:m<=1000)(_:ls.length<=1000)(_:(∀vs∈b_,m<=(vs.length:Int)))(_:∀c cs H',aq H H' ->H c=none->(∀l∈cs,H l=none)->j7 H' c cs (jZ b_ m.toNat)->Q (.ref c) H')
def Se:av ["rows","many","columns","column"] vo (ae NK):=sq
def aeR (D:Def K mg "turned" NK vo)(aZ:mg "range"=none):ac P w K mg gw 1 "turned" vo oC:=by
 refine D.op Se fun f bE A outer s H vs Q E hr h=>?_;obtain ⟨r,ls,b_,m,rfl,M,m0,m1,hn,hv,q⟩:=h
 show ⟨_,(aa (aA 2 Se.nd (bI iV)) (aa (a_ HM rfl (bV rfl aZ (aV (pv 1))) (b6 3 Se.nd) (aj (bP (sy Wg Zt Zo fT (pv 2) (aV (g6 (tn:=["row"]) (fr:=["column"]) (oV:=[3]) (a9 (pv 0)) (bL (tw (K:=K) rfl) (pv 0) (pv 1)))))))) (aj (aD (pv 2))))),?_⟩;sleep 2
 let l1:=M.2.1;show ⟨z0L,fun c nc=>?_⟩;show ⟨_,rfl,_,rfl,ci,ci,?_⟩;refine let I:ce:=fun i Z H'=>CK fun (o:ω) (cs:υ)=>Z=[ap r,some (.int m),ap c,o]/\aq H H'/\j7 H' c cs (jZ b_ i)/\c∉cs/\∀l∈cs,H l=none;cq (lo:=0) (n:=m.toNat) I ⟨none,[],rfl,aC nc _,⟨ag,rfl,fun i l vs e=>by simp at e⟩,by simp,fun l h=>by cases h⟩ ?_ ?_
 ·rintro i Z H' hi ⟨o,cs,rfl,s1,C,ncs,nws⟩
  let M':=M.gV s1;show ⟨_,rfl,.inl ⟨rfl,_,aK.of C.1⟩,_,rfl,r,rfl,⟨_,aK.of M'.1⟩,fun D nD=>?_⟩;refine dE (oY:=[some (.int ((0:Int)+i))]) (K:=K) (a:=r) (xs:=ls.map V.ref) (fun k v _=>∃vs,b_[k]?=some vs/\v=vs.getD i .cO) nD (by rw [ir];exact GG hn cr) (fun H2 s2=>aK.of (s2 _ _ M'.1)) (fun _ _ _ _ _ _ _ h=>h) ?_ ?_
  ·intro k u H2 R hu s2 kk
   rw [BJ] at hu;obtain ⟨l,el,rfl⟩:=GX.mp hu;let hk:k<ls.length:=(Wp.mp el).1;let ev:b_[k]?=some (b_[k]'ci):=gE ci;let hl:=M'.2.2 k l _ el ev
   have Yq :i<(b_[k]'ci).length:=by
    have:=hv _ (DA ev);omega
   let ea:jc (b_[k]'ci) ((0:Int)+(i:Int))=some ((b_[k]'ci).getD i .cO):=by
    rw [Ow];exact bF (by rw [gE Yq,Oq,gE Yq];rfl)
   show ⟨_,rfl,_,rfl,l,_,_,_,rfl,rfl,aK.of (s2 _ _ hl),ea,kk _ _ (aq.refl _) ⟨_,ev,rfl⟩⟩
  ·intro ys H2 hy kK s2 hD
   rw [ir] at hy
   let ey:ys=qk b_ i:=by
    refine V0 fun k=>?_;unfold qk;by_cases hk:k<ys.length
    ·let e1:ys[k]?=some ys[k]:=gE hk
     obtain ⟨vs,ev,e2⟩:=kK k _ e1;rw [e1,e2,BJ,ev];rfl
    ·rw [HX ci,HX (by simp;omega)]
   subst ey;let lc:cs.length=i:=by have:=C.2.1;simpa [jZ] using this
   let nDc:D≠c:=fun z=>by erw [z,C.1] at nD
   let fc:∀b o,H b=some o->b≠c:=fun b o e=>ak e nc;show ⟨c,_,_,rfl,rfl,s2 _ _ C.1,by rw [ir,lc];exact GG (show i<=1000 by omega) cr,?_⟩;show ⟨_,cs++[D],rfl,fun b o e=>?_,?_,fun z=>?_,fun l hl=>?_⟩
   ·rw [ah (fc b o e)]
    exact s2 _ _ (s1 _ _ e)
   ·let e:jZ b_ (i+1)=jZ b_ i++[qk b_ i]:=by simp [jZ,ak0]
    rw [e];exact (C.gV s2).snoc ncs hD nDc
   ·rcases FQ.mp z with y|y
    ·exact ncs y
    ·exact nDc (GZ.mp y).symm
   ·rcases FQ.mp hl with y|y
    ·exact nws l y
    ·rw [GZ.mp y]
     exact s1.free nD
 ·rintro Z H' ⟨o,cs,rfl,s1,C,ncs,nws⟩
  show ⟨_,rfl,q c cs H' s1 nc nws C⟩
def ahz (F:Fn P w K mg gw CX k x ps oC):Fn P w K mg gw CX k x ps uc:=by
 obtain ⟨f,fd,G,r⟩:=F.ex;show ⟨f,fd,G.imp fun vs H Q E h=>?_,r⟩;obtain ⟨r,ls,b_,m,e,h1,h2,h3,h4,h5,q⟩:=h;show ⟨r,ls,b_,m,e,h1,h2,h3,h4,h5,fun c cs H' s _ _ M=>q c cs H' s M⟩
def oE (gI:Ε)(j:Nat):List (Int×Int):=gI.map fun qs=>qs.getD j (0,1)
def aap (sh:Shape T B m gI)(hj:j<m):∀q∈oE gI j,Sm T B q:=fun q hq=>by
 unfold oE at hq;obtain ⟨qs,hqs,rfl⟩:=CI.mp hq;obtain ⟨hl,hs⟩:=sh qs hqs;rw [Oq,gE ci];exact hs _ (Rk _)
def Bd.of (h:∀t∈l,t.natAbs<=2^b):Bd b l:=fun j=>by
 by_cases hj:j<l.length
 ·let e:l[j]?=some l[j]:=gE hj
  rw [getD_mem e];exact h _ (Rk hj)
 ·rw [zaP ci]
  exact Mu _
abbrev Wl:=List Int×Int×AO×AO
def WlP (T B m:Nat)(qs:χ)(d:Int×Int)(w:Wl):Prop:=Yr w.1 (qs++[d]) w.2.1/\0<w.2.1/\w.2.1.natAbs<=2^(B*(m+1))/\∀t∈w.1,t.natAbs<=2^(T+B*(m+1))
def ahQ {Sh:η}(h:∀l∈Sh,l.length=n)(hj:j<n):qk (Sh.map fun l=>l.map V.int) j=(Sh.map fun l=>l.getD j 0).map V.int:=by
 unfold qk;rw [MI,MI];refine RI fun l hl=>?_;let hlen:=h l hl;let e:l[j]?=some (l[j]'ci):=gE ci;show (l.map V.int).getD j .cO=.int (l.getD j 0);rw [getD_mem e,Oq,BJ,e];rfl
def LF (m:Nat)(Sh:η):List (List Int):=(OF m).map (fun j=>(Sh.map fun l=>l.getD j 0)++[0])++[(Sh.map fun l=>l.getD m 0)++[1]]
def yg {o:ξ}(h:o∈LF m Sh):∃k,k<m+1/\o=(Sh.map fun l=>l.getD k 0)++[if k=m then 1 else 0]/\True:=by
 unfold LF at h
 rcases FQ.mp h with z|z
 ·obtain ⟨j,hj,rfl⟩:=CI.mp z
  let hj':j<m:=VT.mp hj;show ⟨j,ci,by rw [lH ci],trivial⟩
 ·show ⟨m,ci,by rw [mG rfl];exact GZ.mp z,trivial⟩
def aaz {ws:List Wl}(hlen:∀l∈ws.map (·.1),l.length=m+1)(hn:ws.length=n)(c0:qa (ws.map (·.1)) l0)(h0:∀j,j<m->l0.getD j 0=0)(h0m:l0.getD m 0≠0)(c1:qa (LF m (ws.map (·.1))) l1)(l1l:l1.length=n+1)(h1:∀j,j<n->l1.getD j 0=0)(hp:∀o∈LF m (ws.map (·.1)),o.length=n+1):l1.getD n 0=0:=by
 obtain ⟨y0,ly,ey⟩:=c0;have aE7 :=eV h0m;let ly':(y0.map fun a=>a*(1 / ((l0.getD m 0:Int):Rat))).length=(ws.map (·.1)).length:=by simp [ly]
 let all:∀o∈LF m (ws.map (·.1)),ev o (VQ (y0.map fun a=>a*(1 / ((l0.getD m 0:Int):Rat))))=0:=by
  intro o ho;obtain ⟨k,hk,rfl,_⟩:=yg ho;rw [ael k _ (ws.map (·.1)) _ ly',tQ,<-ey k];by_cases z:k=m
  ·subst z
   rw [mG rfl];let e':((1:Int):Rat)=1:=by simp
   rw [e'];grind
  ·rw [lH z,h0 k ci]
   simp;grind
 let e:=aep (n:=n+1) c1 ci (fun o ho=>by rw [hp o ho];exact DH _) all
 rw [afR l1 _ n (fun j hj=>by
  by_cases z:j<n
  ·rw [h1 j z]
   simp
  ·rw [zaP ci]
   simp)] at e
 let zn:VQ (y0.map fun a=>a*(1 / ((l0.getD m 0:Int):Rat))) n= -1:=by
  unfold VQ;rw [lH (by rw [ly',ir];omega)]
 rw [zn] at e;have:((l1.getD n 0:Int):Rat)=0:=by grind
 exact_mod_cast this
inductive rX (K:Frag)(vs:ζ)(H:Hp)(Q:VK)(E_:XK):Prop
|mk (r dl:AO)(m:Nat)(ls:υ)(b_:List (List V:_))(gI:Ε)(dus:ζ)(ds:χ)(T B σ:Nat)(_:vs=[.ref r,.ref dl,.int (m:Int)])(_:j7 H r ls b_)(_:iA K H b_ gI)(_:H dl=some (.lst dus))(_:cM K H dus ds)(_:ds.length=gI.length)(_:Shape T B m gI)(_:(∀d∈ds,Sm T B d))(_:m<=100)(_:gI.length<=100)(_:T<=20000)(_:B*(m+1)<=100000)(_:B<=8000)(_:bb (T+B*(m+1)) (min (m+1) gI.length)<=σ)(_:σ<=29000000)(_:(∀(p x:AO)(us:ζ)(xs:χ)(H':Hp),aq H H' ->H' p=some (.tup [.str "solved",.ref x])->H' x=some (.lst us)->cM K H' us xs->xs.length=m->(∀q∈xs,Sm σ σ q)->Q (.ref p) H'))(_:(∀(p y:AO)(us:ζ)(ys:χ)(H':Hp),aq H H' ->H' p=some (.tup [.str "paper",.ref y])->H' y=some (.lst us)->cM K H' us ys->ys.length=gI.length->(∀q∈ys,Sm (σ+B*(m+1)) σ q)->Q (.ref p) H'))
def ud:av ["rows","due","many","wholes","lines","x","columns","papers","shares"] CZ (ae NJ):=sq
def aeS (D:Def K mg "solve_rows" NJ CZ)(gQ:mg "zip"=none)(aX:mg "len"=none)(am0:ac P w K mg gw 2 "whole_row" ["row"] (aaj K))(aeT:ac P w K mg gw 36 "solution_of" VY (mV K))(aaq:ac P w K mg gw 1 "turned" vo uc)(ua:ac P w K mg gw 33 "lowest_terms" VE ft):
  ac P w K mg gw 37 "solve_rows" CZ (rX K):=by
 refine D.op ud fun f bE A outer s H vs Q E hr h=>?_;obtain ⟨r,dl,m,ls,b_,gI,dus,ds,T,B,σ,rfl,M,NN,hdl,ND,hds,sh,sd,hm,hn,hT,hB,hB1,hZ,hZ1,q1,q2⟩:=h
 show ⟨_,(aa (GN (i:=3) (tn:=["row","number"]) (fr:=[]) (oV:=[]) ud.nd (xZ rfl gQ (aF (pv 0) (pv 1))) (fun _ _ _ _=>(x3 (K:=K) (n:=2) rfl rfl (bu (fC (i:=0) (show (["row","number"]:List Str).Nodup from by decide+kernel) rfl (RY rfl)) (bu (fC (i:=1) (show (["row","number"]:List Str).Nodup from by decide+kernel) rfl (RY rfl)) e_)))) (fun _ _ _ _=>tf) (RW am0 hr (aV (aw fU (pv 0) (bI (aV (pv 1))))))) (aa (qf (i:=4) (tn:=["whole"]) (fr:=[]) (oV:=[]) ud.nd (a9 (pv 3)) (bL (fF (K:=K) rfl) (pv 0) af)) (aa (aA 5 ud.nd (aU aeT hr (aF (pv 4) (pv 2)))) (aa (bh (bg ahn (pv 5) kc) (aj (aD (aJ (aF bT (pv 5))))) aI) (aa (aA 6 ud.nd (aU aaq hr (aF (pv 4) (aw bG (pv 2) af)))) (aa (aA 7 ud.nd (aw fU (g6 (tn:=["column"]) (fr:=[]) (oV:=[]) (a9 (bY cX (pv 6) cP (cC (pv 2)))) (aw fU (pv 0) (bI (aV af)))) (bI (aV (aw fU (bL aQ (pv 6) (pv 2)) (bI (aV af))))))) (aa (aA 8 ud.nd (aU aeT hr (aF (pv 7) (aR aH rfl aX cA (aV (pv 4)))))) (aj (aD (aJ (aF bT (GL (tn:=za1) (fr:=[]) (oV:=[]) (xZ rfl gQ (aF (pv 8) (pv 3))) (fun _ _ _ _=>(x3 (K:=K) (n:=2) rfl rfl (bu (fC (i:=0) (show (za1:List Str).Nodup from by decide+kernel) rfl (RY rfl)) (bu (fC (i:=1) (show (za1:List Str).Nodup from by decide+kernel) rfl (RY rfl)) e_)))) (fun _ _ _ _=>tf) (RW ua hr (aF (aw lW (bL (fF (K:=K) rfl) (pv 0) af) (bL (fF (K:=K) rfl) (pv 1) af)) (bL (fF (K:=K) rfl) (pv 0) af))))))))))))))),?_⟩;sleep 6
 let l1:=M.2.1;let l2:=NN.1;let l3:=ND.1;show ⟨_,rfl,_,rfl,r,dl,rfl,⟨_,aK.of M.1⟩,⟨_,aK.of hdl⟩,fun D1 n1=>?_⟩;refine acK (oY:=[]) (K:=K) (xs:=ls.map V.ref) (ys:=dus) (fun i v H=>∃w:Wl,v=.ref w.2.2.2/\w.2.2.1≠D1/\H w.2.2.2=some (.tup [.ref w.2.2.1,.int w.2.1])/\H w.2.2.1=some (.lst (w.1.map V.int))/\∀qs d,gI[i]?=some qs->ds[i]?=some d->WlP T B m qs d w) n1 (by rw [ir];exact GG (show ls.length<=1000 by omega) cr) (by rw [ir];omega) (fun H2 s2=>aK.of (s2 _ _ M.1)) (fun H2 s2=>aK.of (s2 _ _ hdl)) ?_ ?_ ?_
 ·rintro i v H2 H3 ys hD ks ⟨w,e1,e2,e3,e4,e5⟩
  show ⟨w,e1,e2,ks _ _ (fun z=>by erw [z,hD] at e3) e3,ks _ _ e2 e4,e5⟩
 ·rintro i x y H2 RR ex ey s2 ⟨ys0,hD0⟩ kk
  rw [BJ] at ex;obtain ⟨l,el,rfl⟩:=GX.mp ex;let hi:i<ls.length:=(Wp.mp el).1;obtain ⟨qs,eq⟩:∃qs,gI[i]?=some qs:=⟨_,gE ci⟩;obtain ⟨vs,ev⟩:∃vs,b_[i]?=some vs:=⟨_,gE ci⟩;let hl:=M.2.2 i l vs el ev;let hq:=NN.2 i vs qs ev eq;obtain ⟨d,ed,nd⟩:=ND.at ey;obtain ⟨lq,sq⟩:=sh qs (DA eq);let lvs:=hq.1;show ⟨_,rfl,_,rfl,uX,fun p1 np1=>?_⟩;let t1:=aC np1 (.lst [y]);show ⟨l,p1,vs,_,rfl,rfl,t1 _ _ (s2 _ _ hl),ag,CT (show vs.length+1<=1000 by omega) cr,fun p2 np2=>?_⟩;let t2:=aC np2 (.lst (vs++[y]));let t12:=t1.trans t2;show ⟨p2,qs++[d],T,B,rfl,⟨_,aK.of ag,(cM.snoc ((hq.gV s2).gV t12) ((nd.gV s2).gV t12))⟩,fun q' pE =>?_,hT,by rwa [IA,lq],hB1,by rw [IA,lq];show m+1<=1000;omega,fun p3 l3' ts b H3 s3 nl hp3 hl3 hb hbs wh hts=>?_⟩
  ·rcases FQ.mp pE with z|z
   ·exact sq q' z
   ·rw [GZ.mp z]
    exact sd d (DA ed)
  ·refine kk _ _ (t12.trans s3) ⟨(ts,b,l3',p3),rfl,fun z=>?_,hp3,hl3,fun RL d' e1 e2=>?_⟩
   ·have:=t12 _ _ hD0
    erw [show l3'=D1 from z,this] at nl
   ·rw [eq] at e1
    rw [ed] at e2;cases e1;cases e2;rw [IA,lq] at hbs hts;show ⟨wh,hb,hbs,hts⟩
 ·intro zs H2 hz kK s2 hD1
  rw [ir] at hz;obtain ⟨ws,lw,hw⟩:=qi (P:=fun i v (w:Wl)=>v=.ref w.2.2.2/\w.2.2.1≠D1/\H2 w.2.2.2=some (.tup [.ref w.2.2.1,.int w.2.1])/\H2 w.2.2.1=some (.lst (w.1.map V.int))/\∀qs d,gI[i]?=some qs->ds[i]?=some d->WlP T B m qs d w) zs kK
  let ez:zs=ws.map (fun w=>V.ref w.2.2.2):=by
   refine V0 fun i=>?_;rw [BJ];by_cases hi:i<zs.length
   ·let e1:zs[i]?=some zs[i]:=gE hi
    let e2:ws[i]?=some (ws[i]'ci):=gE ci;let h:=(hw i _ _ e1 e2).1;rw [e1,e2,h];rfl
   ·rw [HX ci,HX ci]
    rfl
  subst ez;let lwn:ws.length=gI.length:=ci
  let wat:∀(i:Nat)(w:Wl),ws[i]?=some w->H2 w.2.2.2=some (.tup [.ref w.2.2.1,.int w.2.1])/\H2 w.2.2.1=some (.lst (w.1.map V.int))/\∀qs d,gI[i]?=some qs->ds[i]?=some d->WlP T B m qs d w:=fun i w e=>(hw i _ w (by rw [BJ,e];rfl) e).2.2
  let wp:∀(i:Nat)(w:Wl),ws[i]?=some w->∃qs d,gI[i]?=some qs/\ds[i]?=some d/\WlP T B m qs d w:=fun i w e=>by
   let hi:i<ws.length:=(Wp.mp e).1;obtain ⟨qs,eq⟩:∃qs,gI[i]?=some qs:=⟨_,gE ci⟩;obtain ⟨d,ed⟩:∃d,ds[i]?=some d:=⟨_,gE ci⟩;show ⟨qs,d,eq,ed,(wat i w e).2.2 qs d eq ed⟩
  let We:∀l∈ws.map (·.1),l.length=m+1:=fun l hl=>by
   obtain ⟨w,hw',rfl⟩:=CI.mp hl;obtain ⟨i,e⟩:=MF hw';obtain ⟨qs,d,eq,_,wh,_⟩:=wp i w e;have:=wh.1;rwa [IA,(sh qs (DA eq)).1] at this
  let wbd:∀l∈ws.map (·.1),Bd (T+B*(m+1)) l:=fun l hl=>by
   obtain ⟨w,hw',rfl⟩:=CI.mp hl;obtain ⟨i,e⟩:=MF hw';obtain ⟨qs,d,eq,_,_,_,_,h⟩:=wp i w e;exact Bd.of h
  let hlm:(ws.map (·.1)).length=gI.length:=by rwa [ir]
  show ⟨_,rfl,D1,rfl,⟨_,aK.of hD1⟩,fun D2 n2=>?_⟩;refine dE (oY:=[]) (K:=K) (a:=D1) (xs:=ws.map (fun w=>V.ref w.2.2.2)) (fun k v _=>∃w,ws[k]?=some w/\v=.ref w.2.2.1) n2 (by rw [ir];exact GG (show ws.length<=1000 by omega) cr) (fun H3 s3=>aK.of (s3 _ _ hD1)) (fun _ _ _ _ _ _ _ h=>h) ?_ ?_
  ·intro k x H3 RR ex s3 kk
   rw [BJ] at ex;obtain ⟨w,ew,rfl⟩:=GX.mp ex;show ⟨_,rfl,w.2.2.2,_,_,_,rfl,rfl,bZ.of (s3 _ _ (wat k w ew).1),ib,kk _ _ (aq.refl _) ⟨w,ew,rfl⟩⟩
  intro ys H3 hy aeW s3 hD2
  let ey:ys=(ws.map (fun w=>w.2.2.1)).map V.ref:=by
   refine V0 fun i=>?_;rw [ir] at hy;by_cases hi:i<ys.length
   ·let e1:ys[i]?=some ys[i]:=gE hi
    obtain ⟨w,e2,e3⟩:=aeW i _ e1;rw [e1,e3,BJ,BJ,e2];rfl
   ·rw [HX ci,HX (by simp;omega)]
  subst ey
  let hLl:vb H3 ((ws.map (fun w=>w.2.2.1)).map V.ref) (ws.map (·.1)):=⟨by simp,fun i u l e1 e2=>by
   rw [BJ,BJ] at e1;rw [BJ] at e2;cases e:ws[i]? with
   | none=>erw [e] at e2
   | some w=>
    rw [e] at e1 e2;cases e1;cases e2
    show ⟨w.2.2.1,rfl,s3 _ _ (wat i w e).2.1⟩⟩
  let hMm:j7 H3 D2 (ws.map (fun w=>w.2.2.1)) ((ws.map (·.1)).map fun l=>l.map V.int):=⟨hD2,by simp,fun i l vs e1 e2=>by
   rw [BJ] at e1;rw [BJ,BJ] at e2;cases e:ws[i]? with
   | none=>erw [e] at e2
   | some w=>
    rw [e] at e1 e2;cases e1;cases e2
    exact s3 _ _ (wat i w e).2.1⟩
  let mn:bb (T+B*(m+1)) (min m (ws.map (·.1)).length)<=σ:=CT (ye _ (by rw [hlm];omega)) hZ;let s23:=s2.trans s3;show ⟨_,rfl,_,rfl,D2,_,ws.map (·.1),m,T+B*(m+1),rfl,aK.of hD2,hLl,We,ci,ci,wbd,CT mn hZ1,fun l0 H4 s4 l0l cm l00 l0m=>?_,fun x pF xs H4 s4 nx hx nxs lxs sxs=>?_⟩
  ·show ⟨_,rfl,rfl,_,rfl,bD (fun z=>by simp at z) (fun _=>?_)⟩
   let M4:=hMm.gV s4;show ⟨_,rfl,_,rfl,_,_,rfl,rfl,D2,ws.map (fun w=>w.2.2.1),_,(m:Int)+1,rfl,M4,ci,ci,by rw [ir];omega,fun vs hvs=>?_,fun c cs H5 s5 M5=>?_⟩
   ·obtain ⟨l,hl,rfl⟩:=CI.mp hvs
    rw [ir,We l hl];omega
   let lcs:cs.length=m+1:=by
    have:=M5.2.1;unfold jZ at this;simp at this;omega
   let col:∀k,k<m+1->∃l,cs[k]?=some l/\H5 l=some (.lst (((ws.map (·.1)).map fun l=>l.getD k 0).map V.int)):=fun k hk=>by
    let e:(jZ ((ws.map (·.1)).map fun l=>l.map V.int) ((m:Int)+1).toNat)[k]?=some (((ws.map (·.1)).map fun l=>l.getD k 0).map V.int):=by
     rw [<-ahQ We hk];unfold jZ;rw [BJ,AK ci];rfl
    exact M5.row e
   show ⟨_,rfl,_,rfl,_,rfl,c,_,rfl,aK.of M5.1,fun p6 n6=>?_⟩;let t6:=aC n6 (.lst (iW (cs.map V.ref) none (some (m:Int))));show ⟨p6,rfl,⟨_,aK.of ag⟩,fun D6 nD6=>?_⟩;let lcl:((ws.map (·.1)).map fun l=>l.getD 0 0).length<=100:=by simp;omega
   refine tE (oY:=[]) (K:=K) (a:=p6) (xs:=(cs.map V.ref).take m) (fun k v H=>∃p,v=.ref p/\p≠D6/\H p=some (.lst ((List.map (fun l:List Int=>l.getD k 0) (ws.map (fun w:Wl=>w.1))++[(0:Int)]).map V.int))) nD6 (GG (show ((cs.map V.ref).take m).length<=1000 by simp;omega) cr) (fun H7 s7=>aK.of (s7 _ _ (by rw [ag,jL (by simp;omega)]))) ?_ ?_ ?_
   ·rintro k v H7 H8 ys hD ks ⟨p,e1,e2,e3⟩
    show ⟨p,e1,e2,ks _ _ e2 e3⟩
   ·rintro k x H7 RR ex s7 ⟨ys0,R_⟩ kk
    let hk:k<m:=by have:=(Wp.mp ex).1;simp at this;omega
    obtain ⟨l,el,hl⟩:=col k ci;erw [List.getElem?_take,mG hk,BJ,el] at ex;show ⟨_,rfl,uX,fun pz nz=>?_⟩;let tz:=aC nz (.lst [.int 0]);show ⟨l,pz,_,_,rfl,rfl,tz _ _ (s7 _ _ (t6 _ _ hl)),ag,CT (show _<=1000 by simp;omega) cr,fun pn nn=>?_⟩;let tn:=aC nn (.lst (((ws.map (·.1)).map fun l=>l.getD k 0).map V.int++[.int 0]));refine kk _ _ (tz.trans tn) ⟨pn,rfl,fun z=>?_,by rw [ag,MX];rfl⟩;have:=tz _ _ R_;erw [z,this] at nn
   intro Ud H7 hy6 aeX s7 hD6;let ly6:Ud.length=m:=by rw [hy6];simp;omega
   let t67:=t6.trans s7;obtain ⟨lm,elm,am5⟩:=col m ci;show ⟨_,rfl,_,rfl,c,_,_,_,rfl,rfl,aK.of (t67 _ _ M5.1),bF (by rw [BJ,elm];rfl),uX,fun pz nz=>?_⟩;let tz:=aC nz (.lst [.int 1]);show ⟨lm,pz,_,_,rfl,rfl,tz _ _ (t67 _ _ am5),ag,CT (show _<=1000 by simp;omega) cr,fun pn nn=>?_⟩;let tn:=aC nn (.lst (((ws.map (·.1)).map fun l=>l.getD m 0).map V.int++[.int 1]));show ⟨uX,fun pL nL=>?_⟩;let tL:=aC nL (.lst [V.ref pn]);let tzL:=(tz.trans tn).trans tL;show ⟨D6,pL,Ud,_,rfl,rfl,tzL _ _ hD6,ag,CT (show Ud.length+1<=1000 by omega) cr,fun pP nP=>?_⟩;let tP:=aC nP (.lst (Ud++[V.ref pn]));let s7P:=tzL.trans tP;let hpn:=tP _ _ (tL _ _ (ag (H:=upd H7 pz (.lst [.int 1])) (a:=pn) (o:=.lst (((ws.map (·.1)).map fun l=>l.getD m 0).map V.int++[.int 1]))));let eP:upd (upd (upd (upd H7 pz (.lst [.int 1])) pn (.lst (((ws.map (·.1)).map fun l=>l.getD m 0).map V.int++[.int 1]))) pL (.lst [V.ref pn])) pP (.lst (Ud++[V.ref pn])) pP=some (.lst (Ud++[V.ref pn])):=ag
   let am7:∀(k:Nat)(v:V),Ud[k]?=some v->Ln H7 v (((ws.map (·.1)).map fun l=>l.getD k 0)++[0]):=fun k v e=>by
    obtain ⟨p,e1,_,e3⟩:=aeX k v e;show ⟨p,e1,e3⟩
   let s5P:=t67.trans s7P;generalize upd (upd (upd (upd H7 pz (.lst [.int 1])) pn (.lst (((ws.map (·.1)).map fun l=>l.getD m 0).map V.int++[.int 1]))) pL (.lst [V.ref pn])) pP (.lst (Ud++[V.ref pn]))=H9 at*
   let am8:vb H9 (Ud++[V.ref pn]) (LF m (ws.map (·.1))):=by
    show ⟨by simp [LF,ly6],fun k u l e1 e2=>?_⟩;unfold LF at e2;by_cases hk:k<m
    ·rw [Nu ci] at e1
     erw [Nu (by simpa using hk),BJ,AK hk] at e2;exact (am7 k u e1).gV s7P
    ·rw [Qw ci] at e1
     rw [Qw (by simp;omega)] at e2;by_cases hkm:k=m
     ·subst hkm
      rw [show k-Ud.length=0 by omega] at e1;rw [show k-((OF k).map fun j=>((ws.map (·.1)).map fun l=>l.getD j 0)++[0]).length=0 by simp] at e2;cases e1;cases e2;show ⟨pn,rfl,by rw [hpn,MX];rfl⟩
     ·rw [HX (by simp;omega)] at e1
      cases e1
   let ppl:∀o∈LF m (ws.map (·.1)),o.length=gI.length+1:=fun o ho=>by
    rcases yg ho with ⟨k,hk,e⟩
    rw [e.1];simp [lwn]
   let ppb:∀o∈LF m (ws.map (·.1)),Bd (T+B*(m+1)) o:=fun o ho=>by
    rcases yg ho with ⟨k,hk,e,hc⟩
    rw [e];refine Bd.of fun t ht=>?_
    rcases FQ.mp ht with z|z
    ·obtain ⟨l,hl,rfl⟩:=CI.mp z
     exact wbd l hl k
    ·rw [GZ.mp z]
     refine CT ?_ (RA (n:=T+B*(m+1)));split<;>decide
   let lpp:(LF m (ws.map (·.1))).length=m+1:=by simp [LF]
   let mn2:bb (T+B*(m+1)) (min gI.length (LF m (ws.map (·.1))).length)<=σ:=CT (ye _ (by rw [lpp];omega)) hZ;let s39:=(s4.trans s5).trans s5P;show ⟨_,rfl,_,rfl,D2,_,rfl,.inl (aK.of (s39 _ _ hD2)),pP,_,LF m (ws.map (·.1)),gI.length,T+B*(m+1),by simp [lwn],aK.of eP,am8,ppl,ci,ci,ppb,CT mn2 hZ1,fun l1 QZ BB l1l cm1 l10 l1m=>?_,fun x2 Sb ss QZ BB nx2 MG nss lss sss=>?_⟩
   ·exact CH (aaz We lwn cm l00 l0m cm1 l1l l10 ppl) l1m
   let aar:=s39.trans BB;let aeZ:=aar _ _ (s3 _ _ hD1);let aFv:=nss.1;show ⟨_,rfl,_,rfl,x2,D1,rfl,⟨_,aK.of MG⟩,⟨_,aK.of aeZ⟩,fun D9 n9=>?_⟩;refine zv3 (oY:=[]) (K:=K) (xs:=Sb) (ys:=ws.map (fun w=>V.ref w.2.2.2)) (fun k v H=>∃w q,ws[k]?=some w/\ss[k]?=some q/\Nm H v (low (q.1*w.2.1) q.2)) n9 (GG (show Sb.length<=1000 by omega) cr) (by rw [ir];omega) (fun Pw zX=>aK.of (zX _ _ MG)) (fun Pw zX=>aK.of (zX _ _ aeZ)) ?_ ?_ ?_
   ·rintro k v Pw H12 ys hD ks ⟨w,q,e1,e2,e3⟩
    show ⟨w,q,e1,e2,e3.kept hD ks⟩
   ·intro k x y Pw RR ex ey zX kk
    obtain ⟨q,eq',ps,rfl,hps⟩:=nss.at ex;rw [BJ] at ey;obtain ⟨w,ew,rfl⟩:=GX.mp ey;obtain ⟨qs,d,eqs,eds,wh,wb,wbs,_⟩:=wp k w ew;let sq:=sss q (DA eq');let hw1:=zX _ _ (aar _ _ (s3 _ _ (wat k w ew).1));let ae0:=Ty.aq.dI zX hps;show ⟨_,rfl,ps,_,_,_,rfl,rfl,ae0,ib,_,rfl,w.2.2.2,_,_,_,rfl,rfl,bZ.of hw1,iD,_,_,rfl,rfl,jo (tD sq.top mn2) wbs ci,_,rfl,ps,_,_,_,rfl,rfl,ae0,iD,_,_,rfl,by have:=sq.pos;omega,fun p8 H8 s8 e8=>kk _ _ s8 ⟨w,q,ew,eq',p8,rfl,e8⟩⟩
   intro us9 Pw h9 ae1 zX hD9;show ⟨qZ,fun p12 n12=>?_⟩;let j9:=aC n12 (.tup [.str "paper",.ref D9]);let yat:∀(k:Nat)(w:Wl)(q:Int×Int),ws[k]?=some w->ss[k]?=some q->(Ss (fun (w:Wl) (q:Int×Int)=>low (q.1*w.2.1) q.2) ws ss)[k]?=some (low (q.1*w.2.1) q.2):=fun k w q e1 e2=>by rw [AS,e1,e2]
   let aat:(Ss (fun (w:Wl) (q:Int×Int)=>low (q.1*w.2.1) q.2) ws ss).length=gI.length:=by simp [lwn,lss]
   refine q2 p12 D9 us9 (Ss (fun (w:Wl) (q:Int×Int)=>low (q.1*w.2.1) q.2) ws ss) _ (((s23.trans aar).trans zX).trans j9) ag (j9 _ _ hD9) ⟨by rw [h9,aat];omega,fun k u y e1 e2=>?_⟩ aat fun y hy=>?_
   ·obtain ⟨w,q,ew,eq',p,e,hp⟩:=ae1 k u e1
    erw [yat k w q ew eq'] at e2;show ⟨p,e,bZ.of (j9 _ _ hp)⟩
   ·obtain ⟨k,hk⟩:=MF hy
    let hkl:k<gI.length:=by rw [<-aat];exact (Wp.mp hk).1
    obtain ⟨w,ew⟩:∃w,ws[k]?=some w:=⟨_,gE ci⟩;obtain ⟨q,eq'⟩:∃q,ss[k]?=some q:=⟨_,gE ci⟩;erw [yat k w q ew eq'] at hk;obtain ⟨qs,d,eqs,eds,wh,wb,wbs,_⟩:=wp k w ew;let sq:=sss q (DA eq');exact akh (by have:=sq.pos;omega) (x4 (tD sq.top mn2) wbs) (tD sq.bot mn2)
  ·show ⟨_,rfl,rfl,_,rfl,bD (fun _=>?_) (fun z=>by simp at z)⟩
   show ⟨_,rfl,qZ,fun p5 n5=>?_⟩;let s5:=aC n5 (.tup [.str "solved",.ref x]);exact q1 p5 x pF xs _ ((s23.trans s4).trans s5) ag (s5 _ _ hx) (nxs.gV s5) lxs fun q hq=>(sxs q hq).up mn mn
inductive kQ (C:AO)(f:Str)(vs:ζ)(H:Hp)(Q:VK)(E_:XK):Prop
|mk (a:AO)(v:V)(_:vs=[.ref a,v])(_:H a=some (jf C a none))(_:∀(d:AO)(H':Hp),(∀b o,b≠a->H b=some o->H' b=some o)->H d=none->H' d=some (MM d [(f,v)])->H' a=some (jf C a (some d))->Q .cO H')
def g7 (H:Hp)(E:XK)(C:AO)(f:Str)(v:V):Prop:=∀(d:AO)(H':Hp),aq H H' ->H d=none->H' d=some (MM d [(f,v)])->E (.ref C) (some d) H'
def g7.go (h:g7 H E C f v):∀e,H e=none->kQ C f [.ref e,v] (upd H e (jf C e none)) (fun v' H2=>v'=.cO/\∃dx,H2 e=some (jf C e dx)/\E (.ref C) dx (nY H2 e)) E0:=fun e ne=>by
 show ⟨e,v,rfl,ag,fun d H' k nd hd he=>⟨rfl,some d,he,?_⟩⟩;let de:d≠e:=fun z=>by erw [z,ag] at nd
 rw [ah de] at nd;refine h d (nY H' e) (fun b o z=>?_) nd ?_
 ·let be:b≠e:=ak z ne
  rw [eR be];exact k b o be (by rwa [ah be])
 ·rw [eR de]
  exact hd
def YA (f:Str)(v:V):Q3 f [(f,v)]=some v:=by simp [Q3]
def ae2:av Np Np (ae N9):=sq
def ae3 (F:qH K "__init__" "NoPin.__init__" N9 f fd)(hY:BA K α)(mW:mg "YardError"=some (.ref α))(xf:mH.nX K C "pin")(hv:Ra K C (.type "ValueError")=some true):ad P w K mg gw 1 f fd Np (kQ C "pin"):=by
 refine fH F ae2 fun H hr h=>?_;obtain ⟨a,v,rfl,ea,q⟩:=h
 show ⟨_,(aa (bP (xU hY mW (aF (pv 0) (pv 1)))) (aj (xV (pv 0) (pv 1) rfl))),?_⟩
 show ⟨_,rfl,_,rfl,a,C,none,[v],rfl,ea,xf.k,hv,uX,_,rfl,_,rfl,a,C,rfl,xf,.inl ⟨ea,fun d nd ne=>?_⟩⟩;refine q d _ (fun b o n e=>by rwa [ah n,ah (ak e nd)]) nd ?_ ag;rw [ah ne,ag]
def ae4:av Qx Qx (ae N_):=sq
def ae5 (F:qH K "__init__" "NoBar.__init__" N_ f fd)(hY:BA K α)(mW:mg "YardError"=some (.ref α))(xf:mH.nX K C "bar")(hv:Ra K C (.type "ValueError")=some true):ad P w K mg gw 1 f fd Qx (kQ C "bar"):=by
 refine fH F ae4 fun H hr h=>?_;obtain ⟨a,v,rfl,ea,q⟩:=h
 show ⟨_,(aa (bP (xU hY mW (aF (pv 0) (pv 1)))) (aj (xV (pv 0) (pv 1) rfl))),?_⟩
 show ⟨_,rfl,_,rfl,a,C,none,[v],rfl,ea,xf.k,hv,uX,_,rfl,_,rfl,a,C,rfl,xf,.inl ⟨ea,fun d nd ne=>?_⟩⟩;refine q d _ (fun b o n e=>by rwa [ah n,ah (ak e nd)]) nd ?_ ag;rw [ah ne,ag]
def aeQ:av Qx Qx (ae dG):=sq
def adf (F:qH K "__init__" "NoGrip.__init__" dG f fd)(hY:BA K α)(mW:mg "YardError"=some (.ref α))(xf:mH.nX K C "bar")(hv:Ra K C (.type "ValueError")=some true):ad P w K mg gw 1 f fd Qx (kQ C "bar"):=by
 refine fH F aeQ fun H hr h=>?_;obtain ⟨a,v,rfl,ea,q⟩:=h
 show ⟨_,(aa (bP (xU hY mW (aF (pv 0) (pv 1)))) (aj (xV (pv 0) (pv 1) rfl))),?_⟩
 show ⟨_,rfl,_,rfl,a,C,none,[v],rfl,ea,xf.k,hv,uX,_,rfl,_,rfl,a,C,rfl,xf,.inl ⟨ea,fun d nd ne=>?_⟩⟩;refine q d _ (fun b o n e=>by rwa [ah n,ah (ak e nd)]) nd ?_ ag;rw [ah ne,ag]
inductive jM (K:Frag)(f:Int×Int->Int×Int->Int×Int)(vs:ζ)(H:Hp)(Q:VK)(E_:XK):Prop
|mk (u v:V)(x y:Int×Int)(_:vs=[u,v])(_:jy K H u x)(_:jy K H v y)(_:mi 8000000 x)(_:mi 8000000 y)(_:gives H Q (f x y))
def ab8:av FY FY (ae iy):=sq
def ag6 (hM:rl CX)(D:Def K mg "sum_of" iy FY)(ua:Fn P w K mg gw CX 33 "lowest_terms" VE ft):Fn P w K mg gw CX 34 "sum_of" FY (jM K addQ):=by
 refine D.op ab8 fun f bE A outer s H vs Q E hr h=>?_;obtain ⟨u,v,x,y,rfl,⟨p1,rfl,h1⟩,⟨p2,rfl,h2⟩,k1,k2,q⟩:=h;let px:=kF (X:=j6 CX P w K mg gw FY "sum_of" (ae iy) f bE A outer s H E) hM;show ⟨_,(aj (aD (cR ua hr.mo px (aF (aw bG (aw b9 (aG (pv 0)) (aG (pv 1))) (aw b9 (aG (pv 1)) (aG (pv 0)))) (aw b9 (aG (pv 0)) (aG (pv 1))))))),?_⟩;let b1:=k1.top;let b2:=k1.bot;let b3:=k2.top;let b4:=k2.bot;let c:∀{i j:Int},intBits i<=8000000->intBits j<=8000000->qI i j:=fun a b=>⟨CT a cr,CT b cr⟩;show ⟨_,rfl,p1,_,_,_,rfl,rfl,h1,ib,_,rfl,p2,_,_,_,rfl,rfl,h2,iD,_,_,rfl,rfl,c b1 b4,_,rfl,p2,_,_,_,rfl,rfl,h2,ib,_,rfl,p1,_,_,_,rfl,rfl,h1,iD,_,_,rfl,rfl,c b3 b2,_,_,rfl,rfl,_,rfl,p1,_,_,_,rfl,rfl,h1,iD,_,rfl,p2,_,_,_,rfl,rfl,h2,iD,_,_,rfl,rfl,c b2 b4,_,_,rfl,ou k1 k2,q⟩
def ae6:av FY FY (ae GO):=sq
def ae7 (hM:rl CX)(D:Def K mg "difference_of" GO FY)(ua:Fn P w K mg gw CX 33 "lowest_terms" VE ft):Fn P w K mg gw CX 34 "difference_of" FY (jM K subQ):=by
 refine D.op ae6 fun f bE A outer s H vs Q E hr h=>?_;obtain ⟨u,v,x,y,rfl,⟨p1,rfl,h1⟩,⟨p2,rfl,h2⟩,k1,k2,q⟩:=h;let px:=kF (X:=j6 CX P w K mg gw FY "difference_of" (ae GO) f bE A outer s H E) hM;show ⟨_,(aj (aD (cR ua hr.mo px (aF (aw cJ (aw b9 (aG (pv 0)) (aG (pv 1))) (aw b9 (aG (pv 1)) (aG (pv 0)))) (aw b9 (aG (pv 0)) (aG (pv 1))))))),?_⟩;let b1:=k1.top;let b2:=k1.bot;let b3:=k2.top;let b4:=k2.bot;let c:∀{i j:Int},intBits i<=8000000->intBits j<=8000000->qI i j:=fun a b=>⟨CT a cr,CT b cr⟩;show ⟨_,rfl,p1,_,_,_,rfl,rfl,h1,ib,_,rfl,p2,_,_,_,rfl,rfl,h2,iD,_,_,rfl,rfl,c b1 b4,_,rfl,p2,_,_,_,rfl,rfl,h2,ib,_,rfl,p1,_,_,_,rfl,rfl,h1,iD,_,_,rfl,rfl,c b3 b2,_,_,rfl,rfl,_,rfl,p1,_,_,_,rfl,rfl,h1,iD,_,rfl,p2,_,_,_,rfl,rfl,h2,iD,_,_,rfl,rfl,c b2 b4,_,_,rfl,ou k1 k2,q⟩
def zaT:av FY FY (ae dk):=sq
def zaR (hM:rl CX)(D:Def K mg "product_of" dk FY)(ua:Fn P w K mg gw CX 33 "lowest_terms" VE ft):Fn P w K mg gw CX 34 "product_of" FY (jM K mulQ):=by
 refine D.op zaT fun f bE A outer s H vs Q E hr h=>?_;obtain ⟨u,v,x,y,rfl,⟨p1,rfl,h1⟩,⟨p2,rfl,h2⟩,k1,k2,q⟩:=h;let px:=kF (X:=j6 CX P w K mg gw FY "product_of" (ae dk) f bE A outer s H E) hM;show ⟨_,(aj (aD (cR ua hr.mo px (aF (aw b9 (aG (pv 0)) (aG (pv 1))) (aw b9 (aG (pv 0)) (aG (pv 1))))))),?_⟩;let b1:=k1.top;let b2:=k1.bot;let b3:=k2.top;let b4:=k2.bot;let c:∀{i j:Int},intBits i<=8000000->intBits j<=8000000->qI i j:=fun a b=>⟨CT a cr,CT b cr⟩;show ⟨_,rfl,p1,_,_,_,rfl,rfl,h1,ib,_,rfl,p2,_,_,_,rfl,rfl,h2,ib,_,_,rfl,rfl,c b1 b3,_,rfl,p1,_,_,_,rfl,rfl,h1,iD,_,rfl,p2,_,_,_,rfl,rfl,h2,iD,_,_,rfl,rfl,c b2 b4,_,_,rfl,ou k1 k2,q⟩
inductive i7 (K:Frag)(f:Rat->Rat->Rat)(vs:ζ)(H:Hp)(Q:VK)(E_:XK):Prop
|mk (u v:V)(x y:Rat)(_:vs=[u,v])(_:fe K H u x)(_:fe K H v y)(_:Sz 8000000 x)(_:Sz 8000000 y)(_:gives H Q (qr (f x y)))
def kR (h:Sz k r):mi k (qr r):=⟨cZ r,h.top,h.bot⟩
def aau (F:Fn P w K mg gw CX k x ps (jM K addQ)):Fn P w K mg gw CX k x ps (i7 K fun a b=>a+b):=by
 obtain ⟨f,fd,G,r⟩:=F.ex;show ⟨f,fd,G.imp fun vs H Q E h=>?_,r⟩;obtain ⟨u,v,a,b,e,h1,h2,k1,k2,q⟩:=h;show ⟨u,v,qr a,qr b,e,h1,h2,kR k1,kR k2,?_⟩;unfold addQ;rwa [ae_]
def aav (F:Fn P w K mg gw CX k x ps (jM K subQ)):Fn P w K mg gw CX k x ps (i7 K fun a b=>a-b):=by
 obtain ⟨f,fd,G,r⟩:=F.ex;show ⟨f,fd,G.imp fun vs H Q E h=>?_,r⟩;obtain ⟨u,v,a,b,e,h1,h2,k1,k2,q⟩:=h;show ⟨u,v,qr a,qr b,e,h1,h2,kR k1,kR k2,?_⟩;unfold subQ;rwa [aeY]
def aaw (F:Fn P w K mg gw CX k x ps (jM K mulQ)):Fn P w K mg gw CX k x ps (i7 K fun a b=>a*b):=by
 obtain ⟨f,fd,G,r⟩:=F.ex;show ⟨f,fd,G.imp fun vs H Q E h=>?_,r⟩;obtain ⟨u,v,a,b,e,h1,h2,k1,k2,q⟩:=h;show ⟨u,v,qr a,qr b,e,h1,h2,kR k1,kR k2,?_⟩;unfold mulQ;rwa [agG]
def Si (K:Frag)(H:Hp)(Q:VK)(p:Rat×Rat):Prop:=∀(v:V)(H':Hp),aq H H' ->gC K H' v p->Q v H'
inductive yh (K:Frag)(f:Rat->Rat->Rat)(vs:ζ)(H:Hp)(Q:VK)(E_:XK):Prop
|mk (u v:V)(x y:Rat×Rat)(_:vs=[u,v])(_:gC K H u x)(_:gC K H v y)(_:Sz 8000000 x.1)(_:Sz 8000000 x.2)(_:Sz 8000000 y.1)(_:Sz 8000000 y.2)(_:Si K H Q (f x.1 y.1,f x.2 y.2))
def ae8:av FY FY (ae GP):=sq
def ae9 (hM:rl CX)(D:Def K mg "pair_difference" GP FY)(ae':Fn P w K mg gw CX 34 "difference_of" FY (i7 K fun a b=>a-b)):Fn P w K mg gw CX 35 "pair_difference" FY (yh K fun a b=>a-b):=by
 refine D.op ae8 fun f bE A outer s H vs Q E hr h=>?_;obtain ⟨u,v,x,y,rfl,⟨p1,a1,a2,rfl,h1,n1,n2⟩,⟨p2,b1,b2,rfl,h2,m1,m2⟩,k1,k2,l1,l2,q⟩:=h;let px:=kF (X:=(j6 (aS P w) P w K mg gw FY "pair_difference" (ae GP) f bE A outer s H E)) hM;show ⟨_,(aj (aD (aJ (aF (cR ae' hr.mo px (aF (aG (pv 0)) (aG (pv 1)))) (cR ae' hr.mo px (aF (aG (pv 0)) (aG (pv 1)))))))),_,rfl,p1,_,_,_,rfl,rfl,h1,ib,_,rfl,p2,_,_,_,rfl,rfl,h2,ib,a1,b1,_,_,rfl,n1,m1,k1,l1,fun c1 H1 s1 e1=>?_⟩;show ⟨_,rfl,p1,_,_,_,rfl,rfl,Ty.aq.dI s1 h1,iD,_,rfl,p2,_,_,_,rfl,rfl,Ty.aq.dI s1 h2,iD,a2,b2,_,_,rfl,n2.gV s1,m2.gV s1,k2,l2,fun c2 H2 s2 e2=>?_⟩;show ⟨qZ,fun c3 n3=>?_⟩;let s3:=aC n3 (.tup [.ref c1,.ref c2]);exact q (.ref c3) _ (fun b o z=>s3 _ _ (s2 _ _ (s1 _ _ z))) ⟨c3,_,_,rfl,bZ.of ag,⟨c1,rfl,bZ.of (s3 _ _ (s2 _ _ e1))⟩,⟨c2,rfl,bZ.of (s3 _ _ e2)⟩⟩
def afa (x y:Rat×Rat):Rat:=x.1*y.1+x.2*y.2
inductive Sj (K:Frag)(vs:ζ)(H:Hp)(Q:VK)(E_:XK):Prop
|mk (u v:V)(x y:Rat×Rat)(_:vs=[u,v])(_:gC K H u x)(_:gC K H v y)(_:Sz 3000000 x.1)(_:Sz 3000000 x.2)(_:Sz 3000000 y.1)(_:Sz 3000000 y.2)(_:gives H Q (qr (afa x y)))
def ahI:av FY FY (ae cL):=sq
def ahC (hM:rl CX)(D:Def K mg "pair_product" cL FY)(kX:Fn P w K mg gw CX 34 "sum_of" FY (i7 K fun a b=>a+b))(cE:Fn P w K mg gw CX 34 "product_of" FY (i7 K fun a b=>a*b)):Fn P w K mg gw CX 35 "pair_product" FY (Sj K):=by
 refine D.op ahI fun f bE A outer s H vs Q E hr h=>?_;obtain ⟨u,v,x,y,rfl,⟨p1,a1,a2,rfl,h1,n1,n2⟩,⟨p2,b1,b2,rfl,h2,m1,m2⟩,k1,k2,l1,l2,q⟩:=h;let px:=kF (X:=(j6 (aS P w) P w K mg gw FY "pair_product" (ae cL) f bE A outer s H E)) hM;show ⟨_,(aj (aD (cR kX hr.mo px (aF (cR cE hr.mo px (aF (aG (pv 0)) (aG (pv 1)))) (cR cE hr.mo px (aF (aG (pv 0)) (aG (pv 1)))))))),_,rfl,p1,_,_,_,rfl,rfl,h1,ib,_,rfl,p2,_,_,_,rfl,rfl,h2,ib,a1,b1,_,_,rfl,n1,m1,k1.up cr,l1.up cr,fun c1 H1 s1 e1=>?_⟩;show ⟨_,rfl,p1,_,_,_,rfl,rfl,Ty.aq.dI s1 h1,iD,_,rfl,p2,_,_,_,rfl,rfl,Ty.aq.dI s1 h2,iD,a2,b2,_,_,rfl,n2.gV s1,m2.gV s1,k2.up cr,l2.up cr,fun c2 H2 s2 e2=>?_⟩;show ⟨.ref c1,.ref c2,_,_,rfl,⟨c1,rfl,bZ.of (s2 _ _ e1)⟩,⟨c2,rfl,bZ.of e2⟩,(k1.mul l1).up cr,(k2.mul l2).up cr,fun c3 H3 s3 e3=>?_⟩;exact q c3 H3 (fun b o z=>s3 _ _ (s2 _ _ (s1 _ _ z))) e3
inductive yi (K:Frag)(C:AO)(vs:ζ)(H:Hp)(Q:VK)(E_:XK):Prop
|mk (a dx:AO)(_:vs=[.ref a])(_:H a=some (.ins C dx []))(_:∀(pP pW pB:AO)(H':Hp),cx a H H' ->H pP=none->H pW=none->H pB=none->gZ K H' C a dx pP pW pB [] [] [] [] []->Q .cO H')
def ahw :gU "pin_places" x []=([("pin_places",x)]:List (Str×V)):=rfl
def ahk :gU "pin_ways" y [("pin_places",x)]=([("pin_places",x),("pin_ways",y)]:List (Str×V)):=by
 simp only [gU];rw [lH cr]
def ahU :gU "bar_ends" z [("pin_places",x),("pin_ways",y)]=([("pin_places",x),("pin_ways",y),("bar_ends",z)]:List (Str×V)):=by
 simp only [gU];rw [lH cr,lH cr]
def afb:av MA MA (ae N'):=sq
def afc (F:qH K "__init__" "Frame.__init__" N' f fd)(fc:Rw K C):ad P w K mg gw 1 f fd MA (yi K C):=by
 refine fH F afb fun H hr h=>?_;obtain ⟨a,dx,rfl,ha,q⟩:=h
 show ⟨_,(aa (xA (pv 0) cT rfl) (aa (xA (pv 0) cT rfl) (aj (xA (pv 0) cT rfl)))),?_⟩
 intro pP nP;let aP:a≠pP:=ak ha nP;show ⟨_,rfl,a,C,dx,_,rfl,(by rwa [ah aP]),fc.cls,fc.pl,(by show 0<1000;decide),?_⟩;rw [ahw];generalize e1:upd (upd H pP (.dK [])) a (.ins C dx [("pin_places",.ref pP)])=H1;let o1:H1 a=some (.ins C dx [("pin_places",.ref pP)]):=by rw [<-e1,ag]
 let p1:H1 pP=some (.dK []):=by rw [<-e1,ah (FN aP),ag]
 let k1:∀b o,b≠a->H b=some o->H1 b=some o:=fun b o n e=>by rwa [<-e1,ah n,ah (ak e nP)]
 intro pW nW;let aW:a≠pW:=ak o1 nW;show ⟨_,rfl,a,C,dx,_,rfl,(by rwa [ah aW]),fc.cls,fc.wy,(by show 1<1000;decide),?_⟩;rw [ahk];generalize e2:upd (upd H1 pW (.dK [])) a (.ins C dx [("pin_places",.ref pP),("pin_ways",.ref pW)])=H2;let PW:pP≠pW:=ak p1 nW;let o2:H2 a=some (.ins C dx [("pin_places",.ref pP),("pin_ways",.ref pW)]):=by rw [<-e2,ag]
 let w2:H2 pW=some (.dK []):=by rw [<-e2,ah (FN aW),ag]
 let k2:∀b o,b≠a->H1 b=some o->H2 b=some o:=fun b o n e=>by rwa [<-e2,ah n,ah (ak e nW)]
 intro pB nB;let aB:a≠pB:=ak o2 nB;let p2:=k2 _ _ (FN aP) p1;show ⟨_,rfl,a,C,dx,_,rfl,(by rwa [ah aB]),fc.cls,fc.br,(by show 2<1000;decide),?_⟩;rw [ahU];let PB:pP≠pB:=ak p2 nB;let WB:pW≠pB:=ak w2 nB;let k3:∀b o,b≠a->H2 b=some o->(upd (upd H2 pB (.dK [])) a (.ins C dx [("pin_places",.ref pP),("pin_ways",.ref pW),("bar_ends",.ref pB)])) b=some o:=fun b o n e=>by rwa [ah n,ah (ak e nB)]
 let f1:∀b,b≠a->H1 b=none->H b=none:=fun b n e=>by
  cases z:H b with
  | none=>rfl
  | some o=>erw [k1 b o n z] at e
 let f2:∀b,b≠a->H2 b=none->H b=none:=fun b n e=>by
  cases z:H b with
  | none=>rfl
  | some o=>erw [k2 b o n (k1 b o n z)] at e
 refine q pP pW pB _ (fun b o n e=>k3 b o n (k2 b o n (k1 b o n e))) nP (f1 _ (FN aW) nW) (f2 _ (FN aB) nB) ⟨ag,k3 _ _ (FN aP) p2,k3 _ _ (FN aW) w2,?_,PW,PB,WB,.nil,.nil⟩;rw [ah (FN aB),ag]
inductive jN (K:Frag)(C:AO)(vs:ζ)(H:Hp)(Q:VK)(E_:XK):Prop
|mk (a dx pP pW pB:AO)(ps:Ι)(bs:Α)(kP kW kB:γ)(_:vs=[.ref a])(_:gZ K H C a dx pP pW pB ps bs kP kW kB)(_:∀(l:AO)(H':Hp),aq H H' ->H l=none->H' l=some (.lst ((bs.map (·.1)).map V.str))->Q (.ref l) H')
def afd:av MA MA (ae Oe):=sq
def afe (F:qH K "bars" "Frame.bars" Oe f fd)(fc:Rw K C)(cj:mg "list"=none):ad P w K mg gw 1 f fd MA (jN K C):=by
 refine fH F afd fun H hr h=>?_;obtain ⟨a,dx,pP,pW,pB,ps,bs,kP,kW,kB,rfl,R,q⟩:=h;show ⟨_,(aj (aD (cu (fX rfl) rfl cj kE (aV (eK (pv 0) rfl))))),_,rfl,a,C,dx,_,_,rfl,R.obj,fc.cls,fc.br,rfl,pB,kB,rfl,.inl R.br,fun l nl=>?_⟩;refine q l _ (aC nl _) nl ?_;rw [ag]
 let e:kB.map (fun kv=>kV kv.1)=(bs.map (·.1)).map V.str:=by
  let z:kB.map (fun kv=>kV kv.1)=(kB.map (·.1)).map kV:=by rw [MI];rfl
  rw [z,R.KG,MI];rfl
 rw [e]
inductive jO (K:Frag)(C:AO)(vs:ζ)(H:Hp)(Q:VK)(E_:XK):Prop
|mk (a dx pP pW pB:AO)(ps:Ι)(bs:Α)(kP kW kB:γ)(_:vs=[.ref a])(_:gZ K H C a dx pP pW pB ps bs kP kW kB)(_:∀(l:AO)(H':Hp),aq H H' ->H l=none->H' l=some (.lst ((ps.map (·.1)).map V.str))->Q (.ref l) H')
def aff:av MA MA (ae Od):=sq
def afg (F:qH K "pins" "Frame.pins" Od f fd)(fc:Rw K C)(cj:mg "list"=none):ad P w K mg gw 1 f fd MA (jO K C):=by
 refine fH F aff fun H hr h=>?_;obtain ⟨a,dx,pP,pW,pB,ps,bs,kP,kW,kB,rfl,R,q⟩:=h;show ⟨_,(aj (aD (cu (fX rfl) rfl cj kE (aV (eK (pv 0) rfl))))),_,rfl,a,C,dx,_,_,rfl,R.obj,fc.cls,fc.pl,rfl,pP,kP,rfl,.inl R.pl,fun l nl=>?_⟩;refine q l _ (aC nl _) nl ?_;rw [ag]
 let e:kP.map (fun kv=>kV kv.1)=(ps.map (·.1)).map V.str:=by
  let z:kP.map (fun kv=>kV kv.1)=(kP.map (·.1)).map kV:=by rw [MI];rfl
  rw [z,R.KH,MI];rfl
 rw [e]
inductive gf (K:Frag)(C:AO)(vs:ζ)(H:Hp)(Q:VK)(E_:XK):Prop
|mk (a dx pP pW pB:AO)(ps:Ι)(bs:Α)(kP kW kB:γ)(x:Str)(_:vs=[.ref a,.str x])(_:gZ K H C a dx pP pW pB ps bs kP kW kB)(_:x∈ps.map (·.1))(_:Q .cO H)
def afh:av Np Np (ae Oc):=sq
def afi (F:qH K "check_pin" "Frame.check_pin" Oc f fd)(fc:Rw K C):ad P w K mg gw 1 f fd Np (gf K C):=by
 refine fH F afh fun H hr h=>?_;obtain ⟨a,dx,pP,pW,pB,ps,bs,kP,kW,kB,x,rfl,R,hx,q⟩:=h;show ⟨_,(aj (bh (xu (wL (bU hr) (pv 1) (eK (pv 0) rfl))) (aj (eO)) aI)),_,rfl,_,rfl,a,C,dx,_,_,rfl,R.obj,fc.cls,fc.pl,rfl,pP,_,rfl,dX.k (k:=.inr x) R.pl,_,rfl,?_⟩;rwa [R.pin x,Ms hx]
inductive rY (K:Frag)(C:AO)(vs:ζ)(H:Hp)(Q:VK)(E_:XK):Prop
|mk (a dx pP pW pB:AO)(ps:Ι)(bs:Α)(kP kW kB:γ)(x:Str)(p:Pt)(_:vs=[.ref a,.str x])(_:gZ K H C a dx pP pW pB ps bs kP kW kB)(_:(ps.map (·.1)).Nodup)(_:(x,p)∈ps)(_:∀v,Spot K H v p->Q v H)
def afj:av Np Np (ae Of):=sq
def afk (F:qH K "place" "Frame.place" Of f fd)(fc:Rw K C)(MC:am P w K mg gw 1 C "check_pin" Np (gf K C)):ad P w K mg gw 2 f fd Np (rY K C):=by
 refine fH F afj fun H hr h=>?_;obtain ⟨a,dx,pP,pW,pB,ps,bs,kP,kW,kB,x,p,rfl,R,nd,hx,q⟩:=h
 show ⟨_,(aa (bP (fE (k:=1) (pv 0) hr.mo (Ua P w) (aV (pv 1)))) (aj (aD (iG (bU hr) (eK (pv 0) rfl) (pv 1) (fun _ _=>rfl))))),?_⟩
 show ⟨_,rfl,a,C,dx,_,_,_,rfl,R.obj,rfl,MC,_,rfl,a,dx,pP,pW,pB,ps,bs,kP,kW,kB,x,rfl,R,CI.mpr ⟨_,hx,rfl⟩,?_⟩;obtain ⟨v,ev,hv⟩:=R.place nd hx;show ⟨_,rfl,a,C,dx,_,_,rfl,R.obj,fc.cls,fc.pl,rfl,_,rfl,pP,v,rfl,(by rw [<-ev];exact dX.k (k:=.inr x) R.pl),q v hv⟩
inductive ug (K:Frag)(C:AO)(vs:ζ)(H:Hp)(Q:VK)(E_:XK):Prop
|mk (a dx pP pW pB:AO)(ps:Ι)(bs:Α)(kP kW kB:γ)(x one lG:Str)(_:vs=[.ref a,.str x])(_:gZ K H C a dx pP pW pB ps bs kP kW kB)(_:(bs.map (·.1)).Nodup)(_:(x,one,lG)∈bs)(_:∀p,Rd H p (.tup [.str one,.str lG])->Q (.ref p) H)
def afl:av Qx Qx (ae Oh):=sq
def afm (F:qH K "ends" "Frame.ends" Oh f fd)(fc:Rw K C):ad P w K mg gw 1 f fd Qx (ug K C):=by
 refine fH F afl fun H hr h=>?_;obtain ⟨a,dx,pP,pW,pB,ps,bs,kP,kW,kB,x,one,lG,rfl,R,nd,hx,q⟩:=h
 show ⟨_,(aa (bh (xu (wL (bU hr) (pv 1) (eK (pv 0) rfl))) (aj (eO)) aI) (aj (aD (iG (bU hr) (eK (pv 0) rfl) (pv 1) (fun _ _=>rfl))))),?_⟩
 let hm:x∈bs.map (·.1):=CI.mpr ⟨_,hx,rfl⟩;show ⟨_,rfl,_,rfl,a,C,dx,_,_,rfl,R.obj,fc.cls,fc.br,rfl,pB,_,rfl,dX.k (k:=.inr x) R.br,_,rfl,?_⟩;rw [R.bar x,Ms hm];obtain ⟨p,ev,hv⟩:=R.ends nd hx;show ⟨_,rfl,a,C,dx,_,_,rfl,R.obj,fc.cls,fc.br,rfl,_,rfl,pB,.ref p,rfl,(by rw [<-ev];exact dX.k (k:=.inr x) R.br),q p hv⟩
inductive uh (K:Frag)(C:AO)(vs:ζ)(H:Hp)(Q:VK)(E_:XK):Prop
|mk (a dx pP pW pB:AO)(ps:Ι)(bs:Α)(kP kW kB:γ)(pw:Ο)(x:Str)(ws:Ξ)(_:vs=[.ref a,.str x])(_:gZ K H C a dx pP pW pB ps bs kP kW kB)(_:EV K H pw kW)(_:(pw.map (·.1)).Nodup)(_:(x,ws)∈pw)(_:x∈ps.map (·.1))(_:∀(l:AO)(us:ζ)(H':Hp),aq H H' ->H l=none->H' l=some (.lst us)->mf K H' us ws->Q (.ref l) H')
def afn:av Np Np (ae Og):=sq
def afo (F:qH K "ways" "Frame.ways" Og f fd)(fc:Rw K C)(cj:mg "list"=none)(MC:am P w K mg gw 1 C "check_pin" Np (gf K C)):ad P w K mg gw 2 f fd Np (uh K C):=by
 refine fH F afn fun H hr h=>?_;obtain ⟨a,dx,pP,pW,pB,ps,bs,kP,kW,kB,pw,x,ws,rfl,R,W,nd,hx,hp,q⟩:=h
 show ⟨_,(aa (bP (fE (k:=1) (pv 0) hr.mo (Ua P w) (aV (pv 1)))) (aj (aD (cu tu rfl cj kE (aV (iG (bU hr) (eK (pv 0) rfl) (pv 1) (fun _ _=>rfl))))))),?_⟩
 show ⟨_,rfl,a,C,dx,_,_,_,rfl,R.obj,rfl,MC,_,rfl,a,dx,pP,pW,pB,ps,bs,kP,kW,kB,x,rfl,R,hp,?_⟩;obtain ⟨v,ev,l,us,el,hl,pt⟩:=mU W nd hx;let el':v=.ref l:=el;subst el';show ⟨_,rfl,a,C,dx,_,_,rfl,R.obj,fc.cls,fc.wy,rfl,_,rfl,pW,.ref l,rfl,(by rw [<-ev];exact dX.k (k:=.inr x) R.wy),l,us,rfl,aK.of hl,fun l2 n2=>q l2 us _ (aC n2 _) n2 ag (pt.gV (aC n2 _))⟩
def aax (K:Frag)(H:Hp)(Q:VK)(ws:Ξ):Prop:=∀(l:AO)(us:ζ)(H':Hp),aq H H' ->H l=none->H' l=some (.lst us)->mf K H' us ws->Q (.ref l) H'
def rZ (h:(qr x).1=0):x=0:=by
 have:=iJ x;unfold vl at this;rw [h] at this;let z:=BU (r:=x);let e:((0:Int):Rat)=0:=by rfl
 rw [e] at this;grind
inductive yj (K:Frag)(C:AO)(vs:ζ)(H:Hp)(Q:VK)(E_:XK):Prop
|mk (a dx:AO)(ux uy:V)(x y:Rat)(_:vs=[.ref a,ux,uy])(_:H a=some (.ins C dx []))(_:fe K H ux x)(_:fe K H uy y)(_:¬ (x=0/\y=0))(_:∀p,H p=none->Q .cO (upd (upd H p (.tup [ux,uy])) a (.ins C dx [("way",.ref p)])))
def afp:av vt vt (ae Oi):=sq
def afq (F:qH K "__init__" "Roller.__init__" Oi f fd)(cl:EU K C)(nw:ig K C "way"):ad P w K mg gw 1 f fd vt (yj K C):=by
 refine fH F afp fun H hr h=>?_;obtain ⟨a,dx,ux,uy,x,y,rfl,ha,⟨p1,rfl,h1⟩,⟨p2,rfl,h2⟩,nz,q⟩:=h;let sz:(2:Nat)<=BZ:=cr
 show ⟨_,(aa (bh (PW.pt (FC (bg cY (aG (pv 1)) af) (xv (bg cY (aG (pv 2)) af)))) (aj (eO)) aI) (aj (xA (pv 0) (aJ (aF (pv 1) (pv 2))) rfl))),?_⟩
 show ⟨_,rfl,p1,_,_,_,rfl,rfl,h1,ib,rfl,_,rfl,?_⟩;refine bD (fun c1=>?_) (fun c1=>?_)
 ·let e1:(qr x).1=0:=by simpa using Nl c1
  show ⟨_,rfl,p2,_,_,_,rfl,rfl,h2,ib,rfl,_,rfl,?_⟩;refine bD (fun c2=>?_) (fun c2=>?_)
  ·let e2:(qr y).1=0:=by simpa using Nl c2
   exact CH ⟨rZ e1,rZ e2⟩ nz
  ·show ⟨_,rfl,_,rfl,sz,fun p hp=>⟨_,rfl,a,C,dx,[],rfl,(by rwa [ah (ak ha hp)]),cl,nw,(by show 0<1000;decide),q p hp⟩⟩
 ·refine ZK ?_
  show ⟨_,rfl,_,rfl,sz,fun p hp=>⟨_,rfl,a,C,dx,[],rfl,(by rwa [ah (ak ha hp)]),cl,nw,(by show 0<1000;decide),q p hp⟩⟩
inductive oF (K:Frag)(C:AO)(vs:ζ)(H:Hp)(Q:VK)(E_:XK):Prop
|mk (a dx p:AO)(w:Rat×Rat)(_:vs=[.ref a])(_:H a=some (.ins C dx [("way",.ref p)]))(_:gC K H (.ref p) w)(_:aax K H Q [w])
def afr:av MA MA (ae Oj):=sq
def afs (F:qH K "ways" "Roller.ways" Oj f fd)(cl:EU K C)(nw:ig K C "way"):ad P w K mg gw 1 f fd MA (oF K C):=by
 refine fH F afr fun H hr h=>?_;obtain ⟨a,dx,p,w,rfl,ha,hw,q⟩:=h;show ⟨_,(aj (aD (bI (aV (eK (pv 0) rfl))))),_,rfl,a,C,dx,_,.ref p,rfl,ha,cl,nw,dL,uX,fun l hl=>?_⟩;exact q l [.ref p] _ (aC hl _) hl ag (.cons (hw.gV (aC hl _)) .nil)
inductive oG (K:Frag)(vs:ζ)(H:Hp)(Q:VK)(E_:XK):Prop
|mk (a:AO)(_:vs=[.ref a])(_:aax K H Q [(1,0),(0,1)])
def yk:qr 1=(1,1):=by
 have:=mT 1;simpa using this
def dH:qr 0=(0,1):=by
 have:=mT 0;simpa using this
def LG (ea:qr a=x)(eb:qr b=y)(h:H p=some (.tup [.ref p1,.ref p2]))(h1:H p1=some (.tup [.int x.1,.int x.2]))(h2:H p2=some (.tup [.int y.1,.int y.2])):gC K H (.ref p) (a,b):=
 ⟨p,.ref p1,.ref p2,rfl,bZ.of h,⟨p1,rfl,by rw [ea];exact bZ.of h1⟩,⟨p2,rfl,by rw [eb];exact bZ.of h2⟩⟩
def aft:av MA MA (ae Ol):=sq
def afu (F:qH K "ways" "Fixed.ways" Ol f fd):ad P w K mg gw 1 f fd MA (oG K):=by
 refine fH F aft fun H hr h=>?_;obtain ⟨a,rfl,q⟩:=h;let sz:(2:Nat)<=BZ:=cr
 show ⟨_,(aj (aD (bI (aF (aJ (aF (aJ (aF af af)) (aJ (aF af af)))) (aJ (aF (aJ (aF af af)) (aJ (aF af af)))))))),sz,fun p1 n1=>?_⟩;let s1:=aC n1 (.tup [.int 1,.int 1]);let e1:upd H p1 (.tup [.int 1,.int 1]) p1=some (.tup [.int 1,.int 1]):=ag;generalize upd H p1 (.tup [.int 1,.int 1])=H1 at s1 e1 ⊢;show ⟨sz,fun p2 n2=>?_⟩;let s2:=aC n2 (.tup [.int 0,.int 1]);let e2:upd H1 p2 (.tup [.int 0,.int 1]) p2=some (.tup [.int 0,.int 1]):=ag;generalize upd H1 p2 (.tup [.int 0,.int 1])=H2 at s2 e2 ⊢;show ⟨sz,fun p3 n3=>?_⟩;let s3:=aC n3 (.tup [.ref p1,.ref p2]);let e3:upd H2 p3 (.tup [.ref p1,.ref p2]) p3=some (.tup [.ref p1,.ref p2]):=ag;generalize upd H2 p3 (.tup [.ref p1,.ref p2])=H3 at s3 e3 ⊢;show ⟨sz,fun p4 n4=>?_⟩;let s4:=aC n4 (.tup [.int 0,.int 1]);let e4:upd H3 p4 (.tup [.int 0,.int 1]) p4=some (.tup [.int 0,.int 1]):=ag;generalize upd H3 p4 (.tup [.int 0,.int 1])=H4 at s4 e4 ⊢;show ⟨sz,fun p5 n5=>?_⟩;let s5:=aC n5 (.tup [.int 1,.int 1]);let e5:upd H4 p5 (.tup [.int 1,.int 1]) p5=some (.tup [.int 1,.int 1]):=ag;generalize upd H4 p5 (.tup [.int 1,.int 1])=H5 at s5 e5 ⊢;show ⟨sz,fun p6 n6=>?_⟩;let s6:=aC n6 (.tup [.ref p4,.ref p5]);let e6:upd H5 p6 (.tup [.ref p4,.ref p5]) p6=some (.tup [.ref p4,.ref p5]):=ag;generalize upd H5 p6 (.tup [.ref p4,.ref p5])=H6 at s6 e6 ⊢;show ⟨sz,fun l nl=>?_⟩;let s7:=aC nl (.lst [.ref p3,.ref p6]);let e7:upd H6 l (.lst [.ref p3,.ref p6]) l=some (.lst [.ref p3,.ref p6]):=ag;generalize upd H6 l (.lst [.ref p3,.ref p6])=H7 at s7 e7 ⊢;let Sk:=s1.trans (s2.trans (s3.trans (s4.trans (s5.trans s6))));let w1:gC K H7 (.ref p3) (1,0):=LG yk dH (s7 _ _ (s6 _ _ (s5 _ _ (s4 _ _ e3)))) (s7 _ _ (s6 _ _ (s5 _ _ (s4 _ _ (s3 _ _ (s2 _ _ e1)))))) (s7 _ _ (s6 _ _ (s5 _ _ (s4 _ _ (s3 _ _ e2)))));let w2:gC K H7 (.ref p6) (0,1):=LG dH yk (s7 _ _ e6) (s7 _ _ (s6 _ _ (s5 _ _ e4))) (s7 _ _ (s6 _ _ e5));exact q l [.ref p3,.ref p6] H7 (Sk.trans s7) (Sk.free nl) e7 (.cons w1 (.cons w2 .nil))
def YB (P:FL)(w:World)(K:Frag)(mg:ι)(gw:Heap)(H:Hp)(hv:V)(ws:Ξ):Prop:=(hv=.cO/\ws=[])\/∃(h Ch dxh:AO)(fsh:List (Str×V))(psh:θ)(sph:Sp),hv=.ref h/\H h=some (.ins Ch dxh fsh)/\fsh.lookup ("ways":Str)=none/\am P w K mg gw 2 Ch "ways" psh sph/\(∀H1,H1 h=some (.ins Ch dxh fsh)->bf H H1->∀Q',aax K H1 Q' ws->sph [.ref h] H1 Q' E0)
inductive gh (P:FL)(w:World)(K:Frag)(mg:ι)(gw:Heap)(C:AO)(vs:ζ)(H:Hp)(Q:VK)(E_:XK):Prop
|mk (a dx pP pW pB:AO)(ps:Ι)(bs:Α)(kP kW kB:γ)(pw:Ο)(x:Str)(u v hv:V)(p:Pt)(ws:Ξ)(_:vs=[.ref a,.str x,u,v,hv])(_:gZ K H C a dx pP pW pB ps bs kP kW kB)(_:EV K H pw kW)(_:pw.map (·.1)=ps.map (·.1))(_:jy K H u p.1)(_:jy K H v p.2)(_:x∉ps.map (·.1))(_:(∀z∈ps,z.2≠p))(_:ps.length<24)(_:YB P w K mg gw H hv ws)(_:∀(H':Hp)(Sl BS :γ),(∀b o,b≠pP->b≠pW->H b=some o->H' b=some o)->gZ K H' C a dx pP pW pB (ps++[(x,p)]) bs Sl BS kB->EV K H' (pw++[(x,ws)]) BS ->Q .cO H')
def Sn:av ["self","name","x","y","hold","pin","spot"] DL (ae rq):=sq
def afw (F:Z_ K "put_pin" "Frame.put_pin" rq f fd)(fc:Rw K C)(aay:mg "MOST_PINS"=some (.int 24 tkP))(aX:mg "len"=none)(cj:mg "list"=none):ad P w K mg gw 3 f fd DL (gh P w K mg gw C):=by
 refine acw F Sn (fun vs H Q E h=>?_) (fun bE A outer s H vs Q E hr h=>?_)
 ·obtain ⟨a,dx,pP,pW,pB,ps,bs,kP,kW,kB,pw,x,u,v,hv,p,ws,rfl,_⟩:=h
  rfl
 obtain ⟨a,dx,pP,pW,pB,ps,bs,kP,kW,kB,pw,x,u,v,hvv,p,ws,rfl,R,W,ew,hu,hv,hx,hs,hl,hH,q⟩:=h
 show ⟨_,(aa (bh (xu (afv (bU hr) (pv 1) (eK (pv 0) rfl))) (aj (eO)) aI) (aa (oh (a_ HM rfl (tO (eK (pv 0) rfl)) (iU rfl (bu (b6 5 Sn.nd) (bu (b6 6 Sn.nd) e_))) (aj (bh (bg (afW hr.units) (pv 6) (aJ (aF (pv 2) (pv 3)))) (aj (eO)) aI)))) (aa (bh (bg X4 (aR qc rfl aX cA (aV (eK (pv 0) rfl))) (dJ (v:=.int 24) rfl aay ⟨_,rfl⟩)) (aj (eO)) aI) (aa (cy (bU hr) (eK (pv 0) rfl) (pv 1) (aJ (aF (pv 2) (pv 3))) rfl) (aj (cy (bU hr) (eK (pv 0) rfl) (pv 1) (ah1 (bg FI (pv 4) kc) (bI iV) (cu tu rfl cj kE (aV (dW (k:=2) (pv 4) hr.mo (pY P w))))) rfl)))))),?_⟩;sleep 4
 show ⟨_,rfl,_,rfl,a,C,dx,_,_,rfl,R.obj,fc.cls,fc.pl,rfl,pP,_,rfl,dX.k (k:=.inr x) R.pl,_,rfl,?_⟩;rw [R.pin x,Nt hx];let lk:kP.length=ps.length:=(HR R.rp).symm;show ⟨_,rfl,a,C,dx,_,_,rfl,R.obj,fc.cls,fc.pl,rfl,pP,kP,rfl,R.pl,fun o=>?_⟩;let k0:cx pP H (upd H pP (.eZ o (.dK kP))):=fun b o' n e=>by rwa [ah n]
 refine let I:ce:=fun t Z H'=>CK fun (o2 o3:ω)=>Z=[ap a,some (.str x),some u,some v,some hvv,o2,o3]/\cx pP H H'/\H' pP=some (.eZ o (.dK kP));qb (d:=pP) (o:=o) (AD:=kP) I ⟨none,none,rfl,k0,ag⟩ (fun t Z H' _ h=>by
   obtain ⟨_,_,_,_,h⟩:=h
   exact h) ?_ ?_
 ·rintro t k y Z H6 p7 mj ⟨o2,o3,rfl,k6,hd6⟩ n7
  obtain ⟨z,ez,hz1,hz2⟩:=aE (gB R.rp) mj;have anc :k=.inr z.1:=hz1;subst anc
  let s6:bf H H6:=fun b xs r=>by
   rcases r with r|⟨o',r⟩
   ·exact .inl (k6 _ _ (fun e=>by erw [e,R.pl] at r) r)
   ·exact .inr ⟨o',k6 _ _ (fun e=>by erw [e,R.pl] at r) r⟩
  let s7:=aC n7 (.tup [kV (.inr z.1),y]);let s67:bf H (upd H6 p7 (.tup [kV (.inr z.1),y])):=s6.trans (.of s7);show ⟨p7,_,rfl,bZ.of ag,rfl,_,_,rfl,_,_,rfl,rfl,_,rfl,_,rfl,_,rfl,qZ,fun t8 n8=>?_⟩;let s8:=aC n8 (.tup [u,v]);let Wd:bf H (upd (upd H6 p7 (.tup [kV (.inr z.1),y])) t8 (.tup [u,v])):=s67.trans (.of s8);show ⟨fS z.2,fS p,.inl ⟨(Spot.aT hz2 Wd).is,(Spot.is (p:=p) ⟨t8,u,v,rfl,bZ.of ag,hu.aT Wd,hv.aT Wd⟩)⟩,qN _ _,wQ _,?_⟩;rw [zap];show ⟨_,rfl,bD (fun c=>CH (Nl c) (hs z (DA ez))) (fun _=>?_)⟩;show ⟨_,_,rfl,fun b o' n e=>s8 _ _ (s7 _ _ (k6 b o' n e)),s8 _ _ (s7 _ _ hd6)⟩
 ·rintro Z H1 ⟨o2,o3,rfl,k1,Wi⟩
  show ⟨pP,o,kP,Wi,fun o' u' z=>(by have z':H pP=some (.eZ o' u'):=z;erw [R.pl] at z'),?_⟩
  let s2:aq H (upd H1 pP (.dK kP)):=fun b o' e=>by
   by_cases n:b=pP
   ·subst n
    rw [R.pl] at e;rwa [ag]
   ·rw [ah n]
    exact k1 b o' n e
  generalize upd H1 pP (.dK kP)=H2 at s2 ⊢;let R2:=R.gV s2;show ⟨_,rfl,a,C,dx,_,_,rfl,R2.obj,fc.cls,fc.pl,rfl,pP,kP,rfl,.inl R2.pl,_,_,rfl,rfl,_,rfl,?_⟩;refine bD (fun c=>?_) (fun _=>?_)
  ·let c':(24:Int)<=(kP.length:Int):=Nl c
   omega
  show ⟨_,rfl,_,rfl,qZ,fun t nt=>?_⟩;let s3:=aC nt (.tup [u,v]);let R3:=R2.gV s3;let hu3:=(hu.gV s2).gV s3;let hv3:=(hv.gV s2).gV s3;show ⟨_,rfl,a,C,dx,_,_,rfl,R3.obj,fc.cls,fc.pl,rfl,_,rfl,pP,_,rfl,gM.k (k:=.inr x) R3.pl (GG (show kP.length<=1000 by omega) cr),?_⟩;let e:putK kP (.inr x) (.ref t)=kP++[(.inr x,.ref t)]:=dw _ (bS (by rw [R.KH];exact fun z=>hx (iI.mp z)));rw [e];let R4:=R3.aaa (x:=x) (p:=p) (t:=t) ⟨t,u,v,rfl,bZ.of ag,hu3,hv3⟩;let k4:∀b o,b≠pP->H b=some o->(upd (upd H2 t (.tup [u,v])) pP (.dK (kP++[(.inr x,.ref t)]))) b=some o:=fun b o n e=>by rw [ah n];exact s3 _ _ (s2 _ _ e)
  generalize upd (upd H2 t (.tup [u,v])) pP (.dK (kP++[(.inr x,.ref t)]))=H4 at R4 k4 ⊢
  let lw:kW.length=ps.length:=by
   let e1:kW.length=pw.length:=(HR W).symm;let e2:=ph Rg ew;rw [ir,ir] at e2;omega
  let t4:bf H H4:=fun b xs r=>by
   rcases r with r|⟨o',r⟩
   ·exact .inl (k4 _ _ (fun e=>by erw [e,R.pl] at r) r)
   ·exact .inr ⟨o',k4 _ _ (fun e=>by erw [e,R.pl] at r) r⟩
  let W4:EV K H4 pw kW:=Paired.dc W fun _ _ z=>⟨z.1,by
   obtain ⟨l,us,e1,e2,e3⟩:=z.2
   show ⟨l,us,e1,k4 _ _ (fun e=>by erw [e,R.pl] at e2) e2,e3.aT t4⟩⟩
  show ⟨_,rfl,rfl,_,rfl,?_⟩
  rcases hH with ⟨rfl,rfl⟩|⟨h,Ch,dxh,fsh,psh,sph,rfl,hh,hlk,MH,zT⟩
  ·refine bD (fun _=>?_) (fun c=>CH cr c)
   show ⟨by show 0<=BZ;decide,fun l2 n6=>?_⟩;let s6:=aC n6 (.lst []);let R6:=R4.gV s6;let W6:=W4.gV s6;show ⟨_,rfl,a,C,dx,_,_,rfl,R6.obj,fc.cls,fc.wy,rfl,_,rfl,pW,_,rfl,gM.k (k:=.inr x) R6.wy (GG (show kW.length<=1000 by omega) cr),?_⟩;let ek:putK kW (.inr x) (.ref l2)=kW++[(.inr x,.ref l2)]:=dw _ (bS (by rw [W.keys,ew];exact fun z=>hx (iI.mp z)));rw [ek];let ne6:l2≠pW:=fun z=>by have h:=R6.wy;erw [<-z,ag] at h
   exact q _ _ _ (fun b o n1 n2 e=>by rw [ah n2];exact s6 _ _ (k4 b o n1 e)) (R6.KI _) (ZL (W6.dict R6.wy) ⟨rfl,l2,[],rfl,by rw [ah ne6,ag],.nil⟩)
  let h4:H4 h=some (.ins Ch dxh fsh):=k4 _ _ (fun e=>by erw [e,R.pl] at hh) hh;refine bD (fun c=>CH (Nl c) (fun z=>nomatch z)) (fun _=>?_);show ⟨_,rfl,h,Ch,dxh,fsh,psh,sph,rfl,h4,hlk,MH,zT H4 h4 t4 _ fun l1 us H5 s5 n5 e5 p5=>?_⟩;show ⟨l1,us,rfl,aK.of e5,fun l2 n6=>?_⟩;let s6:=aC n6 (.lst us);let R6:=(R4.gV s5).gV s6;let W6:=(W4.gV s5).gV s6;show ⟨_,rfl,a,C,dx,_,_,rfl,R6.obj,fc.cls,fc.wy,rfl,_,rfl,pW,_,rfl,gM.k (k:=.inr x) R6.wy (GG (show kW.length<=1000 by omega) cr),?_⟩;let ek:putK kW (.inr x) (.ref l2)=kW++[(.inr x,.ref l2)]:=dw _ (bS (by rw [W.keys,ew];exact fun z=>hx (iI.mp z)));rw [ek];let PM:aq H4 (upd H5 l2 (.lst us)):=fun b o z=>s6 _ _ (s5 _ _ z);refine q _ _ _ (fun b o n1 n2 e=>by rw [ah n2];exact PM _ _ (k4 b o n1 e)) (R6.KI _) ?_;let ne6:l2≠pW:=fun z=>by have h:=R6.wy;erw [<-z,ag] at h
  exact ZL (W6.dict R6.wy) ⟨rfl,l2,us,rfl,by rw [ah ne6,ag],(p5.gV s6).aT (.dict R6.wy)⟩
inductive jP (K:Frag)(C:AO)(vs:ζ)(H:Hp)(Q:VK)(E_:XK):Prop
|mk (a dx pP pW pB:AO)(ps:Ι)(bs:Α)(kP kW kB:γ)(x one lG:Str)(_:vs=[.ref a,.str x,.str one,.str lG])(_:gZ K H C a dx pP pW pB ps bs kP kW kB)(_:x∉bs.map (·.1))(_:one∈ps.map (·.1))(_:lG∈ps.map (·.1))(_:one≠lG)(_:bs.length<60)(_:Q .cO H)
def afx:av VZ VZ (ae Ob):=sq
def afy (F:qH K "check_bar" "Frame.check_bar" Ob f fd)(fc:Rw K C)(aaA:mg "MOST_BARS"=some (.int 60 tkB))(aX:mg "len"=none)
  (MC:am P w K mg gw 1 C "check_pin" Np (gf K C)):ad P w K mg gw 2 f fd VZ (jP K C):=by
 refine fH F afx fun H hr h=>?_;obtain ⟨a,dx,pP,pW,pB,ps,bs,kP,kW,kB,x,one,lG,rfl,R,hx,h1,h2,ne,hl,q⟩:=h
 show ⟨_,(aa (bh (xu (afv (bU hr) (pv 1) (eK (pv 0) rfl))) (aj (eO)) aI) (aa (bP (fE (k:=1) (pv 0) hr.mo (Ua P w) (aV (pv 2)))) (aa (bP (fE (k:=1) (pv 0) hr.mo (Ua P w) (aV (pv 3)))) (aa (bh (bg cY (pv 2) (pv 3)) (aj (eO)) aI) (aj (bh (bg X4 (aR qc rfl aX cA (aV (eK (pv 0) rfl))) (dJ (v:=.int 60) rfl aaA ⟨_,rfl⟩)) (aj (eO)) aI)))))),?_⟩
 show ⟨_,rfl,_,rfl,a,C,dx,_,_,rfl,R.obj,fc.cls,fc.br,rfl,pB,_,rfl,dX.k (k:=.inr x) R.br,_,rfl,?_⟩;rw [R.bar x,Nt hx];show ⟨_,rfl,a,C,dx,_,_,_,rfl,R.obj,rfl,MC,_,rfl,a,dx,pP,pW,pB,ps,bs,kP,kW,kB,one,rfl,R,h1,_,rfl,a,C,dx,_,_,_,rfl,R.obj,rfl,MC,_,rfl,a,dx,pP,pW,pB,ps,bs,kP,kW,kB,lG,rfl,R,h2,_,rfl,_,rfl,rfl,_,rfl,bD (fun c=>CH (by simpa [rh] using c) ne) (fun _=>?_)⟩;let lk:kB.length=bs.length:=(HR R.rb).symm;show ⟨_,rfl,a,C,dx,_,_,rfl,R.obj,fc.cls,fc.br,rfl,pB,kB,rfl,.inl R.br,_,_,rfl,rfl,_,rfl,bD (fun c=>?_) (fun _=>q)⟩;let c':(60:Int)<=(kB.length:Int):=Nl c;omega
inductive oH (K:Frag)(C:AO)(vs:ζ)(H:Hp)(Q:VK)(E_:XK):Prop
|mk (a dx pP pW pB:AO)(ps:Ι)(bs:Α)(kP kW kB:γ)(x one lG:Str)(_:vs=[.ref a,.str x,.str one,.str lG])(_:gZ K H C a dx pP pW pB ps bs kP kW kB)(_:x∉bs.map (·.1))(_:one∈ps.map (·.1))(_:lG∈ps.map (·.1))(_:one≠lG)(_:bs.length<60)(_:∀(H':Hp)(kB':γ),cx pB H H' ->gZ K H' C a dx pP pW pB ps (bs++[(x,one,lG)]) kP kW kB' ->Q .cO H')
def afz:av VZ VZ (ae Oa):=sq
def afA (F:qH K "put_bar" "Frame.put_bar" Oa f fd)(fc:Rw K C)
  (MC:am P w K mg gw 2 C "check_bar" VZ (jP K C)):ad P w K mg gw 3 f fd VZ (oH K C):=by
 refine alA F afz (fun vs H Q E h=>?_) (fun bE A outer s H vs Q E hr h=>?_)
 ·obtain ⟨a,dx,pP,pW,pB,ps,bs,kP,kW,kB,x,one,lG,rfl,_⟩:=h
  rfl
 obtain ⟨a,dx,pP,pW,pB,ps,bs,kP,kW,kB,x,one,lG,rfl,R,hx,h1,h2,ne,hl,q⟩:=h
 show ⟨_,(aa (bP (fE (k:=2) (pv 0) hr.mo (pY P w) (bx (pv 1) (pv 2) (pv 3)))) (aj (cy (bU hr) (eK (pv 0) rfl) (pv 1) (aJ (aF (pv 2) (pv 3))) rfl))),?_⟩
 show ⟨_,rfl,a,C,dx,_,_,_,rfl,R.obj,rfl,MC,_,rfl,_,rfl,_,rfl,a,dx,pP,pW,pB,ps,bs,kP,kW,kB,x,one,lG,rfl,R,hx,h1,h2,ne,hl,_,rfl,_,rfl,qZ,fun t nt=>?_⟩;let s:=aC nt (.tup [.str one,.str lG]);let R':=R.gV s;let lk:kB.length=bs.length:=(HR R.rb).symm;show ⟨_,rfl,a,C,dx,_,_,rfl,R'.obj,fc.cls,fc.br,rfl,_,rfl,pB,_,rfl,gM.k (k:=.inr x) R'.br (GG (show kB.length<=1000 by omega) cr),?_⟩;let e:putK kB (.inr x) (.ref t)=kB++[(.inr x,.ref t)]:=dw _ (bS (by rw [R.KG];exact fun z=>hx (iI.mp z)));rw [e];refine q _ _ (fun b o n z=>?_) (R'.σ' (.inl ag));rw [ah n];exact s _ _ z
def GY (p q:aY):Rat×Rat:=(q.sp.1-p.sp.1,q.sp.2-p.sp.2)
inductive LH (K:Frag)(C:AO)(vs:ζ)(H:Hp)(Q:VK)(E_:XK):Prop
|mk (a:AO)(pX:ς)(ao:Η)(p q:aY)(_:vs=[.ref a,.str p.nm,.str q.nm])(_:x6 K H C a pX ao)(_:iK pX ao)(_:p∈pX)(_:q∈pX)(_:Si K H Q (GY p q))
def YC {pX:ς}(h:(pX.map (·.nm)).Nodup):((pX.map fun p=>(p.nm,BV p.sp)).map (·.1)).Nodup:=by
 rwa [MI]
def YD {pX:ς}(h:(pX.map (·.nm)).Nodup):((pX.map fun p=>(p.nm,p.ws)).map (·.1)).Nodup:=by
 rwa [MI]
def YE {ao:Η}(h:(ao.map (·.nm)).Nodup):((ao.map fun b=>(b.nm,b.one.nm,b.lG.nm)).map (·.1)).Nodup:=by
 rwa [MI]
def afB:av S_ S_ (ae Nz):=sq
def afC (D:Def K mg "arm_between" Nz S_)(MP:am P w K mg gw 2 C "place" Np (rY K C))(aaB:ac P w K mg gw 35 "pair_difference" FY (yh K fun a b=>a-b)):ac P w K mg gw 36 "arm_between" S_ (LH K C):=by
 refine D.oo afB fun H hr h=>?_;obtain ⟨a,pX,ao,p,q,rfl,R,g,hp,hq,k⟩:=h;obtain ⟨dx,pP,pW,pB,kP,kW,kB,R,W⟩:=R.ex;show ⟨_,(aj (aD (aU aaB hr (aF (fE (k:=2) (pv 0) hr.mo (Ua P w) (aV (pv 2))) (fE (k:=2) (pv 0) hr.mo (Ua P w) (aV (pv 1))))))),_,rfl,a,C,dx,_,_,_,rfl,R.obj,rfl,MP,_,rfl,a,dx,pP,pW,pB,_,_,kP,kW,kB,q.nm,BV q.sp,rfl,R,YC g.np,CI.mpr ⟨q,hq,rfl⟩,fun v1 h1=>?_⟩;show ⟨_,rfl,a,C,dx,_,_,_,rfl,R.obj,rfl,MP,_,rfl,a,dx,pP,pW,pB,_,_,kP,kW,kB,p.nm,BV p.sp,rfl,R,YC g.np,CI.mpr ⟨p,hp,rfl⟩,fun v2 h2=>?_⟩;let z1:=g.sz q hq;let z2:=g.sz p hp;show ⟨v1,v2,q.sp,p.sp,rfl,h1,h2,z1.1.up cr,z1.2.1.up cr,z2.1.up cr,z2.2.1.up cr,k⟩
def mv (M:ρ)(x:Str):Rat×Rat:=(M x).getD (0,0)
def gP (F:ρ)(pX:ς):List (Int×Int):=pX.flatMap fun p=>[qr (mv F p.nm).1,qr (mv F p.nm).2]
theorem fK (F:ρ):∀pX:List aY,(gP F pX).length=2*pX.length
 | []=>rfl
 | p::ps=>by
  have:=fK F ps;unfold gP at this ⊢;rw [VW,IA,this];simp;omega
def ag4 (F:ρ)(ps:ς)(p:aY):gP F (ps++[p])=gP F ps++[qr (mv F p.nm).1,qr (mv F p.nm).2]:=by
 unfold gP;rw [uw];simp
def vp (x:Str)(w:Rat×Rat):Str->Option (Rat×Rat):=fun y=>if y=x then some w else none
def mm (b:bK):Str->Option (Rat×Rat):=fun y=>if y=b.one.nm then some (GY b.one b.lG) else if y=b.lG.nm then some (GY b.lG b.one) else none
def vq (pX:ς)(p:aY):List (List (Int×Int)):=p.ws.map fun w=>gP (vp p.nm w) pX
def iN (pX:ς)(ao:Η):List (List (Int×Int)):=(pX.flatMap fun p=>vq pX p)++ao.map fun b=>gP (mm b) pX
structure iO (K:Frag)(H:Hp)(r:AO)(ls:υ)(b_:Ζ)(gI:Ε):Prop where
 j_:j7 H r ls b_
 num:iA K H b_ gI
 nr:r∉ls
theorem iO.gV (h:iO K H r ls b_ gI)(s:aq H H'):iO K H' r ls b_ gI:=⟨h.j_.gV s,h.num.gV s,h.nr⟩
def aaJ (h:iA K H b_ gI)(n:cM K H us qs):iA K H (b_++[us]) (gI++[qs]):=by
 show ⟨by simp [h.1],fun i u q' e1 e2=>?_⟩;let l:=h.1;by_cases c:i<b_.length
 ·rw [Nu c] at e1
  rw [Nu ci] at e2;exact h.2 i u q' e1 e2
 ·rw [Qw ci] at e1 e2
  by_cases z:i-b_.length=0
  ·rw [z] at e1
   rw [show i-gI.length=0 by omega] at e2;cases e1;cases e2;exact n
  ·rw [HX (by simp;omega)] at e1
   cases e1
def ahL {H:Hp}{ls:υ}{b_:Ζ}(hl:ls.length=b_.length)(h:∀(i:Nat)(l:AO)(vs:ζ),ls[i]?=some l->b_[i]?=some vs->H l=some (.lst vs))(e:H l=some (.lst us)):
  ∀(i:Nat)(l':AO)(vs:ζ),(ls++[l])[i]?=some l' ->(b_++[us])[i]?=some vs->H l'=some (.lst vs):=fun i l' vs e1 e2=>by
 by_cases c:i<ls.length
 ·rw [Nu c] at e1
  rw [Nu ci] at e2;exact h i l' vs e1 e2
 ·rw [Qw ci] at e1 e2
  by_cases z:i-ls.length=0
  ·rw [z] at e1
   rw [show i-b_.length=0 by omega] at e2;cases e1;cases e2;exact e
  ·rw [HX (by simp;omega)] at e1
   cases e1
def iO.push (h:iO K H r ls b_ gI)(e:H l=some (.lst us))(ne:l≠r)(n:cM K H us qs):
  iO K (upd H r (.lst (ls.map V.ref++[.ref l]))) r (ls++[l]) (b_++[us]) (gI++[qs]):=by
 let st:bf H (upd H r (.lst (ls.map V.ref++[.ref l]))):=.list h.j_.1
 let hm:∀(i:Nat)(l':AO)(vs:ζ),ls[i]?=some l' ->b_[i]?=some vs->(upd H r (.lst (ls.map V.ref++[.ref l]))) l'=some (.lst vs):=fun i l' vs e1 e2=>by
  rw [ah (fun z:l'=r=>h.nr (by rw [<-z];exact DA e1))];exact h.j_.2.2 i l' vs e1 e2
 show ⟨⟨by rw [ag,MX];rfl,by simp [h.j_.2.1],ahL h.j_.2.1 hm (by rwa [ah ne])⟩,?_,?_⟩
 ·exact aaJ ⟨h.num.1,fun i vs qs e1 e2=>(h.num.2 i vs qs e1 e2).aT st⟩ (n.aT st)
 ·intro z
  rcases FQ.mp z with z|z
  ·exact h.nr z
  ·exact ne (GZ.mp z).symm
inductive ju (K:Frag)(C:AO)(vs:ζ)(H:Hp)(Q:VK)(E_:XK):Prop
|mk (a d:AO)(pX:ς)(ao:Η)(AD:γ)(F:ρ)(_:vs=[.ref a,.ref d])(_:x6 K H C a pX ao)(_:pX.length<=100)(_:H d=some (.dK AD))(_:Nk K H AD F)(_:∀(l:AO)(us:ζ)(H':Hp),aq H H' ->H l=none->H' l=some (.lst us)->cM K H' us (gP F pX)->Q (.ref l) H')
def iP (pX:ς):((pX.map fun p=>(p.nm,BV p.sp)).map (·.1))=pX.map (·.nm):=by rw [MI];rfl
def So:av ["F","draws","row","pin"] σ4 (ae NA):=sq
def afD (hM:∀H:Hp,gC K H (.ref aM) (0,0))(G_:mg "NO_MOVE"=some (.ref aM))(D:Def K mg "pair_row" NA σ4)(MP:am P w K mg gw 1 C "pins" MA (jO K C)):ac P w K mg gw 2 "pair_row" σ4 (ju K C):=by
 refine D.oo So fun H hr h=>?_;obtain ⟨a,d,pX,ao,AD,F,rfl,R,lp,hd,hP,q⟩:=h
 show ⟨_,(aa (aA 2 So.nd (bI iV)) (aa (a_ HM rfl (a9 (dW (k:=1) (pv 0) hr.mo (Ua P w))) (b6 3 So.nd) (aj (bP (sy Wg PySem.F.slot_list_extend PySem.F.type_list_extend acB (pv 2) (aV (ip (bU hr) (pv 1) (pv 3) (dJ (v:=.ref aM) rfl G_ rfl) ⟨rfl,rfl,rfl,rfl⟩)))))) (aj (aD (pv 2))))),?_⟩
 show ⟨z0L,?_⟩;intros l nl H1 s1 el;let R1:=R.gV s1;obtain ⟨dx,pP,pW,pB,kP,kW,kB,F1,W1⟩:=R1.ex;show ⟨_,rfl,a,C,dx,_,_,_,rfl,F1.obj,rfl,MP,a,dx,pP,pW,pB,_,_,kP,kW,kB,rfl,F1,fun lp H2 s2 G' zY=>?_⟩;rw [iP] at zY;let LI:=s1.trans s2;let lne:lp≠l:=fun z=>by erw [z,el] at G'
 show ⟨lp,rfl,⟨_,aK.of zY⟩,let I:ce:=fun i Z H'=>CK fun (o3:ω) (us:ζ)=>Z=[ap a,ap d,ap l,o3]/\aq H H'/\H' lp=some (.lst ((pX.map (·.nm)).map V.str))/\H' l=some (.lst us)/\cM K H' us (gP F (pX.take i));bM (K:=K) (a:=lp) (xs:=(pX.map (·.nm)).map V.str) I ⟨none,[],rfl,LI,zY,s2 _ _ el,⟨rfl,fun i u q e=>by simp at e⟩⟩ (fun i Z H' _ h=>by
   obtain ⟨_,_,_,_,h,_⟩:=h
   exact aK.of h) ?_ ?_⟩
 ·rintro i z Z H4 hi ⟨o3,us,rfl,s4,l4,e4,n4⟩
  rw [BJ,BJ] at hi;obtain ⟨x,hx,rfl⟩:=GX.mp hi;obtain ⟨p,hp,rfl⟩:=GX.mp hx;let il:i<pX.length:=(Wp.mp hp).1;let d4:=s4 _ _ hd;let g1:gC K H4 ((bB AD (.inr p.nm)).getD (.ref aM)) (mv F p.nm):=(hP.gV s4).BQ (hM H4);obtain ⟨b,u1,u2,eb,hb,h1,h2⟩:=g1
  let lu:us.length<=200:=by
   have:=n4.1;rw [fK,HQ] at this;omega
  show ⟨_,rfl,.inl ⟨rfl,_,aK.of e4⟩,_,rfl,d,rfl,.inl ⟨_,.inl d4⟩,_,rfl,_,dX.k (k:=.inr p.nm) d4,l,b,us,[u1,u2],rfl,by rw [eb],e4,hb,by simp;omega,?_⟩;let st:bf H4 (upd H4 l (.lst (us++[u1,u2]))):=.list e4;show ⟨_,us++[u1,u2],rfl,fun c o z=>?_,?_,ag,?_⟩
  ·rw [ah (ak z nl)]
   exact s4 _ _ z
  ·rw [ah lne]
   exact l4
  ·rw [take_snoc hp,ag4]
   let a1:=cM.snoc (K:=K) (n4.aT st) (fe.aT h1 st);let a2:=cM.snoc (K:=K) a1 (fe.aT h2 st);simpa using a2
 ·rintro Z H4 ⟨o3,us,rfl,s4,l4,e4,n4⟩
  rw [ir,ir,Nq] at n4;show ⟨_,rfl,q l us H4 s4 nl e4 n4⟩
def Fn.VX (len:∀vs H Q E,sp vs H Q E->vs.length=ps.length)(h:∀vs H Q E,sp vs H Q E->sp' vs H Q (thE H E))(F:ac P w K mg gw k x ps sp'):ac P w K mg gw k x ps sp:=by
 obtain ⟨f,fd,G,r⟩:=F.ex;show ⟨f,fd,zaz len h G,r⟩
def KeysIn (ns:θ)(AD:γ):Prop:=∀kv∈AD,∃x∈ns,kv.1=.inr x
def fL (H:Hp)(E:XK)(CN:AO)(f:Str)(ns:θ)(AD:γ):Prop:=∀(t:Nat)(x:Str)(y:V),AD[t]?=some (.inr x,y)->x∉ns->KeysIn ns (AD.take t)->g7 H E CN f (.str x)
def g7.gV (h:g7 H E C f v)(s:aq H H1):g7 H1 E C f v:=fun d H' s' nd hd=>h d H' (s.trans s') (s.free nd) hd
theorem fL.gV (h:fL H E C f ns AD)(s:aq H H1):fL H1 E C f ns AD:=fun t x y e n k=>(h t x y e n k).gV s
inductive jQ (K:Frag)(C CN:AO)(vs:ζ)(H:Hp)(Q:VK)(E:XK):Prop
|mk (a d:AO)(pX:ς)(ao:Η)(AD:γ)(F:ρ)(_:vs=[.ref a,.ref d])(_:x6 K H C a pX ao)(_:pX.length<=100)(_:H d=some (.dK AD))(_:Nk K H AD F)(_:(∀kv∈AD,∃x:Str,kv.1=.inr x))(_:fL H E CN "pin" (pX.map (·.nm)) AD)(_:∀(l:AO)(us:ζ)(H':Hp),KeysIn (pX.map (·.nm)) AD->aq H H' ->H l=none->H' l=some (.lst us)->cM K H' us (gP F pX)->Q (.ref l) H')
def Sq:av ["F","load","pins","pin"] ["F","load"] (ae GQ):=sq
def afE (D:Def K mg "load_row" GQ ["F","load"])(MP:am P w K mg gw 1 C "pins" MA (jO K C))(Sr:ac P w K mg gw 2 "pair_row" σ4 (ju K C))
  (Ov:mg "NoPin"=some (.ref CN)) (aaD:FV K CN fN) (ang:ad P w K mg gw 1 fN fdN Np (kQ CN "pin")) (aaE:Binds K fdN Np []):ac P w K mg gw 4 "load_row" ["F","load"] (jQ K C CN):=by
 refine Fn.VX (sp':=fun vs H Q E1=>∃E,E1=thE H E/\jQ K C CN vs H Q E) (fun vs H Q E h=>?_) (fun vs H Q E h=>⟨E,rfl,h⟩) (D.okX Sq (fun vs H Q E h=>?_) (fun f bE A outer s H vs Q E hr h=>?_))
 ·obtain ⟨a,d,pX,ao,AD,F,rfl,_⟩:=h
  rfl
 ·obtain ⟨E',_,a,d,pX,ao,AD,F,rfl,_⟩:=h
  rfl
 let px:Passes (aS P w) (md P w K mg gw ["F","load","pins","pin"] "load_row" (ae GQ) f bE A outer s H E) E:=nR;let L1:1<=BZ:=cr
 show ⟨_,(aa (aA 2 Sq.nd (dW (k:=1) (pv 0) hr.mo px)) (aa (oh (a_ LR rfl (alo (pv 1)) (b6 3 Sq.nd) (aj (bh (jD gW (pv 3) (pv 2) rfl) (aj (pR aaD ang hr.mo aaE Ov (aV (pv 3)))) aI)))) (aj (aD (cR Sr hr.mo px (aF (pv 0) (pv 1))))))),?_⟩;sleep 2
 clear px;obtain ⟨E',rfl,a,d,pX,ao,AD,F,rfl,R,lp,hd,hP,hk,hs,q⟩:=h;obtain ⟨dx,pP,pW,pB,kP,kW,kB,F1,W1⟩:=R.ex;show ⟨_,rfl,a,C,dx,_,_,_,rfl,F1.obj,rfl,MP,a,dx,pP,pW,pB,_,_,kP,kW,kB,rfl,F1,fun l H1 s1 nl el=>?_⟩;rw [iP] at el;let Wi:=s1 _ _ hd;show ⟨_,rfl,d,AD,rfl,Wi,fun o=>?_⟩;let ld:l≠d:=fun z=>by erw [z,Wi] at el
 refine let I:ce:=fun t Z H'=>∃(o2:ω),Z=[ap a,ap d,ap l,o2]/\H'=upd H1 d (.eZ o (.dK AD))/\KeysIn (pX.map (·.nm)) (AD.take t);zar (d:=d) (o:=o) (AD:=AD) I ⟨none,rfl,rfl,fun kv h=>(by simp at h)⟩ (fun t Z H' _ h=>by
   obtain ⟨_,_,rfl,_⟩:=h
   exact ag) ?_ ?_
 ·rintro t k y Z H6 mj ⟨o2,rfl,rfl,ki⟩
  obtain ⟨x,ex⟩:=hk _ (DA mj);have u_ :k=.inr x:=ex;subst u_;show ⟨_,rfl,_,rfl,l,_,rfl,.inl (aK.of (by rwa [ah ld])),rfl,jq _,_,rfl,?_⟩;refine bD (fun c=>?_) (fun c=>?_)
  ·let c':(!zV (.str x) ((pX.map (·.nm)).map V.str))=true:=c
   let nx:x∉pX.map (·.nm):=fun z=>by
    erw [dy,Ms z] at c'
   let hd8:(upd H1 d (.eZ o (.dK AD))) d=some (.eZ o (.dK AD)):=ag;let ks8:cx d H (upd H1 d (.eZ o (.dK AD))):=fun b o' n e=>by rw [ah n];exact s1 _ _ e
   generalize upd H1 d (.eZ o (.dK AD))=H8 at hd8 ks8 ⊢;show ⟨_,rfl,L1,g7.go fun e H' sH nd he=>.inr ⟨d,o,AD,sH _ _ hd8,(fun o' u' z=>by erw [hd] at z),?_⟩⟩;let dp:e≠d:=fun z=>by erw [z,hd8] at nd
   refine hs t x y mj nx ki e _ (fun b o' z=>?_) ?_ (by rwa [ah dp])
   ·by_cases n:b=d
    ·subst n
     rw [hd] at z;rwa [ag]
    ·rw [ah n]
     exact sH _ _ (ks8 b o' n z)
   ·cases z:H e with
    | none=>rfl
    | some o'=>erw [ks8 e o' dp z] at nd
  ·show ⟨_,rfl,rfl,fun kv h=>?_⟩
   rw [take_snoc mj] at h
   rcases FQ.mp h with h|h
   ·exact ki kv h
   ·rw [GZ.mp h]
    let c':¬ (!zV (.str x) ((pX.map (·.nm)).map V.str))=true:=c;show ⟨x,?_,rfl⟩;by_cases hx:x∈pX.map (·.nm)
    ·exact hx
    ·rw [dy,Nt hx] at c'
     exact CH rfl c'
 ·rintro Z H6 ⟨o2,rfl,rfl,ki⟩
  rw [Nq] at ki;show ⟨d,o,AD,ag,fun o' u' z=>(by have z':H d=some (.eZ o' u'):=z;erw [hd] at z'),?_⟩
  let s2:aq H (upd (upd H1 d (.eZ o (.dK AD))) d (.dK AD)):=fun b o' e=>by
   by_cases n:b=d
   ·subst n
    rw [hd] at e;rwa [ag]
   ·rw [ah n,ah n]
    exact s1 _ _ e
  generalize upd (upd H1 d (.eZ o (.dK AD))) d (.dK AD)=H2 at s2 ⊢;show ⟨_,rfl,_,rfl,a,d,pX,ao,AD,F,rfl,R.gV s2,lp,s2 _ _ hd,hP.gV s2,fun l' us H3 s3 n3 e3 nm=>?_⟩;exact q l' us H3 ki (s2.trans s3) (s2.free n3) e3 nm
inductive uk (K:Frag)(C:AO)(vs:ζ)(H:Hp)(Q:VK)(E_:XK):Prop
|mk (a:AO)(pX:ς)(ao:Η)(b:bK)(_:vs=[.ref a,.str b.one.nm,.str b.lG.nm])(_:x6 K H C a pX ao)(_:iK pX ao)(_:b.one∈pX)(_:b.lG∈pX)(_:b.one.nm≠b.lG.nm)(_:∀(l:AO)(us:ζ)(H':Hp),aq H H' ->H l=none->H' l=some (.lst us)->cM K H' us (gP (mm b) pX)->Q (.ref l) H')
def aaH (k:Key)(v:V):dj [] [(k,v)]=[(k,v)]:=rfl
def aaI (v u:V)(h:k≠j):dj [] [(k,v),(j,u)]=[(k,v),(j,u)]:=by
 show putK [(k,v)] j u=_;rw [dw]
 ·rfl
 ·rw [bw h]
  rfl
def afF:av S_ S_ (ae NC):=sq
def afG (D:Def K mg "bar_row" NC S_)(Wk:ac P w K mg gw 36 "arm_between" S_ (LH K C))(Sr:ac P w K mg gw 2 "pair_row" σ4 (ju K C)):ac P w K mg gw 37 "bar_row" S_ (uk K C):=by
 refine D.oo afF fun H hr h=>?_;obtain ⟨a,pX,ao,b,rfl,R,g,m1,m2,ne,q⟩:=h;show ⟨_,(aj (aD (aU Sr hr (aF (pv 0) (amE (tI (pv 1) (aU Wk hr (bx (pv 0) (pv 1) (pv 2))) (tI (pv 2) (aU Wk hr (bx (pv 0) (pv 2) (pv 1))) amF)) rfl rfl (al5 _ _) cr))))),_,rfl,fun d nd=>?_⟩;let s1:=aC nd (.dK []);let e1:(upd H d (.dK [])) d=some (.dK []):=ag;generalize upd H d (.dK [])=H1 at s1 e1 ⊢;show ⟨_,rfl,_,rfl,_,rfl,_,rfl,a,pX,ao,b.one,b.lG,rfl,R.gV s1,g,m1,m2,fun v1 H2 s2 h2=>?_⟩;show ⟨_,rfl,_,rfl,_,rfl,_,rfl,a,pX,ao,b.lG,b.one,rfl,(R.gV s1).gV s2,g,m2,m1,fun v2 H3 s3 h3=>?_⟩;let e3:=s3 _ _ (s2 _ _ e1);show ⟨e3,[(.inr b.one.nm,v1),(.inr b.lG.nm,v2)],rfl,(by show 2<=15;decide),?_⟩;rw [aaI _ _ (fun z=>ne (MQ z))];let st:bf H3 (upd H3 d (.dK [(.inr b.one.nm,v1),(.inr b.lG.nm,v2)])):=.dict e3;let e4:(upd H3 d (.dK [(.inr b.one.nm,v1),(.inr b.lG.nm,v2)])) d=some (.dK [(.inr b.one.nm,v1),(.inr b.lG.nm,v2)]):=ag
 let s4:aq H (upd H3 d (.dK [(.inr b.one.nm,v1),(.inr b.lG.nm,v2)])):=fun c o z=>by
  rw [ah (ak z nd)];exact s3 _ _ (s2 _ _ (s1 _ _ z))
 generalize upd H3 d (.dK [(.inr b.one.nm,v1),(.inr b.lG.nm,v2)])=H4 at st e4 s4 ⊢;show ⟨a,d,pX,ao,_,mm b,rfl,R.gV s4,CT g.lp cr,e4,fun x=>?_,fun l us H5 s5 n5 e5 nm=>q l us H5 (s4.trans s5) (s4.free n5) e5 nm⟩;by_cases c1:x=b.one.nm
 ·subst c1
  exact .inr ⟨v1,GY b.one b.lG,bO rfl,by unfold mm;rw [mG rfl],(h2.gV s3).aT st⟩
 ·by_cases c2:x=b.lG.nm
  ·subst c2
   exact .inr ⟨v2,GY b.lG b.one,by rw [bw (fun z=>c1 (MQ z).symm),bO rfl],by unfold mm;rw [lH c1,mG rfl],h3.aT st⟩
  ·exact .inl ⟨by rw [bw (fun z=>c1 (MQ z).symm),bw (fun z=>c2 (MQ z).symm)];rfl,by unfold mm;rw [lH c1,lH c2]⟩
inductive mX (K:Frag)(C:AO)(vs:ζ)(H:Hp)(Q:VK)(E_:XK):Prop
|mk (a:AO)(pX:ς)(ao:Η)(_:vs=[.ref a])(_:x6 K H C a pX ao)(_:iK pX ao)(_:∀(r:AO)(ls:υ)(b_:Ζ)(H':Hp),aq H H' ->H r=none->iO K H' r ls b_ (iN pX ao)->Q (.ref r) H')
def r6 (ao:Η):((ao.map fun b=>(b.nm,b.one.nm,b.lG.nm)).map (·.1))=ao.map (·.nm):=by rw [MI];rfl
def oI (pX:ς)(h:∀p∈pX,p.ws.length<=2):(pX.flatMap fun p=>p.ws).length<=2*pX.length:=by
 induction pX with
 | nil=>simp
 | cons p ps ih=>
  let h1:=h p LZ;let h2:=ih fun q hq=>h q (HV _ hq);rw [VW,IA,Oy];omega
def gD (all pX:ς):(pX.flatMap fun p=>vq all p).length=(pX.flatMap fun p=>p.ws).length:=by
 induction pX with
 | nil=>rfl
 | cons p ps ih=>
  rw [VW,VW,IA,IA,ih];unfold vq;rw [ir]
def acz (pX:ς)(ao:Η):(iN pX ao).length=(pX.flatMap fun p=>p.ws).length+ao.length:=by
 unfold iN;rw [IA,gD,ir]
def w8:av ["F","rows","pin","way","bar","two"] ["F"] (ae NF):=sq
def afH (D:Def K mg "draw_rows" NF ["F"])(MP:am P w K mg gw 1 C "pins" MA (jO K C))(MW:am P w K mg gw 2 C "ways" Np (uh K C))(MB:am P w K mg gw 1 C "bars" MA (jN K C))(ME:am P w K mg gw 1 C "ends" Qx (ug K C))
  (Sr:ac P w K mg gw 2 "pair_row" σ4 (ju K C)) (anh:ac P w K mg gw 37 "bar_row" S_ (uk K C)):ac P w K mg gw 38 "draw_rows" ["F"] (mX K C):=by
 refine D.op w8 fun f bE A outer s H vs Q E hr h=>?_;obtain ⟨a,pX,ao,rfl,R,g,q⟩:=h
 show ⟨_,(aa (aA 1 w8.nd (bI iV)) (aa (a_ HM rfl (a9 (dW (k:=1) (pv 0) hr.mo (pY P w))) (b6 2 w8.nd) (aj (a_ HM rfl (a9 (fE (k:=2) (pv 0) hr.mo (pY P w) (aV (pv 2)))) (b6 3 w8.nd) (aj (bP (sy Wg Zt Zo fT (pv 1) (aV (aU Sr hr (aF (pv 0) (amE (tI (pv 2) (pv 3) amF) rfl rfl (al5 _ _) cr)))))))))) (aa (a_ HM rfl (a9 (dW (k:=1) (pv 0) hr.mo (pY P w))) (b6 4 w8.nd) (aa (aA 5 w8.nd (fE (k:=1) (pv 0) hr.mo (pY P w) (aV (pv 4)))) (aj (bP (sy Wg Zt Zo fT (pv 1) (aV (aU anh hr (bx (pv 0) (aG (pv 5)) (aG (pv 5)))))))))) (aj (aD (pv 1)))))),?_⟩;sleep 3
 show ⟨z0L,?_⟩;intros r nr H1 s1 er;let big:(40:Nat)<=BZ:=cr
 let wl:=oI pX g.lw;let gl:=g.lp;let R0:iO K H1 r [] [] []:=⟨⟨er,rfl,fun i l vs e=>by simp at e⟩,⟨rfl,fun i vs qs e=>by simp at e⟩,by simp⟩;let R1:=R.gV s1;obtain ⟨dx,pP,pW,pB,kP,kW,kB,F1,W1⟩:=R1.ex;show ⟨_,rfl,a,C,dx,_,_,_,rfl,F1.obj,rfl,MP,a,dx,pP,pW,pB,_,_,kP,kW,kB,rfl,F1,fun lp H2 s2 G' zY=>?_⟩;rw [iP] at zY;let LI:=s1.trans s2;let lne:lp≠r:=fun z=>by erw [z,er] at G'
 show ⟨lp,rfl,⟨_,aK.of zY⟩,let I:ce:=fun i Z H'=>Nw fun (o2 o3:ω) (ls:υ) (b_:Ζ)=>Z=[ap a,ap r,o2,o3,none,none]/\aq H H'/\H' lp=some (.lst ((pX.map (·.nm)).map V.str))/\iO K H' r ls b_ ((pX.take i).flatMap fun p=>vq pX p);bM (K:=K) (a:=lp) (xs:=(pX.map (·.nm)).map V.str) I ⟨none,none,[],[],rfl,LI,zY,R0.gV s2⟩ (fun i Z H' _ h=>by
   obtain ⟨_,_,_,_,_,_,h,_⟩:=h
   exact aK.of h) ?_ ?_⟩
 ·rintro i z Z H4 hi ⟨o2,o3,ls,b_,rfl,s4,l4,RR⟩
  rw [BJ,BJ] at hi;obtain ⟨x,hx,rfl⟩:=GX.mp hi;obtain ⟨p,hp,rfl⟩:=GX.mp hx;let mp:p∈pX:=DA hp;let R4:=R.gV s4;obtain ⟨dx,pP,pW,pB,kP,kW,kB,F4,W4⟩:=R4.ex;let mpn:p.nm∈(pX.map fun p=>(p.nm,BV p.sp)).map (·.1):=by rw [iP];exact CI.mpr ⟨p,mp,rfl⟩
  show ⟨_,rfl,a,C,dx,_,_,_,rfl,F4.obj,rfl,MW,_,rfl,a,dx,pP,pW,pB,_,_,kP,kW,kB,_,p.nm,p.ws,rfl,F4,W4,YD g.np,CI.mpr ⟨p,mp,rfl⟩,mpn,fun m us H5 s5 n5 e5 p5=>?_⟩;let lu:us.length=p.ws.length:=HR p5;let s05:=s4.trans s5;let mr:m≠r:=fun z=>by erw [z,RR.j_.1] at n5
  show ⟨m,rfl,⟨_,aK.of e5⟩,let I:ce:=fun j Z H'=>KU fun (o3:ω) (ls:υ) (b_:Ζ)=>Z=[ap a,ap r,some (.str p.nm),o3,none,none]/\aq H H'/\H' lp=some (.lst ((pX.map (·.nm)).map V.str))/\H' m=some (.lst us)/\mf K H' us p.ws/\iO K H' r ls b_ (((pX.take i).flatMap fun p=>vq pX p)++(p.ws.take j).map fun w=>gP (vp p.nm w) pX);bM (K:=K) (a:=m) (xs:=us) I ⟨o3,ls,b_,rfl,s05,s5 _ _ l4,e5,p5,by simpa using RR.gV s5⟩ (fun j Z H' _ h=>by
    obtain ⟨_,_,_,_,_,_,h,_⟩:=h
    exact aK.of h) ?_ ?_⟩
  ·rintro j u Z H6 hu ⟨o3,ls,b_,rfl,s6,l6,e6,p6,CS⟩
   obtain ⟨w,ew,hw⟩:=aE p6 hu;let jl:=(Wp.mp hu).1;show ⟨_,rfl,.inl ⟨rfl,_,aK.of CS.j_.1⟩,_,rfl,fun d nd=>?_⟩;let t1:=aC nd (.dK []);let d1:(upd H6 d (.dK [])) d=some (.dK []):=ag;generalize upd H6 d (.dK [])=H7 at t1 d1 ⊢;show ⟨_,rfl,_,rfl,d1,[(.inr p.nm,u)],rfl,(by show 1<=15;decide),?_⟩;rw [aaH];let st:bf H7 (upd H7 d (.dK [(.inr p.nm,u)])):=.dict d1;let d8:(upd H7 d (.dK [(.inr p.nm,u)])) d=some (.dK [(.inr p.nm,u)]):=ag
   let t8:aq H6 (upd H7 d (.dK [(.inr p.nm,u)])):=fun c o z=>by
    rw [ah (ak z nd)];exact t1 _ _ z
   let hw8:=(hw.gV t1).aT st;generalize upd H7 d (.dK [(.inr p.nm,u)])=H8 at d8 t8 hw8 ⊢;let s8:=s6.trans t8;show ⟨a,d,pX,ao,_,vp p.nm w,rfl,R.gV s8,CT g.lp cr,d8,fun x=>?_,fun l pF H9 t9 n9 e9 nm=>?_⟩
   ·by_cases c1:x=p.nm
    ·subst c1
     exact .inr ⟨u,w,bO rfl,by unfold vp;rw [mG rfl],hw8⟩
    ·exact .inl ⟨by rw [bw (fun z=>c1 (MQ z).symm)];rfl,by unfold vp;rw [lH c1]⟩
   let t69:=t8.trans t9;let RR9:=CS.gV t69;let lr:l≠r:=fun z=>by erw [z,t8 _ _ CS.j_.1] at n9
   let lss:ls.length<=18:=by
    let h1:=CS.j_.2.1;let h2:=CS.num.1;rw [IA,ir,HQ,gD] at h2
    let h3:((pX.take i).flatMap fun p=>p.ws).length+p.ws.length<=(pX.flatMap fun p=>p.ws).length:=by
     let e:pX=pX.take i++p::pX.drop (i+1):=by
      let lt:=(Wp.mp hp).1;let e2:=(Wp.mp hp).2;rw [<-e2,akW,Ri]
     let e3:=ph (fun l:List aY=>(l.flatMap fun p=>p.ws).length) e;simp only [uw,VW,IA] at e3;omega
    omega
   show ⟨r,_,_,rfl,rfl,RR9.j_.1,(by rw [ir];omega),?_⟩;let RN:=RR9.push e9 lr nm;let tr:bf H9 (upd H9 r (.lst (ls.map V.ref++[.ref l]))):=.list RR9.j_.1;let kk:∀b o,b≠r->H6 b=some o->(upd H9 r (.lst (ls.map V.ref++[.ref l]))) b=some o:=fun b o n e=>by rw [ah n];exact t69 _ _ e
   show ⟨_,ls++[l],b_++[pF],rfl,fun b o e=>?_,kk _ _ lne l6,kk _ _ mr e6,(p6.gV t69).aT tr,?_⟩
   ·exact kk _ _ (ak e nr) (s6 _ _ e)
   ·rw [take_snoc ew,MX,<-Wv]
    exact RN
  ·rintro Z H6 ⟨o3,ls,b_,rfl,s6,l6,e6,p6,CS⟩
   show ⟨_,_,ls,b_,rfl,s6,l6,?_⟩;rw [lu,Nq] at CS;rw [take_snoc hp,uw];simpa [vq] using CS
 ·rintro Z H4 ⟨o2,o3,ls,b_,rfl,s4,l4,RR⟩
  rw [ir,ir,Nq] at RR;let R4:=R.gV s4;obtain ⟨dx,pP,pW,pB,kP,kW,kB,F4,W4⟩:=R4.ex;show ⟨_,rfl,a,C,dx,_,_,_,rfl,F4.obj,rfl,MB,a,dx,pP,pW,pB,_,_,kP,kW,kB,rfl,F4,fun lb H5 s5 nlb elb=>?_⟩;rw [r6] at elb;let bne:lb≠r:=fun z=>by erw [z,RR.j_.1] at nlb
  show ⟨lb,rfl,⟨_,aK.of elb⟩,let I:ce:=fun i Z H'=>Nw fun (o4 o5:ω) (ls:υ) (b_:Ζ)=>Z=[ap a,ap r,o2,o3,o4,o5]/\aq H H'/\H' lb=some (.lst ((ao.map (·.nm)).map V.str))/\iO K H' r ls b_ ((pX.flatMap fun p=>vq pX p)++(ao.take i).map fun b=>gP (mm b) pX);bM (K:=K) (a:=lb) (xs:=(ao.map (·.nm)).map V.str) I ⟨none,none,ls,b_,rfl,s4.trans s5,elb,by simpa using RR.gV s5⟩ (fun i Z H' _ h=>by
    obtain ⟨_,_,_,_,_,_,h,_⟩:=h
    exact aK.of h) ?_ ?_⟩
  ·rintro i z Z H6 hi ⟨o4,o5,ls,b_,rfl,s6,l6,CS⟩
   rw [BJ,BJ] at hi;obtain ⟨x,hx,rfl⟩:=GX.mp hi;obtain ⟨b,hb,rfl⟩:=GX.mp hx;let mb:b∈ao:=DA hb;let il:=(Wp.mp hb).1;let R6:=R.gV s6;obtain ⟨dx,pP,pW,pB,kP,kW,kB,F6,W6⟩:=R6.ex;show ⟨_,rfl,a,C,dx,_,_,_,rfl,F6.obj,rfl,ME,_,rfl,a,dx,pP,pW,pB,_,_,kP,kW,kB,b.nm,b.one.nm,b.lG.nm,rfl,F6,YE g.nb,CI.mpr ⟨b,mb,rfl⟩,fun p rd=>?_⟩;let tp:bZ K H6 p [.str b.one.nm,.str b.lG.nm]:=.inl rd;obtain ⟨m1,m2,m3⟩:=g.ends b mb;show ⟨_,rfl,.inl ⟨rfl,_,aK.of CS.j_.1⟩,_,rfl,_,rfl,p,_,_,_,rfl,rfl,tp,ib,_,rfl,p,_,_,_,rfl,rfl,tp,iD,a,pX,ao,b,rfl,R6,g,m1,m2,m3,fun l pF H9 t9 n9 e9 nm=>?_⟩;let RR9:=CS.gV t9;let lr:l≠r:=fun z=>by erw [z,CS.j_.1] at n9
   let lss:ls.length<=32:=by
    let h1:=CS.j_.2.1;let h2:=CS.num.1;rw [IA,ir,HQ,gD] at h2;have:=g.lb;omega
   show ⟨r,_,_,rfl,rfl,RR9.j_.1,(by rw [ir];omega),?_⟩;let RN:=RR9.push e9 lr nm;let kk:∀c o,c≠r->H6 c=some o->(upd H9 r (.lst (ls.map V.ref++[.ref l]))) c=some o:=fun c o n e=>by rw [ah n];exact t9 _ _ e
   show ⟨_,_,ls++[l],b_++[pF],rfl,fun c o e=>kk _ _ (ak e nr) (s6 _ _ e),kk _ _ bne l6,?_⟩;rwa [take_snoc hb,MX,<-Wv]
  ·rintro Z H6 ⟨o4,o5,ls,b_,rfl,s6,l6,CS⟩
   rw [ir,ir,Nq] at CS;show ⟨_,rfl,q r ls b_ H6 s6 nr CS⟩
def ado {i j:Nat}(h:i<=j)(hj:j<=xs.length):iW xs (some (i:Int)) (some (j:Int))=(xs.drop i).take (j-i):=by
 unfold iW;rw [HT.rL,HT.rL,KJ hj,KJ (show i<=xs.length by omega)]
theorem oJ :∀{l:List Y} {m:List β} (n:Nat),Paired R l m->Paired R (l.drop n) (m.drop n)
 | _,_,0,h=>h
 | _,_,_+1,.nil=>.nil
 | _,_,n+1,.cons _ t=>oJ n t
theorem oK :∀{l:List Y} {m:List β} (n:Nat),Paired R l m->Paired R (l.take n) (m.take n)
 | _,_,0,_=>.nil
 | _,_,_+1,.nil=>.nil
 | _,_,n+1,.cons h t=>.cons h (oK n t)
def bC (pX:ς):Nat:=(pX.flatMap fun p=>p.ws).length
def acG (ps:ς)(p:aY):bC (ps++[p])=bC ps+p.ws.length:=by
 unfold bC;rw [uw,IA];simp
def abD (h:pX[i]?=some p):bC (pX.take i)+p.ws.length<=bC pX:=by
 let e:pX=pX.take i++p::pX.drop (i+1):=by
  let lt:=(Wp.mp h).1;let e2:=(Wp.mp h).2;rw [<-e2,akW,Ri]
 let e3:=ph (fun l:List aY=>(l.flatMap fun p=>p.ws).length) e;simp only [uw,VW,IA] at e3;unfold bC;omega
inductive aaK (K:Frag)(C:AO)(vs:ζ)(H:Hp)(Q:VK)(E_:XK):Prop
|mk (a nl:AO)(pX:ς)(ao:Η)(us:ζ)(_:vs=[.ref a,.ref nl])(_:x6 K H C a pX ao)(_:iK pX ao)(_:H nl=some (.lst us))(_:us.length=bC pX)(_:∀(p dT dU:AO)(H':Hp),aq H H' ->H' p=some (.tup [.ref dT,.ref dU])->Q (.ref p) H')
def um:av ["F","numbers","pushes","at","pin","behind","pulls"] Vc (ae NG):=sq
def afI (D:Def K mg "pulls_and_pushes" NG Vc)(aX:mg "len"=none)(kY:mg "dict"=none)(gQ:mg "zip"=none)(MP:am P w K mg gw 1 C "pins" MA (jO K C))(MW:am P w K mg gw 2 C "ways" Np (uh K C))(MB:am P w K mg gw 1 C "bars" MA (jN K C)):
  ac P w K mg gw 3 "pulls_and_pushes" Vc (aaK K C):=by
 refine D.op um fun f bE A outer s H vs Q E hr h=>?_;obtain ⟨a,nl,pX,ao,us,rfl,R,g,hn,lu,q⟩:=h;let wl:bC pX<=2*pX.length:=oI pX g.lw;let gl:=g.lp;let gb:=g.lb
 show ⟨_,(aa (aA 2 um.nd cT) (aa (aA 3 um.nd af) (aa (a_ HM rfl (a9 (dW (k:=1) (pv 0) hr.mo (pY P w))) (b6 4 um.nd) (aa (aA 5 um.nd (aw bG (pv 3) (aR aH rfl aX cA (aV (fE (k:=2) (pv 0) hr.mo (pY P w) (aV (pv 4))))))) (aa (cy (bU hr) (pv 2) (pv 4) (bY cX (pv 1) (cC (pv 3)) (cC (pv 5))) rfl) (aj (aA 3 um.nd (pv 5)))))) (aa (aA 6 um.nd (ahG rfl rfl kY rfl gQ (aF (dW (k:=1) (pv 0) hr.mo (pY P w)) (bY cX (pv 1) (cC (pv 3)) cP)))) (aj (aD (aJ (aF (pv 6) (pv 2))))))))),?_⟩;sleep 4
 intro dU nU;let s1:=aC nU (.dK []);let e1:(upd H dU (.dK [])) dU=some (.dK []):=ag;generalize upd H dU (.dK [])=H1 at s1 e1 ⊢;let R1:=R.gV s1;obtain ⟨dx,pP,pW,pB,kP,kW,kB,F1,W1⟩:=R1.ex;show ⟨_,rfl,a,C,dx,_,_,_,rfl,F1.obj,rfl,MP,a,dx,pP,pW,pB,_,_,kP,kW,kB,rfl,F1,fun lp H2 s2 G' zY=>?_⟩;rw [iP] at zY;let LI:=s1.trans s2;let lne:lp≠dU:=fun z=>by erw [z,e1] at G'
 show ⟨lp,rfl,⟨_,aK.of zY⟩,let I:ce:=fun i Z H'=>KU fun (o4 o5:ω) (kU:γ)=>Z=[ap a,ap nl,ap dU,some (.int (bC (pX.take i):Int)),o4,o5,none]/\aq H H'/\H' lp=some (.lst ((pX.map (·.nm)).map V.str))/\H' dU=some (.dK kU)/\kU.length<=i;bM (K:=K) (a:=lp) (xs:=(pX.map (·.nm)).map V.str) I ⟨none,none,[],rfl,LI,zY,s2 _ _ e1,DH _⟩ (fun i Z H' _ h=>by
   obtain ⟨_,_,_,_,_,h,_⟩:=h
   exact aK.of h) ?_ ?_⟩
 ·rintro i z Z H4 hi ⟨o4,o5,kU,rfl,s4,l4,e4,lk⟩
  rw [BJ,BJ] at hi;obtain ⟨x,hx,rfl⟩:=GX.mp hi;obtain ⟨p,hp,rfl⟩:=GX.mp hx;let mp:p∈pX:=DA hp;let il:i<pX.length:=(Wp.mp hp).1;let R4:=R.gV s4;obtain ⟨dx,pP,pW,pB,kP,kW,kB,F4,W4⟩:=R4.ex;let mpn:p.nm∈(pX.map fun p=>(p.nm,BV p.sp)).map (·.1):=by rw [iP];exact CI.mpr ⟨p,mp,rfl⟩
  show ⟨_,rfl,_,rfl,a,C,dx,_,_,_,rfl,F4.obj,rfl,MW,_,rfl,a,dx,pP,pW,pB,_,_,kP,kW,kB,_,p.nm,p.ws,rfl,F4,W4,YD g.np,CI.mpr ⟨p,mp,rfl⟩,mpn,fun m vs H5 s5 n5 e5 p5=>?_⟩;let lv:vs.length=p.ws.length:=HR p5;show ⟨m,_,rfl,.inl (aK.of e5),_,_,rfl,rfl,?_⟩;let tk:=take_snoc hp;let wn:bC (pX.take (i+1))=bC (pX.take i)+p.ws.length:=by rw [tk,acG]
  let wt:=abD hp;let eb:(bC (pX.take i):Int)+((vs.length:Nat):Int)=((bC (pX.take (i+1)):Nat):Int):=by rw [wn,lv];omega
  let s45:=s4.trans s5;let Wc:=s45 _ _ hn;dsimp only;rw [eb];show ⟨_,rfl,_,rfl,_,rfl,_,rfl,_,rfl,nl,_,rfl,aK.of Wc,?_⟩;rw [ado ci ci];intros m2 n6 H6 s6 e6;let e46:=s6 _ _ (s5 _ _ e4);show ⟨_,rfl,_,rfl,dU,_,rfl,gM.k (k:=.inr p.nm) e46 (GG (show kU.length<=1000 by omega) cr),?_⟩;let PM:=s5.trans s6;show ⟨_,rfl,_,_,putK kU (.inr p.nm) (.ref m2),rfl,fun b o e=>by rw [ah (ak e nU)];exact PM _ _ (s4 _ _ e),by rw [ah lne];exact PM _ _ l4,ag,CT (gy kU _ _) ci⟩
 ·rintro Z H4 ⟨o4,o5,kU,rfl,s4,l4,e4,lk⟩
  let R4:=R.gV s4;obtain ⟨dx,pP,pW,pB,kP,kW,kB,F4,W4⟩:=R4.ex;show ⟨_,rfl,a,C,dx,_,_,_,rfl,F4.obj,rfl,MB,a,dx,pP,pW,pB,_,_,kP,kW,kB,rfl,F4,fun lb H5 s5 nlb elb=>?_⟩;rw [r6] at elb;let s45:=s4.trans s5;show ⟨_,rfl,_,rfl,_,rfl,nl,_,rfl,aK.of (s45 _ _ hn),?_⟩;let hw:bC pX<=us.length:=ci
  rw [ir,ir,Nq,gc hw];intros m2 n6 H6 s6 e6
  let eks:(ao.map (·.nm)).map V.str=(ao.map fun b=>(GH b.nm:Key)).map kV:=by
   rw [MI,MI];rfl
  rw [eks] at elb;show ⟨lb,m2,ao.map fun b=>(GH b.nm:Key),us.drop (bC pX),rfl,s6 _ _ elb,e6,by rw [ir];omega,fun dT H7 s7 n7 e7=>?_⟩;show ⟨_,rfl,_,rfl,qZ,?_⟩;intros pt n8 H8 s8 e8;exact q pt dT dU H8 (s4.trans ((s5.trans s6).trans (s7.trans s8))) e8
inductive uo (K:Frag)(C:AO)(vs:ζ)(H:Hp)(Q:VK)(E_:XK):Prop
|mk (a nl:AO)(pX:ς)(ao:Η)(us:ζ)(rs:List Rat)(_:vs=[.ref a,.ref nl])(_:x6 K H C a pX ao)(_:iK pX ao)(_:H nl=some (.lst us))(_:Paired (fe K H) us rs)(_:rs.length=2*pX.length)(_:∀(M:Str->Rat×Rat)(d:AO)(kM:γ)(H':Hp),aq H H' ->rs=(pX.flatMap fun p=>[(M p.nm).1,(M p.nm).2])->H d=none->H' d=some (.dK kM)->kM.map (·.1)=pX.map (fun p=>(GH p.nm:Key))->(∀p∈pX,∃t v1 v2,bB kM (.inr p.nm)=some (.ref t)/\H' t=some (.tup [v1,v2])/\fe K H' v1 (M p.nm).1/\fe K H' v2 (M p.nm).2)->Q (.ref d) H')
def aas {ps:ς}{U W:Str->Rat×Rat}(h:∀p∈ps,U p.nm=W p.nm):(ps.flatMap fun p=>[(U p.nm).1,(U p.nm).2])=ps.flatMap fun p=>[(W p.nm).1,(W p.nm).2]:=by
 induction ps with
 | nil=>rfl
 | cons p ps ih=>
  rw [VW,VW,h p LZ,ih fun q hq=>h q (HV _ hq)]
def LJ:av ["F","numbers","motion","at","pin"] Vc (ae NH):=sq
def afJ (D:Def K mg "motion_from" NH Vc)(fu:mg "enumerate"=none)(MP:am P w K mg gw 1 C "pins" MA (jO K C)):
  ac P w K mg gw 2 "motion_from" Vc (uo K C):=by
 refine D.oo LJ fun H hr h=>?_;obtain ⟨a,nl,pX,ao,us,rs,rfl,R,g,hn,hu,hl,q⟩:=h;let lu:us.length=rs.length:=HR hu;let gl:=g.lp
 show ⟨_,(aa (aA 2 LJ.nd cT) (aa (a_ HM rfl (amC rfl fu (aV (dW (k:=1) (pv 0) hr.mo (Ua P w)))) (iU rfl (bu (b6 3 LJ.nd) (bu (b6 4 LJ.nd) e_))) (aj (cy (bU hr) (pv 2) (pv 4) (aJ (aF (bL aQ (pv 1) (aw b9 af (pv 3))) (bL aQ (pv 1) (aw bG (aw b9 af (pv 3)) af)))) rfl))) (aj (aD (pv 2))))),?_⟩;sleep 2
 intro d nd;let s1:=aC nd (.dK []);let e1:(upd H d (.dK [])) d=some (.dK []):=ag;generalize upd H d (.dK [])=H1 at s1 e1 ⊢;let R1:=R.gV s1;obtain ⟨dx,pP,pW,pB,kP,kW,kB,F1,W1⟩:=R1.ex;show ⟨_,rfl,a,C,dx,_,_,_,rfl,F1.obj,rfl,MP,a,dx,pP,pW,pB,_,_,kP,kW,kB,rfl,F1,fun lp H2 s2 G' zY=>?_⟩;rw [iP] at zY;let LI:=s1.trans s2;let lne:lp≠d:=fun z=>by erw [z,e1] at G'
 show ⟨lp,rfl,⟨_,aK.of zY⟩,let I:ce:=fun i Z H'=>Nw fun (o3 o4:ω) (kM:γ) (M:Str->Rat×Rat)=>Z=[ap a,ap nl,ap d,o3,o4]/\aq H H'/\H' lp=some (.lst ((pX.map (·.nm)).map V.str))/\H' d=some (.dK kM)/\kM.map (·.1)=(pX.take i).map (fun p=>(GH p.nm:Key))/\((pX.take i).flatMap fun p=>[(M p.nm).1,(M p.nm).2])=rs.take (2*i)/\ (∀p∈pX.take i,∃t v1 v2,bB kM (.inr p.nm)=some (.ref t)/\H' t=some (.tup [v1,v2])/\fe K H' v1 (M p.nm).1/\fe K H' v2 (M p.nm).2);zas (K:=K) (a:=lp) (xs:=(pX.map (·.nm)).map V.str) I
   ⟨none,none,[],fun _=>(0,0),rfl,LI,zY,s2 _ _ e1,rfl,rfl,by simp⟩ (fun i Z H' _ h=>by
   obtain ⟨_,_,_,_,_,_,h,_⟩:=h
   exact aK.of h) ?_ ?_⟩
 ·rintro i z Z H4 p9 hi ⟨o3,o4,kM,M,rfl,s4,l4,e4,ks,fl,tM⟩ n9
  rw [BJ,BJ] at hi;obtain ⟨x,hx,rfl⟩:=GX.mp hi;obtain ⟨p,hp,rfl⟩:=GX.mp hx;let il:i<pX.length:=(Wp.mp hp).1;let t9:=aC n9 (.tup [.int (i:Int),.str p.nm]);let e9:(upd H4 p9 (.tup [.int (i:Int),.str p.nm])) p9=some (.tup [.int (i:Int),.str p.nm]):=ag;generalize upd H4 p9 (.tup [.int (i:Int),.str p.nm])=H5 at t9 e9 ⊢;show ⟨p9,_,rfl,bZ.of e9,rfl,_,_,rfl,_,_,rfl,rfl,?_⟩;let s45:=s4.trans t9;let Wc:=s45 _ _ hn;let l1:2*i<us.length:=ci
  let l2:2*i+1<us.length:=ci
  let c2:qI 2 (i:Int):=⟨by decide+kernel,CT (intBits_le_64 ci ci) cr⟩
  let a1:jc us (2*(i:Int))=some us[2*i]:=by
   have:=bF (xs:=us) (j:=2*i) (gE l1);rwa [show ((2*i:Nat):Int)=2*(i:Int) by omega] at this
  let a2:jc us (2*(i:Int)+1)=some us[2*i+1]:=by
   have:=bF (xs:=us) (j:=2*i+1) (gE l2);rwa [show ((2*i+1:Nat):Int)=2*(i:Int)+1 by omega] at this
  show ⟨_,rfl,_,rfl,_,_,rfl,rfl,c2,nl,_,_,_,rfl,rfl,aK.of Wc,a1,_,rfl,_,rfl,_,_,rfl,rfl,c2,_,_,rfl,rfl,nl,_,_,_,rfl,rfl,aK.of Wc,a2,qZ,?_⟩;intros t n6 H6 s6 e6;let e46:=s6 _ _ (t9 _ _ e4)
  let lk:kM.length<=9:=by
   let z:=ph Rg ks;rw [ir,ir,HQ] at z;omega
  show ⟨_,rfl,_,rfl,d,_,rfl,gM.k (k:=.inr p.nm) e46 (GG (show kM.length<=1000 by omega) cr),?_⟩
  let QG:(GH p.nm:Key)∉kM.map (·.1):=by
   rw [ks];intro z;obtain ⟨b',fw,eb'⟩:=CI.mp z;exact kJ (nm:=aY.nm) g.np hp fw (MQ eb')
  let pk:putK kM (.inr p.nm) (.ref t)=kM++[(.inr p.nm,.ref t)]:=dw _ (bS QG);let t6:bf H6 (upd H6 d (.dK (putK kM (.inr p.nm) (.ref t)))):=.dict e46;let PM:=t9.trans s6;let td:t≠d:=fun z=>by erw [z,t9 _ _ e4] at n6
  let kk:∀b o,b≠d->H4 b=some o->(upd H6 d (.dK (putK kM (.inr p.nm) (.ref t)))) b=some o:=fun b o n e=>by rw [ah n];exact PM _ _ e
  let ne:∀p' ∈pX.take i,p'.nm≠p.nm:=fun p' w_ =>kJ (nm:=aY.nm) g.np hp w_;let tk:=take_snoc hp;obtain ⟨r1,er1,hr1⟩:=aE hu (gE l1);obtain ⟨r2,er2,hr2⟩:=aE hu (gE l2);obtain ⟨M',hM1,hM2⟩:∃M':Str->Rat×Rat,M' p.nm=(r1,r2)/\∀x,x≠p.nm->M' x=M x:=⟨fun x=>if x=p.nm then (r1,r2) else M x,mG rfl,fun x h=>lH h⟩;show ⟨_,_,putK kM (.inr p.nm) (.ref t),M',rfl,fun b o e=>?_,kk _ _ lne l4,ag,?_,?_,fun p' w_ =>?_⟩
  ·rw [ah (ak e nd)]
   exact PM _ _ (s4 _ _ e)
  ·rw [pk,MX,ks,tk,MX]
   rfl
  ·rw [tk,uw,aas (U:=M') (W:=M) fun p' w_ =>hM2 _ (ne p' w_),fl]
   simp only [VW,List.flatMap_nil,Sw,hM1];rw [show 2*(i+1)=2*i+1+1 by omega,Q0,Q0,er1,er2];simp
  ·rw [jm]
   rw [tk] at w_
   rcases FQ.mp w_ with h|h
   ·rw [lH (fun z=>ne p' h (MQ z)),hM2 _ (ne p' h)]
    obtain ⟨t',v1,v2,h1,h2,h3,h4⟩:=tM p' h;show ⟨t',v1,v2,h1,kk _ _ (fun z=>by erw [z,e4] at h2) h2,(h3.gV PM).aT t6,(h4.gV PM).aT t6⟩
   ·rw [GZ.mp h,mG rfl,hM1]
    show ⟨t,_,_,rfl,by rwa [ah td],((hr1.gV s45).gV s6).aT t6,((hr2.gV s45).gV s6).aT t6⟩
 ·rintro Z H4 ⟨o3,o4,kM,M,rfl,s4,l4,e4,ks,fl,tM⟩
  rw [ir,ir] at ks fl tM;rw [Nq] at ks fl tM;rw [<-hl,Nq] at fl;show ⟨_,rfl,q M d kM H4 s4 fl.symm nd e4 ks tM⟩
def dt (a b:Rat×Rat):Rat:=a.1*b.1+a.2*b.2
def aaM (x:Str)(w:Rat×Rat)(y:Str):mv (vp x w) y=if y=x then w else (0,0):=by
 unfold mv vp;by_cases e:y=x
 ·rw [mG e,mG e]
  rfl
 ·rw [lH e,lH e]
  rfl
def aaN (M:Str->Rat×Rat)(b:bK):Rat:=dt (GY b.one b.lG) ((M b.lG.nm).1-(M b.one.nm).1,(M b.lG.nm).2-(M b.one.nm).2)
def d9 (h:1<=k):Sz k 0:=by
 have:=i6 (i:=0) (k:=k) (by simpa using amj k) h;simpa using this
structure Zb (n:Nat)(r:Rat):Prop where
 top:(qr r).1.natAbs<=2^n
 bot:(qr r).2.natAbs<=2^n
def YF (h:Sm T B q):q=qr (vl q):=wU h.pos h.low
def YG (h:Sz k r)(h2:k<=50):Sm 50 50 (qr r):=
 ⟨cZ r,tT r,RF (Mt (intBits_le_iff.mp h.top) (Qn cr h2)),RF (Mt (intBits_le_iff.mp h.bot) (Qn cr h2))⟩
def ak_ (h:∀x,Sz 50 (mv F x).1/\Sz 50 (mv F x).2)(pX:ς):∀q∈gP F pX,Sm 50 50 q:=fun q hq=>by
 unfold gP at hq;obtain ⟨p,_,hq⟩:=Wz.mp hq;let z:=h p.nm
 rcases M_.mp hq with e|hq
 ·rw [e]
  exact YG z.1 (DH _)
 ·rw [GZ.mp hq]
  exact YG z.2 (DH _)
def aaO {w:Rat×Rat}(h:Sz 50 w.1/\Sz 50 w.2)(y:Str):Sz 50 (mv (vp x w) y).1/\Sz 50 (mv (vp x w) y).2:=by
 rw [aaM];by_cases c:y=x
 ·rw [mG c]
  exact h
 ·rw [lH c]
  show ⟨d9 cr,d9 cr⟩
def Su (g:iK pX ao)(hb:b∈ao)(y:Str):Sz 50 (mv (mm b) y).1/\Sz 50 (mv (mm b) y).2:=by
 obtain ⟨m1,m2,_⟩:=g.ends b hb;let z1:=g.sz _ m1;let z2:=g.sz _ m2;unfold mv mm;by_cases c1:y=b.one.nm
 ·rw [mG c1]
  show ⟨(z2.1.sub z1.1).up cr,(z2.2.1.sub z1.2.1).up cr⟩
 ·rw [lH c1]
  by_cases c2:y=b.lG.nm
  ·rw [mG c2]
   show ⟨(z1.1.sub z2.1).up cr,(z1.2.1.sub z2.2.1).up cr⟩
  ·rw [lH c2]
   show ⟨d9 cr,d9 cr⟩
def mY (g:iK pX ao):∀qs∈iN pX ao,qs.length=2*pX.length/\∀q∈qs,Sm 50 50 q:=fun qs hq=>by
 unfold iN at hq
 rcases FQ.mp hq with h|h
 ·obtain ⟨p,hp,h⟩:=Wz.mp h
  unfold vq at h;obtain ⟨w,hw,rfl⟩:=CI.mp h;let z:=(g.sz p hp).2.2 w hw;show ⟨fK _ _,ak_ (aaO ⟨z.1.up cr,z.2.up cr⟩) pX⟩
 ·obtain ⟨b,hb,rfl⟩:=CI.mp h
  show ⟨fK _ _,ak_ (Su g hb) pX⟩
theorem oM :∀{us:ζ} {qs:χ},cM K H us qs->(∀q∈qs,Sm T B q)->Paired (fe K H) us (qs.map vl)
 | [],[],_,_=>.nil
 | u::us,q::qs,h,hs=>by
  refine .cons ?_ (oM ⟨by simpa using h.1,fun i u q e1 e2=>h.2 (i+1) u q (by simpa using e1) (by simpa using e2)⟩ fun r hr=>hs r (HV _ hr));let n:=h.2 0 u q rfl rfl;show jy K H u (qr (vl q));rwa [<-YF (hs q LZ)]
 | [],_::_,h,_=>(nomatch h.1)
 | _::_,[],h,_=>(nomatch h.1)
def eL {Y:Type}{l:List Y}(h:l.Nodup){i j:Nat}{x:Y}(hi:l[i]?=some x)(hj:l[j]?=some x):i=j:=by
 obtain ⟨i1,i2⟩:=Wp.mp hi;obtain ⟨j1,j2⟩:=Wp.mp hj;exact (alE h).mp (i2.trans j2.symm)
theorem qm :∀{us:ζ} {zs:List Y},us.length=zs.length->(∀(i:Nat)(u:V),us[i]?=some u->∃z,zs[i]?=some z/\R u z)->Paired R us zs
 | [],[],_,_=>.nil
 | u::us,z::zs,l,h=>by
  obtain ⟨z',e,hz⟩:=h 0 u rfl;cases e;exact .cons hz (qm (by simpa using l) fun i u e=>h (i+1) u (by simpa using e))
inductive yl (K:Frag)(vs:ζ)(H:Hp)(Q:VK)(E_:XK):Prop
|mk (l:AO)(us:ζ)(rs:List Rat)(_:vs=[.ref l])(_:H l=some (.lst us))(_:Paired (fe K H) us rs)(_:us.length<=100)(_:∀(l':AO)(pF :ζ)(H':Hp),aq H H' ->H' l'=some (.lst pF)->Paired (fe K H') pF (rs.map fun r=> -r)->Q (.ref l') H')
def afK:av vg vg (ae NI):=sq
def afL (D:Def K mg "signs_turned" NI vg):ac P w K mg gw 1 "signs_turned" vg (yl K):=by
 refine D.oo afK fun H hr h=>?_;obtain ⟨l,us,rs,rfl,hl,pp,ln,q⟩:=h;let lu:=HR pp;show ⟨_,(aj (aD (g6 (tn:=["number"]) (fr:=[]) (oV:=[]) (a9 (pv 0)) (aJ (aF (Qp FH (bL (fF (K:=K) rfl) (pv 0) af)) (bL (fF (K:=K) rfl) (pv 0) af)))))),_,rfl,l,rfl,⟨_,aK.of hl⟩,fun D1 n1=>?_⟩;refine dE (oY:=[]) (K:=K) (a:=l) (xs:=us) (fun i v H'=>∃r,rs[i]?=some r/\fe K H' v (-r)) n1 (GG ln cr) (fun H2 s2=>aK.of (s2 _ _ hl)) (fun i v H6 H7 ys e ks ⟨r,h1,h2⟩=>⟨r,h1,h2.aT (bf.ks e ks)⟩) ?_ ?_
 ·intro i u H2 R hu s2 k
  obtain ⟨r,er,hr⟩:=aE pp hu;obtain ⟨p,rfl,hq⟩:jy K H2 u (qr r):=hr.gV s2;show ⟨_,rfl,p,_,_,_,rfl,rfl,hq,ib,_,rfl,_,rfl,p,_,_,_,rfl,rfl,hq,iD,qZ,?_⟩;intros p3 n3 H3 s3 e3;refine k _ _ s3 ⟨r,er,p3,rfl,?_⟩;rw [F'];exact bZ.of e3
 ·intro ys H2 ly hy s2 hD
  refine q D1 ys H2 s2 hD (qm (by rw [ly,lu,ir]) fun i v e=>?_);obtain ⟨r,er,hr⟩:=hy i v e;show ⟨-r,by rw [BJ,er];rfl,hr⟩
inductive iQ (K:Frag)(C CB:AO)(vs:ζ)(H:Hp)(Q:VK)(E:XK):Prop
|mk (a dx pP pW pB d:AO)(ps:Ι)(bs:Α)(kP kW kB AD:γ)(_:vs=[.ref a,.ref d])(_:gZ K H C a dx pP pW pB ps bs kP kW kB)(_:H d=some (.dK AD))(_:(∀kv∈AD,∃x:Str,kv.1=.inr x))(_:bs.length<=60)(_:fL H E CB "bar" (bs.map (·.1)) AD)(_:∀H',KeysIn (bs.map (·.1)) AD->aq H H' ->Q .cO H')
def i8:av ["F","told","bars","bar"] ["F","told"] (ae dm):=sq
def zaO (D:Def K mg "check_bars" dm ["F","told"])(MB:am P w K mg gw 1 C "bars" MA (jN K C))(Ox:mg "NoBar"=some (.ref CB))(aaP:FV K CB fB)(anl:ad P w K mg gw 1 fB fdB Qx (kQ CB "bar"))(aaQ:Binds K fdB Qx []):ac P w K mg gw 4 "check_bars" ["F","told"] (iQ K C CB):=by
 refine Fn.VX (sp':=fun vs H Q E1=>∃E,E1=thE H E/\iQ K C CB vs H Q E) (fun vs H Q E h=>?_) (fun vs H Q E h=>⟨E,rfl,h⟩) (D.okX i8 (fun vs H Q E h=>?_) (fun f bE A outer s H vs Q E hr h=>?_))
 ·obtain ⟨a,dx,pP,pW,pB,d,ps,bs,kP,kW,kB,AD,rfl,_⟩:=h
  rfl
 ·obtain ⟨E',_,a,dx,pP,pW,pB,d,ps,bs,kP,kW,kB,AD,rfl,_⟩:=h
  rfl
 let px:Passes (aS P w) (md P w K mg gw ["F","told","bars","bar"] "check_bars" (ae dm) f bE A outer s H E) E:=nR;let L1:1<=BZ:=cr
 show ⟨_,(aa (aA 2 i8.nd (dW (k:=1) (pv 0) hr.mo px)) (aj (oh (a_ LR rfl (alo (pv 1)) (b6 3 i8.nd) (aj (bh (jD gW (pv 3) (pv 2) rfl) (aj (pR aaP anl hr.mo aaQ Ox (aV (pv 3)))) aI)))))),?_⟩;try dsimp only [md,j6,Cx.wd,Cx.q_]
 clear px;obtain ⟨E',rfl,a,dx,pP,pW,pB,d,ps,bs,kP,kW,kB,AD,rfl,R,hd,hk,hl,hs,q⟩:=h;show ⟨_,rfl,a,C,dx,_,_,_,rfl,R.obj,rfl,MB,a,dx,pP,pW,pB,ps,bs,kP,kW,kB,rfl,R,fun l H1 s1 nl el=>?_⟩;let Wi:=s1 _ _ hd;show ⟨_,rfl,d,AD,rfl,Wi,fun o=>?_⟩;let ld:l≠d:=fun z=>by erw [z,Wi] at el
 refine let I:ce:=fun t Z H'=>∃(o2:ω),Z=[ap a,ap d,ap l,o2]/\H'=upd H1 d (.eZ o (.dK AD))/\KeysIn (bs.map (·.1)) (AD.take t);zar (d:=d) (o:=o) (AD:=AD) I ⟨none,rfl,rfl,fun kv h=>(by simp at h)⟩ (fun t Z H' _ h=>by
   obtain ⟨_,_,rfl,_⟩:=h
   exact ag) ?_ ?_
 ·rintro t k y Z H6 mj ⟨o2,rfl,rfl,ki⟩
  obtain ⟨x,ex⟩:=hk _ (DA mj);have u_ :k=.inr x:=ex;subst u_;show ⟨_,rfl,_,rfl,l,_,rfl,.inl (aK.of (by rwa [ah ld])),rfl,jq _,_,rfl,?_⟩;refine bD (fun c=>?_) (fun c=>?_)
  ·let c':(!zV (.str x) ((bs.map (·.1)).map V.str))=true:=c
   let nx:x∉bs.map (·.1):=fun z=>by
    erw [dy,Ms z] at c'
   let hd8:(upd H1 d (.eZ o (.dK AD))) d=some (.eZ o (.dK AD)):=ag;let ks8:cx d H (upd H1 d (.eZ o (.dK AD))):=fun b o' n e=>by rw [ah n];exact s1 _ _ e
   generalize upd H1 d (.eZ o (.dK AD))=H8 at hd8 ks8 ⊢;show ⟨_,rfl,L1,g7.go fun e H' sH nd he=>.inr ⟨d,o,AD,sH _ _ hd8,(fun o' u' z=>by erw [hd] at z),?_⟩⟩;let dp:e≠d:=fun z=>by erw [z,hd8] at nd
   refine hs t x y mj nx ki e _ (fun b o' z=>?_) ?_ (by rwa [ah dp])
   ·by_cases n:b=d
    ·subst n
     rw [hd] at z;rwa [ag]
    ·rw [ah n]
     exact sH _ _ (ks8 b o' n z)
   ·cases z:H e with
    | none=>rfl
    | some o'=>erw [ks8 e o' dp z] at nd
  ·show ⟨_,rfl,rfl,fun kv h=>?_⟩
   rw [take_snoc mj] at h
   rcases FQ.mp h with h|h
   ·exact ki kv h
   ·rw [GZ.mp h]
    let c':¬ (!zV (.str x) ((bs.map (·.1)).map V.str))=true:=c;show ⟨x,?_,rfl⟩;by_cases hx:x∈bs.map (·.1)
    ·exact hx
    ·rw [dy,Nt hx] at c'
     exact CH rfl c'
 ·rintro Z H6 ⟨o2,rfl,rfl,ki⟩
  rw [Nq] at ki;show ⟨d,o,AD,ag,fun o' u' z=>(by have z':H d=some (.eZ o' u'):=z;erw [hd] at z'),?_⟩
  let s2:aq H (upd (upd H1 d (.eZ o (.dK AD))) d (.dK AD)):=fun b o' e=>by
   by_cases n:b=d
   ·subst n
    rw [hd] at e;rwa [ag]
   ·rw [ah n,ah n]
    exact s1 _ _ e
  exact q _ ki s2
theorem qp :∀{qY:List Y} {qX:List β} {a:Y} {b:β},Paired F qY qX->F a b->Paired F (qY++[a]) (qX++[b])
 | _,_,_,_,.nil,h=>.cons h .nil
 | _,_,_,_,.cons h t,h'=>.cons h (qp t h')
def bX (G:ο)(x:Str):Int×Int:=(G x).getD (1,1)
def mZ (G:ο)(x:Str):Int×Int:=(G x).getD (0,1)
def xa (H:Hp)(E:XK)(CG:AO)(ns:θ)(G:ο):Prop:=∀(t:Nat)(x:Str),ns[t]?=some x->(∀y∈ns.take t,0<(bX G y).1)->(bX G x).1<=0->g7 H E CG "bar" (.str x)
inductive jR (K:Frag)(C CB CG:AO)(vs:ζ)(H:Hp)(Q:VK)(E:XK):Prop
|mk (a dx pP pW pB d:AO)(ps:Ι)(bs:Α)(kP kW kB AD:γ)(G:ο)(_:vs=[.ref a,.ref d])(_:gZ K H C a dx pP pW pB ps bs kP kW kB)(_:H d=some (.dK AD))(_:pG K H AD G)(_:(∀kv∈AD,∃x:Str,kv.1=.inr x))(_:bs.length<=60)(_:(bs.map (·.1)).Nodup)(_:fL H E CB "bar" (bs.map (·.1)) AD)(_:(KeysIn (bs.map (·.1)) AD->xa H E CG (bs.map (·.1)) G))(_:∀(e:AO)(jt :γ)(H':Hp),KeysIn (bs.map (·.1)) AD->(∀x∈bs.map (·.1),0<(bX G x).1)->aq H H' ->H e=none->H' e=some (.dK jt)->Paired (fun (kv:Φ) x=>kv.1=.inr x/\jy K H' kv.2 (bX G x)) jt (bs.map (·.1))->Q (.ref e) H')
def g8:av zaV vk (ae dQ):=sq
def aia (hO:∀H:Hp,bZ K H aO [.int 1,.int 1])(aaR:mg "ONE"=some (.ref aO))(D:Def K mg "all_grips" dQ vk)(MB:am P w K mg gw 1 C "bars" MA (jN K C))
  (yn:ac P w K mg gw 4 "check_bars" ["F","told"] (iQ K C CB)) (jw:mg "NoGrip"=some (.ref CG)) (uq:FV K CG fG) (vv:ad P w K mg gw 1 fG fdG Qx (kQ CG "bar")) (i9:Binds K fdG Qx []):ac P w K mg gw 5 "all_grips" vk (jR K C CB CG):=by
 refine D.okX g8 (fun vs H Q E h=>?_) (fun f bE A outer s H vs Q E hr h=>?_)
 ·obtain ⟨a,dx,pP,pW,pB,d,ps,bs,kP,kW,kB,AD,G,rfl,_⟩:=h
  rfl
 obtain ⟨a,dx,pP,pW,pB,d,ps,bs,kP,kW,kB,AD,G,rfl,R,hd,hG,hk,hl,nd,hs,hgE,q⟩:=h;let px:Passes (aS P w) (md P w K mg gw zaV "all_grips" (ae dQ) f bE A outer s H E) E:=nR;let L1:1<=BZ:=cr
 show ⟨_,(aa (bP (cR yn hr.mo px (aF (pv 0) (pv 1)))) (aa (aA 2 g8.nd cT) (aa (a_ LR rfl (a9 (dW (k:=1) (pv 0) hr.mo px)) (b6 3 g8.nd) (aa (aA 4 g8.nd (ip (bU hr) (pv 1) (pv 3) (dJ (v:=.ref aO) rfl aaR rfl) ⟨rfl,rfl,rfl,rfl⟩)) (aa (bh (bg X3 (aG (pv 4)) af) (aj (pR uq vv hr.mo i9 jw (aV (pv 3)))) aI) (aj (cy (bU hr) (pv 2) (pv 3) (pv 4) rfl))))) (aj (aD (pv 2)))))),?_⟩;sleep 3
 show ⟨_,rfl,_,rfl,a,dx,pP,pW,pB,d,ps,bs,kP,kW,kB,AD,rfl,R,hd,hk,hl,hs,fun H1 ki s1=>?_⟩;intro e ne;let s2:=aC ne (.dK []);let j9:aq H (upd H1 e (.dK [])):=fun b o z=>s2 _ _ (s1 _ _ z);let R2:=R.gV j9;let e2:(upd H1 e (.dK [])) e=some (.dK []):=ag
 let ne':H e=none:=by
  cases z:H e with
  | none=>rfl
  | some o=>erw [s1 _ _ z] at ne
 generalize upd H1 e (.dK [])=H2 at j9 R2 e2 ⊢;show ⟨_,rfl,a,C,dx,_,_,_,rfl,R2.obj,rfl,MB,a,dx,pP,pW,pB,ps,bs,kP,kW,kB,rfl,R2,fun l H3 s3 nl el=>?_⟩
 show ⟨l,rfl,⟨_,aK.of el⟩,let I:ce:=fun i Z H'=>KU fun (o3 o4:ω) (iC :γ)=>Z=[ap a,ap d,ap e,o3,o4]/\aq H H'/\H' l=some (.lst ((bs.map (·.1)).map V.str))/\H' e=some (.dK iC)/\Paired (fun (kv:Φ) x=>kv.1=.inr x/\jy K H' kv.2 (bX G x)) iC ((bs.map (·.1)).take i)/\∀y∈(bs.map (·.1)).take i,0<(bX G y).1;bM (K:=K) (a:=l) (xs:=(bs.map (·.1)).map V.str) I ⟨none,none,[],rfl,fun b o z=>s3 _ _ (j9 _ _ z),el,s3 _ _ e2,.nil,fun y h=>(by simp at h)⟩ (fun i Z H' _ h=>by
   obtain ⟨_,_,_,_,_,h,_⟩:=h
   exact aK.of h) ?_ ?_⟩
 ·rintro i z Z H4 hi ⟨o3,o4,iC,rfl,s4,l4,e4,tl4,pr4⟩
  let ano:=HR tl4;rw [HQ,ir] at ano;rw [BJ] at hi;obtain ⟨x,ex,rfl⟩:=GX.mp hi;let hil:i<(bs.map (·.1)).length:=(Wp.mp ex).1;rw [ir] at hil;let hx:x∈bs.map (·.1):=DA ex;let d4:=s4 _ _ hd;let G4:=hG.gV s4;let O4:jy K H4 (.ref aO) (1,1):=⟨aO,rfl,hO H4⟩;let g4:=G4.BQ (x:=x) O4;show ⟨_,rfl,d,rfl,.inl ⟨_,.inl d4⟩,_,rfl,_,dX.k (k:=.inr x) d4,?_⟩;obtain ⟨p,ep,hp4⟩:=id g4;rw [ep];show ⟨_,rfl,p,_,_,_,rfl,rfl,hp4,ib,_,_,rfl,rfl,_,rfl,bD (fun c=>⟨_,rfl,L1,((hgE ki i x ex pr4 (Nl c)).gV s4).go⟩) (fun c=>?_)⟩;let pos:0<(bX G x).1:=Int.not_le.mp fun z=>c (Ms z);show ⟨_,rfl,_,rfl,_,rfl,e,_,rfl,gM.k (k:=.inr x) e4 (GG (show iC.length<=1000 by omega) cr),?_⟩
  let QG:(GH x:Key)∉iC.map (·.1):=fun z=>by
   obtain ⟨kv,BO,mj⟩:=CI.mp z;obtain ⟨j,ej⟩:=MF BO;obtain ⟨y,ey,e1,_⟩:=aE tl4 ej;rw [e1] at mj;let ex2:y=x:=MQ mj;rw [ex2] at ey
   let hj:j<i:=by
    have:=(Wp.mp ey).1;rw [HQ] at this;omega
   rw [VC hj] at ey;have:=(Wx (by have:=(Wp.mp ey).1;exact this) nd).mp (ey.trans ex.symm);omega
  show ⟨_,_,_,rfl,fun b o z=>?_,?_,ag,?_,fun y hy=>?_⟩
  ·rw [ah (ak z ne')]
   exact s4 _ _ z
  ·rw [ah (fun z=>by erw [z,e4] at l4)]
   exact l4
  ·rw [dw _ (bS QG),Q0,ex]
   let t4:bf H4 (upd H4 e (.dK (iC ++[(.inr x,.ref p)]))):=.dict e4;refine qp (Paired.dc tl4 fun _ _ z=>⟨z.1,z.2.aT t4⟩) ⟨rfl,?_⟩;exact (show jy K H4 (.ref p) (bX G x) from (by rwa [<-ep])).aT t4
  ·rw [Q0,ex] at hy
   rcases FQ.mp hy with h|h
   ·exact pr4 y h
   ·rw [show y=x by simpa using h]
    exact pos
 ·rintro Z H4 ⟨o3,o4,iC,rfl,s4,l4,e4,tl4,pr4⟩
  rw [SS dL] at tl4 pr4;show ⟨_,rfl,q e iC H4 ki pr4 s4 ne' e4 tl4⟩
def Wm (M:ρ)(b:bK):Rat:=afa (GY b.one b.lG) ((mv M b.lG.nm).1-(mv M b.one.nm).1,(mv M b.lG.nm).2-(mv M b.one.nm).2)
inductive Sv (K:Frag)(C:AO)(vs:ζ)(H:Hp)(Q:VK)(E_:XK):Prop
|mk (a d:AO)(pX:ς)(ao:Η)(AD:γ)(M:ρ)(_:vs=[.ref a,.ref d])(_:x6 K H C a pX ao)(_:iK pX ao)(_:H d=some (.dK AD))(_:Nk K H AD M)(_:(∀x,Sz 700000 (mv M x).1/\Sz 700000 (mv M x).2))(_:∀(e:AO)(jt :γ)(H':Hp),aq H H' ->H e=none->H' e=some (.dK jt)->jt.map (·.1)=ao.map (fun b=>(GH b.nm:Key))->(∀b∈ao,∃v,bB jt (.inr b.nm)=some v/\fe K H' v (Wm M b))->Q (.ref e) H')
def dz:av ["F","motion","longer","bar","two","apart"] CC (ae c6):=sq
def agF (hM:∀H:Hp,gC K H (.ref aM) (0,0))(G_:mg "NO_MOVE"=some (.ref aM))(D:Def K mg "lengthenings" c6 CC)(MB:am P w K mg gw 1 C "bars" MA (jN K C))(ME:am P w K mg gw 1 C "ends" Qx (ug K C))
  (Wk:ac P w K mg gw 36 "arm_between" S_ (LH K C)) (aaB:ac P w K mg gw 35 "pair_difference" FY (yh K fun a b=>a-b)) (ur:ac P w K mg gw 35 "pair_product" FY (Sj K)):
  ac P w K mg gw 37 "lengthenings" CC (Sv K C):=by
 refine D.oo dz fun H hr h=>?_;obtain ⟨a,d,pX,ao,AD,M,rfl,R,g,hd,hP,zM,q⟩:=h
 show ⟨_,(aa (aA 2 dz.nd cT) (aa (a_ HM rfl (a9 (dW (k:=1) (pv 0) hr.mo (Ua P w))) (b6 3 dz.nd) (aa (aA 4 dz.nd (fE (k:=1) (pv 0) hr.mo (Ua P w) (aV (pv 3)))) (aa (aA 5 dz.nd (aU aaB hr (aF (ip (bU hr) (pv 1) (aG (pv 4)) (dJ (v:=.ref aM) rfl G_ rfl) ⟨rfl,rfl,rfl,rfl⟩) (ip (bU hr) (pv 1) (aG (pv 4)) (dJ (v:=.ref aM) rfl G_ rfl) ⟨rfl,rfl,rfl,rfl⟩)))) (aj (cy (bU hr) (pv 2) (pv 3) (aU ur hr (aF (aU Wk hr (bx (pv 0) (aG (pv 4)) (aG (pv 4)))) (pv 5))) rfl))))) (aj (aD (pv 2))))),?_⟩;sleep 2
 intro e ne;let s1:=aC ne (.dK []);let e1:(upd H e (.dK [])) e=some (.dK []):=ag;generalize upd H e (.dK [])=H1 at s1 e1 ⊢;let R1:=R.gV s1;obtain ⟨dx,pP,pW,pB,kP,kW,kB,F1,W1⟩:=R1.ex;show ⟨_,rfl,a,C,dx,_,_,_,rfl,F1.obj,rfl,MB,a,dx,pP,pW,pB,_,_,kP,kW,kB,rfl,F1,fun l H2 s2 nl el=>?_⟩;let YH:((ao.map fun b=>(b.nm,b.one.nm,b.lG.nm)).map (·.1))=ao.map (·.nm):=by rw [MI];rfl
 rw [YH] at el
 show ⟨l,rfl,⟨_,aK.of el⟩,let I:ce:=fun i Z H'=>Nw fun (o3 o4 o5:ω) (iC :γ)=>Z=[ap a,ap d,ap e,o3,o4,o5]/\aq H H'/\H' l=some (.lst ((ao.map (·.nm)).map V.str))/\H' e=some (.dK iC)/\iC.map (·.1)=(ao.take i).map (fun b=>(GH b.nm:Key))/\ ∀b∈ao.take i,∃v,bB iC (.inr b.nm)=some v/\fe K H' v (Wm M b);bM (K:=K) (a:=l) (xs:=(ao.map (·.nm)).map V.str) I ⟨none,none,none,[],rfl,fun b o z=>s2 _ _ (s1 _ _ z),el,s2 _ _ e1,rfl,fun b hb=>by simp at hb⟩ (fun i Z H' _ h=>by
   obtain ⟨_,_,_,_,_,_,h,_⟩:=h
   exact aK.of h) ?_ ?_⟩
 ·rintro i z Z H4 hi ⟨o3,o4,o5,iC,rfl,s4,l4,e4,ks,tl⟩
  rw [BJ,BJ] at hi;obtain ⟨x,hx,rfl⟩:=GX.mp hi;obtain ⟨b,hb,rfl⟩:=GX.mp hx;let il:i<ao.length:=(Wp.mp hb).1;let mb:b∈ao:=DA hb;obtain ⟨m1,m2,m3⟩:=g.ends b mb;let R4:=R.gV s4;obtain ⟨dx,pP,pW,pB,kP,kW,kB,F4,W4⟩:=R4.ex;show ⟨_,rfl,a,C,dx,_,_,_,rfl,F4.obj,rfl,ME,_,rfl,a,dx,pP,pW,pB,_,_,kP,kW,kB,b.nm,b.one.nm,b.lG.nm,rfl,F4,YE g.nb,CI.mpr ⟨b,mb,rfl⟩,fun p rd=>?_⟩;let tp:bZ K H4 p [.str b.one.nm,.str b.lG.nm]:=.inl rd;let d4:=s4 _ _ hd;let P4:=hP.gV s4;show ⟨_,rfl,d,rfl,.inl ⟨_,.inl d4⟩,_,rfl,p,_,_,_,rfl,rfl,tp,iD,_,dX.k (k:=.inr b.lG.nm) d4,_,rfl,d,rfl,.inl ⟨_,.inl d4⟩,_,rfl,p,_,_,_,rfl,rfl,tp,ib,_,dX.k (k:=.inr b.one.nm) d4,?_⟩;let g1:gC K H4 ((bB AD (.inr b.lG.nm)).getD (.ref aM)) (mv M b.lG.nm):=P4.BQ (hM H4);let g2:gC K H4 ((bB AD (.inr b.one.nm)).getD (.ref aM)) (mv M b.one.nm):=P4.BQ (hM H4);generalize (bB AD (.inr b.lG.nm)).getD (.ref aM)=v1 at g1 ⊢;generalize (bB AD (.inr b.one.nm)).getD (.ref aM)=v2 at g2 ⊢;let z1:=zM b.lG.nm;let z2:=zM b.one.nm;show ⟨v1,v2,_,_,rfl,g1,g2,z1.1.up cr,z1.2.up cr,z2.1.up cr,z2.2.up cr,fun v3 H5 s5 h5=>?_⟩;let R5:=R4.gV s5;let tp5:=Ty.aq.dI s5 tp;show ⟨_,rfl,_,rfl,p,_,_,_,rfl,rfl,tp5,ib,_,rfl,p,_,_,_,rfl,rfl,tp5,iD,a,pX,ao,b.one,b.lG,rfl,R5,g,m1,m2,fun v6 H6 s6 h6=>?_⟩;let y1:=g.sz _ m1;let y2:=g.sz _ m2;show ⟨_,rfl,v6,v3,_,_,rfl,h6,h5.gV s6,(y2.1.sub y1.1).up cr,(y2.2.1.sub y1.2.1).up cr,(z1.1.sub z2.1).up cr,(z1.2.sub z2.2).up cr,fun c7 H7 s7 h7=>?_⟩;let e7:=s7 _ _ (s6 _ _ (s5 _ _ e4))
  let lk:iC.length<=14:=by
   let z:=ph Rg ks;rw [ir,ir,HQ] at z;have:=g.lb;omega
  show ⟨_,rfl,_,rfl,e,_,rfl,gM.k (k:=.inr b.nm) e7 (GG (show iC.length<=1000 by omega) cr),?_⟩
  let QG:(GH b.nm:Key)∉iC.map (·.1):=by
   rw [ks];intro z;obtain ⟨b',fw,eb'⟩:=CI.mp z;let en:b'.nm=b.nm:=MQ eb';obtain ⟨j,hj,ej⟩:=Vy.mp fw;rw [KR] at ej;rw [HQ] at hj;let q1:(ao.map (·.nm))[j]?=some b.nm:=by rw [BJ,gE ci,ej];show some b'.nm=_;rw [en]
   let q2:(ao.map (·.nm))[i]?=some b.nm:=by rw [BJ,hb];rfl
   have:=(Wx (by rw [ir];omega) g.nb).mp (q1.trans q2.symm);omega
  let pk:putK iC (.inr b.nm) (.ref c7)=iC ++[(.inr b.nm,.ref c7)]:=dw _ (bS QG);let t7:bf H7 (upd H7 e (.dK (putK iC (.inr b.nm) (.ref c7)))):=.dict e7;let s47:aq H4 H7:=fun b o z=>s7 _ _ (s6 _ _ (s5 _ _ z));let tk:ao.take (i+1)=ao.take i++[b]:=by rw [Q0,hb];rfl
  show ⟨_,_,_,_,rfl,fun c o z=>?_,?_,ag,?_,fun b' fw =>?_⟩
  ·rw [ah (ak z ne)]
   exact s47 _ _ (s4 _ _ z)
  ·rw [ah (fun z=>by erw [z,e4] at l4)]
   exact s47 _ _ l4
  ·rw [pk,MX,ks,tk,MX]
   rfl
  ·rw [jm]
   by_cases c:b'.nm=b.nm
   ·rw [mG (by rw [c])]
    show ⟨.ref c7,rfl,?_⟩
    let eb:b'=b:=by
     obtain ⟨j,hj,ej⟩:=Vy.mp fw;rw [KR] at ej;rw [HQ] at hj;let q1:(ao.map (·.nm))[j]?=some b.nm:=by rw [BJ,gE ci,ej];show some b'.nm=_;rw [c]
     let q2:(ao.map (·.nm))[i]?=some b.nm:=by rw [BJ,hb];rfl
     let ji:=(Wx (by rw [ir];omega) g.nb).mp (q1.trans q2.symm);subst ji;rw [gE il] at hb;rw [<-ej];exact MY hb
    rw [eb];exact fe.aT ⟨c7,rfl,bZ.of h7⟩ t7
   ·rw [lH (fun z=>c (MQ z))]
    rw [tk,FQ] at fw
    rcases fw with fw|fw
    ·obtain ⟨v,h1,h2⟩:=tl b' fw
     show ⟨v,h1,(h2.gV s47).aT t7⟩
    ·rw [GZ] at fw
     exact CH (by rw [fw]) c
 ·rintro Z H4 ⟨o3,o4,o5,iC,rfl,s4,l4,e4,ks,tl⟩
  rw [ir,ir,Nq] at ks tl;show ⟨_,rfl,q e iC H4 s4 ne e4 ks tl⟩
def qt (pX:ς)(b:bK)(i:Nat):Rat:=vl ((gP (mm b) pX).getD i (0,1))
def PQ (pX:ς)(gbs:List (Rat×bK))(i j:Nat):Rat:=(gbs.map fun x=>x.1*qt pX x.2 i*qt pX x.2 j).sum
def acT (pX:ς)(l:List (Rat×bK))(x:Rat×bK)(i j:Nat):PQ pX (l++[x]) i j=PQ pX l i j+x.1*qt pX x.2 i*qt pX x.2 j:=by
 unfold PQ;rw [MX,amd,HU,yE,ald,List.sum_nil,alv]
def zaN (h:∀x,Sz k (mv F x).1/\Sz k (mv F x).2)(pX:ς):∀q∈gP F pX,∃r,q=qr r/\Sz k r:=fun q hq=>by
 unfold gP at hq;obtain ⟨p,_,hq⟩:=Wz.mp hq
 rcases M_.mp hq with e|hq
 ·show ⟨_,e,(h p.nm).1⟩
 ·show ⟨_,GZ.mp hq,(h p.nm).2⟩
def HN (g:iK pX ao)(hb:b∈ao)(hi:i<2*pX.length):(gP (mm b) pX)[i]?=some (qr (qt pX b i))/\Sz 50 (qt pX b i):=by
 let hl:i<(gP (mm b) pX).length:=by rwa [fK]
 let e:=gE hl;obtain ⟨r,er,z⟩:=zaN (Su g hb) pX _ (Rk hl)
 have:qt pX b i=r:=by
  unfold qt;rw [Oq,e,Option.getD_some,er,iJ]
 rw [this,e,er];show ⟨rfl,z⟩
theorem HP (hi:i<N)(hj:j<N):∀{l:List (Rat×bK)},(∀x∈l,Sz 31 x.1/\∀i,i<N->Sz 50 (qt pX x.2 i))->Sz (132*l.length+1) (PQ pX l i j)
 | [],_=>d9 cr
 | x::l,h=>by
  let z:=h x LZ;let ih:=HP hi hj (l:=l) fun y hy=>h y (HV _ hy);have:=((z.1.mul (z.2 i hi)).mul (z.2 j hj)).add ih;show Sz _ (((x::l).map fun x=>x.1*qt pX x.2 i*qt pX x.2 j).sum);rw [HU,ald];exact this.up (by rw [Oy];omega)
structure Mx (K:Frag)(H:Hp)(r:AO)(ls:υ)(N:Nat)(f:Nat->Nat->Rat):Prop where
 hr:H r=some (.lst (ls.map V.ref))
 ln:ls.length=N
 nd:ls.Nodup
 row:∀i l,ls[i]?=some l->∃vs,H l=some (.lst vs)/\vs.length=N/\∀j v,vs[j]?=some v->fe K H v (f i j)
 nr:r∉ls
section
variable {H H':Hp}{r:AO}{ls:υ}{N:Nat}{f:Nat->Nat->Rat}
theorem Mx.gV (h:Mx K H r ls N f)(s:aq H H'):Mx K H' r ls N f:=⟨s _ _ h.hr,h.ln,h.nd,fun i l e=>by
 obtain ⟨vs,h1,h2,h3⟩:=h.row i l e
 show ⟨vs,s _ _ h1,h2,fun j v ev=>(h3 j v ev).gV s⟩,h.nr⟩
def Mx.put (h:Mx K H r ls N f)(ei:ls[i]?=some l)(el:H l=some (.lst vs))(hv:fe K H v x):Mx K (upd H l (.lst (vs.set j v))) r ls N (fun a b=>if a=i/\b=j then x else f a b):=by
 let t:bf H (upd H l (.lst (vs.set j v))):=bf.ks el cx.upd;show ⟨?_,h.ln,h.nd,fun a l' e=>?_,h.nr⟩
 ·rw [ah (fun z:r=l=>h.nr (by rw [z];exact DA ei))]
  exact h.hr
 ·obtain ⟨ws,h1,h2,h3⟩:=h.row a l' e
  by_cases c:l'=l
  ·subst c
   erw [el] at h1;let ea:a=i:=eL h.nd e ei;subst ea;show ⟨_,ag,by rwa [amb],fun b u eu=>?_⟩;rw [VU] at eu;by_cases cb:j=b
   ·rw [mG cb] at eu
    rw [mG ⟨rfl,cb.symm⟩];split at eu
    ·cases eu
     exact hv.aT t
    ·cases eu
   ·rw [lH cb] at eu
    rw [lH (fun z=>cb z.2.symm)];exact (h3 b u eu).aT t
  ·show ⟨ws,by rwa [ah c],h2,fun b u eu=>?_⟩
   rw [lH (fun z=>c ?_)]
   ·exact (h3 b u eu).aT t
   ·rw [z.1,ei] at e
    exact (MY e).symm
end
def aa2 :i∈(OF N).filter p ↔ i<N/\p i=true:=by rw [Wu,VT]
def kZ {Y:Type}{A:List Y}{x i:Y}(e:A[c]?=some x):i∈A.take (c+1) ↔ i∈A.take c\/i=x:=by
 rw [Q0,e,FQ];show _\/i∈[x] ↔ _;rw [GZ]
def akU {Y:Type}{A:List Y}(nd:A.Nodup){x:Y}(e:A[c]?=some x):x∉A.take c:=fun z=>by
 obtain ⟨j,ej⟩:=MF z
 let hj:j<c:=by
  have:=(Wp.mp ej).1;rw [HQ] at this;omega
 rw [VC hj] at ej;have:=eL nd ej e;omega
def afN (h:j<n):Pu n (j:Int)=some j:=by
 unfold Pu;rw [mG ci,mG ci];simp
def ah4 (r:Rat):(!eE [.v (.int (qr r).1),.v (.int (qr r).2)] [.v (.int 0),.v (.int 1)])=decide (r≠0):=by
 by_cases c:r=0
 ·rw [c,dH]
  simp [eE,je,rh]
 ·have:(qr r).1≠0:=fun z=>c (rZ z)
  simp [eE,je,rh,c,this]
inductive yo (K:Frag)(C:AO)(vs:ζ)(H:Hp)(Q:VK)(E_:XK):Prop
|mk (a d bR:AO)(pX:ς)(ao:Η)(AD:γ)(gs:List Rat)(lsB:υ)(_:vs=[.ref a,.ref d,.ref bR])(_:x6 K H C a pX ao)(_:iK pX ao)(_:ao.length<=9)(_:H d=some (.dK AD))(_:Paired (fun (kv:Φ) r=>fe K H kv.2 r) AD gs)(_:gs.length=ao.length)(_:(∀r∈gs,Sz 31 r))(_:H bR=some (.lst (lsB.map V.ref)))(_:lsB.length=ao.length)(_:(∀(i:Nat)(l:AO)(b:bK),lsB[i]?=some l->ao[i]?=some b->∃us,H l=some (.lst us)/\cM K H us (gP (mm b) pX)))(_:∀(r:AO)(ls:υ)(f:Nat->Nat->Rat)(H':Hp),aq H H' ->H r=none->(∀l∈ls,H l=none)->Mx K H' r ls (2*pX.length) f->(∀i j,i<2*pX.length->j<2*pX.length->f i j=PQ pX (gs.zip ao) i j)->Q (.ref r) H')
def cf:av ["F","firm","bar_rows","many","rows","grip","row","acts","column","drawn","place"] C_ (ae dY):=sq
def zaE (hN:∀H:Hp,bZ K H aN [.int 0,.int 1])(kN:mg "NOUGHT"=some (.ref aN))(D:Def K mg "stiff_rows" dY C_)(aX:mg "len"=none)(aZ:mg "range"=none)(gQ:mg "zip"=none)(MP:am P w K mg gw 1 C "pins" MA (jO K C))(kX:ac P w K mg gw 34 "sum_of" FY (i7 K fun a b=>a+b))(cE:ac P w K mg gw 34 "product_of" FY (i7 K fun a b=>a*b)):
  ac P w K mg gw 35 "stiff_rows" C_ (yo K C):=by
 refine D.op cf fun f bE A outer s H vs Q E hr h=>?_;obtain ⟨a,d,bR,pX,ao,AD,gs,lsB,rfl,R,g,lb9,hd,pg,lg,zg,hB,lB,rB,q⟩:=h;let gl:=g.lp;let lk:AD.length=gs.length:=HR pg;obtain ⟨dx,pP,pW,pB,kP,kW,kB,F1,W1⟩:=R.ex;let c2:qI 2 ((pX.length:Nat):Int):=⟨by decide+kernel,CT (intBits_le_64 ci ci) cr⟩
 show ⟨_,(aa (aA 3 cf.nd (aw b9 af (aR aH rfl aX cA (aV (dW (k:=1) (pv 0) hr.mo (pY P w)))))) (aa (qf (i:=4) (tn:=["column"]) (fr:=["many"]) (oV:=[3]) cf.nd (bV rfl aZ (aV (pv 3))) (aw xF (bI (aV (dJ (v:=.ref aN) rfl kN rfl))) (pv 1))) (aa (oh (a_ HM rfl (aet rfl gQ (pv 1) (aV (pv 2))) (iU rfl (bu (b6 5 cf.nd) (bu (b6 6 cf.nd) e_))) (aa (GN (i:=7) (tn:=["column"]) (fr:=["row"]) (oV:=[6]) cf.nd (bV rfl aZ (aV (pv 3))) (fun _ _ _ _=>(fC (i:=0) (show (["column","row"]:List Str).Nodup from by decide+kernel) rfl (RY rfl))) (fun _ _ _ _=>(FW (bg (ag8 (K:=K) rfl hr.units) (bL (tw (K:=K) rfl) (pv 1) (pv 0)) (dJ (v:=.ref aN) rfl kN rfl)))) (pv 0)) (aj (a_ HM rfl (a9 (pv 7)) (b6 8 cf.nd) (aa (aA 9 cf.nd (aU cE hr (aF (pv 5) (bL aQ (pv 6) (pv 8))))) (aj (a_ HM rfl (a9 (pv 7)) (b6 10 cf.nd) (aj (FF (aU kX hr (aF (bL aQ (bL aQ (pv 4) (pv 8)) (pv 10)) (aU cE hr (aF (pv 9) (bL aQ (pv 6) (pv 10)))))) (FD (bL aQ (pv 4) (pv 8)) (pv 10) set_list))))))))))) (aj (aD (pv 4)))))),?_⟩;sleep 3
 show ⟨_,rfl,a,C,dx,_,_,_,rfl,F1.obj,rfl,MP,a,dx,pP,pW,pB,_,_,kP,kW,kB,rfl,F1,fun lp H1 s1 G' zY=>?_⟩;rw [iP] at zY;show ⟨lp,_,rfl,.inl (aK.of zY),_,_,rfl,rfl,(by rwa [ir,ir]),?_⟩;let em:(2:Int)*((((pX.map (·.nm)).map V.str).length:Nat):Int)=((2*pX.length:Nat):Int):=by rw [ir,ir];omega
 rw [em];obtain ⟨N,eN⟩:∃N,N=2*pX.length:=⟨_,rfl⟩;rw [<-eN] at q ⊢;let aFM:N<=18:=ci
 let big:(1000:Nat)<=BZ:=cr
 show ⟨_,rfl,(N:Int),rfl,ci,ci,fun r nr=>?_⟩;refine aam (n:=N) (oY:=[some (.int (N:Int))]) (fun ys H'=>∃ls:List AO,ys=ls.map V.ref/\ls.Nodup/\r∉ls/\∀l∈ls,H l=none/\H' l=some (.lst (L' N (.ref aN)))) nr ci ⟨[],rfl,rj,by simp,fun l h=>by cases h⟩ ?_ ?_
 ·intro i ys H2 RR hi ly hJ s2 hD k
  obtain ⟨ls,rfl,nd,nf,hl⟩:=hJ;show ⟨uX,?_⟩;intros l5 n5 H5 s5 e5;show ⟨_,rfl,l5,_,_,rfl,rfl,e5,ci,ci,(by simp;omega),?_⟩;intros l6 n6 H6 s6 e6;let Sx:(L' ((N:Nat):Int).toNat [V.ref aN]).flatten=L' N (V.ref aN):=by simp
  rw [Sx] at e6;let s26:=s5.trans s6;let D5:=s5 _ _ hD;refine k _ _ s26 ⟨ls++[l6],by simp,?_,?_,fun l hm=>?_⟩
  ·rw [Vw]
   show ⟨nd,by simp,fun a ha b hb z=>?_⟩;let h1:=(hl a ha).2;rw [z,GZ.mp hb] at h1;erw [s5 _ _ h1] at n6
  ·intro z
   rcases FQ.mp z with z|z
   ·exact nf z
   ·rw [<-GZ.mp z,D5] at n6
    cases n6
  ·rcases FQ.mp hm with z|z
   ·show ⟨(hl l z).1,?_⟩
    rw [ah (fun e:l=r=>nf (by rwa [<-e]))];exact s26 _ _ (hl l z).2
   ·let z:=GZ.mp z
    subst z;show ⟨(s1.trans (s2.trans s5)).free n6,?_⟩;rw [ah (fun e=>by erw [e,D5] at n6)];exact e6
 intro ys H3 ly hJ s3 hD;obtain ⟨ls,rfl,nd,nr',hl⟩:=hJ;let Wo:=s1.trans s3;let nr0:=s1.free nr
 let mx0:Mx K H3 r ls N (fun _ _=>0):=by
  show ⟨hD,by rw [<-ly,ir],nd,fun i l e=>⟨_,(hl l (DA e)).2,by rw [σ1],fun j v ev=>?_⟩,nr'⟩;rw [σ0] at ev;split at ev
  ·cases ev
   show ⟨aN,rfl,by rw [dH];exact hN _⟩
  ·cases ev
 let Yz:=Wo _ _ hd;let hB3:=Wo _ _ hB;show ⟨_,rfl,d,rfl,⟨_,Yz⟩,_,rfl,bR,AD,rfl,⟨_,aK.of hB3⟩,Yz,fun o=>?_⟩;let ot:∀b o',b≠d->H3 b=some o' ->(upd H3 d (.eZ o (.dK AD))) b=some o':=fun b o' n e=>by rwa [ah n]
 let EX:(upd H3 d (.eZ o (.dK AD))) d=some (.eZ o (.dK AD)):=ag;generalize upd H3 d (.eZ o (.dK AD))=H4 at ot EX ⊢;let kO:∀b o',b≠d->H b=some o' ->H4 b=some o':=fun b o' n e=>ot b o' n (Wo _ _ e);let nl0:∀l∈ls,H l=none:=fun l hm=>(hl l hm).1;let dl:∀l∈ls,d≠l:=fun l hm z=>by erw [z,nl0 l hm] at hd
 let rd:r≠d:=fun z=>by erw [z,hd] at nr0
 let mx4:Mx K H4 r ls N (fun _ _=>0):=by
  let t:bf H3 H4:=fun b xs e=>by
   rcases e with e|⟨o',e⟩
   ·exact .inl (ot _ _ (fun z=>by erw [z,Yz] at e) e)
   ·exact .inr ⟨o',ot _ _ (fun z=>by erw [z,Yz] at e) e⟩
  show ⟨ot _ _ rd mx0.hr,mx0.ln,mx0.nd,fun i l e=>?_,mx0.nr⟩;obtain ⟨vs,h1,h2,h3⟩:=mx0.row i l e;show ⟨vs,ot _ _ (FN (dl l (DA e))) h1,h2,fun j v ev=>(h3 j v ev).aT t⟩
 let tH:∀{H':Hp},(∀b o',b≠d->H b=some o' ->H' b=some o')->bf H H':=fun {H'} k b xs e=>by
  rcases e with e|⟨o',e⟩
  ·exact .inl (k _ _ (fun z=>by erw [z,hd] at e) e)
  ·exact .inr ⟨o',k _ _ (fun z=>by erw [z,hd] at e) e⟩
 refine let I:ce:=fun t Z H'=>Ex7 fun (o5 o6 o7 o8 o9 Sy:ω) (f:Nat->Nat->Rat)=>Z=[ap a,ap d,ap bR,some (.int (N:Int)),ap r,o5,o6,o7,o8,o9,Sy]/\(∀b o',b≠d->H b=some o' ->H' b=some o')/\H' d=some (.eZ o (.dK AD))/\Mx K H' r ls N f/\∀i j,i<N->j<N->f i j=PQ pX ((gs.zip ao).take t) i j;ag9 (K:=K) (d:=d) (b:=bR) (o:=o) (AD:=AD) (ys:=lsB.map V.ref) I (by rw [ir];omega) ⟨none,none,none,none,none,none,fun _ _=>0,rfl,kO,EX,mx4,fun i j _ _=>rfl⟩ (fun i Z H' _ h=>by
   obtain ⟨_,_,_,_,_,_,_,_,k',d',_⟩:=h
   show ⟨d',aK.of (k' _ _ (fun z=>by erw [z,hd] at hB) hB)⟩) ?_ ?_
 ·rintro t k x y Z H5 p5 ek ey ⟨o5,o6,o7,o8,o9,Sy,f,rfl,kh,kd,mx,hf⟩ np
  let s5:=aC np (.tup [x,y]);let e5:(upd H5 p5 (.tup [x,y])) p5=some (.tup [x,y]):=ag;generalize upd H5 p5 (.tup [x,y])=H6 at s5 e5 ⊢
  let ht:t<ao.length:=by
   have:=(Wp.mp ek).1;omega
  obtain ⟨b,eb⟩:∃b,ao[t]?=some b:=⟨_,gE ht⟩;let mb:=DA eb;obtain ⟨g0,eg,ng⟩:=aE pg ek;rw [BJ] at ey;obtain ⟨l0,el0,rfl⟩:=GX.mp ey;obtain ⟨us,hl0,nus⟩:=rB t l0 b el0 eb;let ln0:us.length=N:=by rw [nus.1,fK,eN]
  let aaS:l0≠d:=fun z=>by erw [z,hd] at hl0
  let kh6:∀b o',b≠d->H b=some o' ->H6 b=some o':=fun b o' n e=>s5 _ _ (kh b o' n e);let rat:∀i,i<N->(gP (mm b) pX)[i]?=some (qr (qt pX b i))/\Sz 50 (qt pX b i):=fun i hi=>HN g mb ci
  let num:∀{H':Hp},(∀b o',b≠d->H b=some o' ->H' b=some o')->∀i,i<N->∃u,us[i]?=some u/\fe K H' u (qt pX b i):=fun {H'} kk i hi=>by
   let e:=gE (show i<us.length by omega);show ⟨_,e,(nus.2 i _ _ e (rat i hi).1).aT (tH kk)⟩
  let ngg:∀{H':Hp},(∀b o',b≠d->H b=some o' ->H' b=some o')->fe K H' x g0:=fun {H'} kk=>ng.aT (tH kk);let zg0:=zg g0 (DA eg);let gbt:(gs.zip ao)[t]?=some (g0,b):=by rw [agv];show ⟨eg,eb⟩
  let zS:∀i j,i<N->j<N->Sz 8000000 (PQ pX ((gs.zip ao).take t) i j):=fun i j hi hj=>(HP hi hj fun z hz=>by
   obtain ⟨n,en⟩:=MF (Qt hz);rw [agv] at en
   show ⟨zg _ (DA en.1),fun i hi=>(HN g (DA en.2) ci).2⟩).up (by rw [HQ];omega)
  show ⟨p5,_,rfl,bZ.of e5,rfl,_,_,rfl,_,_,rfl,rfl,_,rfl,(N:Int),rfl,ci,ci,fun lF nF=>?_⟩;refine abC (n:=N) (oY:=[some (.ref l0)]) (fun i=>decide (qt pX b i≠0)) nF ci (fun i H7 RR hi s7 kk=>?_) (fun i H7 RR rr=>⟨_,rfl,rr⟩) fun H7 s7 eF=>?_
  ·let k7:∀b o',b≠d->H b=some o' ->H7 b=some o':=fun b o' n e=>s7 _ _ (kh6 b o' n e)
   obtain ⟨u,eu,nu⟩:=num k7 i hi;show ⟨_,rfl,_,rfl,l0,us,(i:Int),u,rfl,rfl,aK.of (k7 _ _ aaS hl0),bF eu,_,_,.inl ⟨oi (q:=qr (qt pX b i)) nu,oi (q:=(0,1)) ⟨aN,rfl,hN _⟩⟩,rfl,adK,_,rfl,?_⟩;rw [ah4];exact kk _ (aq.refl _)
  let k7:∀b o',b≠d->H b=some o' ->H7 b=some o':=fun b o' n e=>s7 _ _ (kh6 b o' n e);let mx7:=mx.gV (s5.trans s7);let d7:=s7 _ _ (s5 _ _ kd);obtain ⟨A,eA⟩:∃A,A=(OF N).filter fun i=>decide (qt pX b i≠0):=⟨_,rfl⟩;rw [<-eA] at eF;let hA:∀i,i∈A ↔ i<N/\qt pX b i≠0:=fun i=>by rw [eA,aa2,decide_eq_true_iff]
  let ndA:A.Nodup:=by rw [eA];exact alW.filter _
  let nFl:lF∉ls:=fun z=>by
   obtain ⟨n,en⟩:=MF z;obtain ⟨vs,h1,_⟩:=mx.row n lF en;erw [s5 _ _ h1] at nF
  obtain ⟨X,eX'⟩:∃X:Nat->Nat->Rat,∀i j,X i j=g0*qt pX b i*qt pX b j:=⟨_,fun _ _=>rfl⟩;obtain ⟨S,eS⟩:∃S:Nat->Nat->Rat,∀i j,S i j=PQ pX ((gs.zip ao).take t) i j:=⟨_,fun _ _=>rfl⟩
  let upk:∀{H':Hp} {l:AO} {ob:HO},l∈ls->(∀b o',b≠d->H b=some o' ->H' b=some o')->∀b o',b≠d->H b=some o' ->(upd H' l ob) b=some o':=fun {H' l ob} hm kk b o' n e=>by
   rw [ah (fun z=>by erw [z,nl0 l hm] at e)];exact kk b o' n e
  show ⟨_,rfl,lF,rfl,⟨_,aK.of eF⟩,let I:ce:=fun c Z H'=>Nw fun (o8 o9 Sy:ω) (f:Nat->Nat->Rat)=>Z=[ap a,ap d,ap bR,some (.int (N:Int)),ap r,some x,ap l0,ap lF,o8,o9,Sy]/\(∀b o',b≠d->H b=some o' ->H' b=some o')/\H' d=some (.eZ o (.dK AD))/\H' lF=some (.lst (A.map fun i:Nat=>V.int (i:Int)))/\Mx K H' r ls N f/\∀i j,i<N->j<N->f i j=S i j+if i∈A.take c then X i j else 0;bM (K:=K) (a:=lF) (xs:=A.map fun i:Nat=>V.int (i:Int)) I ⟨_,_,_,f,rfl,k7,d7,eF,mx7,fun i j hi hj=>by rw [hf i j hi hj,eS,lH dL,alv]⟩ (fun c Z H' _ h=>by
    obtain ⟨_,_,_,_,_,_,_,h,_⟩:=h
    exact aK.of h) ?_ ?_⟩
  ·rintro c z Z H8 hz ⟨o8,o9,Sy,f1,rfl,k8,d8,eF8,mx8,hf8⟩
   rw [BJ] at hz;obtain ⟨col,ec,rfl⟩:=GX.mp hz;let SA:=(hA col).mp (DA ec);obtain ⟨u,eu,nu⟩:=num k8 col SA.1;let zc:=(rat col SA.1).2;show ⟨_,rfl,_,rfl,_,rfl,l0,us,(col:Int),u,rfl,rfl,aK.of (k8 _ _ aaS hl0),bF eu,x,u,g0,qt pX b col,rfl,ngg k8,nu,zg0.up cr,zc.up cr,fun c9 H9 s9 e9=>?_⟩;let k9:∀b o',b≠d->H b=some o' ->H9 b=some o':=fun b o' n e=>s9 _ _ (k8 b o' n e);obtain ⟨lc,elc⟩:∃l,ls[col]?=some l:=⟨_,gE (by rw [mx.ln];exact SA.1)⟩;let mlc:=DA elc
   show ⟨_,rfl,lF,rfl,⟨_,aK.of (s9 _ _ eF8)⟩,let I:ce:=fun e Z H'=>CK fun (Sy:ω) (f:Nat->Nat->Rat)=>Z=[ap a,ap d,ap bR,some (.int (N:Int)),ap r,some x,ap l0,ap lF,some (.int (col:Int)),ap c9,Sy]/\(∀b o',b≠d->H b=some o' ->H' b=some o')/\H' d=some (.eZ o (.dK AD))/\H' lF=some (.lst (A.map fun i:Nat=>V.int (i:Int)))/\fe K H' (.ref c9) (g0*qt pX b col)/\Mx K H' r ls N f/\∀i j,i<N->j<N->f i j=S i j+if i∈A.take c\/(i=col/\j∈A.take e) then X i j else 0;bM (K:=K) (a:=lF) (xs:=A.map fun i:Nat=>V.int (i:Int)) I ⟨_,f1,rfl,k9,s9 _ _ d8,s9 _ _ eF8,⟨c9,rfl,bZ.of e9⟩,mx8.gV s9,fun i j hi hj=>by rw [hf8 i j hi hj];simp⟩ (fun e Z H' _ h=>by
     obtain ⟨_,_,_,_,_,h,_⟩:=h
     exact aK.of h) ?_ ?_⟩
   ·rintro e z Z QZ hz ⟨Sy,f2,rfl,k10,d10,aaT,n10,SD,SE⟩
    rw [BJ] at hz;obtain ⟨pl,ep,rfl⟩:=GX.mp hz;let nE:=(hA pl).mp (DA ep);obtain ⟨u2,eu2,nu2⟩:=num k10 pl nE.1;let zp:=(rat pl nE.1).2;obtain ⟨vs,hv,lv,nv⟩:=SD.row col lc elc;let ev:=gE (show pl<vs.length by rw [lv];exact nE.1);let nvp:=nv pl _ ev
    let fv:f2 col pl=S col pl:=by
     rw [SE col pl SA.1 nE.1,lH (fun z=>?_),alv]
     rcases z with z|z
     ·exact akU ndA ec z
     ·exact akU ndA ep z.2
    let er:jc (ls.map V.ref) (col:Int)=some (.ref lc):=bF (by rw [BJ,elc];rfl);show ⟨_,rfl,_,rfl,r,_,_,_,rfl,rfl,aK.of SD.hr,er,_,rfl,lc,vs,(pl:Int),_,rfl,rfl,aK.of hv,bF ev,_,rfl,_,rfl,_,rfl,l0,us,(pl:Int),u2,rfl,rfl,aK.of (k10 _ _ aaS hl0),bF eu2,.ref c9,u2,_,qt pX b pl,rfl,n10,nu2,(zg0.mul zc).up cr,zp.up cr,fun c11 Pw zX e11=>?_⟩;show ⟨vs[pl],.ref c11,f2 col pl,_,rfl,nvp.gV zX,⟨c11,rfl,bZ.of e11⟩,by rw [fv,eS];exact zS col pl SA.1 nE.1,((zg0.mul zc).mul zp).up cr,fun c12 H12 j9 e12=>?_⟩;let qQ:=zX.trans j9;let afU:=SD.gV qQ;show ⟨_,rfl,_,rfl,r,_,_,_,rfl,rfl,aK.of afU.hr,er,_,rfl,lc,vs,_,pl,rfl,rfl,qQ _ _ hv,by rw [lv];exact afN nE.1,?_⟩;let k12:∀b o',b≠d->H b=some o' ->H12 b=some o':=fun b o' n e=>qQ _ _ (k10 b o' n e);let mxp:=afU.put (j:=pl) elc (qQ _ _ hv) ⟨c12,rfl,bZ.of e12⟩;show ⟨_,_,rfl,upk mlc k12,?_,?_,?_,mxp,fun i j hi hj=>?_⟩
    ·rw [ah (dl lc mlc)]
     exact qQ _ _ d10
    ·rw [ah (fun z=>nFl (by rwa [z]))]
     exact qQ _ _ aaT
    ·exact (n10.gV qQ).aT (bf.ks (qQ _ _ hv) cx.upd)
    ·by_cases cc:i=col/\j=pl
     ·rw [mG cc,fv,cc.1,cc.2,mG (.inr ⟨rfl,(kZ ep).mpr (.inr rfl)⟩),eX']
     ·rw [lH cc,SE i j hi hj]
      let eqv:(i∈A.take c\/(i=col/\j∈A.take (e+1))) ↔ (i∈A.take c\/(i=col/\j∈A.take e)):=by
       rw [kZ ep];constructor
       ·rintro (h|⟨h1,h|h⟩)
        ·exact .inl h
        ·exact .inr ⟨h1,h⟩
        ·exact CH ⟨h1,h⟩ cc
       ·rintro (h|⟨h1,h⟩)
        ·exact .inl h
        ·exact .inr ⟨h1,.inl h⟩
      simp only [eqv]
   ·rintro Z QZ ⟨Sy,f2,rfl,k10,d10,aaT,n10,SD,SE⟩
    rw [ir,Nq] at SE;show ⟨_,_,_,f2,rfl,k10,d10,aaT,SD,fun i j hi hj=>?_⟩;rw [SE i j hi hj];by_cases c1:i∈A.take c
    ·rw [mG (.inl c1),mG ((kZ ec).mpr (.inl c1))]
    ·by_cases c2:i=col
     ·rw [mG ((kZ ec).mpr (.inr c2))]
      by_cases c3:j∈A
      ·rw [mG (.inr ⟨c2,c3⟩)]
      ·rw [lH (fun z=>z.elim c1 fun z=>c3 z.2)]
       have:qt pX b j=0:=vD fun z=>c3 ((hA j).mpr ⟨hj,z⟩);rw [eX',this,Rat.mul_zero]
     ·rw [lH (fun z=>z.elim c1 fun z=>c2 z.1),lH (fun z=>((kZ ec).mp z).elim c1 c2)]
  ·rintro Z H8 ⟨o8,o9,Sy,f1,rfl,k8,d8,eF8,mx8,hf8⟩
   rw [ir,Nq] at hf8;show ⟨_,_,_,_,_,_,f1,rfl,k8,d8,mx8,fun i j hi hj=>?_⟩;rw [hf8 i j hi hj,Q0,gbt];show _=PQ pX (((gs.zip ao).take t)++[(g0,b)]) i j;rw [acT,<-eS];show _=_+g0*qt pX b i*qt pX b j;rw [<-eX'];by_cases c1:i∈A
   ·rw [mG c1]
   ·rw [lH c1]
    have:qt pX b i=0:=vD fun z=>c1 ((hA i).mpr ⟨hi,z⟩);rw [eX',this,Rat.mul_zero,Rat.zero_mul]
 ·rintro Z H5 ⟨o5,o6,o7,o8,o9,Sy,f,rfl,kh,kd,mx,hf⟩
  show ⟨d,o,AD,kd,fun o' u' z=>(by have z':H d=some (.eZ o' u'):=z;erw [hd] at z'),?_⟩;let ln5:(gs.zip ao).take AD.length=gs.zip ao:=SS (by rw [ame];omega);rw [ln5] at hf;show ⟨_,rfl,q r ls f _ (fun b o' e=>?_) nr0 nl0 ?_ hf⟩
  ·by_cases n:b=d
   ·subst n
    rw [hd] at e;rwa [ag]
   ·rw [ah n]
    exact kh b o' n e
  ·let t:bf H5 (upd H5 d (.dK AD)):=fun b xs e=>by
    rcases e with e|⟨o',e⟩
    ·exact .inl (by rw [ah (fun z=>by erw [z,kd] at e)];exact e)
    ·exact .inr ⟨o',by rw [ah (fun z=>by erw [z,kd] at e)];exact e⟩
   show ⟨by rw [ah rd];exact mx.hr,mx.ln,mx.nd,fun i l e=>?_,mx.nr⟩;obtain ⟨vs,h1,h2,h3⟩:=mx.row i l e;show ⟨vs,by rwa [ah (FN (dl l (DA e)))],h2,fun j v ev=>(h3 j v ev).aT t⟩
def EY (pX:ς):List (List (Int×Int)):=pX.flatMap fun p=>vq pX p
def jx (pX:ς):List (List (Int×Int)):=(EY pX).map fun qs=>qs++L' (bC pX) (0,1)
def j0 (pX:ς)(gbs:List (Rat×bK)):List (List (Int×Int)):=(OF (2*pX.length)).map fun i=>((OF (2*pX.length)).map fun j=>qr (PQ pX gbs i j))++((oE (EY pX) i).map vl).map fun r=>qr (-r)
def r8 (pX:ς):(EY pX).length=bC pX:=gD pX pX
def yq (h:cM K H us qs)(h':cM K H vs rs):cM K H (us++vs) (qs++rs):=by
 let l:=h.1;show ⟨by rw [IA,IA,l,h'.1],fun i u q e1 e2=>?_⟩;by_cases c:i<us.length
 ·rw [Nu c] at e1
  rw [Nu ci] at e2;exact h.2 i u q e1 e2
 ·rw [Qw ci] at e1 e2
  rw [l] at e1;exact h'.2 _ u q e1 e2
def aaV {us:ζ}(h:Paired (fe K H) us rs):cM K H us (rs.map qr):=⟨by rw [ir];exact HR h,fun i u q e1 e2=>by
 obtain ⟨r,er,hr⟩:=aE h e1;erw [BJ,er] at e2
 exact hr⟩
def acp (h:iA K H b_ gI)(sh:Shape T B m gI)(hj:j<m):cM K H (qk b_ j) (oE gI j):=by
 show ⟨by simp [qk,oE,h.1],fun i u q e1 e2=>?_⟩;unfold qk at e1;unfold oE at e2;rw [BJ] at e1 e2;obtain ⟨vs,ev,rfl⟩:=GX.mp e1;obtain ⟨qs,eq,rfl⟩:=GX.mp e2;let N:=h.2 i vs qs ev eq;let hl:=(sh qs (DA eq)).1;let lN:=N.1;refine N.2 j _ _ ?_ ?_
 ·rw [Oq,gE ci];rfl
 ·rw [Oq,gE ci];rfl
def abF (n:Nat)(h:iA K H b_ gI):iA K H (b_.take n) (gI.take n):=⟨by rw [HQ,HQ,h.1],fun i vs qs e1 e2=>by
 let hi:i<n:=by
  have:=(Wp.mp e1).1;rw [HQ] at this;omega
 rw [VC hi] at e1 e2
 exact h.2 i vs qs e1 e2⟩
def xc (pX:ς)(ao:Η):(iN pX ao).take (bC pX)=EY pX:=by
 unfold iN;rw [List.take_append_of_le_length (by rw [gD];exact DH _),SS (by rw [gD];exact DH _)];rfl
inductive m4 (K:Frag)(C:AO)(vs:ζ)(H:Hp)(Q:VK)(E_:XK):Prop
|mk (a d:AO)(pX:ς)(ao:Η)(AD:γ)(gs:List Rat)(_:vs=[.ref a,.ref d])(_:x6 K H C a pX ao)(_:iK pX ao)(_:ao.length<=9)(_:H d=some (.dK AD))(_:Paired (fun (kv:Φ) r=>fe K H kv.2 r) AD gs)(_:gs.length=ao.length)(_:(∀r∈gs,Sz 31 r))(_:∀(r:AO)(ls:υ)(b_:Ζ)(H':Hp),aq H H' ->iO K H' r ls b_ (jx pX++j0 pX (gs.zip ao))->Q (.ref r) H')
def dq:av ["F","firm","drawn","ways","rows","stiff","row","column"] ["F","firm"] (ae fg):=sq
def ahZ (hN:∀H:Hp,bZ K H aN [.int 0,.int 1])(kN:mg "NOUGHT"=some (.ref aN))(D:Def K mg "bend_rows" fg ["F","firm"])(aX:mg "len"=none)(gQ:mg "zip"=none)(anA:ac P w K mg gw 38 "draw_rows" ["F"] (mX K C))(yt:ac P w K mg gw 35 "stiff_rows" C_ (yo K C))(aaq:ac P w K mg gw 1 "turned" vo oC)(anB:ac P w K mg gw 1 "signs_turned" vg (yl K)):
  ac P w K mg gw 39 "bend_rows" ["F","firm"] (m4 K C):=by
 refine D.op dq fun f bE A outer s H vs Q E hr h=>?_;obtain ⟨a,d,pX,ao,AD,gs,rfl,R,g,lb9,hd,pg,lg,zg,q⟩:=h;let gl:=g.lp;let lk:AD.length=gs.length:=HR pg;let wl:bC pX<=2*pX.length:=oI pX g.lw;let ql:(iN pX ao).length=bC pX+ao.length:=acz pX ao;let big:(1000:Nat)<=BZ:=cr
 show ⟨_,(aa (aA 2 dq.nd (aU anA hr (aV (pv 0)))) (aa (aA 3 dq.nd (aw cJ (aR aH rfl aX cA (aV (pv 2))) (aR qc rfl aX cA (aV (pv 1))))) (aa (qf (i:=4) (tn:=["row"]) (fr:=["ways"]) (oV:=[3]) dq.nd (a9 (bY cX (pv 2) cP (cC (pv 3)))) (aw fU (pv 0) (aw xF (bI (aV (dJ (v:=.ref aN) rfl kN rfl))) (pv 1)))) (aa (aA 5 dq.nd (aU yt hr (bx (pv 0) (pv 1) (bY cX (pv 2) (cC (pv 3)) cP)))) (aa (a_ HM rfl (xZ rfl gQ (aF (pv 5) (aU aaq hr (aF (bY cX (pv 2) cP (cC (pv 3))) (aR aH rfl aX cA (aV (pv 5))))))) (iU rfl (bu (b6 6 dq.nd) (bu (b6 7 dq.nd) e_))) (aj (bP (sy Wg Zt Zo fT (pv 4) (aV (aw fU (pv 6) (aU anB hr (aV (pv 7))))))))) (aj (aD (pv 4)))))))),?_⟩;sleep 4
 show ⟨_,rfl,a,pX,ao,rfl,R,g,fun r0 PR vx H1 s1 nr0 RR=>?_⟩;let ll0:PR.length=bC pX+ao.length:=by rw [RR.j_.2.1,RR.num.1,ql]
 let lv0:vx.length=bC pX+ao.length:=by rw [RR.num.1,ql]
 show ⟨_,rfl,r0,_,rfl,.inl (aK.of RR.j_.1),_,rfl,d,AD,rfl,.inl (s1 _ _ hd),_,_,rfl,rfl,?_⟩;let em:(((PR.map V.ref).length:Nat):Int)-((AD.length:Nat):Int)=((bC pX:Nat):Int):=by rw [ir];omega
 rw [em];obtain ⟨W,eW⟩:∃W,W=bC pX:=⟨_,rfl⟩;rw [<-eW];let afV:iW (PR.map V.ref) none (some (W:Int))=(PR.take W).map V.ref:=by rw [jL (by rw [ir];omega),xW]
 let anC:iW (PR.map V.ref) (some (W:Int)) none=(PR.drop W).map V.ref:=by rw [gc (by rw [ir];omega),ale]
 let rowAt:∀i l,PR[i]?=some l->∃us qs,(iN pX ao)[i]?=some qs/\vx[i]?=some us/\H1 l=some (.lst us)/\cM K H1 us qs:=fun i l e=>by
  let hi:=(Wp.mp e).1;let e1:=gE (show i<vx.length by omega);let e2:=gE (show i<(iN pX ao).length by omega);show ⟨_,_,e2,e1,RR.j_.2.2 i l _ e e1,RR.num.2 i _ _ e1 e2⟩
 show ⟨_,rfl,_,rfl,_,rfl,r0,_,rfl,aK.of RR.j_.1,?_⟩;rw [afV];intros lS nS HS sS eS;show ⟨lS,rfl,⟨_,aK.of eS⟩,fun rD nD=>?_⟩;refine tX (oY:=[some (.int (W:Int))]) (K:=K) (a:=lS) (xs:=(PR.take W).map V.ref) (fun ys H'=>∃(ls:υ)(b_:Ζ),ys=ls.map V.ref/\iO K H' rD ls b_ ((jx pX).take ys.length)) nD (by rw [ir,HQ];omega) (fun H2 s2=>aK.of (s2 _ _ eS)) ⟨[],[],rfl,⟨ag,rfl,fun i l vs e=>by simp at e⟩,⟨rfl,fun i vs qs e=>by simp at e⟩,by simp⟩ ?_ ?_
 ·intro i x ys H2 RQ hx ly hJ s2 hD k
  obtain ⟨ls,b_,rfl,RJ⟩:=hJ;rw [BJ] at hx;obtain ⟨l,el,rfl⟩:=GX.mp hx
  let hi:i<W:=by
   have:=(Wp.mp el).1;rw [HQ] at this;omega
  rw [VC hi] at el;obtain ⟨us,qs,eq,_,hl,nu⟩:=rowAt i l el;let j9:=sS.trans s2
  let lus:us.length<=20:=by
   have:=(mY g qs (DA eq)).1;rw [nu.1,this];omega
  show ⟨_,rfl,uX,?_⟩;intros l5 n5 H5 s5 e5;show ⟨_,rfl,l5,_,_,rfl,rfl,e5,ci,ci,(by simp;omega),?_⟩;intros l6 n6 H6 s6 e6;let Sx:(L' ((W:Nat):Int).toNat [V.ref aN]).flatten=L' W (V.ref aN):=by simp
  rw [Sx] at e6;let Sk:=j9.trans (s5.trans s6);show ⟨l,l6,_,_,rfl,rfl,Sk _ _ hl,e6,(by rw [σ1];omega),?_⟩;intros l7 n7 H7 s7 e7;let s17:=Sk.trans s7;let s27:=s5.trans (s6.trans s7)
  let n0:cM K H7 (L' W (V.ref aN)) (L' W (0,1)):=⟨by simp,fun i u q e1 e2=>by
   rw [σ0] at e1 e2;split at e1
   ·rename_i c
    rw [mG c] at e2;cases e1;cases e2;show ⟨aN,rfl,hN _⟩
   ·cases e1⟩
  let eA:(jx pX)[i]?=some (qs++L' W (0,1)):=by
   have:(EY pX)[i]?=some qs:=by rwa [<-xc pX ao,VC ci]
   unfold jx;rw [BJ,this,eW];rfl
  let hl7:l7≠rD:=fun z=>by erw [z,(s5.trans s6) _ _ hD] at n7
  refine k _ _ s27 ⟨ls++[l7],b_++[us++L' W (V.ref aN)],by simp,?_⟩;let ln:ls.length=i:=by rwa [ir] at ly
  have:=(RJ.gV s27).push e7 hl7 (yq (nu.gV s17) n0);rw [IA,ir,akm,ln,Q0,eA];rwa [ir,ln] at this
 intro ys H2 ly hJ s2 hD;obtain ⟨ls2,anD,rfl,RJ⟩:=hJ;let lA:(jx pX).length=W:=by unfold jx;rw [ir,r8,eW]
 rw [ly,ir,HQ,SS ci] at RJ;let j9:=sS.trans s2;let LI:=s1.trans j9;show ⟨_,rfl,_,rfl,_,rfl,_,rfl,_,rfl,r0,_,rfl,aK.of (j9 _ _ RR.j_.1),?_⟩;rw [anC];intros lT nT HT sT eT;let s0T:=LI.trans sT;let s1T:=j9.trans sT;try dsimp only [mM];show ⟨a,d,lT,pX,ao,AD,gs,PR.drop W,rfl,R.gV s0T,g,lb9,s0T _ _ hd,Paired.dc pg fun _ _ z=>z.gV s0T,lg,zg,eT,by rw [ue];omega,fun i l b el eb=>?_,fun r1 ls1 f H4 s4 n4 nl4 mx hf=>?_⟩
 ·rw [List.getElem?_drop] at el
  obtain ⟨us,qs,eq,_,hl,nu⟩:=rowAt (W+i) l el
  have:(iN pX ao)[W+i]?=some (gP (mm b) pX):=by
   unfold iN;rw [Qw (by rw [gD,eW];exact Nat.le_add_right _ _),BJ,gD,show W+i-(pX.flatMap fun p=>p.ws).length=i by rw [eW];unfold bC;omega,eb];rfl
  erw [this] at eq;show ⟨us,s1T _ _ hl,nu.gV s1T⟩
 obtain ⟨N,eN⟩:∃N,N=2*pX.length:=⟨_,rfl⟩;rw [<-eN] at mx hf;let LD:=s1T.trans s4;let s24:=sT.trans s4;let MT:j7 H4 r0 PR vx:=RR.j_.gV LD;show ⟨_,rfl,_,rfl,_,rfl,_,rfl,r0,_,rfl,aK.of MT.1,?_⟩;rw [afV];intros lU nU H5 sU eU;show ⟨_,rfl,r1,_,rfl,.inl (aK.of (sU _ _ mx.hr)),?_⟩;show oC [_,_] _ _ E0;let lm:(((ls1.map V.ref).length:Nat):Int)=((N:Nat):Int):=by rw [ir,mx.ln]
 let s15:=LD.trans sU
 let M5:j7 H5 lU (PR.take W) (vx.take W):=⟨eU,by rw [HQ,HQ,ll0,lv0],fun i l vs e1 e2=>by
  let hi:i<W:=by
   have:=(Wp.mp e1).1;rw [HQ] at this;omega
  rw [VC hi] at e1 e2
  exact s15 _ _ (RR.j_.2.2 i l vs e1 e2)⟩
 let N1:iA K H1 (vx.take W) (EY pX):=by
  have:=abF W RR.num;rw [eW,xc] at this;rw [eW];exact this
 let shW:Shape 50 50 N (EY pX):=fun qs hq=>by
  rw [eN];exact mY g qs (by unfold iN;exact OA _ hq)
 show ⟨lU,PR.take W,vx.take W,((N:Nat):Int),ph (fun i:Int=>[V.ref lU,V.int i]) lm,M5,ci,ci,by rw [HQ];omega,fun vs hv=>?_,fun c cs H6 s6 nc6 anI M6=>?_⟩
 ·obtain ⟨i,ei⟩:=MF hv
  let hi:=(Wp.mp ei).1;let e2:=gE (show i<(EY pX).length by rwa [<-N1.1]);let h1:=(N1.2 i vs _ ei e2).1;rw [h1,(shW _ (DA e2)).1];exact LK _
 rw [Q4] at M6;let lcs:cs.length=N:=by rw [M6.2.1];unfold jZ;rw [ir,Ww]
 let Sk:=s15.trans s6;let PM:=sU.trans s6;let s26:=s24.trans PM;let mx6:=mx.gV PM;let R6:=RJ.gV s26;let rD4:=s24 _ _ RJ.j_.1;let r1D:r1≠rD:=fun z=>by erw [z,sT _ _ RJ.j_.1] at n4
 let l1D:∀l∈ls1,l≠rD:=fun l hm z=>by
  have:=nl4 l hm;erw [z,sT _ _ RJ.j_.1] at this
 let lB:(j0 pX (gs.zip ao)).length=N:=by unfold j0;rw [ir,Ww,eN]
 let rD5:=sU _ _ rD4
 let cD:∀i l,cs[i]?=some l->H6 l=some (.lst (qk (vx.take W) i)):=fun i l e=>by
  let hi:=(Wp.mp e).1;refine M6.2.2 i l _ e ?_;unfold jZ;rw [BJ,AK ci];rfl
 let Mq:∀i l,cs[i]?=some l->l≠rD:=fun i l e z=>by
  have:=anI l (DA e);erw [z,rD5] at this
 let cnD:c≠rD:=fun z=>by erw [z,rD5] at nc6
 show ⟨r1,c,rfl,⟨_,aK.of mx6.hr⟩,⟨_,aK.of M6.1⟩,?_⟩
 refine let I:ce:=fun t Z H'=>Nw fun (o6 o7:ω) (ls:υ) (b_:Ζ)=>Z=[ap a,ap d,ap r0,some (.int (W:Int)),ap rD,ap r1,o6,o7]/\(∀b o,b≠rD->H6 b=some o->H' b=some o)/\iO K H' rD ls b_ (jx pX++(j0 pX (gs.zip ao)).take t)/\ls.length<=W+t;ac1 (K:=K) (a:=r1) (b:=c) (xs:=ls1.map V.ref) (ys:=cs.map V.ref) I ⟨none,none,ls2,anD,rfl,fun _ _ _ e=>e,by rwa [amA,Sw],by rw [RJ.j_.2.1,RJ.num.1,lA];exact DH _⟩ (fun i Z H' h=>by
   obtain ⟨_,_,_,_,_,k',_⟩:=h
   show ⟨aK.of (k' _ _ r1D mx6.hr),aK.of (k' _ _ cnD M6.1)⟩) ?_ ?_
 ·rintro t x y Z H7 p7 ex ey ⟨o6,o7,ls,b_,rfl,k7,R7,ll⟩ np
  let s7:=aC np (.tup [x,y]);let e7:(upd H7 p7 (.tup [x,y])) p7=some (.tup [x,y]):=ag;generalize upd H7 p7 (.tup [x,y])=H8 at s7 e7 ⊢;rw [BJ] at ex ey;obtain ⟨l1,el1,rfl⟩:=GX.mp ex;obtain ⟨c1,ec1,rfl⟩:=GX.mp ey
  let ht:t<N:=by
   have:=(Wp.mp ec1).1;omega
  obtain ⟨vs1,hv1,lv1,nv1⟩:=mx6.row t l1 el1
  let tt:bf H6 H7:=fun b xs e=>by
   rcases e with e|⟨o',e⟩
   ·exact .inl (k7 _ _ (fun z=>by erw [z,R6.j_.1] at e) e)
   ·exact .inr ⟨o',k7 _ _ (fun z=>by erw [z,R6.j_.1] at e) e⟩
  let hv8:=s7 _ _ (k7 _ _ (l1D l1 (DA el1)) hv1);let c1D:c1≠rD:=Mq t c1 ec1;let hc8:=s7 _ _ (k7 _ _ c1D (cD t c1 ec1));let R8:=R7.gV s7;let cn:cM K H1 (qk (vx.take W) t) (oE (EY pX) t):=acp N1 shW ht;let cp:Paired (fe K H8) (qk (vx.take W) t) ((oE (EY pX) t).map vl):=Paired.dc (oM (cn.gV Sk) (aap shW ht)) fun _ _ z=>(z.aT tt).gV s7;show ⟨p7,_,rfl,bZ.of e7,rfl,_,_,rfl,_,_,rfl,rfl,_,rfl,.inl ⟨rfl,_,aK.of R8.j_.1⟩,_,rfl,_,rfl,c1,_,_,rfl,hc8,cp,(by unfold qk;rw [ir,HQ];omega),fun l9 us9 H9 s9 e9 p9=>?_⟩;show ⟨l1,l9,_,_,rfl,rfl,s9 _ _ hv8,e9,(by have:=HR p9;rw [ir,ir] at this;unfold oE at this;rw [ir,r8] at this;omega),?_⟩;intros l10 n10 QZ BB e10;let R10:=R8.gV (s9.trans BB);show ⟨rD,_,_,rfl,rfl,R10.j_.1,(by rw [ir];omega),?_⟩;let anL:l10≠rD:=fun z=>by erw [z,(R8.gV s9).j_.1] at n10
  let nv8:cM K QZ vs1 ((OF N).map fun j=>qr (PQ pX (gs.zip ao) t j)):=⟨by rwa [ir,Ww],fun j u qq e1 e2=>by
   rw [BJ] at e2;obtain ⟨j',ej,rfl⟩:=GX.mp e2
   let hj:j<N:=by
    have:=(Wp.mp e1).1;omega
   erw [AK hj] at ej;have:=nv1 j u e1;rw [hf t j ht hj] at this
   exact ((this.aT tt).gV s7).gV (s9.trans BB)⟩
  let ns9:cM K QZ us9 (((oE (EY pX) t).map vl).map fun r=>qr (-r)):=by
   have:=(aaV p9).gV BB;rwa [MI] at this
  let eB:(j0 pX (gs.zip ao))[t]?=some (((OF N).map fun j=>qr (PQ pX (gs.zip ao) t j))++((oE (EY pX) t).map vl).map fun r=>qr (-r)):=by
   unfold j0;rw [BJ,<-eN,AK ht];rfl
  show ⟨_,_,ls++[l10],b_++[vs1++us9],rfl,fun b o n e=>?_,?_,by rw [IA,akm];omega⟩
  ·rw [ah n]
   exact BB _ _ (s9 _ _ (s7 _ _ (k7 _ _ n e)))
  ·rw [Q0,eB,<-Wv]
   exact R10.push e10 anL (yq nv8 ns9)
 ·rintro Z H7 ⟨o6,o7,ls,b_,rfl,k7,R7,ll⟩
  rw [ir,ir,mx.ln,lcs,LM,SS ci] at R7;show ⟨_,rfl,q rD ls b_ H7 (fun b o e=>?_) R7⟩;let Wq:=s1.trans Sk;exact k7 _ _ (fun z=>by erw [z,(s1.trans sS).free nD] at e) (Wq _ _ e)
inductive lZ (K:Frag)(vs:ζ)(H:Hp)(Q:VK)(E_:XK):Prop
|mk (d e:AO)(AD kL:γ)(xs:List (Str×Rat))(Ln:Str->Rat)(_:vs=[.ref d,.ref e])(_:H d=some (.dK AD))(_:Paired (fun (kv:Φ)(x:Str×Rat)=>kv.1=.inr x.1/\fe K H kv.2 x.2) AD xs)(_:(xs.map (·.1)).Nodup)(_:H e=some (.dK kL))(_:d≠e)(_:xs.length<=14)(_:(∀x∈xs,Sz 31 x.2/\Sz 4000000 (Ln x.1)/\∃v,bB kL (.inr x.1)=some v/\fe K H v (Ln x.1)))(_:∀(p:AO)(kT:γ)(H':Hp),aq H H' ->H p=none->H' p=some (.dK kT)->Paired (fun (kv:Φ)(x:Str×Rat)=>kv.1=.inr x.1/\fe K H' kv.2 (x.2*Ln x.1)) kT xs->Q (.ref p) H')
def jS:av ["firm","longer","pulls","bar","grip"] CD (ae h_):=sq
def ab4 (D:Def K mg "gripped" h_ CD)(cE:ac P w K mg gw 34 "product_of" FY (i7 K fun a b=>a*b)):
  ac P w K mg gw 35 "gripped" CD (lZ K):=by
 refine D.oo jS fun H hr h=>?_;obtain ⟨d,e,AD,kL,xs,Ln,rfl,hd,pk,nd,he,ne,lx,hx,q⟩:=h;let lk:AD.length=xs.length:=HR pk
 show ⟨_,(aa (aA 2 jS.nd cT) (aa (oh (a_ HM rfl (tO (pv 0)) (iU rfl (bu (b6 3 jS.nd) (bu (b6 4 jS.nd) e_))) (aj (cy (bU hr) (pv 2) (pv 3) (aU cE hr (aF (pv 4) (iG (bU hr) (pv 1) (pv 3) (fun _ _=>rfl)))) rfl)))) (aj (aD (pv 2))))),?_⟩;sleep 2
 intro p np;let s1:=aC np (.dK []);let e1:(upd H p (.dK [])) p=some (.dK []):=ag;generalize upd H p (.dK [])=H1 at s1 e1 ⊢;let Wi:=s1 _ _ hd;let pd:p≠d:=fun z=>by erw [z,hd] at np
 show ⟨_,rfl,d,AD,rfl,Wi,fun o=>?_⟩;let k0:∀b o',b≠d->b≠p->H b=some o' ->(upd H1 d (.eZ o (.dK AD))) b=some o':=fun b o' n _ z=>by rw [ah n];exact s1 _ _ z
 let tH:∀{H':Hp},(∀b o',b≠d->b≠p->H b=some o' ->H' b=some o')->bf H H':=fun {H'} k b xs r=>by
  rcases r with r|⟨o',r⟩
  ·exact .inl (k _ _ (fun z=>by erw [z,hd] at r) (fun z=>by erw [z,np] at r) r)
  ·exact .inr ⟨o',k _ _ (fun z=>by erw [z,hd] at r) (fun z=>by erw [z,np] at r) r⟩
 refine let I:ce:=fun t Z H'=>KU fun (o3 o4:ω) (kT:γ)=>Z=[ap d,ap e,ap p,o3,o4]/\(∀b o',b≠d->b≠p->H b=some o' ->H' b=some o')/\H' d=some (.eZ o (.dK AD))/\H' p=some (.dK kT)/\Paired (fun (kv:Φ) (x:Str×Rat)=>kv.1=.inr x.1/\fe K H' kv.2 (x.2*Ln x.1)) kT (xs.take t);qb (d:=d) (o:=o) (AD:=AD) I ⟨none,none,[],rfl,k0,ag,by rwa [ah pd],.nil⟩ (fun t Z H' _ h=>by
   obtain ⟨_,_,_,_,_,h,_⟩:=h
   exact h) ?_ ?_
 ·rintro t k y Z H6 p7 mj ⟨o3,o4,kT,rfl,k6,hd6,hp6,pT⟩ n7
  obtain ⟨x,ex,rfl,ny⟩:∃x,xs[t]?=some x/\k=.inr x.1/\fe K H y x.2:=by
   obtain ⟨x,ex,h1,h2⟩:=aE pk mj;show ⟨x,ex,h1,h2⟩
  let s7:=aC n7 (.tup [kV (.inr x.1),y]);let e7:(upd H6 p7 (.tup [kV (.inr x.1),y])) p7=some (.tup [kV (.inr x.1),y]):=ag;generalize upd H6 p7 (.tup [kV (.inr x.1),y])=H7 at s7 e7 ⊢;let k7:∀b o',b≠d->b≠p->H b=some o' ->H7 b=some o':=fun b o' n m z=>s7 _ _ (k6 b o' n m z);obtain ⟨z1,z2,v,ev,nv⟩:=hx x (DA ex);let pe:e≠p:=fun z=>by erw [<-z,he] at np
  let dg:dX H7 e (.str x.1) (some v):=by
   have:=dX.k (k:=.inr x.1) (k7 _ _ (FN ne) pe he);rwa [ev] at this
  show ⟨p7,_,rfl,bZ.of e7,rfl,_,_,rfl,_,_,rfl,rfl,_,rfl,_,rfl,_,rfl,e,v,rfl,dg,y,v,x.2,Ln x.1,rfl,ny.aT (tH k7),nv.aT (tH k7),z1.up cr,z2.up cr,fun c8 H8 s8 e8=>?_⟩;let hp8:=s8 _ _ (s7 _ _ hp6);let lT:=HR pT;rw [HQ] at lT;show ⟨_,rfl,_,rfl,p,_,rfl,gM.k (k:=.inr x.1) hp8 (GG (show kT.length<=1000 by omega) cr),?_⟩
  let QG:(GH x.1:Key)∉kT.map (·.1):=fun z=>by
   obtain ⟨kv,BO,ek⟩:=CI.mp z;obtain ⟨j,ej⟩:=MF BO;obtain ⟨x',u_,h1,_⟩:=aE pT ej;rw [h1] at ek
   let hj:j<t:=by
    have:=(Wp.mp u_).1;rw [HQ] at this;omega
   rw [VC hj] at u_;let g1:(xs.map (·.1))[j]?=some x.1:=by rw [BJ,u_,<-MQ ek];rfl
   let g2:(xs.map (·.1))[t]?=some x.1:=by rw [BJ,ex];rfl
   have:=eL nd g1 g2;omega
  rw [dw _ (bS QG)];let t8:bf H8 (upd H8 p (.dK (kT++[(.inr x.1,.ref c8)]))):=.dict hp8;show ⟨_,_,_,rfl,fun b o' n m z=>?_,?_,ag,?_⟩
  ·rw [ah m]
   exact s8 _ _ (k7 b o' n m z)
  ·rw [ah (FN pd)]
   exact s8 _ _ (s7 _ _ hd6)
  ·rw [Q0,ex]
   refine qp (Paired.dc pT fun _ _ z=>⟨z.1,(z.2.gV (s7.trans s8)).aT t8⟩) ⟨rfl,?_⟩;exact fe.aT ⟨c8,rfl,bZ.of e8⟩ t8
 ·rintro Z H6 ⟨o3,o4,kT,rfl,k6,hd6,hp6,pT⟩
  show ⟨d,o,AD,hd6,fun o' u' z=>(by have z':H d=some (.eZ o' u'):=z;erw [hd] at z'),?_⟩;rw [SS ci] at pT
  let t2:bf H6 (upd H6 d (.dK AD)):=fun b xs r=>by
   rcases r with r|⟨o',r⟩
   ·exact .inl (by rw [ah (fun z=>by erw [z,hd6] at r)];exact r)
   ·exact .inr ⟨o',by rw [ah (fun z=>by erw [z,hd6] at r)];exact r⟩
  show ⟨_,rfl,q p kT _ (fun b o' z=>?_) np (by rwa [ah pd]) (Paired.dc pT fun _ _ z=>⟨z.1,z.2.aT t2⟩)⟩;by_cases n:b=d
  ·subst n
   rw [hd] at z;rwa [ag]
  ·rw [ah n]
   exact k6 b o' n (fun m=>by erw [m,np] at z) z
def aaX {qs:χ}(h:qs∈EY pX):∃p∈pX,∃w∈p.ws,qs=gP (vp p.nm w) pX:=by
 unfold EY vq at h;obtain ⟨p,hp,h⟩:=Wz.mp h;obtain ⟨w,hw,e⟩:=CI.mp h;show ⟨p,hp,w,hw,e.symm⟩
def SG {qs:χ}(h:qs∈EY pX):qs.length=2*pX.length:=by
 obtain ⟨p,_,w,_,rfl⟩:=aaX h;exact fK _ _
def Wr (pX:ς)(L:ρ):List (Int×Int):=L' (bC pX) (0,1)++gP L pX
def zad (A:Ε)(j:Nat):(oE A j).length=A.length:=by unfold oE;rw [ir]
def Ws (h:Sm T B q)(h1:T<=T')(h2:B<=B'):Sm T' B' q:=⟨h.pos,h.low,CT h.top (Qn cr h1),CT h.bot (Qn cr h2)⟩
def mvL (M:ρ):Prop:=∀x,Sz 2500 (mv M x).1/\Sz 2500 (mv M x).2
def gR (Go:τ)(x:Str):Rat:=(Go x).getD 1
def yu (Go:τ)(x:Str):bX (fun y=>(Go y).map qr) x=qr (gR Go x):=by
 show ((Go x).map qr).getD (1,1)=qr ((Go x).getD 1);cases Go x with
 | none=>
  show (1,1)=qr 1;decide+kernel
 | some r=>rfl
theorem SI :∀{ao:Η},(ao.map nm).Nodup->∀f:bK->Rat,∃T:Str->Rat,∀b∈ao,T (nm b)=f b
 | [],_,_=>⟨fun _=>0,fun b hb=>by cases hb⟩
 | c::bs,nd,f=>by
  rw [HU,Qd] at nd;obtain ⟨T,hT⟩:=SI nd.2 f;show ⟨fun x=>if x=nm c then f c else T x,fun b hb=>?_⟩
  rcases M_.mp hb with e|hb
  ·rw [e]
   show (if nm c=nm c then _ else _)=_;rw [mG rfl]
  ·show (if nm b=nm c then _ else _)=_
   rw [lH (fun z:nm b=nm c=>nd.1 (by rw [<-z];exact CI.mpr ⟨b,hb,rfl⟩))];exact hT b hb
def YI (h:Sm T B q)(h1:T<k)(h2:B<k):Sz k (vl q):=by
 let e:=YF h;let p1:q.1.natAbs<2^k:=GG h.top (AJ cr h1);let p2:q.2.natAbs<2^k:=GG h.bot (AJ cr h2);rw [e] at p1 p2;show ⟨intBits_le_iff.mpr p1,intBits_le_iff.mpr p2⟩
def SJ (h:Sz k r):Sm k k (qr r):=⟨cZ r,tT r,RF (intBits_le_iff.mp h.top),RF (intBits_le_iff.mp h.bot)⟩
def aaL (g:iK pX ao)(lb:ao.length<=9){G:bK->Rat}(zG:∀b∈ao,Sz 31 (G b)):Shape 2500 2500 (2*pX.length+bC pX) (jx pX++j0 pX (ao.map fun b=>(G b,b))):=fun qs hq=>by
 let s0:Sm 2500 2500 ((0,1):Int×Int):=⟨cr,cr,by decide+kernel,by decide+kernel⟩;let wsm:∀qs∈EY pX,∀q∈qs,Sm 50 50 q:=fun qs hq=>(mY g qs (by unfold iN;exact OA _ hq)).2
 rcases FQ.mp hq with h|h
 ·unfold jx at h
  obtain ⟨RL,h',rfl⟩:=CI.mp h;show ⟨by rw [IA,SG h',σ1],fun q hq=>?_⟩
  rcases FQ.mp hq with h|h
  ·exact Ws (wsm RL h' q h) cr cr
  ·rw [(alm.mp h).2]
   exact s0
 ·unfold j0 at h
  obtain ⟨i,hi,rfl⟩:=CI.mp h;let hi:=VT.mp hi;show ⟨by rw [IA,ir,ir,ir,zad,r8,Ww],fun q hq=>?_⟩
  rcases FQ.mp hq with h|h
  ·obtain ⟨j,hj,rfl⟩:=CI.mp h
   let hj:=VT.mp hj;refine Ws (SJ (HP hi hj fun x hx=>?_)) (by rw [ir];omega) (by rw [ir];omega);obtain ⟨b,hb,rfl⟩:=CI.mp hx;show ⟨zG b hb,fun i hi=>(HN g hb hi).2⟩
  ·obtain ⟨r,hr,rfl⟩:=CI.mp h
   obtain ⟨q',pE,rfl⟩:=CI.mp hr;unfold oE at pE;obtain ⟨RL,h',rfl⟩:=CI.mp pE;let hl:=SG h'
   let e:RL.getD i (0,1)=RL[i]'ci:=by
    rw [Oq,gE ci];rfl
   have:=YI (k:=60) (wsm RL h' _ (Rk (show i<RL.length by omega))) cr cr;rw [e];exact Ws (SJ this.neg) cr cr
theorem akT {Y β:Type}(G:Y->β):∀l:List Y,(l.map G).zip l=l.map fun b=>(G b,b)
 | []=>rfl
 | b::bs=>by rw [HU,List.zip_cons_cons,akT G bs,HU]
theorem xa.gV (h:xa H E C ns G)(s:aq H H1):xa H1 E C ns G:=fun t x e a b=>(h t x e a b).gV s
structure SK (K:Frag)(H:Hp)(C a d e:AO)(pX:ς)(ao:Η)(kG kL:γ)(Go:τ)(L:ρ):Prop where
 R:x6 K H C a pX ao
 g:iK pX ao
 lp:pX.length<=3
 lb:ao.length<=9
 hd:H d=some (.dK kG)
 hG:pG K H kG (fun x=>(Go x).map qr)
 hk:∀kv∈kG,∃x:Str,kv.1=.inr x
 zg:∀x,Sz 31 (gR Go x)
 he:H e=some (.dK kL)
 hP:Nk K H kL L
 zl:mvL L
 hkL:∀kv∈kL,∃x:Str,kv.1=.inr x
inductive HW (K:Frag)(C CN CB CG:AO)(vs:ζ)(H:Hp)(Q:VK)(E:XK):Prop
|mk (a d e:AO)(pX:ς)(ao:Η)(kG kL:γ)(Go:τ)(L:ρ)(_:vs=[.ref a,.ref d,.ref e])(_:SK K H C a d e pX ao kG kL Go L)(_:fL H E CN "pin" (pX.map (·.nm)) kL)(_:(KeysIn (pX.map (·.nm)) kL->fL H E CB "bar" (ao.map (·.nm)) kG/\(KeysIn (ao.map (·.nm)) kG->xa H E CG (ao.map (·.nm)) (fun x=>(Go x).map qr))))(_:∀(v:V)(H':Hp),KeysIn (pX.map (·.nm)) kL->KeysIn (ao.map (·.nm)) kG->(∀x∈ao.map (·.nm),0<(bX (fun x=>(Go x).map qr) x).1)->aq H H' ->Q v H')
def cV:av zau CP (ae fZ):=sq
def aaG (hN:∀H:Hp,bZ K H aN [.int 0,.int 1])(kN:mg "NOUGHT"=some (.ref aN))(D:Def K mg "bend_of" fZ CP)(aX:mg "len"=none)
  (anP:ac P w K mg gw 4 "load_row" ["F","load"] (jQ K C CN)) (k_:ac P w K mg gw 5 "all_grips" vk (jR K C CB CG)) (CV:ac P w K mg gw 39 "bend_rows" ["F","firm"] (m4 K C)) (anQ:ac P w K mg gw 37 "solve_rows" CZ (rX K)) (afX:ac P w K mg gw 2 "motion_from" Vc (uo K C)) (uu:ac P w K mg gw 37 "lengthenings" CC (Sv K C)) (Oz:ac P w K mg gw 35 "gripped" CD (lZ K)) (anR:ac P w K mg gw 3 "pulls_and_pushes" Vc (aaK K C)):
  ac P w K mg gw 40 "bend_of" CP (HW K C CN CB CG):=by
 refine D.okX cV (fun vs H Q E h=>?_) (fun f bE A outer s H vs Q E hr h=>?_)
 ·obtain ⟨a,d,e,pX,ao,kG,kL,Go,L,rfl,_⟩:=h
  rfl
 obtain ⟨a,d,e,pX,ao,kG,kL,Go,L,rfl,⟨R,g,lp4,lb9,hd,hG,hk,hg,he,hP,zl,hkL⟩,hsN,hsB,q⟩:=h;let px:Passes (aS P w) (md P w K mg gw zau "bend_of" (ae fZ) f bE A outer s H E) E:=nR;let wl:bC pX<=2*pX.length:=oI pX g.lw;let big:(1000:Nat)<=BZ:=cr
 show ⟨_,(aa (aA 3 cV.nd (cR anP hr.mo px (aF (pv 0) (pv 2)))) (aa (aA 4 cV.nd (cR k_ hr.mo px (aF (pv 0) (pv 1)))) (aa (aA 5 cV.nd (aR aH rfl aX cA (aV (pv 3)))) (aa (aA 6 cV.nd (cR CV hr.mo px (aF (pv 0) (pv 4)))) (aa (aA 7 cV.nd (aw cJ (aR aH rfl aX cA (aV (pv 6))) (pv 5))) (aa (aA 8 cV.nd (cR anQ hr.mo px (bx (pv 6) (aw fU (aw xF (bI (aV (dJ (v:=.ref aN) rfl kN rfl))) (pv 7)) (pv 3)) (aR aH rfl aX cA (aV (pv 6)))))) (aa (bh (bg cY (aG (pv 8)) bT) (aj (aD (aJ (aF bT (cR afX hr.mo px (aF (pv 0) (bY cX (aG (pv 8)) (cC (pv 7)) cP))))))) aI) (aa (aA 9 cV.nd (cR afX hr.mo px (aF (pv 0) (bY cX (aG (pv 8)) cP (cC (pv 5)))))) (aa (aA 10 cV.nd (cR Oz hr.mo px (aF (pv 4) (cR uu hr.mo px (aF (pv 0) (pv 9)))))) (aa (aA 11 cV.nd (aG (cR anR hr.mo px (aF (pv 0) (bY cX (aG (pv 8)) (cC (pv 5)) cP))))) (aj (aD (aJ (rR bT (bx (pv 10) (pv 11) (pv 9)))))))))))))))),?_⟩;sleep 10
 show ⟨_,rfl,_,rfl,a,e,pX,ao,kL,L,rfl,R,ci,he,hP,hkL,hsN,fun l us H1 kiN s1 nl el nm=>?_⟩;let R1:=R.gV s1;obtain ⟨dx,pP,pW,pB,kP,kW,kB,F1,W1⟩:=R1.ex;let YH:=r6 ao;show ⟨_,rfl,_,rfl,a,dx,pP,pW,pB,d,_,_,kP,kW,kB,kG,_,rfl,F1,s1 _ _ hd,hG.gV s1,hk,(by rw [ir];omega),(by rw [YH];exact g.nb),(by rw [YH];exact (hsB kiN).1.gV s1),(fun kb=>by rw [YH] at kb ⊢;exact ((hsB kiN).2 kb).gV s1),fun fm kf H2 kiB prB s2 nf ef pf=>?_⟩;rw [YH] at pf kiB prB;let LI:=s1.trans s2;let lus:us.length=2*pX.length:=by rw [nm.1,fK]
 show ⟨_,rfl,l,_,rfl,.inl (aK.of (s2 _ _ el)),?_⟩;rw [lus];obtain ⟨G,eG⟩:∃G:bK->Rat,∀b,G b=gR Go b.nm:=⟨_,fun _=>rfl⟩
 let pgs:Paired (fun (kv:Φ) r=>fe K H2 kv.2 r) kf (ao.map G):=fW (by rw [HR pf,ir,ir]) fun i kv r e1 e2=>by
  obtain ⟨x,ex,_,h2⟩:=aE pf e1;rw [BJ] at e2 ex;obtain ⟨b,eb,rfl⟩:=GX.mp e2;rw [eb] at ex;have u_ :b.nm=x:=MY ex;rwa [yu,<-u_,<-eG] at h2
 let zG:∀b∈ao,Sz 31 (G b):=fun b _=>by rw [eG];exact hg b.nm
 show ⟨_,rfl,_,rfl,a,fm,pX,ao,kf,ao.map G,rfl,R.gV LI,g,lb9,ef,pgs,by rw [ir],(fun r hr=>by obtain ⟨b,hb,rfl⟩:=CI.mp hr;exact zG b hb),fun r ls b_ H3 s3 RR=>?_⟩;rw [akT] at RR;let Wo:=LI.trans s3;let lA:(jx pX).length=bC pX:=by unfold jx;rw [ir,r8]
 let lB:(j0 pX (ao.map fun b=>(G b,b))).length=2*pX.length:=by unfold j0;rw [ir,Ww]
 let lq:(jx pX++j0 pX (ao.map fun b=>(G b,b))).length=bC pX+2*pX.length:=by rw [IA,lA,lB]
 let lls:ls.length=bC pX+2*pX.length:=by rw [RR.j_.2.1,RR.num.1,lq]
 show ⟨_,rfl,r,_,rfl,.inl (aK.of RR.j_.1),_,rfl,_,_,rfl,rfl,?_⟩;let em:(((ls.map V.ref).length:Nat):Int)-((2*pX.length:Nat):Int)=((bC pX:Nat):Int):=by rw [ir];omega
 rw [em];show ⟨_,rfl,uX,?_⟩;intros l5 n5 H5 s5 e5;show ⟨_,rfl,l5,_,_,rfl,rfl,e5,ci,ci,(by simp;omega),?_⟩;intros l6 n6 H6 s6 e6;let Sx:(L' ((bC pX:Nat):Int).toNat [V.ref aN]).flatten=L' (bC pX) (V.ref aN):=by simp
 rw [Sx] at e6;let SM:=s5.trans s6;let Sk:=s2.trans (s3.trans SM);show ⟨_,rfl,l6,l,_,_,rfl,rfl,e6,Sk _ _ el,(by rw [σ1];omega),?_⟩;intros l7 n7 H7 s7 e7;let s37:=SM.trans s7;let s17:=Sk.trans s7;let s07:=s1.trans s17;let RR7:=RR.gV s37;show ⟨_,rfl,r,_,rfl,.inl (aK.of RR7.j_.1),?_⟩;show rX K [_,_,_] _ _ _;let lm:(((ls.map V.ref).length:Nat):Int)=((2*pX.length+bC pX:Nat):Int):=by rw [ir,lls];omega
 let s0:Sm 2500 2500 ((0,1):Int×Int):=⟨cr,cr,by decide+kernel,by decide+kernel⟩
 let n0:cM K H7 (L' (bC pX) (V.ref aN)) (L' (bC pX) (0,1)):=⟨by simp,fun i u q e1 e2=>by
  rw [σ0] at e1 e2;split at e1
  ·rename_i c
   rw [mG c] at e2;cases e1;cases e2;show ⟨aN,rfl,hN _⟩
  ·cases e1⟩
 let nd:cM K H7 (L' (bC pX) (V.ref aN)++us) (Wr pX L):=yq n0 (nm.gV s17);let aGk:2*pX.length+bC pX<=12:=ci
 let zz:bb (2500+2500*(2*pX.length+bC pX+1)) (min (2*pX.length+bC pX+1) (jx pX++j0 pX (ao.map fun b=>(G b,b))).length)<=491000:=by
  refine CT (ye _ (Nat.min_le_left _ _)) ?_;unfold bb;exact CT (SV (show 2*pX.length+bC pX+1+1<=14 by omega) (show 2500+2500*(2*pX.length+bC pX+1)+11<=35011 by omega)) cr
 show ⟨r,l7,2*pX.length+bC pX,ls,b_,_,_,Wr pX L,2500,2500,491000,ph (fun i:Int=>[V.ref r,V.ref l7,V.int i]) lm,RR7.j_,RR7.num,e7,nd,(by rw [lq];unfold Wr;rw [IA,σ1,fK]),aaL g lb9 zG,fun q hq=>?_,ci,ci,cr,ci,cr,zz,cr,?_,?_⟩
 ·unfold Wr at hq
  rcases FQ.mp hq with h|h
  ·rw [(alm.mp h).2]
   exact s0
  ·obtain ⟨r,rfl,z⟩:=zaN zl pX q h
   exact Ws (SJ z) cr cr
 ·intro p x pF xs HA sA ep ex nx lx zx
  show ⟨_,rfl,p,_,_,_,rfl,rfl,bZ.of ep,rfl,rfl,_,rfl,bD (fun c=>CH c (by simp [rh];decide+kernel)) (fun _=>?_)⟩;let s0A:=s07.trans sA;let pxs:=oM nx zx;let lxs:pF.length=2*pX.length+bC pX:=by rw [nx.1,lx]
  let lxm:(xs.map vl).length=2*pX.length+bC pX:=by rw [ir,lx]
  let szx:∀r∈xs.map vl,Sz 491001 r:=fun r hr=>by
   obtain ⟨q,hq,rfl⟩:=CI.mp hr;exact YI (zx q hq) cr cr
  show ⟨_,rfl,_,rfl,p,_,_,_,rfl,rfl,bZ.of ep,rfl,_,rfl,_,rfl,x,_,rfl,aK.of ex,?_⟩;rw [jL ci];intros l8 n8 H8 s8 e8;let p8:Paired (fe K H8) (pF.take (2*pX.length)) ((xs.map vl).take (2*pX.length)):=Paired.dc (oK (2*pX.length) pxs) fun _ _ z=>z.gV s8;let YJ:=s0A.trans s8;show ⟨a,l8,pX,ao,_,_,rfl,R.gV YJ,g,e8,p8,by rw [HQ];omega,fun M dM kM H9 s9 eM nM hM ks tM=>?_⟩;let s09:=YJ.trans s9;let s29:=s3.trans (s37.trans (sA.trans (s8.trans s9)));obtain ⟨Mo,afY,afZ⟩:∃Mo:Str->Option (Rat×Rat),(∀x∈pX.map (·.nm),Mo x=some (M x))/\∀x,x∉pX.map (·.nm)->Mo x=none:=⟨fun x=>if x∈pX.map (·.nm) then some (M x) else none,fun x h=>mG h,fun x h=>lH h⟩
  let mvM:∀p∈pX,mv Mo p.nm=M p.nm:=fun p hp=>by
   unfold mv;rw [afY _ (CI.mpr ⟨p,hp,rfl⟩)];rfl
  let szM:∀p∈pX,Sz 491001 (M p.nm).1/\Sz 491001 (M p.nm).2:=fun p hp=>by
   let mem:∀r∈(xs.map vl).take (2*pX.length),Sz 491001 r:=fun r hr=>szx r (Qt hr);rw [eM] at mem;show ⟨mem _ (Wz.mpr ⟨p,hp,LZ⟩),mem _ (Wz.mpr ⟨p,hp,HV _ LZ⟩)⟩
  let ptd:Nk K H9 kM Mo:=fun x=>by
   by_cases c:x∈pX.map (·.nm)
   ·obtain ⟨p',w_,rfl⟩:=CI.mp c
    obtain ⟨t,v1,v2,h1,h2,h3,h4⟩:=tM p' w_;exact .inr ⟨_,_,h1,afY _ c,⟨t,v1,v2,rfl,bZ.of h2,h3,h4⟩⟩
   ·refine .inl ⟨bS fun z=>?_,afZ _ c⟩
    rw [ks] at z;obtain ⟨p',w_,e'⟩:=CI.mp z;exact c (by rw [<-MQ e'];exact CI.mpr ⟨p',w_,rfl⟩)
  let szo:∀x,Sz 700000 (mv Mo x).1/\Sz 700000 (mv Mo x).2:=fun x=>by
   by_cases c:x∈pX.map (·.nm)
   ·obtain ⟨p',w_,rfl⟩:=CI.mp c
    rw [mvM p' w_];show ⟨(szM p' w_).1.up cr,(szM p' w_).2.up cr⟩
   ·unfold mv
    rw [afZ _ c];show ⟨d9 cr,d9 cr⟩
  let aan:∀b∈ao,Wm Mo b=aaN M b:=fun b hb=>by
   obtain ⟨m1,m2,_⟩:=g.ends b hb;unfold Wm;rw [mvM _ m1,mvM _ m2];rfl
  let lenZ:∀b∈ao,Sz 1964105 (aaN M b):=fun b hb=>by
   obtain ⟨m1,m2,_⟩:=g.ends b hb;let z1:=szM _ m1;let z2:=szM _ m2;let y1:=g.sz _ m1;let y2:=g.sz _ m2;exact (((y2.1.sub y1.1).mul (z2.1.sub z1.1)).add ((y2.2.1.sub y1.2.1).mul (z2.2.sub z1.2))).up cr
  show ⟨_,rfl,_,rfl,_,rfl,a,dM,pX,ao,kM,Mo,rfl,R.gV s09,g,hM,ptd,szo,fun lg kLn QZ BB af0 anW avz tL=>?_⟩;show lZ K [_,_] _ _ _;obtain ⟨Ln,hLn⟩:=SI (nm:=bK.nm) g.nb (aaN M);let s0X:=s09.trans BB;let s2X:=s29.trans BB;let fmX:=s2X _ _ ef
  let pfx:Paired (fun (kv:Φ) (x:Str×Rat)=>kv.1=.inr x.1/\fe K QZ kv.2 x.2) kf (ao.map fun b=>(b.nm,G b)):=fW (by rw [HR pf,ir,ir]) fun i kv z e1 e2=>by
   obtain ⟨x,ex,h1,h2⟩:=aE pf e1;rw [BJ] at e2 ex;obtain ⟨b,eb,rfl⟩:=GX.mp e2;rw [eb] at ex;have u_ :b.nm=x:=MY ex;rw [yu,<-u_,<-eG] at h2;show ⟨by rw [h1,<-u_],fe.gV h2 s2X⟩
  let nmx:(ao.map fun b=>(b.nm,G b)).map (·.1)=ao.map (·.nm):=by rw [MI];rfl
  show ⟨fm,lg,kf,kLn,ao.map fun b=>(b.nm,G b),Ln,rfl,fmX,pfx,by rw [nmx];exact g.nb,anW,(fun z=>by erw [<-z,s29 _ _ ef] at af0),(by rw [ir];omega),fun z hz=>?_,fun dT kT Pw zX nT eT pT=>?_⟩
  ·obtain ⟨b,hb,rfl⟩:=CI.mp hz
   obtain ⟨v,h1,h2⟩:=tL b hb;show ⟨zG b hb,by rw [hLn b hb];exact (lenZ b hb).up cr,v,h1,?_⟩;rwa [aan b hb,<-hLn b hb] at h2
  let aaY:=s8.trans (s9.trans (BB.trans zX));show ⟨_,rfl,_,rfl,p,_,_,_,rfl,rfl,bZ.of (aaY _ _ ep),rfl,_,rfl,_,rfl,x,_,rfl,aK.of (aaY _ _ ex),?_⟩;rw [gc ci];intros l12 n12 H12 j9 e12;let af1:=s0A.trans (aaY.trans j9);show ⟨a,l12,pX,ao,_,rfl,R.gV af1,g,e12,by rw [ue];omega,fun pp dT' dU H13 x9 epp=>?_⟩;show ⟨pp,_,_,_,rfl,rfl,bZ.of epp,rfl,_,rfl,_,rfl,_,rfl,z4L,?_⟩;intros pt n14 H14 LD e14;exact q _ _ kiN kiB prB (af1.trans (x9.trans LD))
 ·intro p y pF ys HA sA ep ey ny ly zy
  show ⟨_,rfl,p,_,_,_,rfl,rfl,bZ.of ep,rfl,rfl,_,rfl,bD (fun _=>?_) (fun c=>CH (by simp [rh]) c)⟩;let s0A:=s07.trans sA;let py:=oM ny zy;let lys:ys.length=bC pX+2*pX.length:=by rw [ly,lq]
  have aGw :pF.length=bC pX+2*pX.length:=by rw [ny.1,lys]
  show ⟨_,rfl,_,rfl,p,_,_,_,rfl,rfl,bZ.of ep,rfl,_,rfl,_,rfl,y,_,rfl,aK.of ey,?_⟩;rw [gc ci];intros l9 nB HB sB eB;let pyB:Paired (fe K HB) (pF.drop (bC pX)) ((ys.map vl).drop (bC pX)):=Paired.dc (oJ (bC pX) py) fun _ _ z=>z.gV sB;let s0B:=s0A.trans sB;show ⟨a,l9,pX,ao,_,_,rfl,R.gV s0B,g,eB,pyB,by rw [ue,ir];omega,fun M dM kM HC sC eM nM hM ks tM=>⟨qZ,?_⟩⟩;intros pt nD HD sD eD;exact q _ _ kiN kiB prB (s0B.trans (sC.trans sD))
def SN (x y:Int×Int):Int×Int:=low (x.1*y.2) (x.2*y.1)
inductive yv (K:Frag)(vs:ζ)(H:Hp)(Q:VK)(E_:XK):Prop
|mk (u v:V)(x y:Int×Int)(_:vs=[u,v])(_:jy K H u x)(_:jy K H v y)(_:mi 4000 x)(_:mi 4000 y)(_:y.1≠0)(_:gives H Q (SN x y))
def ad_:av FY FY (ae cU):=sq
def adV (hM:rl CX)(D:Def K mg "quotient_of" cU FY)(ua:Fn P w K mg gw CX 33 "lowest_terms" VE ft):Fn P w K mg gw CX 34 "quotient_of" FY (yv K):=by
 refine D.op ad_ fun f bE A outer s H vs Q E hr h=>?_;obtain ⟨u,v,x,y,rfl,⟨p1,rfl,h1⟩,⟨p2,rfl,h2⟩,k1,k2,n,q⟩:=h;let px:=kF (X:=j6 CX P w K mg gw FY "quotient_of" (ae cU) f bE A outer s H E) hM
 show ⟨_,(aa (bh (bg cY (aG (pv 1)) af) (aj (eO)) aI) (aj (aD (cR ua hr.mo px (aF (aw b9 (aG (pv 0)) (aG (pv 1))) (aw b9 (aG (pv 0)) (aG (pv 1)))))))),?_⟩
 let b1:=k1.top;let b2:=k1.bot;let b3:=k2.top;let b4:=k2.bot;let c:∀{i j:Int},intBits i<=4000->intBits j<=4000->qI i j:=fun a b=>⟨CT a cr,CT b cr⟩;show ⟨_,rfl,p2,_,_,_,rfl,rfl,h2,ib,rfl,_,rfl,?_⟩;refine bD (fun z=>?_) (fun z=>?_)
 ·let z':y.1=0:=by
   have:=Nl z;simpa using this
  exact CH z' n
 ·show ⟨_,rfl,p1,_,_,_,rfl,rfl,h1,ib,_,rfl,p2,_,_,_,rfl,rfl,h2,iD,_,_,rfl,rfl,c b1 b4,_,rfl,p1,_,_,_,rfl,rfl,h1,iD,_,rfl,p2,_,_,_,rfl,rfl,h2,ib,_,_,rfl,rfl,c b2 b3,_,_,rfl,KQ (Nd k1.pos) n,q⟩
def bits_add (ha:intBits a<=k)(hb:intBits b<=k):intBits (a+b)<=k+1:=by
 rw [JP] at ha hb ⊢;have:=sZ a b;rw [Wt];omega
def mi.up (h:mi k q)(kl:k<=l):mi l q:=⟨h.pos,CT h.top kl,CT h.bot kl⟩
def akF (hx:mi k x)(hy:mi l y):mi (k+l) (mulQ x y):=
 tZ (ou hx hy) (QR hx.top hy.top) (QR hx.bot hy.bot)
def ahm (hx:mi k x)(hy:mi l y)(n:y.1≠0):mi (k+l) (SN x y):=
 tZ (KQ (Nd hx.pos) n) (QR hx.top hy.bot) (QR hx.bot hy.top)
def agt (hx:mi k x)(hy:mi l y):mi (k+l+1) (addQ x y):=
 tZ (ou hx hy) (bits_add (QR hx.top hy.bot) (by rw [xP];exact QR hy.top hx.bot)) (LA (QR hx.bot hy.bot))
def stQ (G Pl:ο)(x:Str):Int×Int:=SN (mulQ (mZ Pl x) (mZ Pl x)) (bX G x)
def uz (G Pl:ο)(xs:θ):Int×Int:=xs.foldl (fun acc x=>addQ acc (stQ G Pl x)) (0,1)
structure uB (G Pl:ο):Prop where
 g:∀x,mi 40 (bX G x)
 gp:∀x,0<(bX G x).1
 p:∀x,mi 40 (mZ Pl x)
def uB.st (h:uB G Pl)(x:Str):mi 120 (stQ G Pl x):=ahm (akF (h.p x) (h.p x)) (h.g x) (Nd (h.gp x))
def uC :uz G Pl (xs++[x])=addQ (uz G Pl xs) (stQ G Pl x):=by
 unfold uz;rw [alq];rfl
def SQ:mi 1 (0,1):=⟨cr,cr,cr⟩
def uB.sum (h:uB G Pl):∀(n:Nat)(xs:θ),xs.length=n->mi (121*n+1) (uz G Pl xs):=by
 intro n
 induction n with
 | zero=>
  intro xs e;obtain rfl:=ag_.mp e;exact SQ
 | succ n ih=>
  intro xs e;let ne:xs≠[]:=by intro z;subst z;cases e
  let e1:xs=xs.dropLast++[xs.getLast ne]:=(List.dropLast_concat_getLast ne).symm;rw [e1,uC];have:=agt (ih xs.dropLast (by rw [List.length_dropLast];omega)) (h.st (xs.getLast ne));exact this.up ci
theorem uD {F:V->Str->Prop}:∀{kf:γ} {xs:θ},Paired (fun (kv:Φ) x=>kv.1=.inr x/\F kv.2 x) kf xs->kf.map (·.1)=xs.map GH
 | _,_,.nil=>rfl
 | _,_,.cons h t=>by rw [HU,HU,h.1,uD t]
def ah3 {F:V->Str->Prop}{kf:γ}{xs:θ}(h:Paired (fun (kv:Φ) x=>kv.1=.inr x/\F kv.2 x) kf xs)(hx:x∈xs)(nd:xs.Nodup):∃v,bB kf (.inr x)=some v/\F v x:=by
 obtain ⟨i,ei⟩:=MF hx;let hi:=(Wp.mp ei).1;let lk:=HR h;obtain ⟨x',ex,e1,e2⟩:=aE h (gE (show i<kf.length by omega));rw [ei] at ex;obtain rfl:=MY ex
 let nk:(kf.map (·.1)).Nodup:=by
  rw [uD h];exact akM _ (fun a b n z=>n (by injection z)) nd
 show ⟨_,rW nk (show kf[i]?=some (.inr x,kf[i].2) by rw [gE ci,<-e1]),e2⟩
def aco (hG:pG K H AD G)(ki:KeysIn ns AD)(pr:∀x∈ns,0<(bX G x).1)(x:Str):0<(bX G x).1:=by
 rcases hG x with ⟨_,h2⟩|⟨v,q,h1,_,_⟩
 ·unfold bX
  rw [h2];show (0:Int)<1;decide
 ·obtain ⟨y,hy,e⟩:=ki _ (zaq h1)
  obtain rfl:=MQ e;exact pr _ hy
inductive uE (K:Frag)(C CB CG:AO)(vs:ζ)(H:Hp)(Q:VK)(E:XK):Prop
|mk (a dx pP pW pB d e:AO)(ps:Ι)(bs:Α)(kP kW kB AD SU:γ)(G Pl:ο)(_:vs=[.ref a,.ref d,.ref e])(_:gZ K H C a dx pP pW pB ps bs kP kW kB)(_:H d=some (.dK AD))(_:pG K H AD G)(_:H e=some (.dK SU))(_:pG K H SU Pl)(_:(∀kv∈AD,∃x:Str,kv.1=.inr x))(_:bs.length<=20)(_:(bs.map (·.1)).Nodup)(_:(∀x,mi 40 (bX G x)))(_:(∀x,mi 40 (mZ Pl x)))(_:fL H E CB "bar" (bs.map (·.1)) AD)(_:(KeysIn (bs.map (·.1)) AD->xa H E CG (bs.map (·.1)) G))(_:∀(v:V)(H':Hp),KeysIn (bs.map (·.1)) AD->(∀x∈bs.map (·.1),0<(bX G x).1)->aq H H' ->Q v H')
def d_:av zaH CU (ae dP):=sq
def ahS (hN:∀H:Hp,bZ K H aN [.int 0,.int 1])(kN:mg "NOUGHT"=some (.ref aN))(D:Def K mg "stored_of" dP CU)(MB:am P w K mg gw 1 C "bars" MA (jN K C))
  (k_:ac P w K mg gw 5 "all_grips" vk (jR K C CB CG)) (kX:ac P w K mg gw 34 "sum_of" FY (jM K addQ)) (cE:ac P w K mg gw 34 "product_of" FY (jM K mulQ))
  (mE:ac P w K mg gw 34 "quotient_of" FY (yv K)):ac P w K mg gw 35 "stored_of" CU (uE K C CB CG):=by
 refine D.okX d_ (fun vs H Q E h=>?_) (fun f bE A outer s H vs Q E hr h=>?_)
 ·obtain ⟨a,dx,pP,pW,pB,d,e,ps,bs,kP,kW,kB,AD,SU,G,Pl,rfl,_⟩:=h
  rfl
 obtain ⟨a,dx,pP,pW,pB,d,e,ps,bs,kP,kW,kB,AD,SU,G,Pl,rfl,R,hd,hG,he,hP,hk,hl,nb,gO,pO,hs,hgE,q⟩:=h;let px:Passes (aS P w) (md P w K mg gw zaH "stored_of" (ae dP) f bE A outer s H E) E:=nR
 show ⟨_,(aa (aA 3 d_.nd (cR k_ hr.mo px (aF (pv 0) (pv 1)))) (aa (aA 4 d_.nd (dJ (v:=.ref aN) rfl kN rfl)) (aa (a_ LR rfl (a9 (dW (k:=1) (pv 0) hr.mo px)) (b6 5 d_.nd) (aa (aA 6 d_.nd (ip (bU hr) (pv 2) (pv 5) (dJ (v:=.ref aN) rfl kN rfl) ⟨rfl,rfl,rfl,rfl⟩)) (aj (aA 4 d_.nd (cR kX hr.mo px (aF (pv 4) (cR mE hr.mo px (aF (cR cE hr.mo px (aF (pv 6) (pv 6))) (iG (bU hr) (pv 3) (pv 5) (fun _ _=>rfl)))))))))) (aj (aD (cR mE hr.mo px (aF (pv 4) (aJ (aF af af))))))))),?_⟩;sleep 3
 show ⟨_,rfl,_,rfl,a,dx,pP,pW,pB,d,ps,bs,kP,kW,kB,AD,G,rfl,R,hd,hG,hk,ci,nb,hs,hgE,fun fm kf H1 ki pr s1 nf ef hf=>?_⟩;let gd:uB G Pl:=⟨gO,aco hG ki pr,pO⟩;let R1:=R.gV s1;show ⟨_,rfl,a,C,dx,_,_,_,rfl,R1.obj,rfl,MB,a,dx,pP,pW,pB,ps,bs,kP,kW,kB,rfl,R1,fun l H3 s3 nl el=>?_⟩;let x9:aq H H3:=fun b o z=>s3 _ _ (s1 _ _ z)
 show ⟨l,rfl,⟨_,aK.of el⟩,let I:ce:=fun i Z H'=>KU fun (v:V) (o5 o6:ω)=>Z=[ap a,ap d,ap e,ap fm,some v,o5,o6]/\aq H3 H'/\jy K H' v (uz G Pl ((bs.map (·.1)).take i));bM (K:=K) (a:=l) (xs:=(bs.map (·.1)).map V.str) I
  ⟨.ref aN,none,none,rfl,fun b o z=>z,aN,rfl,hN _⟩ (fun i Z H' _ h=>by
   obtain ⟨_,_,_,_,h,_⟩:=h
   exact aK.of (h _ _ el)) ?_ ?_⟩
 ·rintro i z Z H4 hi ⟨v,o5,o6,rfl,s4,n4⟩
  rw [BJ] at hi;obtain ⟨x,ex,rfl⟩:=GX.mp hi;let hil:i<(bs.map (·.1)).length:=(Wp.mp ex).1;let hx:x∈bs.map (·.1):=DA ex;have aGy :i<bs.length:=by rwa [ir] at hil
  let e4:=s4 _ _ (x9 _ _ he);let P4:=(hP.gV x9).gV s4;let p4:=P4.BQ (x:=x) (v:=.ref aN) (q:=(0,1)) ⟨aN,rfl,hN H4⟩;show ⟨_,rfl,e,rfl,.inl ⟨_,.inl e4⟩,_,rfl,_,dX.k (k:=.inr x) e4,?_⟩;let p4':jy K H4 ((bB SU (.inr x)).getD (.ref aN)) (mZ Pl x):=p4;generalize (bB SU (.inr x)).getD (.ref aN)=pv at p4' ⊢;let ko:=gd.p x;show ⟨_,rfl,_,rfl,_,rfl,pv,pv,_,_,rfl,p4',p4',ko.up cr,ko.up cr,fun p5 H5 s5 h5=>?_⟩;obtain ⟨gv,eg,ng⟩:=ah3 (F:=fun v x=>jy K H1 v (bX G x)) hf hx nb;let f5:=s5 _ _ (s4 _ _ (s3 _ _ ef));let ng5:=((ng.gV s3).gV s4).gV s5;show ⟨_,rfl,_,rfl,fm,gv,rfl,(by rw [<-eg];exact dX.k (k:=.inr x) f5),.ref p5,gv,_,_,rfl,⟨p5,rfl,bZ.of h5⟩,ng5,(akF ko ko).up cr,(gd.g x).up cr,Nd (gd.gp x),fun p6 H6 s6 h6=>?_⟩;let hs:mi 4000 (uz G Pl ((bs.map (·.1)).take i)):=(gd.sum i _ (by rw [HQ];omega)).up ci;show ⟨v,.ref p6,_,_,rfl,(n4.gV s5).gV s6,⟨p6,rfl,bZ.of h6⟩,hs.up cr,(gd.st x).up cr,fun p7 H7 s7 h7=>?_⟩;show ⟨_,_,_,rfl,fun b o z=>s7 _ _ (s6 _ _ (s5 _ _ (s4 _ _ z))),p7,rfl,?_⟩;rw [Q0,ex,show (some x).toList=[x] from rfl,uC];exact bZ.of h7
 ·rintro Z H4 ⟨v,o5,o6,rfl,s4,n4⟩
  rw [SS dL] at n4;let hs:mi 4000 (uz G Pl (bs.map (·.1))):=(gd.sum bs.length _ (by rw [ir])).up ci;show ⟨_,rfl,qZ,fun p nt=>?_⟩;let s5:=aC nt (.tup [.int 2,.int 1]);show ⟨v,.ref p,_,(2,1),rfl,n4.gV s5,⟨p,rfl,bZ.of ag⟩,hs,⟨cr,cr,cr⟩,cr,fun p6 H6 s6 h6=>?_⟩;exact q _ H6 ki pr (fun b o z=>s6 _ _ (s5 _ _ (s4 _ _ (x9 _ _ z))))
def cell (ns:ξ)(k:Int):Int:=if k<(ns.length:Int) then (ns[k.toNat]?).getD 0 else ((((k+5)*(k+5)*48271).fmod 2147483647)*(((k+5)*(k+5)*48271).fmod 2147483647)).fmod 2147483629
def oN {x m:Int}(h:0<m):0<=x.fmod m/\x.fmod m<m:=⟨Rz x h,akC x h⟩
inductive jT (K:Frag)(vs:ζ)(H:Hp)(Q:VK)(E_:XK):Prop
|mk (a:AO)(ns:ξ)(k:Int)(_:vs=[.ref a,.int k])(_:aK K H a (ns.map V.int))(_:0<=k)(_:k<=1000)(_:Q (.int (cell ns k)) H)
def cell_in {ns:ξ}(h0:0<=k)(h:k<(ns.length:Int)):jc (ns.map V.int) k=some (.int (cell ns k)):=by
 let hk:k.toNat<ns.length:=ci
 let ek:k=((k.toNat:Nat):Int):=ci
 let q:jc (ns.map V.int) ((k.toNat:Nat):Int)=some (.int (cell ns k)):=bF (by
  unfold cell;rw [mG h,BJ,gE hk]
  rfl)
 rwa [<-ek] at q
def m5 (h:i.natAbs<2^k):intBits i<=k:=intBits_le_iff.mpr h
def YK:av ["_law_script","_law_k","_law_part"] V1 (ae NS):=sq
def af2 (D:Def K mg "_law_cell_at" NS V1)(aX:mg "len"=none):Fn P w K mg gw CX 1 "_law_cell_at" V1 (jT K):=by
 refine D.oo YK fun H hr h=>?_;obtain ⟨a,ns,k,rfl,hS,h0,h1,q⟩:=h
 show ⟨_,(aa (bh (bg sk (pv 1) (aR aH rfl aX cA (aV (pv 0)))) (aj (aD (bL aQ (pv 0) (pv 1)))) aI) (aa (aA 2 YK.nd (aw dS (aw b9 (aw b9 (aw bG (pv 1) af) (aw bG (pv 1) af)) af) af)) (aj (aD (aw dS (aw b9 (pv 2) (pv 2)) af))))),?_⟩
 let hl:(ns.map V.int).length=ns.length:=ir _;show ⟨_,rfl,_,rfl,a,_,rfl,.inl hS,_,_,rfl,rfl,_,rfl,?_⟩;refine bD (fun c=>?_) (fun c=>?_)
 ·let c':k<(((ns.map V.int).length:Nat):Int):=Nl c
  rw [hl] at c';show ⟨_,rfl,_,rfl,a,_,k,_,rfl,rfl,hS,cell_in h0 c',q⟩
 ·let c':¬ k<(((ns.map V.int).length:Nat):Int):=of_decide_eq_false (AH.mpr c)
  rw [hl] at c';let b5:intBits (k+5)<=11:=m5 (by show _<2048;omega);let e1:=oN (x:=(k+5)*(k+5)*48271) (m:=2147483647) cr;let bp:intBits (((k+5)*(k+5)*48271).fmod 2147483647)<=31:=m5 (by show _<2147483648;omega);show ⟨_,rfl,_,_,rfl,rfl,_,rfl,_,_,rfl,rfl,_,_,rfl,rfl,⟨CT b5 cr,CT b5 cr⟩,_,_,rfl,rfl,⟨CT (QR b5 b5) cr,by decide+kernel⟩,_,_,rfl,rfl,nz cr,_,rfl,_,rfl,_,_,rfl,rfl,⟨CT bp cr,CT bp cr⟩,_,_,rfl,rfl,nz cr,?_⟩
  let e:cell ns k=((((k+5)*(k+5)*48271).fmod 2147483647)*(((k+5)*(k+5)*48271).fmod 2147483647)).fmod 2147483629:=by
   unfold cell;rw [lH c']
  rwa [e] at q
def field (c p m:Int):Int:=(((c.fmod p+11)*48271).fmod p).fmod m
def aL (h:0<m):0<=field c p m/\field c p m<m:=oN h
inductive dN (vs:ζ)(H:Hp)(Q:VK)(E_:XK):Prop
|mk (c p m:Int)(_:vs=[.int c,.int p,.int m])(_:0<p)(_:p<=2000000)(_:0<m)(_:Q (.int (field c p m)) H)
def af3:av Q6 Q6 (ae NT):=sq
def af4 (D:Def K mg "_law_field" NT Q6):Fn P w K mg gw CX 1 "_law_field" Q6 dN:=by
 refine D.oo af3 fun H hr h=>?_;obtain ⟨c,p,m,rfl,hp,hp2,hm,q⟩:=h;show ⟨_,(aj (aD (aw dS (aw dS (aw b9 (aw bG (aw dS (pv 0) (pv 1)) af) af) (pv 1)) (pv 2)))),?_⟩;let e1:=oN (x:=c) hp;show ⟨_,rfl,_,rfl,_,_,rfl,rfl,nz ci,_,_,rfl,rfl,_,_,rfl,rfl,⟨CT (m5 (k:=22) (by show _<4194304;omega)) cr,by decide+kernel⟩,_,rfl,_,_,rfl,rfl,nz ci,_,rfl,_,_,rfl,rfl,nz ci,q⟩
inductive cH (vs:ζ)(H:Hp)(Q:VK)(E_:XK):Prop
|mk (t b:Int)(_:vs=[.int t,.int b])(_:0<b)(_:gives H Q (low t b))
def LO:av ["_law_top","_law_bottom","_law_one","_law_other"] VH (ae NU):=sq
def af5 (ht:P.given.tree=none)(D:Def K mg "_law_lowest" NU VH)(w4:mg "abs"=none):ac P w K mg gw 33 "_law_lowest" VH cH:=by
 refine D.oo LO fun H hr h=>?_;obtain ⟨t,b,rfl,hb,q⟩:=h
 show ⟨_,(aa (aA 2 LO.nd (aR afT rfl w4 Yb (aV (pv 0)))) (aa (aA 3 LO.nd (pv 1)) (aa (si HM (bg AG (pv 3) af) (aj (ahM (i:=2) (j:=3) rfl LO.nd rfl rfl cr rfl rfl (aF (pv 3) (aw dS (pv 2) (pv 3))) rfl))) (aj (aD (aJ (aF (aw (iu ht (Ty.cz.py hr cr) rfl rfl rfl rfl rfl) (pv 0) (pv 2)) (aw (iu ht (Ty.cz.py hr cr) rfl rfl rfl rfl rfl) (pv 1) (pv 2))))))))),?_⟩
 show ⟨_,rfl,t,rfl,_,rfl,?_⟩;refine agu (fun Z H'=>∃x y:Int,Z=[some (.int t),some (.int b),some (.int x),some (.int y)]/\H'=H/\0<=x/\0<=y/\MO x y=MO t b) (fun Z _=>match Z with|[_,_,_,some (.int y)]=>y.natAbs|_=>0) ⟨_,b,rfl,rfl,?_,ci,?_⟩ ?_ ?_
 ·split<;>omega
 ·split
  ·exact Int.neg_gcd
  ·rfl
 ·rintro Z H' ⟨x,y,rfl,rfl,hx,hy,g⟩
  show ⟨_,rfl,rfl,_,rfl,?_⟩;refine bD (fun c=>?_) (fun c=>?_)
  ·let R_:y≠0:=by
    intro z;subst z;simp at c
   show ⟨_,rfl,_,rfl,_,rfl,_,_,rfl,rfl,R_,_,_,rfl,⟨_,_,rfl,rfl,hy,Rz _ ci,by rwa [ad']⟩,wC R_⟩
  ·let R_:y=0:=by
    have:=AH.mpr c;simp at this;exact this
   subst R_
   let e:x=sg t b:=by
    rw [alk] at g;unfold sg;rw [lH ci];unfold gz;rw [<-g];omega
   subst e;let hbn:b≠0:=ci
   let c:=sN (t:=t) hbn;show ⟨_,rfl,_,rfl,_,_,rfl,rfl,c,_,rfl,_,rfl,_,_,rfl,rfl,c,qZ,fun p hp=>?_⟩;exact q p _ (aC hp _) ag
 ·rintro Z H' Q1 Q2 h ⟨v,e1,e2,k,ek,z⟩
  show ⟨v,e1,e2,k,ek,h _ _ z⟩
structure Ns (n:Nat)(q:Int×Int):Prop where
 top:q.1.natAbs<=2^n
 bot:q.2.natAbs<=2^n
def Ns.up (h:Ns m q)(l:m<=n):Ns n q:=⟨CT h.top (Qn cr l),CT h.bot (Qn cr l)⟩
def qR (K:Frag)(H:Hp)(v:V)(n:Nat)(r:Rat):Prop:=∃q:Int×Int,jy K H v q/\0<q.2/\vl q=r/\Ns n q
theorem qR.gV (h:qR K H v n r)(s:aq H H'):qR K H' v n r:=by
 obtain ⟨q,h1,h2⟩:=h;show ⟨q,h1.gV s,h2⟩
theorem qR.aT (h:qR K H v n r)(s:bf H H'):qR K H' v n r:=by
 obtain ⟨q,h1,h2⟩:=h;show ⟨q,h1.aT s,h2⟩
theorem qR.up (h:qR K H v m r)(l:m<=n):qR K H v n r:=by
 obtain ⟨q,h1,h2,h3,h4⟩:=h;show ⟨q,h1,h2,h3,h4.up l⟩
def uF (h:fe K H v r)(z:Zb n r):qR K H v n r:=⟨qr r,h,cZ r,iJ r,⟨z.top,z.bot⟩⟩
def CW (h:Sz k r)(l:k<=n):Zb n r:=⟨RF (Mt (intBits_le_iff.mp h.top) (Qn cr l)),RF (Mt (intBits_le_iff.mp h.bot) (Qn cr l))⟩
def m6 (x y:Int×Int):Int×Int:=(x.1*y.2+y.1*x.2,x.2*y.2)
def vA (x y:Int×Int):Int×Int:=(x.1*y.1,x.2*y.2)
def gH {a b:Int}(h1:a.natAbs<=2^m)(h2:b.natAbs<=2^n):(a*b).natAbs<=2^(m+n):=by
 rw [VS,σ6];exact SV h1 h2
def aem (hx:0<x.2)(hy:0<y.2)(zx:Ns m x)(zy:Ns n y):0<(m6 x y).2/\vl (m6 x y)=vl x+vl y/\Ns (m+n+1) (m6 x y):=by
 show ⟨V7 hx hy,?_,?_,?_⟩
 ·unfold vl m6
  let z1:((x.2:Int):Rat)≠0:=eV (Nd hx);let z2:((y.2:Int):Rat)≠0:=eV (Nd hy);push_cast;grind
 ·let h1:=gH zx.top zy.bot
  let h2:=gH zy.top zx.bot;rw [xP n m] at h2;let h3:=sZ (x.1*y.2) (y.1*x.2);show (x.1*y.2+y.1*x.2).natAbs<=2^(m+n+1);rw [Wt];omega
 ·exact CT (gH zx.bot zy.bot) (Qn cr ci)
def adz (hx:0<x.2)(hy:0<y.2)(zx:Ns m x)(zy:Ns n y):0<(vA x y).2/\vl (vA x y)=vl x*vl y/\Ns (m+n) (vA x y):=by
 show ⟨V7 hx hy,?_,gH zx.top zy.top,gH zx.bot zy.bot⟩;unfold vl vA;let z1:((x.2:Int):Rat)≠0:=eV (Nd hx);let z2:((y.2:Int):Rat)≠0:=eV (Nd hy);push_cast;grind
inductive gi (K:Frag)(f:Int×Int->Int×Int->Int×Int)(vs:ζ)(H:Hp)(Q:VK)(E_:XK):Prop
|mk (u v:V)(x y:Int×Int)(m n:Nat)(_:vs=[u,v])(_:jy K H u x)(_:jy K H v y)(_:Ns m x)(_:Ns n y)(_:m+n<=130000000)(_:gives H Q (f x y))
def akD (h1:qR K H u m x)(h2:qR K H v n y)(l:m+n<=130000000)(k:∀(p:AO)(H':Hp),aq H H' ->qR K H' (.ref p) (m+n+1) (x+y)->Q (.ref p) H'):gi K m6 [u,v] H Q E:=by
 obtain ⟨q1,a1,a2,a3,a4⟩:=h1;obtain ⟨q2,b1,b2,b3,b4⟩:=h2;obtain ⟨c1,c2,c3⟩:=aem a2 b2 a4 b4;show ⟨u,v,q1,q2,m,n,rfl,a1,b1,a4,b4,l,fun p H' s e=>k p H' s ⟨m6 q1 q2,⟨p,rfl,bZ.of e⟩,c1,by rw [c2,a3,b3],c3⟩⟩
def ak8 (h1:qR K H u m x)(h2:qR K H v n y)(l:m+n<=130000000)(k:∀(p:AO)(H':Hp),aq H H' ->qR K H' (.ref p) (m+n) (x*y)->Q (.ref p) H'):gi K vA [u,v] H Q E:=by
 obtain ⟨q1,a1,a2,a3,a4⟩:=h1;obtain ⟨q2,b1,b2,b3,b4⟩:=h2;obtain ⟨c1,c2,c3⟩:=adz a2 b2 a4 b4;show ⟨u,v,q1,q2,m,n,rfl,a1,b1,a4,b4,l,fun p H' s e=>k p H' s ⟨vA q1 q2,⟨p,rfl,bZ.of e⟩,c1,by rw [c2,a3,b3],c3⟩⟩
inductive jU (K:Frag)(vs:ζ)(H:Hp)(Q:VK)(E_:XK):Prop
|mk (u:V)(x:Int×Int)(_:vs=[u])(_:jy K H u x)(_:gives H Q (0-x.1,x.2))
def zaM (h1:qR K H u m x)(k:∀(p:AO)(H':Hp),aq H H' ->qR K H' (.ref p) m (-x)->Q (.ref p) H'):jU K [u] H Q E:=by
 obtain ⟨q1,a1,a2,a3,a4⟩:=h1;show ⟨u,q1,rfl,a1,fun p H' s e=>k p H' s ⟨(0-q1.1,q1.2),⟨p,rfl,bZ.of e⟩,a2,?_,?_,a4.bot⟩⟩
 ·rw [<-a3]
  unfold vl;push_cast;grind
 ·have:=a4.top
  show (0-q1.1).natAbs<=2^m;omega
def af6:av SH SH (ae NV):=sq
def af7 (D:Def K mg "_law_sum" NV SH):ac P w K mg gw 1 "_law_sum" SH (gi K m6):=by
 refine D.oo af6 fun H hr h=>?_;obtain ⟨u,v,x,y,m,n,rfl,⟨p1,rfl,h1⟩,⟨p2,rfl,h2⟩,zx,zy,l,q⟩:=h;show ⟨_,(aj (aD (aJ (aF (aw bG (aw lW (aG (pv 0)) (aG (pv 1))) (aw lW (aG (pv 1)) (aG (pv 0)))) (aw lW (aG (pv 0)) (aG (pv 1))))))),_,rfl,p1,_,_,_,rfl,rfl,h1,ib,_,rfl,p2,_,_,_,rfl,rfl,h2,iD,_,_,rfl,rfl,jo zx.top zy.bot ci,_,rfl,p2,_,_,_,rfl,rfl,h2,ib,_,rfl,p1,_,_,_,rfl,rfl,h1,iD,_,_,rfl,rfl,jo zy.top zx.bot ci,_,_,rfl,rfl,_,rfl,p1,_,_,_,rfl,rfl,h1,iD,_,rfl,p2,_,_,_,rfl,rfl,h2,iD,_,_,rfl,rfl,jo zx.bot zy.bot ci,qZ,?_⟩;intros p3 n3 H3 s3 e3;exact q p3 H3 s3 e3
def af8:av SH SH (ae NW):=sq
def af9 (D:Def K mg "_law_times" NW SH):ac P w K mg gw 1 "_law_times" SH (gi K vA):=by
 refine D.oo af8 fun H hr h=>?_;obtain ⟨u,v,x,y,m,n,rfl,⟨p1,rfl,h1⟩,⟨p2,rfl,h2⟩,zx,zy,l,q⟩:=h;show ⟨_,(aj (aD (aJ (aF (aw lW (aG (pv 0)) (aG (pv 1))) (aw lW (aG (pv 0)) (aG (pv 1))))))),_,rfl,p1,_,_,_,rfl,rfl,h1,ib,_,rfl,p2,_,_,_,rfl,rfl,h2,ib,_,_,rfl,rfl,jo zx.top zy.top ci,_,rfl,p1,_,_,_,rfl,rfl,h1,iD,_,rfl,p2,_,_,_,rfl,rfl,h2,iD,_,_,rfl,rfl,jo zx.bot zy.bot ci,qZ,?_⟩;intros p3 n3 H3 s3 e3;exact q p3 H3 s3 e3
def af':av Vb Vb (ae NX):=sq
def aga (D:Def K mg "_law_turned" NX Vb):ac P w K mg gw 1 "_law_turned" Vb (jU K):=by
 refine D.oo af' fun H hr h=>?_;obtain ⟨u,x,rfl,⟨p1,rfl,h1⟩,q⟩:=h;show ⟨_,(aj (aD (aJ (aF (aw cJ af (aG (pv 0))) (aG (pv 0)))))),_,rfl,p1,_,_,_,rfl,rfl,h1,ib,_,_,rfl,rfl,_,rfl,p1,_,_,_,rfl,rfl,h1,iD,qZ,?_⟩;intros p3 n3 H3 s3 e3;exact q p3 H3 s3 e3
def nameOf (st a k:Int):Str:=if st=0 then Txt.mul "p" (k+1) else if st=3 then Txt.mul "p" (14-k) else if st=1 then Txt.mul "p" a++⟨#[(jc (Q8 "bcdefghijklm").cps.toList k).getD 0]⟩++Txt.mul "p" (5-a) else Txt.slice "12345" none (some a)++(toString k:String)
def zaK:∀st:Fin 4,∀a:Fin 6,∀k:Fin 12,∀j:Fin 12,k≠j->nameOf (st.val:Int) (a.val:Int) (k.val:Int)≠nameOf (st.val:Int) (a.val:Int) (j.val:Int):=by decide+kernel
def aaZ:∀n:Fin 20,MulOk "p" (n.val:Int):=by
 intro n;unfold MulOk
 revert n
 decide+kernel
def aa0:∀k:Fin 12,jc (Q8 "bcdefghijklm").cps.toList (k.val:Int)=some ((jc (Q8 "bcdefghijklm").cps.toList (k.val:Int)).getD 0):=by decide+kernel
def acQ:∀a:Fin 6,∀k:Fin 12,(Txt.mul "p" (a.val:Int)).length+(⟨#[(jc (Q8 "bcdefghijklm").cps.toList (k.val:Int)).getD 0]⟩:Str).length<=1000/\
  (Txt.mul "p" (a.val:Int)++(⟨#[(jc (Q8 "bcdefghijklm").cps.toList (k.val:Int)).getD 0]⟩:Str)).length+(Txt.mul "p" (5-(a.val:Int))).length<=1000/\(Txt.slice "12345" none (some (a.val:Int))).length+(Q8 (toString (k.val:Int))).length<=1000:=by decide+kernel
inductive yy (vs:ζ)(H:Hp)(Q:VK)(E_:XK):Prop
|mk (c k:Int)(_:vs=[.int c,.int k])(_:0<=k)(_:k<12)(_:Q (.str (nameOf (field c 3001 4) (field c 4001 6) k)) H)
def SW:av zaL vw (ae GU):=sq
def agb (hM:rl CX)(D:Def K mg "_law_name" GU vw)(SX:mg "str"=none)(cB:Fn P w K mg gw CX 1 "_law_field" Q6 dN):Fn P w K mg gw CX 2 "_law_name" vw yy:=by
 refine D.op SW fun f bE A outer s H vs Q E hr h=>?_;obtain ⟨c,k,rfl,h0,h12,q⟩:=h;let px:=kF (X:=j6 CX P w K mg gw zaL "_law_name" (ae GU) f bE A outer s H E) hM
 show ⟨_,(aa (aA 2 SW.nd (cR cB hr.mo px (bx (pv 0) af af))) (aa (aA 3 SW.nd (cR cB hr.mo px (bx (pv 0) af af))) (aa (bh (bg cY (pv 2) af) (aj (aD (aw rQ bT (aw bG (pv 1) af)))) aI) (aa (bh (bg cY (pv 2) af) (aj (aD (aw rQ bT (aw cJ af (pv 1))))) aI) (aa (bh (bg cY (pv 2) af) (aj (aD (aw ie (aw ie (aw rQ bT (pv 3)) (bL ak5 bT (pv 1))) (aw rQ bT (aw cJ af (pv 3)))))) aI) (aj (aD (aw ie (bY aj_ bT cP (cC (pv 3))) (cu akn rfl SX adu (aV (pv 1))))))))))),?_⟩;sleep 4
 let i1:=aL (c:=c) (p:=3001) (m:=4) cr;let i2:=aL (c:=c) (p:=4001) (m:=6) cr;show ⟨_,rfl,_,_,_,rfl,cr,cr,cr,_,rfl,_,_,_,rfl,cr,cr,cr,?_⟩;generalize field c 3001 4=st at i1 q ⊢;generalize field c 4001 6=a at i2 q ⊢;obtain ⟨kn,rfl⟩:∃n:Nat,k=(n:Int):=⟨k.toNat,ci⟩;obtain ⟨an,rfl⟩:∃n:Nat,a=(n:Int):=⟨a.toNat,ci⟩
 let mk:∀i:Int,0<=i->i<20->MulOk "p" i:=fun i a b=>by
  have:=aaZ ⟨i.toNat,ci⟩
  rwa [show ((⟨i.toNat,ci⟩:Fin 20).val:Int)=i by show ((i.toNat:Nat):Int)=i;omega] at this
 show ⟨_,rfl,rfl,_,rfl,?_⟩;refine bD (fun z=>?_) (fun z=>?_)
 ·let z':st=0:=by simpa [rh] using z
  subst z';show ⟨_,rfl,_,_,rfl,rfl,_,_,rfl,rfl,mk _ ci ci,q⟩
 let z':¬ st=0:=by simpa [rh] using z
 show ⟨_,rfl,rfl,_,rfl,?_⟩;refine bD (fun z2=>?_) (fun z2=>?_)
 ·let z2':st=3:=by simpa [rh] using z2
  subst z2';show ⟨_,rfl,_,_,rfl,rfl,_,_,rfl,rfl,mk _ ci ci,q⟩
 let z2':¬ st=3:=by simpa [rh] using z2
 let nl:=acQ ⟨an,ci⟩ ⟨kn,ci⟩;show ⟨_,rfl,rfl,_,rfl,?_⟩;refine bD (fun z3=>?_) (fun z3=>?_)
 ·let z3':st=1:=by simpa [rh] using z3
  subst z3';show ⟨_,rfl,_,_,rfl,rfl,mk _ ci ci,_,rfl,_,_,_,rfl,rfl,(by decide+kernel),aa0 ⟨kn,ci⟩,_,_,rfl,rfl,CT nl.1 cr,_,rfl,_,_,rfl,rfl,_,_,rfl,rfl,mk _ ci ci,_,_,rfl,rfl,CT nl.2.1 cr,q⟩
 ·let z3':¬ st=1:=by simpa [rh] using z3
  show ⟨_,rfl,_,rfl,_,rfl,(by decide+kernel),?_⟩;let lg:(kn:Int).natAbs.log2<1920:=GG (Nat.log2_le_self _) (by show kn<1920;omega);show ⟨_,rfl,_,rfl,lg,_,_,rfl,rfl,CT nl.2.2 cr,?_⟩
  let e:nameOf st (an:Int) (kn:Int)=Txt.slice "12345" none (some (an:Int))++Q8 (toString (kn:Int)):=by
   unfold nameOf;rw [lH z',lH z2',lH z3']
  rwa [e] at q
def m7 (ws:Ξ):Prop:=ws=[]\/(∃x y:Rat,ws=[(x,y)]/\¬ (x=0/\y=0)/\Sz 22 x/\Sz 22 y)\/ws=[(1,0),(0,1)]
def uG (i:Int)(h:H p=some (.tup [.int i,.int 1])):fe K H (.ref p) (i:Rat):=⟨p,rfl,by rw [mT];exact bZ.of h⟩
def gS (h:H p=some (.tup [.int (qr r).1,.int (qr r).2])):fe K H (.ref p) r:=⟨p,rfl,bZ.of h⟩
def xh (h:H p=some (.tup [u,v]))(h1:fe K H u r)(h2:fe K H v s):gC K H (.ref p) (r,s):=⟨p,u,v,rfl,bZ.of h,h1,h2⟩
def lj {i:Int}(h:i.natAbs<1048576)(hk:20<=k):Sz k (i:Rat):=i6 (Mt h (show 2^20<=2^k from Qn cr hk)) ci
def oO {t b:Int}(h:0<b)(h1:t.natAbs<1048576)(h2:b<1048576):Sz 20 ((t:Rat) / (b:Rat)):=tU (Nd h) (intBits_le_iff.mpr (by show _<1048576;omega)) (intBits_le_iff.mpr (by show _<1048576;omega))
def acA {i:Int}(h:i<=500002):(i:Rat)<=500002:=by
 have:=akl.mpr h;simpa using this
def ajy {t b:Int}(hb:0<b)(h:t<=500002):(t:Rat) / (b:Rat)<=500002:=by
 have fw :(0:Rat)<(b:Rat):=by
  have:=Rat.intCast_lt_intCast.mpr hb;simpa using this
 let h1:t<=500002*b:=by
  have:(500002:Int)*1<=500002*b:=Int.mul_le_mul_of_nonneg_left ci cr;omega
 let h2:(t:Rat)<=500002*(b:Rat):=by
  have:=akl.mpr h1;simpa using this
 let e:(t:Rat) / (b:Rat)*(b:Rat)=(t:Rat):=by
  let JQ:(b:Rat)≠0:=by grind
  grind
 generalize (t:Rat) / (b:Rat)=z at e;by_cases c:z<=500002
 ·exact c
 ·let c':500002<z:=by grind
  have:=Rat.mul_lt_mul_of_pos_right c' fw;grind
inductive yz (K:Frag)(vs:ζ)(H:Hp)(Q:VK)(E_:XK):Prop
|mk (c k:Int)(_:vs=[.int c,.int k])(_:0<=k)(_:k<6)(_:∀(p:AO)(x y:Rat)(H':Hp),aq H H' ->Sz 20 x->Sz 20 y->x<=500002->gC K H' (.ref p) (x,y)->Q (.ref p) H')
def LS:av ["_law_cell","_law_kind","_law_x","_law_bottoms"] DG (ae NY):=sq
def agc (D:Def K mg "_law_spot" NY DG)(cB:ac P w K mg gw 1 "_law_field" Q6 dN)(m8:ac P w K mg gw 33 "_law_lowest" VH cH):ac P w K mg gw 34 "_law_spot" DG (yz K):=by
 refine D.oo LS fun H hr h=>?_;obtain ⟨c,k,rfl,k0,k6,q⟩:=h;let L2:2<=BZ:=cr
 show ⟨_,(aa (bh (bg sk (pv 1) af) (aj (aD (aJ (aF (aJ (aF (aU cB hr (bx (pv 0) af af)) af)) (aJ (aF (aU cB hr (bx (pv 0) af af)) af)))))) aI) (aa (bh (bg sk (pv 1) af) (aa (aA 2 LS.nd (aU m8 hr (aF (aw cJ (aU cB hr (bx (pv 0) af af)) af) (aw bG af (aU cB hr (bx (pv 0) af af)))))) (aj (aD (aJ (aF (pv 2) (aU m8 hr (aF (aw cJ (aU cB hr (bx (pv 0) af af)) af) (aw bG af (aU cB hr (bx (pv 0) af af)))))))))) aI) (aa (aA 3 LS.nd (bL aQ (bI (aF (aJ (aF af af)) (aJ (aF (aw bG af (aU cB hr (bx (pv 0) af af))) (aw bG af (aU cB hr (bx (pv 0) af af))))))) (aw cJ (pv 1) af))) (aa (aA 2 LS.nd (aU m8 hr (aF (aw cJ (aU cB hr (bx (pv 0) af af)) af) (aG (pv 3))))) (aj (aD (aJ (aF (pv 2) (aU m8 hr (aF (aw cJ (aU cB hr (bx (pv 0) af af)) af) (aG (pv 3)))))))))))),?_⟩;sleep 4
 show ⟨_,rfl,_,_,rfl,rfl,_,rfl,?_⟩;refine bD (fun _=>?_) (fun _=>?_)
 ·let i1:=aL (c:=c) (p:=1009) (m:=4) cr
  let i2:=aL (c:=c) (p:=2003) (m:=4) cr;show ⟨_,rfl,_,_,_,rfl,cr,cr,cr,L2,?_⟩;intros p1 n1 H1 s1 e1;show ⟨_,rfl,_,_,_,rfl,cr,cr,cr,L2,?_⟩;intros p2 n2 H2 s2 e2;show ⟨L2,?_⟩;intros p3 n3 H3 s3 e3;exact q p3 _ _ H3 ((s1.trans s2).trans s3) (lj ci cr) (lj ci cr) (acA ci) (xh e3 (((uG _ e1).gV s2).gV s3) ((uG _ e2).gV s3))
 show ⟨_,rfl,_,_,rfl,rfl,_,rfl,?_⟩;refine bD (fun _=>?_) (fun c4=>?_)
 ·let i1:=aL (c:=c) (p:=1009) (m:=13) cr
  let i2:=aL (c:=c) (p:=3001) (m:=3) cr;let i3:=aL (c:=c) (p:=2003) (m:=13) cr;let i4:=aL (c:=c) (p:=4001) (m:=2) cr;show ⟨_,rfl,_,_,_,rfl,cr,cr,cr,_,_,rfl,rfl,_,rfl,_,_,_,rfl,cr,cr,cr,_,_,rfl,rfl,_,_,rfl,ci,fun p1 H1 s1 e1=>?_⟩;rw [fY ci] at e1;show ⟨_,rfl,_,rfl,_,_,_,rfl,cr,cr,cr,_,_,rfl,rfl,_,rfl,_,_,_,rfl,cr,cr,cr,_,_,rfl,rfl,_,_,rfl,ci,fun p2 H2 s2 e2=>⟨L2,?_⟩⟩;rw [fY ci] at e2;intros p3 n3 H3 s3 e3;exact q p3 _ _ H3 ((s1.trans s2).trans s3) (oO ci ci ci) (oO ci ci ci) (ajy ci ci) (xh e3 (((gS e1).gV s2).gV s3) ((gS e2).gV s3))
 ·let c4':¬ k<4:=fun z=>c4 (Ms z)
  let i1:=aL (c:=c) (p:=1000003) (m:=1000003) cr;let i2:=aL (c:=c) (p:=3001) (m:=997) cr;let i3:=aL (c:=c) (p:=1000033) (m:=1000003) cr;let i4:=aL (c:=c) (p:=4001) (m:=997) cr;show ⟨L2,?_⟩;intros q1 m1 J1 t1 f1;show ⟨_,rfl,_,_,_,rfl,cr,cr,cr,_,_,rfl,rfl,_,rfl,_,_,_,rfl,cr,cr,cr,_,_,rfl,rfl,L2,?_⟩;intros q2 m2 J2 t2 f2;show ⟨L2,?_⟩;intros q3 m3 J3 t3 f3
  obtain ⟨pb,b1,b2,eb,fb,h1,h2,h3,h4⟩:∃(pb:AO)(b1 b2:Int),jc [V.ref q1,V.ref q2] (k-4)=some (.ref pb)/\J3 pb=some (.tup [.int b1,.int b2])/\0<b1/\b1<=997/\0<b2/\b2<=997:=by
   rcases (show k=4\/k=5 by omega) with e|e
   ·show ⟨q1,1,1,by rw [e];rfl,t3 _ _ (t2 _ _ f1),cr,cr,cr,cr⟩
   ·show ⟨q2,_,_,by rw [e];rfl,t3 _ _ f2,ci,ci,ci,ci⟩
  show ⟨_,rfl,_,_,rfl,rfl,q3,_,_,_,rfl,rfl,aK.of f3,eb,_,rfl,_,_,_,rfl,cr,cr,cr,_,_,rfl,rfl,_,rfl,pb,_,_,_,rfl,rfl,bZ.of fb,ib,_,_,rfl,ci,fun p1 H1 s1 e1=>?_⟩;rw [fY ci] at e1;show ⟨_,rfl,_,rfl,_,_,_,rfl,cr,cr,cr,_,_,rfl,rfl,_,rfl,pb,_,_,_,rfl,rfl,bZ.of (s1 _ _ fb),iD,_,_,rfl,ci,fun p2 H2 s2 e2=>⟨L2,?_⟩⟩;rw [fY ci] at e2;intros p3 n3 H3 s3 e3;exact q p3 _ _ H3 ((t1.trans (t2.trans t3)).trans ((s1.trans s2).trans s3)) (oO ci ci ci) (oO ci ci ci) (ajy ci ci) (xh e3 (((gS e1).gV s2).gV s3) ((gS e2).gV s3))
inductive yA (K:Frag)(vs:ζ)(H:Hp)(Q:VK)(E_:XK):Prop
|mk (c:Int)(_:vs=[.int c])(_:∀(l:AO)(us:ζ)(ws:Ξ)(H':Hp),m7 ws->aq H H' ->H l=none->H' l=some (.lst us)->mf K H' us ws->Q (.ref l) H')
def adI :(qr r).1=0 ↔ r=0:=⟨rZ,fun e=>by rw [e,dH]⟩
def C':av ["_law_cell","_law_kind","_law_x","_law_y"] JI (ae NZ):=sq
def agd (D:Def K mg "_law_ways" NZ JI)(cB:ac P w K mg gw 1 "_law_field" Q6 dN)(m8:ac P w K mg gw 33 "_law_lowest" VH cH):ac P w K mg gw 34 "_law_ways" JI (yA K):=by
 refine D.op C' fun f bE A outer s H vs Q E hr h=>?_;obtain ⟨c,rfl,q⟩:=h;let L0:0<=BZ:=cr
 let L1:1<=BZ:=cr
 let L2:2<=BZ:=cr
 show ⟨_,(aa (aA 1 C'.nd (aU cB hr (bx (pv 0) af af))) (aa (bh (bg sk (pv 1) af) (aj (aD (bI iV))) aI) (aa (bh (bg sk (pv 1) af) (aj (aD (bI (aF (aJ (aF (aJ (aF af af)) (aJ (aF af af)))) (aJ (aF (aJ (aF af af)) (aJ (aF af af)))))))) aI) (aa (aA 2 C'.nd (aU m8 hr (aF (aw cJ (aU cB hr (bx (pv 0) af af)) af) (aw bG af (aU cB hr (bx (pv 0) af af)))))) (aa (aA 3 C'.nd (aJ (aF (aw cJ (aU cB hr (bx (pv 0) af af)) af) af))) (aa (bh (PW.pt (FC (bg cY (aG (pv 2)) af) (xv (bg cY (aG (pv 3)) af)))) (aj (aA 3 C'.nd (aJ (aF af af)))) aI) (aj (aD (bI (aV (aJ (aF (pv 2) (pv 3))))))))))))),?_⟩;sleep 6
 show ⟨_,rfl,_,_,_,rfl,cr,cr,cr,_,rfl,_,_,rfl,rfl,_,rfl,?_⟩;refine bD (fun _=>?_) (fun _=>?_)
 ·show ⟨L0,?_⟩
  intros l nl H1 s1 e1;exact q l [] [] H1 (.inl rfl) s1 nl e1 .nil
 show ⟨_,rfl,_,_,rfl,rfl,_,rfl,?_⟩;refine bD (fun _=>?_) (fun _=>?_)
 ·show ⟨L2,?_⟩
  intros p1 n1 H1 s1 e1;show ⟨L2,?_⟩;intros p2 n2 H2 s2 e2;show ⟨L2,?_⟩;intros p3 n3 H3 s3 e3;show ⟨L2,?_⟩;intros p4 n4 H4 s4 e4;show ⟨L2,?_⟩;intros p5 n5 H5 s5 e5;show ⟨L2,?_⟩;intros p6 n6 H6 s6 e6;show ⟨L2,?_⟩;intros p7 n7 H7 s7 e7;let sh:=s1.trans (s2.trans (s3.trans (s4.trans (s5.trans s6))));let w1:gC K H7 (.ref p3) (1,0):=LG yk dH (s7 _ _ (s6 _ _ (s5 _ _ (s4 _ _ e3)))) (s7 _ _ (s6 _ _ (s5 _ _ (s4 _ _ (s3 _ _ (s2 _ _ e1)))))) (s7 _ _ (s6 _ _ (s5 _ _ (s4 _ _ (s3 _ _ e2)))));let w2:gC K H7 (.ref p6) (0,1):=LG dH yk (s7 _ _ e6) (s7 _ _ (s6 _ _ (s5 _ _ e4))) (s7 _ _ (s6 _ _ e5));exact q p7 _ [(1,0),(0,1)] _ (.inr (.inr rfl)) (sh.trans s7) (sh.free n7) e7 (.cons w1 (.cons w2 .nil))
 let i1:=aL (c:=c) (p:=6007) (m:=7) cr;let i2:=aL (c:=c) (p:=7001) (m:=3) cr;let i3:=aL (c:=c) (p:=8009) (m:=7) cr;show ⟨_,rfl,_,_,_,rfl,cr,cr,cr,_,_,rfl,rfl,_,rfl,_,_,_,rfl,cr,cr,cr,_,_,rfl,rfl,_,_,rfl,ci,fun p1 H1 s1 e1=>?_⟩;rw [fY ci] at e1;show ⟨_,rfl,_,_,_,rfl,cr,cr,cr,_,_,rfl,rfl,L2,?_⟩;intros p2 n2 H2 s2 f2;let e2:H2 p2=some (.tup [.int (qr ((field c 8009 7-3:Int):Rat)).1,.int (qr ((field c 8009 7-3:Int):Rat)).2]):=by rwa [mT]
 let z1:=oO (t:=field c 6007 7-3) (b:=1+field c 7001 3) ci ci ci;let z2:Sz 20 ((field c 8009 7-3:Int):Rat):=lj ci cr;generalize ((field c 6007 7-3:Int):Rat) / ((1+field c 7001 3:Int):Rat)=x at e1 z1 ⊢;clear f2;generalize ((field c 8009 7-3:Int):Rat)=y at e2 z2;have MR :=s2 _ _ e1;let j9:=s1.trans s2
 let fin:∀(v:V)(y':Rat)(H3:Hp),aq H2 H3->fe K H3 v y' ->Sz 22 y' ->¬ (x=0/\y'=0)->∀(p:AO)(l:AO)(H5:Hp),aq H3 H5->H3 l=none->H5 p=some (.tup [.ref p1,v])->H5 l=some (.lst [.ref p])->Q (.ref l) H5:=fun v y' H3 s3 hv zy hn p l H5 s5 nl ep el=>
  q l [.ref p] [(x,y')] H5 (.inr (.inl ⟨x,y',rfl,hn,z1.up cr,zy⟩)) (j9.trans (s3.trans s5)) ((j9.trans s3).free nl) el (.cons (xh ep (((gS MR).gV s3).gV s5) (hv.gV s5)) .nil)
 show ⟨_,rfl,p1,_,_,_,rfl,rfl,bZ.of MR,ib,rfl,_,rfl,?_⟩;refine bD (fun c1=>?_) (fun c1=>?_)
 ·let c1':x=0:=adI.mp (by simpa using Nl c1)
  show ⟨_,rfl,p2,_,_,_,rfl,rfl,bZ.of e2,ib,rfl,_,rfl,?_⟩;refine bD (fun c2=>?_) (fun c2=>?_)
  ·show ⟨L2,?_⟩
   intros p3 n3 H3 s3 e3;show ⟨_,rfl,_,rfl,L2,?_⟩;intros p4 n4 H4 s4 e4;show ⟨L1,?_⟩;intros l5 n5 H5 s5 e5;exact fin (.ref p3) 1 H3 s3 (uG 1 e3) (lj (i:=1) cr cr) (fun z=>CH z.2 cr) p4 l5 H5 (s4.trans s5) (s4.free n5) (s5 _ _ e4) e5
  ·let c2':¬ y=0:=fun z=>c2 (by rw [z,dH];decide)
   show ⟨_,rfl,_,rfl,L2,?_⟩;intros p4 n4 H4 s4 e4;show ⟨L1,?_⟩;intros l5 n5 H5 s5 e5;exact fin (.ref p2) y H2 (aq.refl _) (gS e2) (z2.up cr) (fun z=>c2' z.2) p4 l5 H5 (s4.trans s5) (s4.free n5) (s5 _ _ e4) e5
 ·let c1':¬ x=0:=fun z=>c1 (by rw [z,dH];decide)
  refine ZK ?_;show ⟨_,rfl,_,rfl,L2,?_⟩;intros p4 n4 H4 s4 e4;show ⟨L1,?_⟩;intros l5 n5 H5 s5 e5;exact fin (.ref p2) y H2 (aq.refl _) (gS e2) (z2.up cr) (fun z=>c1' z.1) p4 l5 H5 (s4.trans s5) (s4.free n5) (s5 _ _ e4) e5
inductive oP (K:Frag)(H:Hp)(d:AO)(v:V)(p:aY):Prop
|mk (a l:AO)(s:V)(us:ζ)(_:v=.ref a)(_:bZ K H a [.str p.nm,s,.ref l])(_:gC K H s p.sp)(_:H l=some (.lst us))(_:mf K H us p.ws)(_:l≠d)
inductive oQ (K:Frag)(H:Hp)(v:V)(p:aY):Prop
|mk (a l:AO)(s:V)(us:ζ)(_:v=.ref a)(_:bZ K H a [.str p.nm,s,.ref l])(_:gC K H s p.sp)(_:H l=some (.lst us))(_:mf K H us p.ws)
inductive m_ (K:Frag)(H:Hp)(pX:ς)(v:V)(b:bK):Prop
|mk (a:AO)(i j:Nat)(_:v=.ref a)(_:bZ K H a [.str b.nm,.int (i:Int),.int (j:Int)])(_:pX[i]?=some b.one)(_:pX[j]?=some b.lG)
section
variable {K:Frag}{H H':Hp}{v:V}{p:aY}{d:AO}
theorem oP.gV (h:oP K H d v p)(s:aq H H'):oP K H' d v p:=by
 obtain ⟨a,l,sv,us,e,h1,h2,h3,h4,h5⟩:=h;show ⟨a,l,sv,us,e,Ty.aq.dI s h1,h2.gV s,s _ _ h3,h4.gV s,h5⟩
theorem oP.upd (h:oP K H d v p)(e:H d=some (.lst xs)):oP K (L2.upd H d o) d v p:=by
 obtain ⟨a,l,sv,us,ev,h1,h2,h3,h4,h5⟩:=h;let t:bf H (L2.upd H d o):=.list e;show ⟨a,l,sv,us,ev,t.dI h1,h2.aT t,by rwa [ah h5],h4.aT t,h5⟩
def oP.r (h:oP K H d v p):oQ K H v p:=by
 obtain ⟨a,l,sv,us,e,h1,h2,h3,h4,_⟩:=h;show ⟨a,l,sv,us,e,h1,h2,h3,h4⟩
theorem oQ.gV (h:oQ K H v p)(s:aq H H'):oQ K H' v p:=by
 obtain ⟨a,l,sv,us,e,h1,h2,h3,h4⟩:=h;show ⟨a,l,sv,us,e,Ty.aq.dI s h1,h2.gV s,s _ _ h3,h4.gV s⟩
def m_.gV (h:m_ K H pX v b)(s:aq H H'):m_ K H' pX v b:=by
 obtain ⟨a,i,j,e,h1,h2,h3⟩:=h;show ⟨a,i,j,e,Ty.aq.dI s h1,h2,h3⟩
end
structure mF (pX:ς):Prop where
 np:(pX.map (·.nm)).Nodup
 ns:(pX.map (·.sp)).Nodup
 sz:∀p∈pX,Sz 24 p.sp.1/\Sz 24 p.sp.2
 ws:∀p∈pX,m7 p.ws
def m7.sz (h:m7 ws):∀w∈ws,Sz 22 w.1/\Sz 22 w.2:=fun w hw=>by
 rcases h with rfl|⟨x,y,rfl,_,h1,h2⟩|rfl
 ·cases hw
 ·have:w=(x,y):=by simpa using hw
  rw [this];show ⟨h1,h2⟩
 ·let e1:Sz 22 (1:Rat):=lj (k:=22) (i:=1) cr cr
  let e0:Sz 22 (0:Rat):=d9 cr;have:w=(1,0)\/w=(0,1):=by simpa using hw
  rcases this with rfl|rfl
  ·show ⟨e1,e0⟩
  ·show ⟨e0,e1⟩
def m7.len (h:m7 ws):ws.length<=2:=by
 rcases h with rfl|⟨x,y,rfl,_⟩|rfl<;>simp
def mF.snoc (g:mF pX)(h1:p.nm∉pX.map (·.nm))(h2:p.sp∉pX.map (·.sp))(h3:Sz 24 p.sp.1/\Sz 24 p.sp.2)(h4:m7 p.ws):mF (pX++[p]):=by
 show ⟨?_,?_,fun q hq=>?_,fun q hq=>?_⟩
 ·rw [MX,Vw]
  show ⟨g.np,by simp,fun a ha b hb e=>h1 ?_⟩;have:b=p.nm:=by simpa using hb
  rwa [<-this,<-e]
 ·rw [MX,Vw]
  show ⟨g.ns,by simp,fun a ha b hb e=>h2 ?_⟩;have:b=p.sp:=by simpa using hb
  rwa [<-this,<-e]
 ·rcases FQ.mp hq with z|z
  ·exact g.sz q z
  ·rw [GZ.mp z]
   exact h3
 ·rcases FQ.mp hq with z|z
  ·exact g.ws q z
  ·rw [GZ.mp z]
   exact h4
structure uH (pX:ς)(ao:Η):Prop where
 nb:(ao.map (·.nm)).Nodup
 ends:∀b∈ao,b.one∈pX/\b.lG∈pX/\b.one.nm≠b.lG.nm
theorem lC :∀{qY:List Y} {qX:List β} {a:Y} {b:β},Paired F qY qX->F a b->Paired F (qY++[a]) (qX++[b])
 | _,_,_,_,.nil,h=>.cons h .nil
 | _,_,_,_,.cons h t,h'=>.cons h (lC t h')
def fM (inv:L2.St->Hp->Prop)(h1:∀N:L2.St->Hp->Prop,(∀Z' H',inv Z' H' ->N Z' H')->t {D with nx:=N} Z H)(h2:∀Z' H',inv Z' H' ->u D Z' H'):FO t u D Z H:=h1 _ h2
def age (g:mF pX)(b:uH pX ao)(lp:pX.length<=9)(lb:ao.length<=14):iK pX ao:=
 ⟨g.np,b.nb,b.ends,fun p hp=>⟨(g.sz p hp).1,(g.sz p hp).2,(g.ws p hp).sz⟩,lp,lb,fun p hp=>(g.ws p hp).len⟩
def agf:Nf "min"=some (.builtin "min"):=by decide+kernel
def cnt (pX:ς)(x:Rat):Nat:=(pX.filter fun p=>decide (x<=p.sp.1)).length
theorem aeO (x:Rat):∀pX:List aY,cnt pX (x+1)<=cnt pX x
 | []=>DH _
 | p::ps=>by
  let ih:=aeO x ps;unfold cnt at ih ⊢;rw [Ru,Ru];by_cases c:x+1<=p.sp.1
  ·let c2:x<=p.sp.1:=by grind
   rw [mG (Ms c),mG (Ms c2)];simpa using ih
  ·rw [lH (by simpa using c)]
   split
   ·rw [Oy]
    omega
   ·exact ih
theorem aeL :∀{pX:ς},(∃p∈pX,p.sp.1=x)->cnt pX (x+1)<cnt pX x
 | [],⟨p,h,_⟩=>by simp at h
 | p::ps,⟨q,hq,e⟩=>by
  unfold cnt;rw [Ru,Ru];by_cases c0:p.sp.1=x
  ·let c:¬ x+1<=p.sp.1:=by grind
   let c2:x<=p.sp.1:=by grind
   rw [lH (by simpa using c),mG (Ms c2),Oy];have:=aeO x ps;unfold cnt at this;omega
  ·have pE :q∈ps:=by
    rcases M_.mp hq with z|z
    ·exact CH (by rwa [<-z]) c0
    ·exact z
   let ih:=aeL (pX:=ps) ⟨q,pE,e⟩;unfold cnt at ih;by_cases c:x+1<=p.sp.1
   ·let c2:x<=p.sp.1:=by grind
    rw [mG (Ms c),mG (Ms c2)];simpa using ih
   ·rw [lH (by simpa using c)]
    split
    ·rw [Oy]
     omega
    ·exact ih
def adG (pX:ς)(x:Rat):cnt pX x<=pX.length:=uf _ _
def adB (r:Rat):m6 (qr r) (1,1)=qr (r+1):=by
 let e:m6 (qr r) (1,1)=((qr r).1+(qr r).2,(qr r).2):=by
  unfold m6;simp
 let g:MO ((qr r).1+(qr r).2) (qr r).2=1:=by
  have:=tT r;rw [<-this];simp
 rw [e,wU (q:=((qr r).1+(qr r).2,(qr r).2)) (cZ r) g];congr 1;let z:=BU (r:=r);let v:=iJ r;unfold vl at v ⊢;push_cast;grind
def agg (h:Sz k r):Ns k (qr r):=⟨RF (intBits_le_iff.mp h.top),RF (intBits_le_iff.mp h.bot)⟩
def ad3:∀i:Fin 10,∃N:Fin 5,jc [V.int 0,.int 1,.int 2,.int 2,.int 3,.int 3,.int 3,.int 3,.int 4,.int 4] (i.val:Int)=some (.int (N.val:Int)):=by decide+kernel
def acJ:∀i:Fin 6,∃N:Fin 5,jc [V.int 4,.int 4,.int 4,.int 4,.int 3,.int 2] (i.val:Int)=some (.int (N.val:Int)):=by decide+kernel
def acb:∀st:Fin 4,∀a:Fin 6,∀k:Fin 12,1<=(nameOf (st.val:Int) (a.val:Int) (k.val:Int)).length/\(nameOf (st.val:Int) (a.val:Int) (k.val:Int)).length<=40:=by decide+kernel
def xi (c:Int){j:Nat}(h:j<12):1<=(nameOf (field c 3001 4) (field c 4001 6) (j:Int)).length/\(nameOf (field c 3001 4) (field c 4001 6) (j:Int)).length<=40:=by
 let i3:=aL (c:=c) (p:=3001) (m:=4) cr;let i4:=aL (c:=c) (p:=4001) (m:=6) cr;have:=acb ⟨(field c 3001 4).toNat,ci⟩ ⟨(field c 4001 6).toNat,ci⟩ ⟨j,h⟩;dsimp only at this;rwa [RH i3.1,RH i4.1] at this
inductive yB (K:Frag)(vs:ζ)(H:Hp)(Q:VK)(E_:XK):Prop
|mk (sA:AO)(ns:ξ)(mo:Nat)(_:vs=[.ref sA,.int (mo:Int)])(_:aK K H sA (ns.map V.int))(_:∀(l:AO)(us:ζ)(pX:ς)(H':Hp),aq H H' ->H l=none->H' l=some (.lst us)->Paired (oQ K H') us pX->mF pX->pX.length<=4->pX.length<=mo->(∀p∈pX,1<=p.nm.length/\p.nm.length<=40)->Q (.ref l) H')
def oR:av ["_law_script","_law_most","_law_cell","_law_kind","_law_many","_law_pins_here","_law_k","_law_spot_here"] DJ (ae N0):=sq
def agh (D:Def K mg "_law_pins" N0 DJ)(aZ:mg "range"=none)(S2:mg "min"=none)(jV:ac P w K mg gw 1 "_law_cell_at" V1 (jT K))(cB:ac P w K mg gw 1 "_law_field" Q6 dN)
  (an2:ac P w K mg gw 34 "_law_spot" DG (yz K)) (an3:ac P w K mg gw 34 "_law_ways" JI (yA K)) (aa1:ac P w K mg gw 2 "_law_name" vw yy) (S3:ac P w K mg gw 1 "_law_sum" SH (gi K m6)):
  ac P w K mg gw 35 "_law_pins" DJ (yB K):=by
 refine D.oo oR fun H hr h=>?_;obtain ⟨sA,ns,mo,rfl,hS,q⟩:=h;let L2:2<=BZ:=cr
 let L3:3<=BZ:=cr
 show ⟨_,(aa (aA 2 oR.nd (aU jV hr (aF (pv 0) af))) (aa (aA 3 oR.nd (aU cB hr (bx (pv 2) af af))) (aa (aA 4 oR.nd (bL aQ (bI (rR af (rR af (rR af (rR af (rR af (rR af (rR af (bx af af af))))))))) (aU cB hr (bx (pv 2) af af)))) (aa (aA 4 oR.nd (aR (ab6 rfl) rfl S2 agf (bx (pv 4) (bL aQ (bI (rR af (rR af (rR af (bx af af af))))) (pv 3)) (pv 1)))) (aa (aA 5 oR.nd (bI iV)) (aa (a_ HM rfl (bV rfl aZ (aV (pv 4))) (b6 6 oR.nd) (aa (aA 7 oR.nd (aU an2 hr (aF (aU jV hr (aF (pv 0) (aw bG af (pv 6)))) (pv 3)))) (aa (si HM (jD (acW hr.units) (pv 7) (g6 (tn:=["_law_pin"]) (fr:=[]) (oV:=[]) (a9 (pv 5)) (bL (fF (K:=K) rfl) (pv 0) af)) rfl) (aj (aA 7 oR.nd (aJ (aF (aU S3 hr (aF (aG (pv 7)) (aJ (aF af af)))) (aG (pv 7))))))) (aj (bP (sy Wg Zt Zo fT (pv 5) (aV (aJ (bx (aU aa1 hr (aF (pv 2) (pv 6))) (pv 7) (aU an3 hr (aV (aU jV hr (aF (pv 0) (aw bG af (pv 6))))))))))))))) (aj (aD (pv 5))))))))),?_⟩;try dsimp only [md,j6,Cx.wd,Cx.q_]
 show ⟨_,rfl,sA,ns,0,rfl,hS,cr,cr,?_⟩;generalize cell ns 0=c0;let ik:=aL (c:=c0) (p:=2003) (m:=6) cr;show ⟨_,rfl,_,_,_,rfl,cr,cr,cr,?_⟩;generalize field c0 2003 6=kind at ik ⊢;obtain ⟨kn,rfl⟩:∃n:Nat,kind=(n:Int):=⟨kind.toNat,ci⟩;show ⟨z10L,?_⟩;intros t0 nt0 H0 st0 et0;let i1:=aL (c:=c0) (p:=1009) (m:=10) cr;show ⟨_,rfl,_,_,_,rfl,cr,cr,cr,?_⟩;generalize field c0 1009 10=fi at i1 ⊢;obtain ⟨fn,rfl⟩:∃n:Nat,fi=(n:Int):=⟨fi.toNat,ci⟩;obtain ⟨N1,eN1⟩:=ad3 ⟨fn,ci⟩;show ⟨t0,_,_,_,rfl,rfl,aK.of et0,eN1,_,rfl,z6L,?_⟩;intros t1 nt1 Hm st1 et1;obtain ⟨N2,eN2⟩:=acJ ⟨kn,ci⟩;show ⟨_,rfl,t1,_,_,_,rfl,rfl,aK.of et1,eN2,_,rfl,_,_,_,rfl,fun m hm m1 m2 m3=>?_⟩;obtain ⟨N,rfl⟩:∃n:Nat,m=(n:Int):=⟨m.toNat,ci⟩;let hN:N<=4:=by have:=N1.isLt;omega
 let agi:=st0.trans st1;show ⟨z0L,?_⟩;intros lp np H1 sp ep;let s01:=agi.trans sp;let G':H lp=none:=agi.free np;show ⟨_,rfl,(N:Int),rfl,ci,ci,let I:ce:=fun i Z H'=>Nw fun (o5 o6:ω) (us:ζ) (pX:ς)=>Z=[ap sA,some (.int (mo:Int)),some (.int c0),some (.int (kn:Int)),some (.int (N:Int)),ap lp,o5,o6]/\aq H H'/\H' lp=some (.lst us)/\Paired (oP K H' lp) us pX/\mF pX/\pX.length=i/\∀p∈pX,∃j,j<i/\p.nm=nameOf (field c0 3001 4) (field c0 4001 6) (j:Int)/\p.sp.1<=500010;cq (lo:=0) (n:=N) I ⟨none,none,[],[],rfl,s01,ep,.nil,⟨by simp,by simp,by simp,by simp⟩,rfl,by simp⟩ ?_ ?_⟩
 ·rintro i Z H2 hi ⟨o5,o6,us,pX,rfl,s2,e2,pp,gp,lpi,nm⟩
  let ei:(0:Int)+(i:Int)=(i:Int):=Ow _;rw [ei];let lu:us.length=pX.length:=HR pp;show ⟨_,rfl,_,rfl,_,_,rfl,rfl,sA,ns,_,rfl,s2.seq hS,ci,ci,_,rfl,_,_,rfl,ci,ci,fun p3 x0 y0 H3 s3 zx zy xb h3=>?_⟩;let s23:=s2.trans s3
  let h30:gC K H3 (.ref p3) (x0+((0:Nat):Rat),y0):=by
   let e:x0+((0:Nat):Rat)=x0:=by
    have:((0:Nat):Rat)=0:=by rfl
    rw [this];grind
   rwa [e]
  dsimp only;refine fM (fun Z' H'=>CK fun (sv:V) (x:Rat)=>Z' =[some (.ref sA),some (.int (mo:Int)),some (.int c0),some (.int (kn:Int)),some (.int (N:Int)),some (.ref lp),some (.int (i:Int)),some sv]/\aq H3 H'/\gC K H' sv (x,y0)/\(Sz 24 x/\x<=500010)/\(x,y0)∉pX.map (·.sp)) (fun Nx OB=>?_) ?_
  ·show ⟨fun m Z H'=>CK fun (sv:V) (j:Nat)=>Z=[ap sA,some (.int (mo:Int)),some (.int c0),some (.int (kn:Int)),some (.int (N:Int)),ap lp,some (.int (i:Int)),some sv]/\aq H3 H'/\gC K H' sv (x0+(j:Rat),y0)/\m=cnt pX (x0+(j:Rat))/\j+cnt pX (x0+(j:Rat))<=pX.length,⟨_,_,0,rfl,aq.refl _,h30,rfl,by have:=adG pX (x0+((0:Nat):Rat));omega⟩,?_⟩
   rintro m Z H4 ⟨sv,j,rfl,s4,h4,rfl,hj⟩;let e4:=(s3.trans s4) _ _ e2;let pp4:Paired (oP K H4 lp) us pX:=Paired.dc pp fun _ _ z=>z.gV (s3.trans s4);let zj:Sz 24 (x0+(j:Rat)):=(zx.add (i6 (i:=(j:Int)) (k:=3) (show _<8 by omega) cr)).up cr;show ⟨_,rfl,_,rfl,lp,rfl,⟨_,aK.of e4⟩,fun D1 n1=>?_⟩
   refine dE (oY:=[]) (K:=K) (a:=lp) (xs:=us) (fun i v H=>∃p,pX[i]?=some p/\gC K H v p.sp) n1 (by rw [lu];exact GG (show pX.length<=1000 by omega) cr) (fun H2 s2=>aK.of (s2 _ _ e4)) (fun _ _ _ _ _ h0 ks h=>by
     obtain ⟨p,h1,h2⟩:=h;show ⟨p,h1,h2.aT fun b xs r=>?_⟩
     rcases r with r|⟨o',r⟩
     ·exact .inl (ks _ _ (fun e=>by erw [e,h0] at r) r)
     ·exact .inr ⟨o',ks _ _ (fun e=>by erw [e,h0] at r) r⟩) ?_ ?_
   ·intro jj u H6 R hu s6 k
    obtain ⟨p,ET,hp⟩:=aE pp4 hu;obtain ⟨a,l,sv,pF,rfl,h1,h2,_⟩:=hp;show ⟨_,rfl,a,_,_,_,rfl,rfl,Ty.aq.dI s6 h1,rfl,k _ _ (aq.refl _) ⟨p,ET,h2.gV s6⟩⟩
   intro ys H6 hy kK s6 hD
   let pq:mf K H6 ys (pX.map (·.sp)):=fW (by rw [ir,hy,lu]) fun j u q' MR e2'=>by
    obtain ⟨p,h1,h2⟩:=kK j u MR;erw [BJ,h1] at e2';exact h2
   let h6:=h4.gV s6;show ⟨(x0+(j:Rat),y0),D1,ys,_,rfl,aK.of hD,h6,pq,_,rfl,?_⟩;refine bD (fun cc=>?_) (fun cc=>?_)
   ·let mem:(x0+(j:Rat),y0)∈pX.map (·.sp):=by simpa using cc
    obtain ⟨p,hp,ET⟩:=CI.mp mem;let lt:=aeL (x:=x0+(j:Rat)) ⟨p,hp,by rw [ET]⟩
    let ej:x0+(j:Rat)+1=x0+((j+1:Nat):Rat):=by
     push_cast;grind
    rw [ej] at lt;show ⟨fun Z' H'=>∃(sv:V),Z' =[some (.ref sA),some (.int (mo:Int)),some (.int c0),some (.int (kn:Int)),some (.int (N:Int)),some (.ref lp),some (.int (i:Int)),some sv]/\aq H3 H'/\gC K H' sv (x0+((j+1:Nat):Rat),y0),fun Z' H' ⟨sv',h1,h2,h3⟩=>⟨_,lt,sv',j+1,h1,h2,h3,rfl,ci⟩,?_⟩;obtain ⟨sa,u1,u2,rfl,WC,hn1,Pq⟩:=h6;show ⟨_,rfl,sa,_,_,_,rfl,rfl,WC,ib,L2,?_⟩;intros p7 n7 H7 s7 e7;show ⟨u1,.ref p7,qr (x0+(j:Rat)),(1,1),24,1,rfl,hn1.gV s7,⟨p7,rfl,bZ.of e7⟩,agg zj,⟨cr,cr⟩,cr,fun p8 H8 s8 e8=>?_⟩;rw [adB,ej] at e8;show ⟨_,rfl,sa,_,_,_,rfl,rfl,Ty.aq.dI (s7.trans s8) WC,iD,L2,?_⟩;intros p9 n9 H9 s9 e9;let s69:=(s7.trans s8).trans s9;show ⟨.ref p9,rfl,(s4.trans s6).trans s69,xh e9 ((gS e8).gV s9) (Pq.gV s69)⟩
   ·let QG:(x0+(j:Rat),y0)∉pX.map (·.sp):=by simpa using cc
    exact OB _ _ ⟨sv,x0+(j:Rat),rfl,s4.trans s6,h6,⟨zj,(by have hj':((j:Int):Rat)<=((5:Int):Rat):=akl.mpr ci;let e1:((j:Int):Rat)=(j:Rat):=rfl;let e2:((5:Int):Rat)=5:=rfl;rw [e1,e2] at hj';grind)⟩,QG⟩
  rintro Z' H4 ⟨sv,x,rfl,s4,h4,⟨zx',xb'⟩,QG⟩;let s24:=s3.trans s4;let s04:=s2.trans s24;let e4:=s24 _ _ e2;let pp4:Paired (oP K H4 lp) us pX:=Paired.dc pp fun _ _ z=>z.gV s24;show ⟨_,rfl,.inl ⟨rfl,_,aK.of e4⟩,_,rfl,_,rfl,_,_,rfl,ci,ci,_,rfl,_,rfl,_,rfl,_,_,rfl,rfl,sA,ns,_,rfl,s04.seq hS,ci,ci,_,rfl,fun l8 us8 ws H8 wk s8 n8 e8 p8=>⟨L3,?_⟩⟩;intros p9 n9 H9 s9 e9;let s49:=s8.trans s9;let e49:=s49 _ _ e4;let pp9:Paired (oP K H9 lp) us pX:=Paired.dc pp4 fun _ _ z=>z.gV s49;show ⟨lp,_,_,rfl,rfl,e49,(by rw [lu];exact GG (show pX.length<=1000 by omega) cr),?_⟩;let zT:oP K H9 lp (.ref p9) ⟨nameOf (field c0 3001 4) (field c0 4001 6) (i:Int),(x,y0),ws⟩:=⟨p9,l8,sv,us8,rfl,bZ.of e9,h4.gV s49,s9 _ _ e8,p8.gV s9,fun z=>by erw [z,e4] at n8⟩;show ⟨_,_,_,pX++[⟨nameOf (field c0 3001 4) (field c0 4001 6) (i:Int),(x,y0),ws⟩],rfl,fun b o z=>?_,ag,lC (Paired.dc pp9 fun _ _ z=>z.upd e49) (zT.upd e49),gp.snoc (fun z=>?_) QG ⟨zx',zy.up cr⟩ wk,by simp [lpi],fun p hp=>?_⟩
  ·rw [ah (ak z G')]
   exact s49 _ _ (s04 _ _ z)
  ·obtain ⟨p,hp,ET⟩:=CI.mp z
   obtain ⟨j,hj,ej,_⟩:=nm p hp;let i3:=aL (c:=c0) (p:=3001) (m:=4) cr;let i4:=aL (c:=c0) (p:=4001) (m:=6) cr
   have:=zaK ⟨(field c0 3001 4).toNat,ci⟩ ⟨(field c0 4001 6).toNat,ci⟩ ⟨j,ci⟩ ⟨i,ci⟩ (fun z=>by
    have:=ph Fin.val z;simp at this
    omega)
   refine this ?_;show nameOf (((field c0 3001 4).toNat:Nat):Int) (((field c0 4001 6).toNat:Nat):Int) (j:Int)=nameOf (((field c0 3001 4).toNat:Nat):Int) (((field c0 4001 6).toNat:Nat):Int) (i:Int);rwa [show (((field c0 3001 4).toNat:Nat):Int)=field c0 3001 4 by omega,show (((field c0 4001 6).toNat:Nat):Int)=field c0 4001 6 by omega,<-ej]
  ·rcases FQ.mp hp with z|z
   ·obtain ⟨j,hj,ej,eb⟩:=nm p z
    show ⟨j,ci,ej,eb⟩
   ·rw [GZ.mp z]
    show ⟨i,ci,rfl,xb'⟩
 ·rintro Z H2 ⟨o5,o6,us,pX,rfl,s2,e2,pp,gp,lpi,nm⟩
  show ⟨_,rfl,q lp us pX H2 s2 G' e2 (Paired.dc pp fun _ _ z=>z.r) gp ci ci fun p hp=>?_⟩;obtain ⟨j,hj,ej,_⟩:=nm p hp;rw [ej];exact xi c0 ci
inductive yC (K:Frag)(vs:ζ)(H:Hp)(Q:VK)(E_:XK):Prop
|mk (sA pA:AO)(ns:ξ)(us:ζ)(pX:ς)(_:vs=[.ref sA,.ref pA])(_:aK K H sA (ns.map V.int))(_:H pA=some (.lst us))(_:us.length=pX.length)(_:(pX.map (·.nm)).Nodup)(_:pX.length<=6)(_:∀(l:AO)(iY :ζ)(ao:Η)(H':Hp),aq H H' ->H l=none->H' l=some (.lst iY)->Paired (m_ K H' pX) iY ao->uH pX ao->ao.length<=7->(∀b∈ao,1<=b.nm.length/\b.nm.length<=40)->Q (.ref l) H')
def uH.snoc (g:uH pX ao)(h1:b.nm∉ao.map (·.nm))(h2:b.one∈pX/\b.lG∈pX/\b.one.nm≠b.lG.nm):uH pX (ao++[b]):=by
 show ⟨?_,fun q hq=>?_⟩
 ·rw [MX,Vw]
  show ⟨g.nb,by simp,fun a ha c hc e=>h1 ?_⟩;have:c=b.nm:=by simpa using hc
  rwa [<-this,<-e]
 ·rcases FQ.mp hq with z|z
  ·exact g.ends q z
  ·rw [GZ.mp z]
   exact h2
def qS:av ["_law_script","_law_pins_here","_law_cell","_law_many","_law_bars_here","_law_k","_law_one","_law_step"] JH (ae N3):=sq
def agk (D:Def K mg "_law_bars" N3 JH)(aZ:mg "range"=none)(aX:mg "len"=none)(jV:ac P w K mg gw 1 "_law_cell_at" V1 (jT K))(cB:ac P w K mg gw 1 "_law_field" Q6 dN)(aa1:ac P w K mg gw 2 "_law_name" vw yy):
  ac P w K mg gw 3 "_law_bars" JH (yC K):=by
 refine D.oo qS fun H hr h=>?_;obtain ⟨sA,pA,ns,us,pX,rfl,hS,hp,lu,np,lp,q⟩:=h;let L3:3<=BZ:=cr
 show ⟨_,(aa (aA 2 qS.nd (aU jV hr (aF (pv 0) af))) (aa (aA 3 qS.nd (aU cB hr (bx (pv 2) af af))) (aa (bh (bg sk (aR aH rfl aX cA (aV (pv 1))) af) (aj (aA 3 qS.nd af)) aI) (aa (aA 4 qS.nd (bI iV)) (aa (a_ HM rfl (bV rfl aZ (aV (pv 3))) (b6 5 qS.nd) (aa (aA 6 qS.nd (aU cB hr (bx (aU jV hr (aF (pv 0) (aw bG af (pv 5)))) af (aR aH rfl aX cA (aV (pv 1)))))) (aa (aA 7 qS.nd (aw bG af (aU cB hr (bx (aU jV hr (aF (pv 0) (aw bG af (pv 5)))) af (aw cJ (aR aH rfl aX cA (aV (pv 1))) af))))) (aj (bP (sy Wg Zt Zo fT (pv 4) (aV (aJ (bx (aU aa1 hr (aF (pv 2) (pv 5))) (pv 6) (aw dS (aw bG (pv 6) (pv 7)) (aR aH rfl aX cA (aV (pv 1))))))))))))) (aj (aD (pv 4)))))))),?_⟩;try dsimp only [md,j6,Cx.wd,Cx.q_]
 show ⟨_,rfl,sA,ns,1,rfl,hS,cr,cr,?_⟩;generalize cell ns 1=c0;let i1:=aL (c:=c0) (p:=1009) (m:=8) cr;show ⟨_,rfl,_,_,_,rfl,cr,cr,cr,?_⟩;generalize field c0 1009 8=fi at i1 ⊢;obtain ⟨fn,rfl⟩:∃n:Nat,fi=(n:Int):=⟨fi.toNat,ci⟩;dsimp only;refine fM (fun Z' H'=>∃N:Nat,N<=7/\(0<N->2<=pX.length)/\Z' =[some (.ref sA),some (.ref pA),some (.int c0),some (.int (N:Int)),none,none,none,none]/\H'=H) (fun Nx OB=>?_) ?_
 ·show ⟨_,rfl,pA,_,rfl,.inl (aK.of hp),_,_,rfl,rfl,_,rfl,?_⟩
  refine bD (fun _=>?_) (fun c=>?_)
  ·exact OB _ _ ⟨0,ci,ci,rfl,rfl⟩
  ·let c':¬ (us.length:Int)<2:=fun z=>c (Ms z)
   exact OB _ _ ⟨fn,ci,fun _=>ci,rfl,rfl⟩
 rintro Z' Hy ⟨N,hN,hN2,rfl,rfl⟩;show ⟨z0L,?_⟩;intros lb nb H1 sb eb;show ⟨_,rfl,(N:Int),rfl,ci,ci,let I:ce:=fun i Z H'=>Ex5 fun (o5 o6 o7:ω) (iY :ζ) (ao:Η)=>Z=[ap sA,ap pA,some (.int c0),some (.int (N:Int)),ap lb,o5,o6,o7]/\aq Hy H'/\H' lb=some (.lst iY)/\Paired (m_ K H' pX) iY ao/\uH pX ao/\ao.length=i/\∀b∈ao,∃j,j<i/\b.nm=nameOf (field c0 3001 4) (field c0 4001 6) (j:Int);cq (lo:=0) (n:=N) I ⟨none,none,none,[],[],rfl,sb,eb,.nil,⟨by simp,by simp⟩,rfl,by simp⟩ ?_ ?_⟩
 ·rintro i Z H2 hi ⟨o5,o6,o7,iY,ao,rfl,s2,e2,pb,gb,lbi,nm⟩
  let ei:(0:Int)+(i:Int)=(i:Int):=Ow _;rw [ei];let n2:2<=pX.length:=hN2 ci;let lv:iY.length=ao.length:=HR pb;let sp:=aK.of (K:=K) (s2 _ _ hp);show ⟨_,rfl,_,rfl,_,_,rfl,rfl,sA,ns,_,rfl,s2.seq hS,ci,ci,_,rfl,pA,_,rfl,.inl sp,_,_,_,rfl,cr,cr,ci,?_⟩;let j1:=aL (c:=cell ns (7+(i:Int))) (p:=1009) (m:=(us.length:Int)) ci;let j2:=aL (c:=cell ns (7+(i:Int))) (p:=2003) (m:=(us.length:Int)-1) ci;show ⟨_,rfl,_,rfl,_,_,rfl,rfl,sA,ns,_,rfl,s2.seq hS,ci,ci,_,rfl,pA,_,rfl,.inl sp,_,_,rfl,rfl,_,_,_,rfl,cr,cr,ci,_,_,rfl,rfl,?_⟩;generalize field (cell ns (7+(i:Int))) 1009 (us.length:Int)=one at j1 ⊢;generalize field (cell ns (7+(i:Int))) 2003 ((us.length:Int)-1)=step at j2 ⊢;obtain ⟨on,rfl⟩:∃n:Nat,one=(n:Int):=⟨one.toNat,ci⟩
  let oo:∃m:Nat,((on:Int)+(1+step)).fmod (us.length:Int)=(m:Int)/\m<us.length/\m≠on:=by
   let f:=oN (x:=(on:Int)+(1+step)) (m:=(us.length:Int)) ci;show ⟨(((on:Int)+(1+step)).fmod (us.length:Int)).toNat,ci,ci,fun z=>?_⟩;let e:((on:Int)+(1+step)).fmod (us.length:Int)=(on:Int):=ci
   rw [Int.fmod_eq_emod_of_nonneg _ ci] at e;by_cases c:(on:Int)+(1+step)<(us.length:Int)
   ·rw [alw ci c] at e
    omega
   ·rw [<-Int.sub_emod_right,alw ci ci] at e
    omega
  obtain ⟨on2,e2',l2',ne2⟩:=oo;show ⟨_,rfl,.inl ⟨rfl,_,aK.of e2⟩,_,rfl,_,rfl,_,_,rfl,ci,ci,_,rfl,_,rfl,_,rfl,_,_,rfl,rfl,_,rfl,pA,_,rfl,.inl sp,_,_,rfl,rfl,nz ci,L3,?_⟩;intros p9 n9 H9 s9 e9;let e9:H9 p9=some (.tup [.str (nameOf (field c0 3001 4) (field c0 4001 6) (i:Int)),.int (on:Int),.int (((on:Int)+(1+step)).fmod (us.length:Int))]):=e9;rw [e2'] at e9;let e29:=s9 _ _ e2;show ⟨lb,_,_,rfl,rfl,e29,(by rw [lv];exact GG (show ao.length<=1000 by omega) cr),?_⟩;let l1:on<pX.length:=ci
  let l2:on2<pX.length:=ci
  let st:bf H9 (upd H9 lb (.lst (iY ++[.ref p9]))):=.list e29
  let ns9:∀(v:V)(b:bK),m_ K H2 pX v b->m_ K (upd H9 lb (.lst (iY ++[.ref p9]))) pX v b:=fun v b h=>by
   obtain ⟨a,i',j',e,h1,h2,h3⟩:=h.gV s9;show ⟨a,i',j',e,st.dI h1,h2,h3⟩
  show ⟨_,_,_,iY ++[.ref p9],ao++[⟨nameOf (field c0 3001 4) (field c0 4001 6) (i:Int),pX[on],pX[on2]⟩],rfl,fun b o z=>?_,ag,lC (Paired.dc pb fun _ _ z=>ns9 _ _ z) ?_,gb.snoc (fun z=>?_) ⟨Rk l1,Rk l2,fun z=>?_⟩,by simp [lbi],fun b hb=>?_⟩
  ·rw [ah (ak z nb)]
   exact s9 _ _ (s2 _ _ z)
  ·show ⟨p9,on,on2,rfl,st.dI (bZ.of e9),gE l1,gE l2⟩
  ·obtain ⟨b,hb,ET⟩:=CI.mp z
   obtain ⟨j,hj,ej⟩:=nm b hb;let i3:=aL (c:=c0) (p:=3001) (m:=4) cr;let i4:=aL (c:=c0) (p:=4001) (m:=6) cr
   have:=zaK ⟨(field c0 3001 4).toNat,ci⟩ ⟨(field c0 4001 6).toNat,ci⟩ ⟨j,ci⟩ ⟨i,ci⟩ (fun z=>by
    have:=ph Fin.val z;simp at this
    omega)
   refine this ?_;show nameOf (((field c0 3001 4).toNat:Nat):Int) (((field c0 4001 6).toNat:Nat):Int) (j:Int)=nameOf (((field c0 3001 4).toNat:Nat):Int) (((field c0 4001 6).toNat:Nat):Int) (i:Int);rwa [show (((field c0 3001 4).toNat:Nat):Int)=field c0 3001 4 by omega,show (((field c0 4001 6).toNat:Nat):Int)=field c0 4001 6 by omega,<-ej]
  ·let q1:(pX.map (·.nm))[on]?=some pX[on].nm:=by rw [BJ,gE l1];rfl
   let q2:(pX.map (·.nm))[on2]?=some pX[on].nm:=by rw [BJ,gE l2];exact ph some z.symm
   exact ne2 ((Wx (by rw [ir];omega) np).mp (q1.trans q2.symm)).symm
  ·rcases FQ.mp hb with z|z
   ·obtain ⟨j,hj,ej⟩:=nm b z
    show ⟨j,ci,ej⟩
   ·rw [GZ.mp z]
    show ⟨i,ci,rfl⟩
 ·rintro Z H2 ⟨o5,o6,o7,iY,ao,rfl,s2,e2,pb,gb,lbi,nm⟩
  show ⟨_,rfl,q lb iY ao H2 s2 nb e2 pb gb ci fun b hb=>?_⟩;obtain ⟨j,hj,ej⟩:=nm b hb;rw [ej];exact xi c0 ci
def alO (v:V):Q3 ("ways":Str) [(("way":Str),v)]=none:=by
 let h:(("ways":Str)=="way")=false:=by decide+kernel
 simp [Q3,h]
inductive uI (K:Frag)(C:AO)(vs:ζ)(H:Hp)(Q:VK)(E_:XK):Prop
|mk (pA bA:AO)(us iY :ζ)(pX:ς)(ao:Η)(_:vs=[.ref pA,.ref bA])(_:H pA=some (.lst us))(_:Paired (oQ K H) us pX)(_:H bA=some (.lst iY))(_:Paired (m_ K H pX) iY ao)(_:mF pX)(_:uH pX ao)(_:pX.length<=9)(_:ao.length<=14)(_:∀(a:AO)(H':Hp),aq H H' ->x6 K H' C a pX ao->Q (.ref a) H')
def qT:av ["_law_pins_here","_law_bars_here","_law_frame_here","_law_name_here","_law_spot_here","_law_ways_here","_law_one","_law_other"] BI (ae N4):=sq
def agl {C CR CF fI fR:AO}(D:Def K mg "_law_frame" N4 BI)(aX:mg "len"=none)(aa3:Mk K C fI)(aa4:mg "Frame"=some (.ref C))(an8:ad P w K mg gw 1 fI fdI MA (yi K C))(aa5:Binds K fdI MA [])
  (aa6:mg "Roller"=some (.ref CR)) (aa7:mg "Fixed"=some (.ref CF)) (aa8:Mk0 K CF) (aa9:Mk K CR fR) (an9:ad P w K mg gw 1 fR fdR vt (yj K CR)) (aa':Binds K fdR vt [])
  (wR:am P w K mg gw 2 CR "ways" MA (oF K CR)) (wF:am P w K mg gw 2 CF "ways" MA (oG K))
  (MPb:am P w K mg gw 3 C "put_bar" VZ (oH K C)) (MPp:am P w K mg gw 3 C "put_pin" DL (gh P w K mg gw C)) (MPd:F_ P w K mg gw (aS P w) 3 C "put_pin" DL [.none] (gh P w K mg gw C)):
  ac P w K mg gw 4 "_law_frame" BI (uI K C):=by
 refine D.op qT fun f bE A outer s H vs Q E hr h=>?_;obtain ⟨pA,bA,us,iY,pX,ao,rfl,hp,pp,hb,pb,gp,gb,lp6,lb8,q⟩:=h;let lu:us.length=pX.length:=HR pp
 show ⟨_,(aa (aA 2 qT.nd (zam aa3 an8 hr.mo rfl aa4 aa5 .nil (pY P w))) (aa (a_ HM rfl (a9 (pv 0)) (iU rfl (bu (b6 3 qT.nd) (bu (b6 4 qT.nd) (bu (b6 5 qT.nd) e_)))) (aa (bh (bg cY (aR aH rfl aX cA (aV (pv 5))) af) (aj (bP (adw (k:=3) (pv 2) hr.mo (pY P w) (bx (pv 3) (aG (pv 4)) (aG (pv 4)))))) aI) (aa (bh (bg cY (aR aH rfl aX cA (aV (pv 5))) af) (aj (bP (fE (k:=3) (pv 2) hr.mo (pY P w) (rR (pv 3) (bx (aG (pv 4)) (aG (pv 4)) (ah8 aa9 an9 hr.mo rfl aa6 aa' .nil (pY P w) (aF (aG (iM (pv 5))) (aG (iM (pv 5)))))))))) aI) (aj (bh (bg cY (aR aH rfl aX cA (aV (pv 5))) af) (aj (bP (fE (k:=3) (pv 2) hr.mo (pY P w) (rR (pv 3) (bx (aG (pv 4)) (aG (pv 4)) (aiL aa8 rfl aa7)))))) aI))))) (aa (a_ HM rfl (a9 (pv 1)) (iU rfl (bu (b6 3 qT.nd) (bu (b6 6 qT.nd) (bu (b6 7 qT.nd) e_)))) (aj (bP (fE (k:=3) (pv 2) hr.mo (pY P w) (bx (pv 3) (aG (bL aQ (pv 0) (pv 6))) (aG (bL aQ (pv 0) (pv 7)))))))) (aj (aD (pv 2)))))),?_⟩;sleep 3
 intro a dx na ndx nad;let sF:aq H (upd (upd H dx (.own a)) a (.ins C dx [])):=fun b o e=>by rwa [ah (ak e na),ah (ak e ndx)]
 show ⟨a,dx,rfl,ag,fun pP pW pB H1 k1 nP nW nB R1=>⟨rfl,?_⟩⟩;let s1:aq H H1:=fun b o e=>k1 b o (ak e na) (sF _ _ e);let nP:=qe sF nP;let nW:=qe sF nW;let nB:=qe sF nB
 show ⟨_,rfl,pA,rfl,⟨_,aK.of (s1 _ _ hp)⟩,let I:ce:=fun i Z H'=>Ex5 fun (o4 o5 o6:ω) (kP kW:γ)=>Z=[ap pA,ap bA,ap a,o4,o5,o6,none,none]/\aq H H'/\gZ K H' C a dx pP pW pB ((pX.take i).map fun p=>(p.nm,BV p.sp)) [] kP kW []/\EV K H' ((pX.take i).map fun p=>(p.nm,p.ws)) kW;bM (K:=K) (a:=pA) (xs:=us) I ⟨none,none,none,[],[],rfl,s1,R1,.nil⟩ (fun i Z H' _ h=>by
   obtain ⟨_,_,_,_,_,_,s,_⟩:=h
   exact aK.of (s _ _ hp)) ?_ ?_⟩
 ·rintro i u Z H2 hu ⟨o4,o5,o6,kP,kW,rfl,s2,R2,W2⟩
  obtain ⟨p,ep,WE⟩:=aE pp hu;let mp:p∈pX:=DA ep;obtain ⟨ta,l,sv,ws,rfl,h1,h2,h3,h4⟩:=WE.gV s2;obtain ⟨sa,x1,y1,rfl,WC,hn1,Pq⟩:=h2;show ⟨ta,_,rfl,h1,rfl,_,_,rfl,_,_,rfl,_,_,rfl,rfl,?_⟩;let tk:=take_snoc ep;let il:i<pX.length:=(Wp.mp ep).1;let nlP:l≠pP:=fun z=>by erw [z,R2.pl] at h3
  let nlW:l≠pW:=fun z=>by erw [z,R2.wy] at h3
  let fin:∀(hv:V)(H5:Hp)(Q5:VK)(E5:XK),aq H2 H5->YB P w K mg gw H5 hv p.ws->
    (∀H' Sl BS,aq H H' ->H' l=some (.lst ws)->gZ K H' C a dx pP pW pB ((pX.take (i+1)).map fun p=>(p.nm,BV p.sp)) [] Sl BS []->EV K H' ((pX.take (i+1)).map fun p=>(p.nm,p.ws)) BS ->Q5 .cO H')->gh P w K mg gw C [.ref a,.str p.nm,x1,y1,hv] H5 Q5 E5:=fun hv H5 Q5 E5 s5 hY fin=>by
   show ⟨a,dx,pP,pW,pB,_,_,kP,kW,_,_,p.nm,x1,y1,hv,BV p.sp,p.ws,rfl,R2.gV s5,W2.gV s5,by rw [MI,MI];rfl,hn1.gV s5,Pq.gV s5,fun z=>?_,fun z hz e=>?_,?_,hY,fun H' Sl BS k' R' W'=>?_⟩
   ·rw [MI] at z
    obtain ⟨p',w_,e'⟩:=CI.mp z;exact kJ (nm:=aY.nm) gp.np ep w_ e'
   ·obtain ⟨p',w_,e'⟩:=CI.mp hz
    rw [<-e'] at e;let e1:=ph anp e;let e2:=ph anq e;let e3:p'.sp=p.sp:=ZG (mS e1) (mS e2);obtain ⟨j,hj,ej⟩:=Vy.mp w_;rw [KR] at ej;rw [HQ] at hj;let q1:(pX.map (·.sp))[j]?=some p.sp:=by rw [BJ,gE ci,ej,<-e3];rfl
    let q2:(pX.map (·.sp))[i]?=some p.sp:=by rw [BJ,ep];rfl
    have:=(Wx (by rw [ir];omega) gp.ns).mp (q1.trans q2.symm);omega
   ·rw [ir,HQ]
    omega
   ·refine fin H' Sl BS (fun b o z=>k' b o (ak z nP) (ak z nW) (s5 _ _ (s2 _ _ z))) (k' _ _ nlP nlW (s5 _ _ h3)) ?_ ?_
    ·rw [tk,MX]
     exact R'
    ·rw [tk,MX]
     exact W'
  let l2:=aK.of (K:=K) h3;let lw:ws.length=p.ws.length:=HR h4;show ⟨_,rfl,l,_,rfl,.inl l2,rfl,_,rfl,?_⟩
  rcases gp.ws p mp with hw|⟨wx,wy,hw,wn,_,_⟩|hw
  ·rw [hw] at lw
   refine bD (fun _=>?_) (fun c=>by rw [lw] at c;simp at c);show ⟨_,rfl,a,C,dx,_,_,_,rfl,R2.obj,rfl,MPd,_,rfl,_,rfl,sa,_,_,_,rfl,rfl,WC,ib,_,rfl,sa,_,_,_,rfl,rfl,WC,iD,?_⟩;dsimp only [mM];refine fin .cO H2 _ _ (aq.refl _) (.inl ⟨rfl,hw⟩) fun H' Sl BS s' l' R' W'=>?_;let l':=aK.of (K:=K) l';show ⟨_,rfl,l,_,rfl,.inl l',rfl,_,rfl,bD (fun c=>by rw [lw] at c;simp at c) (fun _=>?_)⟩;show ⟨_,rfl,l,_,rfl,.inl l',rfl,_,rfl,bD (fun c=>by rw [lw] at c;simp at c) (fun _=>?_)⟩;show ⟨_,_,_,Sl,BS,rfl,s',R',W'⟩
  ·rw [hw] at lw h4
   obtain ⟨w0,rfl⟩:=List.length_eq_one_iff.mp lw
   let hw0:gC K H2 w0 (wx,wy):=by
    cases h4 with
    | cons h _=>exact h
   obtain ⟨wa,y2,y3,rfl,Px,hm1,hm2⟩:=hw0;refine bD (fun c=>by simp at c) (fun _=>?_);show ⟨_,rfl,l,_,rfl,.inl l2,rfl,_,rfl,bD (fun _=>?_) (fun c=>CH rfl c)⟩;show ⟨_,rfl,a,C,dx,_,_,_,rfl,R2.obj,rfl,MPp,_,rfl,_,rfl,sa,_,_,_,rfl,rfl,WC,ib,_,rfl,sa,_,_,_,rfl,rfl,WC,iD,_,rfl,l,_,_,_,rfl,rfl,l2,rfl,wa,_,_,_,rfl,rfl,Px,ib,_,rfl,l,_,_,_,rfl,rfl,l2,rfl,wa,_,_,_,rfl,rfl,Px,iD,?_⟩;intro kz d1 nh1 nd1 ne1;let s4:aq H2 (upd (upd H2 d1 (.own kz)) kz (.ins CR d1 [])):=fun b o e=>by rwa [ah (ak e nh1),ah (ak e nd1)]
   let e4:(upd (upd H2 d1 (.own kz)) kz (.ins CR d1 [])) kz =some (.ins CR d1 []):=ag;generalize upd (upd H2 d1 (.own kz)) kz (.ins CR d1 [])=H4 at s4 e4 ⊢;show ⟨kz,d1,y2,y3,wx,wy,rfl,e4,hm1.gV s4,hm2.gV s4,wn,fun p5 n5=>⟨rfl,?_⟩⟩;let JQ:p5≠kz :=fun z=>by erw [z,e4] at n5
   let s5:aq H2 (upd (upd H4 p5 (.tup [y2,y3])) kz (.ins CR d1 [("way",.ref p5)])):=fun b o e=>by
    let z:b≠kz :=fun z=>by erw [z,nh1] at e
    rw [ah z];exact aC n5 _ _ _ (s4 _ _ e)
   let e5:(upd (upd H4 p5 (.tup [y2,y3])) kz (.ins CR d1 [("way",.ref p5)])) kz =some (.ins CR d1 [("way",.ref p5)]):=ag;let t5:(upd (upd H4 p5 (.tup [y2,y3])) kz (.ins CR d1 [("way",.ref p5)])) p5=some (.tup [y2,y3]):=by rw [ah JQ,ag]
   generalize upd (upd H4 p5 (.tup [y2,y3])) kz (.ins CR d1 [("way",.ref p5)])=H5 at s5 e5 t5 ⊢;let aoc:gC K H5 (.ref p5) (wx,wy):=xh t5 (hm1.gV s5) (hm2.gV s5);dsimp only [mM];refine fin (.ref kz) H5 _ _ s5 (.inr ⟨kz,CR,d1,_,MA,oF K CR,rfl,e5,alO _,wR,fun H6 e6 t6 Q' an=>⟨kz,d1,p5,(wx,wy),rfl,e6,aoc.aT t6,by rwa [hw] at an⟩⟩) fun H' Sl BS s' l' R' W'=>?_;show ⟨_,rfl,l,_,rfl,.inl (aK.of (K:=K) l'),rfl,_,rfl,bD (fun c=>by simp at c) (fun _=>?_)⟩;show ⟨_,_,_,Sl,BS,rfl,s',R',W'⟩
  ·rw [hw] at lw
   refine bD (fun c=>by rw [lw] at c;simp at c) (fun _=>?_);show ⟨_,rfl,l,_,rfl,.inl l2,rfl,_,rfl,bD (fun c=>by rw [lw] at c;simp at c) (fun _=>?_)⟩;show ⟨_,rfl,l,_,rfl,.inl l2,rfl,_,rfl,bD (fun _=>?_) (fun c=>by rw [lw] at c;simp at c)⟩;show ⟨_,rfl,a,C,dx,_,_,_,rfl,R2.obj,rfl,MPp,_,rfl,_,rfl,sa,_,_,_,rfl,rfl,WC,ib,_,rfl,sa,_,_,_,rfl,rfl,WC,iD,?_⟩;intro kz d1 nh1 nd1 ne1;let s4:aq H2 (upd (upd H2 d1 (.own kz)) kz (.ins CF d1 [])):=fun b o e=>by rwa [ah (ak e nh1),ah (ak e nd1)]
   let e4:(upd (upd H2 d1 (.own kz)) kz (.ins CF d1 [])) kz =some (.ins CF d1 []):=ag;generalize upd (upd H2 d1 (.own kz)) kz (.ins CF d1 [])=H4 at s4 e4 ⊢;dsimp only [mM];refine fin (.ref kz) H4 _ _ s4 (.inr ⟨kz,CF,d1,_,MA,oG K,rfl,e4,rfl,wF,fun H6 _ _ Q' an=>⟨kz,rfl,by rwa [hw] at an⟩⟩) fun H' Sl BS s' l' R' W'=>?_;show ⟨_,_,_,Sl,BS,rfl,s',R',W'⟩
 ·rintro Z H2 ⟨o4,o5,o6,kP,kW,rfl,s2,R2,W2⟩
  rw [lu,Nq] at R2 W2;let lv:iY.length=ao.length:=HR pb
  show ⟨_,rfl,bA,rfl,⟨_,aK.of (s2 _ _ hb)⟩,let I:ce:=fun i Z H'=>Nw fun (o3 o7 o8:ω) (kB:γ)=>Z=[ap pA,ap bA,ap a,o3,o5,o6,o7,o8]/\aq H H'/\gZ K H' C a dx pP pW pB (pX.map fun p=>(p.nm,BV p.sp)) ((ao.take i).map fun b=>(b.nm,b.one.nm,b.lG.nm)) kP kW kB/\EV K H' (pX.map fun p=>(p.nm,p.ws)) kW;bM (K:=K) (a:=bA) (xs:=iY) I ⟨_,none,none,[],rfl,s2,R2,W2⟩ (fun i Z H' _ h=>by
    obtain ⟨_,_,_,_,_,s,_⟩:=h
    exact aK.of (s _ _ hb)) ?_ ?_⟩
  ·rintro i u Z H3 hu ⟨o3,o7,o8,kB,rfl,s3,R3,W3⟩
   obtain ⟨b,ebr,LU⟩:=aE pb hu;let mb:b∈ao:=DA ebr;obtain ⟨ta,i1,j1,rfl,h1,g1,g2⟩:=LU.gV s3;obtain ⟨m1,m2,m3⟩:=gb.ends b mb;let tk:=take_snoc ebr;let il:i<ao.length:=(Wp.mp ebr).1
   have agm :∀(k:Nat)(p:aY),pX[k]?=some p->∃(c la:AO)(sv:V),jc us (k:Int)=some (.ref c)/\bZ K H3 c [.str p.nm,sv,.ref la]:=fun k p ek=>by
    obtain ⟨u',eu',hu'⟩:=aE (gB pp) ek;obtain ⟨c,la,sv,ws,rfl,q1,_⟩:=oQ.gV hu' s3;show ⟨c,la,sv,bF eu',q1⟩
   obtain ⟨c1,la1,sv1,ea1,q1⟩:=agm _ _ g1;obtain ⟨c2,la2,sv2,ea2,q2⟩:=agm _ _ g2;show ⟨ta,_,rfl,h1,rfl,_,_,rfl,_,_,rfl,_,_,rfl,rfl,?_⟩;let lp3:=aK.of (K:=K) (s3 _ _ hp);show ⟨_,rfl,a,C,dx,_,_,_,rfl,R3.obj,rfl,MPb,_,rfl,_,rfl,_,rfl,pA,_,_,_,rfl,rfl,lp3,ea1,c1,_,_,_,rfl,rfl,q1,rfl,_,rfl,_,rfl,pA,_,_,_,rfl,rfl,lp3,ea2,c2,_,_,_,rfl,rfl,q2,rfl,?_⟩;show ⟨a,dx,pP,pW,pB,_,_,kP,kW,kB,b.nm,b.one.nm,b.lG.nm,rfl,R3,fun z=>?_,?_,?_,m3,?_,fun H' kB' k' R'=>?_⟩
   ·rw [MI] at z
    obtain ⟨b',fw,e'⟩:=CI.mp z;exact kJ (nm:=bK.nm) gb.nb ebr fw e'
   ·rw [MI]
    exact CI.mpr ⟨_,m1,rfl⟩
   ·rw [MI]
    exact CI.mpr ⟨_,m2,rfl⟩
   ·rw [ir,HQ]
    omega
   ·show ⟨_,_,_,kB',rfl,fun c o z=>k' c o (ak z nB) (s3 _ _ z),?_,?_⟩
    ·rw [tk,MX]
     exact R'
    ·refine Paired.dc W3 fun p' kv z=>⟨z.1,?_⟩
     obtain ⟨l',pF,z1,z2,z3⟩:=z.2;show ⟨l',pF,z1,k' _ _ (fun z=>by erw [z,R3.br] at z2) z2,z3.aT fun c xs r=>?_⟩
     rcases r with r|⟨o',r⟩
     ·exact .inl (k' _ _ (fun e=>by erw [e,R3.br] at r) r)
     ·exact .inr ⟨o',k' _ _ (fun e=>by erw [e,R3.br] at r) r⟩
  ·rintro Z H3 ⟨o3,o7,o8,kB,rfl,s3,R3,W3⟩
   rw [lv,Nq] at R3;show ⟨_,rfl,q a H3 s3 ⟨dx,pP,pW,pB,kP,kW,kB,R3,W3⟩⟩
def ax (k:Int)(p:Rat×Rat):Rat:=if k=0 then p.1 else p.2
def S4 (hk:k=0\/k=1)(h:gC K H v p):∃(a:AO)(xs:ζ)(u:V),v=.ref a/\bZ K H a xs/\jc xs k=some u/\fe K H u (ax k p):=by
 obtain ⟨a,u1,u2,rfl,hq,h1,h2⟩:=h
 rcases hk with rfl|rfl
 ·show ⟨a,_,u1,rfl,hq,rfl,h1⟩
 ·show ⟨a,_,u2,rfl,hq,rfl,h2⟩
def S5 (h:Sz n p.1/\Sz n p.2):Sz n (ax k p):=by
 unfold ax;split
 ·exact h.1
 ·exact h.2
def S6 {us:ζ}{pX:ς}{k:Nat}(pp:Paired (oQ K H) us pX)(e:pX[k]?=some p):∃(c la:AO)(sv:V),jc us (k:Int)=some (.ref c)/\bZ K H c [.str p.nm,sv,.ref la]/\gC K H sv p.sp:=by
 obtain ⟨u',eu',hu'⟩:=aE (gB pp) e;obtain ⟨c,la,sv,ws,rfl,q1,q2,_⟩:oQ K H u' p:=hu';show ⟨c,la,sv,bF eu',q1,q2⟩
inductive HY (K:Frag)(vs:ζ)(H:Hp)(Q:VK)(E_:XK):Prop
|mk (pA:AO)(us:ζ)(pX:ς)(u:V)(b:bK)(k:Int)(_:vs=[.ref pA,u,.int k])(_:H pA=some (.lst us))(_:Paired (oQ K H) us pX)(_:mF pX)(_:m_ K H pX u b)(_:(k=0\/k=1))(_:∀(v:V)(H':Hp),aq H H' ->qR K H' v 49 (ax k b.lG.sp-ax k b.one.sp)->Q v H')
def agn:av ve ve (ae N5):=sq
def ago (D:Def K mg "_law_arm" N5 ve)(S3:ac P w K mg gw 1 "_law_sum" SH (gi K m6))(aba:ac P w K mg gw 1 "_law_turned" Vb (jU K)):
  ac P w K mg gw 2 "_law_arm" ve (HY K):=by
 refine D.oo agn fun H hr h=>?_;obtain ⟨pA,us,pX,u,b,k,rfl,hp,pp,gp,⟨ta,i,j,rfl,hb,e1,e2⟩,hk,q⟩:=h;show ⟨_,(aj (aD (aU S3 hr (aF (bL sr (aG (bL aQ (pv 0) (aG (pv 1)))) (pv 2)) (aU aba hr (aV (bL sr (aG (bL aQ (pv 0) (aG (pv 1)))) (pv 2)))))))),?_⟩;obtain ⟨c1,l1,sv1,ea1,q1,r1⟩:=S6 pp e1;obtain ⟨c2,l2,sv2,ea2,q2,r2⟩:=S6 pp e2;obtain ⟨a1,xs1,u1,rfl,t1,v1,n1⟩:=S4 hk r1;obtain ⟨a2,xs2,u2,rfl,t2,v2,n2⟩:=S4 hk r2;let z1:=S5 (k:=k) (gp.sz _ (DA e1));let z2:=S5 (k:=k) (gp.sz _ (DA e2));let lp:=aK.of (K:=K) hp;show ⟨_,rfl,_,rfl,ta,_,_,_,rfl,rfl,hb,rfl,pA,_,_,_,rfl,rfl,lp,ea2,c2,_,_,_,rfl,rfl,q2,rfl,_,rfl,a2,_,_,_,rfl,rfl,t2,v2,_,rfl,_,rfl,ta,_,_,_,rfl,rfl,hb,rfl,pA,_,_,_,rfl,rfl,lp,ea1,c1,_,_,_,rfl,rfl,q1,rfl,_,rfl,a1,_,_,_,rfl,rfl,t1,v1,?_⟩;dsimp only [mM];show jU K [_] _ _ E0;refine zaM (uF n1 (CW z1 (DH _))) fun p3 H3 s3 n3=>?_;show gi K m6 [_,_] _ _ E0;refine akD ((uF n2 (CW z2 (DH _))).gV s3) n3 cr fun p4 H4 s4 n4=>?_;refine q (.ref p4) H4 (s3.trans s4) ?_;rwa [Rat.sub_eq_add_neg]
structure Found (K:Frag)(H:Hp)(fA:AO)(ls:υ)(B:Nat):Prop where
 hf:H fA=some (.lst (ls.map V.ref))
 nd:ls.Nodup
 nf:fA∉ls
 row:∀l∈ls,∃v1 v2 r1 r2,H l=some (.lst [v1,v2])/\qR K H v1 B r1/\qR K H v2 B r2
def KL (ls:υ)(H H':Hp):Prop:=∀b o,b∉ls->H b=some o->H' b=some o
theorem Found.gV (h:Found K H fA ls B)(s:aq H H'):Found K H' fA ls B:=⟨s _ _ h.hf,h.nd,h.nf,fun l e=>by
 obtain ⟨v1,v2,r1,r2,a,b,c⟩:=h.row l e
 show ⟨v1,v2,r1,r2,s _ _ a,b.gV s,c.gV s⟩⟩
theorem Found.up (h:Found K H fA ls B)(l:B<=B'):Found K H fA ls B':=⟨h.hf,h.nd,h.nf,fun x e=>by
 obtain ⟨v1,v2,r1,r2,a,b,c⟩:=h.row x e
 show ⟨v1,v2,r1,r2,a,b.up l,c.up l⟩⟩
def Found.aT (h:Found K H fA ls B)(k:KL ls H H'):bf H H':=fun b xs r=>by
 let key:∀o,H b=some o->(∀ys,o≠.lst ys)->H' b=some o:=fun o e n=>k b o (fun m=>by
  obtain ⟨v1,v2,_,_,a,_⟩:=h.row b m;rw [a] at e
  exact n _ (MY e).symm) e
 rcases r with r|⟨o',r⟩
 ·exact .inl (key _ r fun ys z=>nomatch z)
 ·exact .inr ⟨o',key _ r fun ys z=>nomatch z⟩
inductive HZ (K:Frag)(vs:ζ)(H:Hp)(Q:VK)(E_:XK):Prop
|mk (fA:AO)(ls:υ)(B:Nat)(k:Nat)(a:Int)(v:V)(m:Nat)(d:Rat)(_:vs=[.ref fA,.int (k:Int),.int a,v])(_:Found K H fA ls B)(_:k<ls.length)(_:(a=0\/a=1))(_:qR K H v m d)(_:B+m<=130000000)(_:∀(H':Hp),KL ls H H' ->Found K H' fA ls (B+m+1)->Q .cO H')
def agp:av vf vf (ae N6):=sq
def agq (D:Def K mg "_law_add" N6 vf)(S3:ac P w K mg gw 1 "_law_sum" SH (gi K m6)):
  ac P w K mg gw 2 "_law_add" vf (HZ K):=by
 refine D.oo agp fun H hr h=>?_;obtain ⟨fA,ls,B,k,a,v,m,d,rfl,hF,hk,ha,nv,le,q⟩:=h;show ⟨_,(aj (FF (aU S3 hr (aF (bL aQ (bL aQ (pv 0) (pv 1)) (pv 2)) (pv 3))) (FD (bL aQ (pv 0) (pv 1)) (pv 2) set_list))),?_⟩;obtain ⟨l,el⟩:∃l,ls[k]?=some l:=⟨_,gE hk⟩;let ek:jc (ls.map V.ref) (k:Int)=some (.ref l):=bF (by rw [BJ,el];rfl);let lm:l∈ls:=DA el;obtain ⟨v1,v2,r1,r2,hl,n1,n2⟩:=hF.row l lm;let lf:l≠fA:=fun z=>hF.nf (z▸lm)
 obtain ⟨u,r0,ea,nu⟩:∃u r0,jc [v1,v2] a=some u/\qR K H u B r0:=by
  rcases ha with rfl|rfl
  ·show ⟨v1,r1,rfl,n1⟩
  ·show ⟨v2,r2,rfl,n2⟩
 show ⟨_,rfl,_,rfl,fA,_,_,_,rfl,rfl,aK.of hF.hf,ek,_,rfl,l,_,_,_,rfl,rfl,aK.of hl,ea,_,rfl,?_⟩;dsimp only [mM];show gi K m6 [_,_] _ _ E0;refine akD nu nv le fun p3 H3 s3 n3=>?_
 obtain ⟨j,ej,hj⟩:∃j,Pu [v1,v2].length a=some j/\((a=0/\j=0)\/(a=1/\j=1)):=by
  rcases ha with rfl|rfl
  ·show ⟨0,rfl,.inl ⟨rfl,rfl⟩⟩
  ·show ⟨1,rfl,.inr ⟨rfl,rfl⟩⟩
 show ⟨_,rfl,_,rfl,fA,_,_,_,rfl,rfl,aK.of (s3 _ _ hF.hf),ek,_,rfl,l,_,_,j,rfl,rfl,s3 _ _ hl,ej,?_⟩;let F3:=hF.gV s3
 let kl:KL ls H (upd H3 l (.lst ([v1,v2].set j (.ref p3)))):=fun b o nb e=>by
  rw [ah (fun z=>nb (by rwa [z]))];exact s3 _ _ e
 let k3:KL ls H3 (upd H3 l (.lst ([v1,v2].set j (.ref p3)))):=fun b o nb e=>by
  rw [ah (fun z=>nb (by rwa [z]))];exact e
 let st:=F3.aT k3;refine q _ kl ⟨?_,hF.nd,hF.nf,fun l' e=>?_⟩
 ·rw [ah (FN lf)]
  exact F3.hf
 ·by_cases c:l'=l
  ·subst c
   let n1':=((n1.gV s3).aT st).up (show B<=B+m+1 by omega);let n2':=((n2.gV s3).aT st).up (show B<=B+m+1 by omega)
   rcases hj with ⟨_,rfl⟩|⟨_,rfl⟩
   ·show ⟨.ref p3,v2,_,_,ag,n3.aT st,n2'⟩
   ·show ⟨v1,.ref p3,_,_,ag,n1',n3.aT st⟩
  ·obtain ⟨w1,w2,t1,t2,g1,g2,g3⟩:=F3.row l' e
   show ⟨w1,w2,t1,t2,by rwa [ah c],(g2.aT st).up ci,(g3.aT st).up ci⟩
def dC {ys:ζ}:jc (x::ys) 0=some x:=bF (xs:=x::ys) (j:=0) rfl
structure LFr (K:Frag)(H:Hp)(pA bA:AO)(us vs:ζ)(pX:ς)(ao:Η):Prop where
 hp:H pA=some (.lst us)
 pp:Paired (oQ K H) us pX
 gp:mF pX
 hb:H bA=some (.lst vs)
 pb:Paired (m_ K H pX) vs ao
 en:∀b∈ao,b.one.nm≠b.lG.nm
 lp:pX.length<=9
 lb:ao.length<=14
theorem LFr.gV (h:LFr K H pA bA us vs pX ao)(s:aq H H'):LFr K H' pA bA us vs pX ao:=⟨s _ _ h.hp,Paired.dc h.pp fun _ _ z=>z.gV s,h.gp,s _ _ h.hb,Paired.dc h.pb fun _ _ z=>z.gV s,h.en,h.lp,h.lb⟩
structure LFo (K:Frag)(H:Hp)(tA uA:AO)(kT kU:γ)(pX:ς)(ao:Η)(T:Str->Rat)(U:Str->List Rat)(N:Nat):Prop where
 ht:H tA=some (.dK kT)
 pt:∀b∈ao,∃v,bB kT (.inr b.nm)=some v/\qR K H v N (T b.nm)
 hu:H uA=some (.dK kU)
 pu:∀p∈pX,∃la ys,bB kU (.inr p.nm)=some (.ref la)/\H la=some (.lst ys)/\Paired (fun v r=>qR K H v N r) ys (U p.nm)
 lU:∀p∈pX,(U p.nm).length=p.ws.length
 hN:N<=1000000
def KL.gV (hn:∀l∈ls,H l=none)(s:aq H H6)(k:KL ls H6 H7):aq H H7:=fun b o e=>k b o (fun m=>by erw [hn b m] at e) (s b o e)
inductive uJ (K:Frag)(vs:ζ)(H:Hp)(Q:VK)(E_:XK):Prop
|mk (pA bA tA uA:AO)(us ws:ζ)(kT kU:γ)(pX:ς)(ao:Η)(T:Str->Rat)(U:Str->List Rat)(N:Nat)(_:vs=[.ref pA,.ref bA,.ref tA,.ref uA])(_:LFr K H pA bA us ws pX ao)(_:LFo K H tA uA kT kU pX ao T U N)(_:∀(fA:AO)(ls:υ)(H':Hp),aq H H' ->ls.length=pX.length->Found K H' fA ls (1+ao.length*(4*(N+51))+pX.length*(4*(N+51)))->Q (.ref fA) H')
def qU:av ["_law_pins_here","_law_bars_here","_law_pulls_here","_law_pushes_here","_law_found","_law_bar","_law_axis","_law_draw","_law_k","_law_j"] V_ (ae N7):=sq
def agr (D:Def K mg "_law_forces" N7 V_)(aX:mg "len"=none)(aZ:mg "range"=none)(ags:ac P w K mg gw 1 "_law_times" SH (gi K vA))(aba:ac P w K mg gw 1 "_law_turned" Vb (jU K))(aog:ac P w K mg gw 2 "_law_arm" ve (HY K))(abb:ac P w K mg gw 2 "_law_add" vf (HZ K)):
  ac P w K mg gw 3 "_law_forces" V_ (uJ K):=by
 refine D.oo qU fun H hr h=>?_;obtain ⟨pA,bA,tA,uA,us,ws,kT,kU,pX,ao,T,U,N,rfl,fr,fo,q⟩:=h;let L2:2<=BZ:=cr
 let hN:=fo.hN;let lp:=fr.lp;let lb:=fr.lb;let lu:us.length=pX.length:=HR fr.pp;let lw:ws.length=ao.length:=HR fr.pb
 show ⟨_,(aa (qf (i:=4) (tn:=["_law_pin"]) (fr:=[]) (oV:=[]) qU.nd (a9 (pv 0)) (bI (aF (aJ (aF af af)) (aJ (aF af af))))) (aa (a_ HM rfl (a9 (pv 1)) (b6 5 qU.nd) (aj (a_ HM rfl (bV rfl aZ (aV af)) (b6 6 qU.nd) (aa (aA 7 qU.nd (aU ags hr (aF (iG (bU hr) (pv 2) (aG (pv 5)) (fun _ _=>rfl)) (aU aog hr (bx (pv 0) (pv 5) (pv 6)))))) (aa (bP (aU abb hr (rR (pv 4) (bx (aG (pv 5)) (pv 6) (pv 7))))) (aj (bP (aU abb hr (rR (pv 4) (bx (aG (pv 5)) (pv 6) (aU aba hr (aV (pv 7))))))))))))) (aa (a_ HM rfl (bV rfl aZ (aV (aR aH rfl aX cA (aV (pv 0))))) (b6 8 qU.nd) (aj (a_ HM rfl (bV rfl aZ (aV (aR aH rfl aX cA (aV (aG (bL aQ (pv 0) (pv 8))))))) (b6 9 qU.nd) (aj (a_ HM rfl (bV rfl aZ (aV af)) (b6 6 qU.nd) (aj (bP (aU abb hr (rR (pv 4) (bx (pv 8) (pv 6) (aU ags hr (aF (bL aQ (iG (bU hr) (pv 3) (aG (bL aQ (pv 0) (pv 8))) (fun _ _=>rfl)) (pv 9)) (bL sr (bL aQ (aG (bL aQ (pv 0) (pv 8))) (pv 9)) (pv 6)))))))))))))) (aj (aD (pv 4)))))),?_⟩;sleep 3
 show ⟨_,rfl,pA,rfl,⟨_,aK.of fr.hp⟩,fun fA n1=>?_⟩;refine tX (oY:=[]) (K:=K) (a:=pA) (xs:=us) (fun ys H'=>∃ls:List AO,ys=ls.map V.ref/\ls.Nodup/\fA∉ls/\∀l∈ls,H l=none/\∃p q:AO,H' l=some (.lst [.ref p,.ref q])/\H' p=some (.tup [.int 0,.int 1])/\H' q=some (.tup [.int 0,.int 1])) n1 (by rw [lu];exact GG (show pX.length<=100 by omega) cr) (fun H2 s2=>aK.of (s2 _ _ fr.hp)) ⟨[],rfl,rj,by simp,fun l h=>by cases h⟩ ?_ ?_
 ·intro i x ys H2 R hx ly hJ s2 hD k
  obtain ⟨ls,rfl,nd,nf,hl⟩:=hJ;show ⟨L2,?_⟩;intros p3 n3 H3 s3 e3;show ⟨L2,?_⟩;intros p4 n4 H4 s4 e4;show ⟨L2,?_⟩;intros l5 n5 H5 s5 e5;let s25:=s3.trans (s4.trans s5);let D5:=s25 _ _ hD;let D4:=s4 _ _ (s3 _ _ hD);refine k _ _ s25 ⟨ls++[l5],by simp,?_,?_,fun l hm=>?_⟩
  ·rw [Vw]
   show ⟨nd,by simp,fun a ha b hb z=>?_⟩;have fw :b=l5:=by simpa using hb
   obtain ⟨_,p,q,h1,_⟩:=hl a ha;rw [z,fw] at h1;erw [s4 _ _ (s3 _ _ h1)] at n5
  ·intro z
   rcases FQ.mp z with z|z
   ·exact nf z
   ·rw [<-GZ.mp z,D4] at n5
    cases n5
  ·rcases FQ.mp hm with z|z
   ·obtain ⟨h0,p,q,h1,h2,h3⟩:=hl l z
    show ⟨h0,p,q,?_,?_,?_⟩
    ·rw [ah (fun e:l=fA=>nf (by rwa [<-e]))]
     exact s25 _ _ h1
    ·rw [ah (fun e=>by erw [e,hD] at h2)]
     exact s25 _ _ h2
    ·rw [ah (fun e=>by erw [e,hD] at h3)]
     exact s25 _ _ h3
   ·let z:=GZ.mp z
    subst z;show ⟨(s2.trans (s3.trans s4)).free n5,p3,p4,?_,?_,?_⟩
    ·rw [ah (fun e=>by erw [e,D4] at n5)]
     exact e5
    ·rw [ah (fun e=>by erw [e,hD] at n3)]
     exact s5 _ _ (s4 _ _ e3)
    ·rw [ah (fun e=>by erw [e,s3 _ _ hD] at n4)]
     exact s5 _ _ e4
 intro ys H2 ly hJ s2 hD;obtain ⟨ls,rfl,nd,nf,hl⟩:=hJ;let hn:∀l∈ls,H l=none:=fun l m=>(hl l m).1;let ll:ls.length=pX.length:=by rw [<-lu,<-ly,ir]
 let z0:∀(p:AO)(H':Hp),H' p=some (.tup [.int 0,.int 1])->qR K H' (.ref p) 1 0:=fun p H' e=>⟨(0,1),⟨p,rfl,bZ.of e⟩,cr,by decide+kernel,cr,cr⟩
 let F0:Found K H2 fA ls (1+0*(4*(N+51))):=⟨hD,nd,nf,fun l e=>by
  obtain ⟨_,p,q,h1,h2,h3⟩:=hl l e;rw [yD]
  show ⟨_,_,_,_,h1,z0 p _ h2,z0 q _ h3⟩⟩
 show ⟨_,rfl,bA,rfl,⟨_,aK.of (s2 _ _ fr.hb)⟩,let I:ce:=fun t Z H'=>KU fun (o5 o6 o7:ω)=>Z=[ap pA,ap bA,ap tA,ap uA,ap fA,o5,o6,o7,none,none]/\aq H H'/\Found K H' fA ls (1+t*(4*(N+51)));bM (K:=K) (a:=bA) (xs:=ws) I ⟨none,none,none,rfl,s2,F0⟩ (fun t Z H' _ h=>by
   obtain ⟨_,_,_,_,s',_⟩:=h
   exact aK.of (s' _ _ fr.hb)) ?_ ?_⟩
 ·rintro t bv Z H3 hbv ⟨o5,o6,o7,rfl,s3,F3⟩
  let htw:t<ws.length:=(Wp.mp hbv).1;obtain ⟨b,eb,LU⟩:=aE fr.pb hbv;let mb:b∈ao:=DA eb;obtain ⟨tv,etv,htv⟩:=fo.pt b mb;let bt:t*(4*(N+51))<=13*(4*(N+51)):=RU _ ci;generalize hB:1+t*(4*(N+51))=B at F3;show ⟨(2:Int),rfl,cr,cr,let I:ce:=fun k Z H'=>CK fun (o6 o7:ω)=>Z=[ap pA,ap bA,ap tA,ap uA,ap fA,some bv,o6,o7,none,none]/\aq H H'/\Found K H' fA ls (B+k*(2*(N+51)));cq (lo:=0) (n:=2) I ⟨o6,o7,rfl,s3,by rwa [yD]⟩ ?_ ?_⟩
  ·rintro k Z H4 hk ⟨o6,o7,rfl,s4,F4⟩
   let ek:(0:Int)+(k:Int)=(k:Int):=Ow _;rw [ek];let hk2:(k:Int)=0\/(k:Int)=1:=ci
   let fr4:=fr.gV s4;let bk:k*(2*(N+51))<=1*(2*(N+51)):=RU _ ci;obtain ⟨ta,i1,i2,eta,hbt,e1,e2⟩:=LU.gV s4;let wI:i1<ls.length:=by rw [ll];exact (Wp.mp e1).1
   let ZZ:i2<ls.length:=by rw [ll];exact (Wp.mp e2).1
   let dgt:dX H4 tA (.str b.nm) (some tv):=by
    have:=dX.k (k:=.inr b.nm) (s4 _ _ fo.ht);rwa [etv] at this
   subst eta;show ⟨_,rfl,_,rfl,ta,_,_,_,rfl,rfl,hbt,dC,tA,tv,rfl,dgt,_,rfl,_,rfl,_,rfl,pA,us,pX,_,b,(k:Int),rfl,fr4.hp,fr4.pp,fr.gp,LU.gV s4,hk2,fun v5 H5 s5 n5=>?_⟩;dsimp only [mM];show gi K vA [_,_] _ _ E0;refine ak8 ((htv.gV s4).gV s5) n5 ci fun p6 H6 s6 n6=>?_;let Wq:=s4.trans (s5.trans s6);let F6:=F4.gV (s5.trans s6);show ⟨_,rfl,_,rfl,ta,_,_,_,rfl,rfl,Ty.aq.dI (s5.trans s6) hbt,rfl,_,rfl,_,rfl,fA,ls,_,i1,(k:Int),_,_,_,rfl,F6,wI,hk2,n6,ci,fun H7 k7 F7=>?_⟩;let s07:=KL.gV hn Wq k7;let n7:=n6.aT (F6.aT k7);show ⟨_,rfl,_,rfl,ta,_,_,_,rfl,rfl,(F6.aT k7).dI (Ty.aq.dI (s5.trans s6) hbt),rfl,_,rfl,_,rfl,?_⟩;dsimp only [mM];show jU K [_] _ _ E0;refine zaM n7 fun p8 H8 s8 n8=>?_;let F8:=F7.gV s8;show ⟨fA,ls,_,i2,(k:Int),_,_,_,rfl,F8,ZZ,hk2,n8,ci,fun H9 k9 F9=>?_⟩;let s09:=KL.gV hn (s07.trans s8) k9;show ⟨_,_,rfl,s09,F9.up (by rw [V5];omega)⟩
  ·rintro Z H4 ⟨o6,o7,rfl,s4,F4⟩
   show ⟨_,_,_,rfl,s4,F4.up (by rw [V5,<-hB];omega)⟩
 ·rintro Z H3 ⟨o5,o6,o7,rfl,s3,F3⟩
  rw [lw] at F3;let bl:ao.length*(4*(N+51))<=14*(4*(N+51)):=RU _ ci;generalize hB:1+ao.length*(4*(N+51))=B at F3;let en2:((us.length:Nat):Int).toNat=us.length:=ci
  show ⟨_,rfl,pA,_,rfl,.inl (aK.of (s3 _ _ fr.hp)),((us.length:Nat):Int),rfl,ci,ci,let I:ce:=fun k Z H'=>Ex5 fun (o5 o6 o7 o8 o9:ω)=>Z=[ap pA,ap bA,ap tA,ap uA,ap fA,o5,o6,o7,o8,o9]/\aq H H'/\Found K H' fA ls (B+k*(4*(N+51)));cq (lo:=0) (n:=((us.length:Nat):Int).toNat) I ⟨o5,o6,o7,none,none,rfl,s3,by rwa [yD]⟩ ?_ ?_⟩
  ·rintro k Z H4 hk ⟨o5,o6,o7,o8,o9,rfl,s4,F4⟩
   let ek:(0:Int)+(k:Int)=(k:Int):=Ow _;rw [ek];let hku:k<us.length:=ci
   obtain ⟨p,ep,WE⟩:=aE fr.pp (gE hku);let mp:p∈pX:=DA ep;obtain ⟨la,ys,exv,hla,py⟩:=fo.pu p mp;let lup:=fo.lU p mp;let lwp:=(fr.gp.ws p mp).len;let ly:ys.length=(U p.nm).length:=HR py;let aku:jc us (k:Int)=some us[k]:=bF (gE hku);obtain ⟨pa,l,sv,iY,epa,h1,h2,h3,h4⟩:=WE;rw [epa] at aku;let lv:iY.length=p.ws.length:=HR h4;let kp:k<pX.length:=ci
   let bk:k*(4*(N+51))<=8*(4*(N+51)):=RU _ ci;generalize hB2:B+k*(4*(N+51))=B2 at F4;let en3:((iY.length:Nat):Int).toNat=iY.length:=ci
   show ⟨_,rfl,_,rfl,pA,_,_,_,rfl,rfl,aK.of (s4 _ _ fr.hp),aku,pa,_,_,_,rfl,rfl,Ty.aq.dI s4 h1,rfl,l,_,rfl,.inl (aK.of (s4 _ _ h3)),((iY.length:Nat):Int),rfl,ci,ci,let I:ce:=fun j Z H'=>CK fun (o6 o9:ω)=>Z=[ap pA,ap bA,ap tA,ap uA,ap fA,o5,o6,o7,some (.int (k:Int)),o9]/\aq H H'/\Found K H' fA ls (B2+j*(2*(N+51)));cq (lo:=0) (n:=((iY.length:Nat):Int).toNat) I ⟨o6,o9,rfl,s4,by rwa [yD]⟩ ?_ ?_⟩
   ·rintro j Z H5 hj ⟨o6,o9,rfl,s5,F5⟩
    let ek:(0:Int)+(j:Int)=(j:Int):=Ow _;rw [ek];let hj1:j<iY.length:=ci
    let hj2:j<ys.length:=ci
    obtain ⟨x,ex,hx⟩:=aE py (gE hj2);obtain ⟨wq,ewq,hwq⟩:=aE h4 (gE hj1);let zw:=(fr.gp.ws p mp).sz wq (DA ewq);let axj:jc ys (j:Int)=some ys[j]:=bF (gE hj2);let awj:jc iY (j:Int)=some iY[j]:=bF (gE hj1);let bj:j*(2*(N+51))<=1*(2*(N+51)):=RU _ ci;generalize hB3:B2+j*(2*(N+51))=B3 at F5;show ⟨(2:Int),rfl,cr,cr,let I:ce:=fun c Z H'=>∃(o6:ω),Z=[ap pA,ap bA,ap tA,ap uA,ap fA,o5,o6,o7,some (.int (k:Int)),some (.int (j:Int))]/\aq H H'/\Found K H' fA ls (B3+c*(N+51));cq (lo:=0) (n:=2) I ⟨o6,rfl,s5,by rwa [yD]⟩ ?_ ?_⟩
    ·rintro c Z H6 hc ⟨o6,rfl,s6,F6⟩
     let ek:(0:Int)+(c:Int)=(c:Int):=Ow _;rw [ek];let hc2:(c:Int)=0\/(c:Int)=1:=ci
     let bc:c*(N+51)<=1*(N+51):=RU _ ci;obtain ⟨wa,zs,u,ewa,Px,awc,nwc⟩:=S4 hc2 (hwq.gV s6);rw [ewa] at awj
     let dgu:dX H6 uA (.str p.nm) (some (.ref la)):=by
      have:=dX.k (k:=.inr p.nm) (s6 _ _ fo.hu);rwa [exv] at this
     show ⟨_,rfl,_,rfl,_,rfl,_,rfl,_,rfl,_,rfl,pA,_,_,_,rfl,rfl,aK.of (s6 _ _ fr.hp),aku,pa,_,_,_,rfl,rfl,Ty.aq.dI s6 h1,dC,uA,_,rfl,dgu,_,rfl,la,_,_,_,rfl,rfl,aK.of (s6 _ _ hla),axj,_,rfl,_,rfl,pA,_,_,_,rfl,rfl,aK.of (s6 _ _ fr.hp),aku,pa,_,_,_,rfl,rfl,Ty.aq.dI s6 h1,rfl,_,rfl,l,_,_,_,rfl,rfl,aK.of (s6 _ _ h3),awj,_,rfl,wa,_,_,_,rfl,rfl,Px,awc,?_⟩;dsimp only [mM];show gi K vA [_,_] _ _ E0;refine ak8 (hx.gV s6) (uF nwc (CW (S5 zw) (DH _))) ci fun p7 H7 s7 n7=>?_;show ⟨fA,ls,_,k,(c:Int),_,_,_,rfl,F6.gV s7,ci,hc2,n7,ci,fun H8 k8 F8=>?_⟩;show ⟨_,rfl,KL.gV hn (s6.trans s7) k8,F8.up (by rw [V5];omega)⟩
    ·rintro Z H6 ⟨o6,rfl,s6,F6⟩
     show ⟨_,_,rfl,s6,F6.up (by rw [V5,<-hB3];omega)⟩
   ·rintro Z H5 ⟨o6,o9,rfl,s5,F5⟩
    rw [en3] at F5
    show ⟨_,_,_,_,_,rfl,s5,F5.up (by
     have:iY.length*(2*(N+51))<=2*(2*(N+51)):=RU _ ci;rw [V5,<-hB2]
     omega)⟩
  ·rintro Z H4 ⟨o5,o6,o7,o8,o9,rfl,s4,F4⟩
   rw [en2,lu] at F4;show ⟨_,rfl,q fA ls H4 s4 ll (F4.up ci)⟩
def e9:(10:Int)^(9:Int).toNat=1000000000:=by decide+kernel
def p9:ac7 10 9:=⟨cr,cr,cr⟩
def l_ {t b:Int}(hb:0<b)(h1:t.natAbs<1073741824)(h2:b<1073741824)(e:H p=some (.tup [.int (low t b).1,.int (low t b).2])):fe K H (.ref p) ((t:Rat) / (b:Rat))/\Sz 31 ((t:Rat) / (b:Rat)):=by
 rw [fY (Nd hb)] at e;show ⟨gS e,tU (Nd hb) (intBits_le_iff.mpr (by show _<2147483648;omega)) (intBits_le_iff.mpr (by show _<2147483648;omega))⟩
def r9 (hb:0<b)(h:t=1\/b=1):low t b=(t,b):=sO hb (by rcases h with rfl|rfl<;>simp)
def abG {AD:γ}(h:(AD.map (·.1)).Nodup):((putK AD k v).map (·.1)).Nodup:=by
 unfold putK;split
 ·let e:((AD.map fun kv=>if kv.1=k then (kv.1,v) else kv).map (·.1))=AD.map (·.1):=by
   rw [MI];refine RI fun kv _=>?_;show (if kv.1=k then (kv.1,v) else kv).1=kv.1;split<;>rfl
  rwa [e]
 ·rename_i c
  rw [MX,Vw];show ⟨h,by simp,fun a ha b hb z=>c ?_⟩;have fw :b=k:=by simpa using hb
  obtain ⟨kv,BO,ek⟩:=CI.mp ha;rw [AF];show ⟨kv,BO,Ms (by rw [ek,z,fw])⟩
structure rF (K:Frag)(H0 H:Hp)(d:AO)(kG:γ)(ns:θ)(Go:τ)(n:Nat):Prop where
 s:aq H0 H
 hd:H d=some (.dK kG)
 nm:pG K H kG (fun x=>(Go x).map qr)
 ks:KeysIn ns kG
 nk:(kG.map (·.1)).Nodup
 zs:∀x,Sz 31 (gR Go x)
 ll:kG.length<=n
theorem rF.gV (h:rF K H0 H d kG ns Go n)(s:aq H H'):rF K H0 H' d kG ns Go n:=⟨h.s.trans s,s _ _ h.hd,h.nm.gV s,h.ks,h.nk,h.zs,h.ll⟩
def rF.up (h:rF K H0 H d kG ns Go m)(l:m<=n):rF K H0 H d kG ns Go n:=⟨h.s,h.hd,h.nm,h.ks,h.nk,h.zs,CT h.ll l⟩
theorem rF.put (h:rF K H0 H d kG ns Go n)(n0:H0 d=none)(hx:x∈ns)(hv:fe K H v r/\Sz 31 r):rF K H0 (upd H d (.dK (putK kG (.inr x) v))) d (putK kG (.inr x) v) ns (fun y=>if y=x then some r else Go y) (n+1):=by
 let hd:=h.hd;let t6:bf H (upd H d (.dK (putK kG (.inr x) v))):=.dict hd;show ⟨fun a o z=>?_,ag,?_,ahH (fun k:Key=>∃x∈ns,k=GH x) h.ks ⟨x,hx,rfl⟩,abG h.nk,fun y=>?_,CT (gy _ _ _) (al6 h.ll)⟩
 ·rw [ah (ak z n0)]
  exact h.s _ _ z
 ·have:=(h.nm.put (x:=x) (v:=v) (q:=qr r) hv.1).aT t6
  let e:(fun nm=>if nm=x then some (qr r) else (Go nm).map qr)=fun y=>(if y=x then some r else Go y).map qr:=funext fun y=>by
   by_cases c:y=x
   ·rw [mG c,mG c]
    rfl
   ·rw [lH c,lH c]
  rwa [e] at this
 ·show Sz 31 ((if y=x then some r else Go y).getD 1)
  by_cases c:y=x
  ·rw [mG c]
   exact hv.2
  ·rw [lH c]
   exact h.zs y
inductive uK (K:Frag)(vs:ζ)(H:Hp)(Q:VK)(E_:XK):Prop
|mk (sA bA:AO)(ns:ξ)(ws:ζ)(pX:ς)(ao:Η)(_:vs=[.ref sA,.ref bA])(_:aK K H sA (ns.map V.int))(_:H bA=some (.lst ws))(_:Paired (m_ K H pX) ws ao)(_:ao.length<=14)(_:∀(d:AO)(kG:γ)(Go:τ)(H':Hp),H d=none->rF K H H' d kG (ao.map (·.nm)) Go 56->Q (.ref d) H')
def fO:av ["_law_script","_law_bars_here","_law_grips_here","_law_k","_law_cell","_law_way"] JG (ae fh):=sq
def akB (D:Def K mg "_law_grips" fh JG)(aX:mg "len"=none)(aZ:mg "range"=none)(jV:ac P w K mg gw 1 "_law_cell_at" V1 (jT K))(cB:ac P w K mg gw 1 "_law_field" Q6 dN)(m8:ac P w K mg gw 33 "_law_lowest" VH cH):
  ac P w K mg gw 34 "_law_grips" JG (uK K):=by
 refine D.oo fO fun H hr h=>?_;obtain ⟨sA,bA,ns,ws,pX,ao,rfl,hS,hb,pb,lb,q⟩:=h;let L2:2<=BZ:=cr
 let lw:ws.length=ao.length:=HR pb
 show ⟨_,(aa (aA 2 fO.nd cT) (aa (a_ HM rfl (bV rfl aZ (aV (aR aH rfl aX cA (aV (pv 1))))) (b6 3 fO.nd) (aa (aA 4 fO.nd (aU jV hr (aF (pv 0) (aw bG af (pv 3))))) (aa (aA 5 fO.nd (aU cB hr (bx (pv 4) af af))) (aa (bh (bg cY (pv 5) af) (aj (cy (bU hr) (pv 2) (aG (bL aQ (pv 1) (pv 3))) (aU m8 hr (aF (aw bG af (aU cB hr (bx (pv 4) af af))) (aw bG af (aU cB hr (bx (pv 4) af af))))) rfl)) aI) (aa (bh (bg cY (pv 5) af) (aj (cy (bU hr) (pv 2) (aG (bL aQ (pv 1) (pv 3))) (aJ (aF (aw bG af (aU cB hr (bx (pv 4) af af))) af)) rfl)) aI) (aa (bh (bg cY (pv 5) af) (aj (cy (bU hr) (pv 2) (aG (bL aQ (pv 1) (pv 3))) (aJ (aF af (aw bG af (aU cB hr (bx (pv 4) af af))))) rfl)) aI) (aj (bh (PW.pt (FC (bg Qs (pv 5) af) (xv (bg cY (aw dS (pv 3) af) af)))) (aj (cy (bU hr) (pv 2) (aG (bL aQ (pv 1) (pv 3))) (bL aQ (bI (aF (aJ (aF (aw bG af (aw dS (pv 4) (aw ah0 af af))) af)) (aJ (aF af (aw bG af (aw dS (pv 4) (aw ah0 af af))))))) (aw cJ (pv 5) af)) rfl)) aI)))))))) (aj (aD (pv 2))))),?_⟩;try dsimp only [md,j6,Cx.wd,Cx.q_]
 intros d n1 H1 s1 e1;show ⟨_,rfl,bA,_,rfl,.inl (aK.of (s1 _ _ hb)),((ws.length:Nat):Int),rfl,ci,ci,let I:ce:=fun i Z H'=>Ex5 fun (o3 o4 o5:ω) (kG:γ) (Go:τ)=>Z=[ap sA,ap bA,ap d,o3,o4,o5]/\rF K H H' d kG (ao.map (·.nm)) Go (4*i);cq (lo:=0) (n:=((ws.length:Nat):Int).toNat) I ⟨none,none,none,[],fun _=>none,rfl,s1,e1,fun nm=>.inl ⟨rfl,rfl⟩,fun kv h=>(nomatch h),rj,fun x=>i6 (i:=1) (k:=31) cr cr,DH _⟩ ?_ ?_⟩
 ·rintro i Z H2 hi ⟨o3,o4,o5,kG,Go,rfl,g2⟩
  let ek:(0:Int)+(i:Int)=(i:Int):=Ow _;rw [ek];let wI:i<ws.length:=ci
  show ⟨_,rfl,_,rfl,_,_,rfl,rfl,sA,ns,_,rfl,g2.s.seq hS,ci,ci,?_⟩;generalize cell ns (32+(i:Int))=c;show ⟨_,rfl,_,_,_,rfl,cr,cr,cr,?_⟩;let iw:=aL (c:=c) (p:=1009) (m:=4) cr;generalize field c 1009 4=way at iw ⊢;let i1:=aL (c:=c) (p:=2003) (m:=9) cr;let i2:=aL (c:=c) (p:=3001) (m:=4) cr;let i3:=aL (c:=c) (p:=4001) (m:=90) cr;let i4:=aL (c:=c) (p:=4001) (m:=30) cr;obtain ⟨b,eb,LU⟩:=aE pb (gE wI);let mn:b.nm∈ao.map (·.nm):=CI.mpr ⟨b,DA eb,rfl⟩;obtain ⟨ta,j1,j2,eu,h1,_⟩:=LU;let ai:jc ws (i:Int)=some (.ref ta):=bF (by rw [gE wI,eu]);dsimp only;refine fM (fun Z' H'=>CK fun (kG:γ) (Go:τ)=>Z' =[some (.ref sA),some (.ref bA),some (.ref d),some (.int (i:Int)),some (.int c),some (.int way)]/\rF K H H' d kG (ao.map (·.nm)) Go (4*i+1)) (fun Nx OB=>?_) ?_
  ·show ⟨_,rfl,rfl,_,rfl,?_⟩
   refine bD (fun _=>?_) (fun _=>?_)
   ·show ⟨_,rfl,_,_,_,rfl,cr,cr,cr,_,_,rfl,rfl,_,rfl,_,_,_,rfl,cr,cr,cr,_,_,rfl,rfl,_,_,rfl,ci,fun p4 H4 s4 e4=>?_⟩
    let g5:=g2.gV s4;show ⟨_,rfl,_,rfl,_,rfl,bA,_,_,_,rfl,rfl,aK.of (g5.s _ _ hb),ai,ta,_,_,_,rfl,rfl,Ty.aq.dI g5.s h1,dC,d,_,rfl,gM.k (k:=.inr b.nm) g5.hd (GG (show kG.length<=1000 by have:=g5.ll;omega) cr),OB _ _ ⟨_,_,rfl,g5.put n1 mn (l_ ci ci ci e4)⟩⟩
   ·exact OB _ _ ⟨kG,Go,rfl,g2.up ci⟩
  rintro Z' H3 ⟨kG,Go,rfl,g3⟩;refine fM (fun Z' H'=>CK fun (kG:γ) (Go:τ)=>Z' =[some (.ref sA),some (.ref bA),some (.ref d),some (.int (i:Int)),some (.int c),some (.int way)]/\rF K H H' d kG (ao.map (·.nm)) Go (4*i+2)) (fun Nx OB=>?_) ?_
  ·show ⟨_,rfl,rfl,_,rfl,?_⟩
   refine bD (fun _=>?_) (fun _=>?_)
   ·show ⟨_,rfl,_,_,_,rfl,cr,cr,cr,_,_,rfl,rfl,L2,?_⟩
    intros p4 n4 H4 s4 e4;let g5:=g3.gV s4;show ⟨_,rfl,_,rfl,_,rfl,bA,_,_,_,rfl,rfl,aK.of (g5.s _ _ hb),ai,ta,_,_,_,rfl,rfl,Ty.aq.dI g5.s h1,dC,d,_,rfl,gM.k (k:=.inr b.nm) g5.hd (GG (show kG.length<=1000 by have:=g5.ll;omega) cr),OB _ _ ⟨_,_,rfl,g5.put n1 mn (l_ (t:=10+field c 4001 90) (b:=1) ci ci ci (by rwa [r9 cr (.inr rfl)]))⟩⟩
   ·exact OB _ _ ⟨kG,Go,rfl,g3.up ci⟩
  rintro Z' H3 ⟨kG,Go,rfl,g3⟩;refine fM (fun Z' H'=>CK fun (kG:γ) (Go:τ)=>Z' =[some (.ref sA),some (.ref bA),some (.ref d),some (.int (i:Int)),some (.int c),some (.int way)]/\rF K H H' d kG (ao.map (·.nm)) Go (4*i+3)) (fun Nx OB=>?_) ?_
  ·show ⟨_,rfl,rfl,_,rfl,?_⟩
   refine bD (fun _=>?_) (fun _=>?_)
   ·show ⟨_,rfl,_,_,_,rfl,cr,cr,cr,_,_,rfl,rfl,L2,?_⟩
    intros p4 n4 H4 s4 e4;let g5:=g3.gV s4;show ⟨_,rfl,_,rfl,_,rfl,bA,_,_,_,rfl,rfl,aK.of (g5.s _ _ hb),ai,ta,_,_,_,rfl,rfl,Ty.aq.dI g5.s h1,dC,d,_,rfl,gM.k (k:=.inr b.nm) g5.hd (GG (show kG.length<=1000 by have:=g5.ll;omega) cr),OB _ _ ⟨_,_,rfl,g5.put n1 mn (l_ (t:=1) (b:=1+field c 4001 30) ci ci ci (by rwa [r9 ci (.inl rfl)]))⟩⟩
   ·exact OB _ _ ⟨kG,Go,rfl,g3.up ci⟩
  rintro Z' H3 ⟨kG,Go,rfl,g3⟩;show ⟨_,rfl,_,_,rfl,rfl,_,rfl,?_⟩;refine bD (fun cw=>?_) (fun _=>?_)
  ·show ⟨_,rfl,_,_,rfl,rfl,nz cr,rfl,_,rfl,?_⟩
   refine bD (fun _=>?_) (fun _=>?_)
   ·let cw':1<way:=Nl cw
    let f1:=oN (x:=c) (m:=(10:Int)^(9:Int).toNat) cr;show ⟨_,rfl,_,_,rfl,rfl,p9,_,_,rfl,rfl,nz cr,_,_,rfl,rfl,L2,?_⟩;intros p4 n4 H4 s4 e4;show ⟨_,rfl,_,_,rfl,rfl,p9,_,_,rfl,rfl,nz cr,_,_,rfl,rfl,L2,?_⟩;intros p5 n5 H5 s5 e5;show ⟨L2,?_⟩;intros l6 n6 H6 s6 e6;let s56:=s5.trans s6;let g5:=g3.gV (s4.trans s56);rw [e9] at f1 e4 e5
    let dn:∃(x:AO)(r:Rat),jc [V.ref p4,V.ref p5] (way-2)=some (.ref x)/\(fe K H6 (.ref x) r/\Sz 31 r):=by
     rcases (by omega:way=2\/way=3) with rfl|rfl
     ·show ⟨p4,_,rfl,l_ (t:=1+c.fmod 1000000000) (b:=1) ci ci ci (by rw [r9 cr (.inr rfl)];exact s56 _ _ e4)⟩
     ·show ⟨p5,_,rfl,l_ (t:=1) (b:=1+c.fmod 1000000000) ci ci ci (by rw [r9 ci (.inl rfl)];exact s6 _ _ e5)⟩
    obtain ⟨x,r,ex,hx⟩:=dn;show ⟨_,rfl,_,_,rfl,rfl,l6,_,_,_,rfl,rfl,aK.of e6,ex,_,rfl,_,rfl,_,rfl,bA,_,_,_,rfl,rfl,aK.of (g5.s _ _ hb),ai,ta,_,_,_,rfl,rfl,Ty.aq.dI g5.s h1,dC,d,_,rfl,gM.k (k:=.inr b.nm) g5.hd (GG (show kG.length<=1000 by have:=g5.ll;omega) cr),_,_,_,_,_,rfl,(g5.put n1 mn hx).up ci⟩
   ·show ⟨_,_,_,_,_,rfl,g3.up ci⟩
  ·exact ZK ⟨_,_,_,_,_,rfl,g3.up ci⟩
 ·rintro Z H2 ⟨o3,o4,o5,kG,Go,rfl,g2⟩
  show ⟨_,rfl,q d kG Go H2 n1 (g2.up ci)⟩
def S7 {Y β:Type}{nm:Y->Str}(b0:β){l:List Y}(nd:(l.map nm).Nodup)(f:Nat->β):∃T:Str->β,∀(i:Nat)(x:Y),l[i]?=some x->T (nm x)=f i:=by
 classical
 show ⟨fun s=>if h:∃i,(l.map nm)[i]?=some s then f h.choose else b0,fun i x e=>?_⟩;let e':(l.map nm)[i]?=some (nm x):=by rw [BJ,e];rfl
 let h:∃i,(l.map nm)[i]?=some (nm x):=⟨i,e'⟩;show (if h:∃i,(l.map nm)[i]?=some (nm x) then f h.choose else b0)=f i;rw [dif_pos h];exact ph f (eL nd h.choose_spec e')
def ni (hd:H d=some (.dK k)):bf H (upd H d (.dK k')):=fun a zs r=>by
 rcases r with r|⟨o',r⟩
 ·exact .inl (by rw [ah (fun e=>by erw [e,hd] at r)];exact r)
 ·exact .inr ⟨o',by rw [ah (fun e=>by erw [e,hd] at r)];exact r⟩
structure OC {Y:Type}(H:Hp)(d:AO)(kT:γ)(nm:Y->Str)(l:List Y)(R:Hp->V->Y->Prop):Prop where
 hd:H d=some (.dK kT)
 ky:kT.map (·.1)=l.map (fun x=>(GH (nm x):Key))
 tv:∀x∈l,∃v,bB kT (.inr (nm x))=some v/\R H v x
def OC.gV {R:Hp->V->Y->Prop}(h:OC H d kT nm l R)(m:∀v x,R H v x->R H' v x)(s:aq H H'):OC H' d kT nm l R:=⟨s _ _ h.hd,h.ky,fun x hx=>by
 obtain ⟨v,a,b⟩:=h.tv x hx
 show ⟨v,a,m v x b⟩⟩
def OC.len {R:Hp->V->Y->Prop}(h:OC H d kT nm l R):kT.length=l.length:=by
 have:=ph Rg h.ky;rwa [ir,ir] at this
def OC.put {l:List Y}(nd:(l.map nm).Nodup)(e:l[i]?=some x)(h:OC H d kT nm (l.take i) R)(m:∀v' y,R H v' y->R (upd H d (.dK (putK kT (.inr (nm x)) v))) v' y)(hv:R H v x):OC (upd H d (.dK (putK kT (.inr (nm x)) v))) d (putK kT (.inr (nm x)) v) nm (l.take (i+1)) R:=by
 show ⟨ag,?_,fun y hy=>?_⟩
 ·rw [dw _ (bS (by
   rw [h.ky];intro z;obtain ⟨p',w_,e'⟩:=CI.mp z
   exact kJ (nm:=nm) nd e w_ (by injection e'))),MX,h.ky,take_snoc e,MX]
  rfl
 ·rw [jm]
  by_cases c:nm y=nm x
  ·let ey:y=x:=by
    obtain ⟨j,ej⟩:=MF (Qt hy);have:=eL nd (x:=nm x) (i:=j) (j:=i) (by rw [BJ,ej,<-c];rfl) (by rw [BJ,e];rfl);rw [this,e] at ej;exact (MY ej).symm
   subst ey;rw [mG rfl];show ⟨v,rfl,m _ _ hv⟩
  ·rw [lH (fun z=>c (by injection z))]
   rw [take_snoc e] at hy
   rcases FQ.mp hy with z|z
   ·obtain ⟨v',a,b⟩:=h.tv y z
    show ⟨v',a,m _ _ b⟩
   ·exact CH (ph nm (GZ.mp z)) c
def aiP {t b:Int}(h:0<b)(h1:t.natAbs<2048)(h2:b<2048):Sz 11 ((t:Rat) / (b:Rat)):=tU (Nd h) (intBits_le_iff.mpr (by show _<2048;omega)) (intBits_le_iff.mpr (by show _<2048;omega))
inductive uL (K:Frag)(vs:ζ)(H:Hp)(Q:VK)(E_:XK):Prop
|mk (sA bA:AO)(st:Int)(ns:ξ)(ws:ζ)(pX:ς)(ao:Η)(_:vs=[.ref sA,.ref bA,.int st])(_:aK K H sA (ns.map V.int))(_:H bA=some (.lst ws))(_:Paired (m_ K H pX) ws ao)(_:ao.length<=14)(_:(ao.map (·.nm)).Nodup)(_:0<=st)(_:st<=900)(_:∀(d:AO)(kT:γ)(T:Str->Rat)(H':Hp),aq H H' ->H d=none->OC H' d kT (·.nm) ao (fun H v b=>fe K H v (T b.nm))->(∀b∈ao,Sz 11 (T b.nm))->Q (.ref d) H')
def g_:av ["_law_script","_law_bars_here","_law_start","_law_pulls_here","_law_k","_law_cell"] BM (ae fj):=sq
def akA (D:Def K mg "_law_pulls" fj BM)(aX:mg "len"=none)(aZ:mg "range"=none)(jV:ac P w K mg gw 1 "_law_cell_at" V1 (jT K))(cB:ac P w K mg gw 1 "_law_field" Q6 dN)(m8:ac P w K mg gw 33 "_law_lowest" VH cH):
  ac P w K mg gw 34 "_law_pulls" BM (uL K):=by
 refine D.oo g_ fun H hr h=>?_;obtain ⟨sA,bA,st,ns,ws,pX,ao,rfl,hS,hb,pb,lb,nb,st0,st1,q⟩:=h;let lw:ws.length=ao.length:=HR pb;obtain ⟨T,hT⟩:=S7 (nm:=bK.nm) (0:Rat) nb fun i=>((field (cell ns (st+(i:Int))) 4001 2001-1000:Int):Rat) / ((1+field (cell ns (st+(i:Int))) 5003 9:Int):Rat)
 show ⟨_,(aa (aA 3 g_.nd cT) (aa (a_ HM rfl (bV rfl aZ (aV (aR aH rfl aX cA (aV (pv 1))))) (b6 4 g_.nd) (aa (aA 5 g_.nd (aU jV hr (aF (pv 0) (aw bG (pv 2) (pv 4))))) (aj (cy (bU hr) (pv 3) (aG (bL aQ (pv 1) (pv 4))) (aU m8 hr (aF (aw cJ (aU cB hr (bx (pv 5) af af)) af) (aw bG af (aU cB hr (bx (pv 5) af af))))) rfl)))) (aj (aD (pv 3))))),?_⟩;sleep 2
 intros d n1 H1 s1 e1;let en:((ws.length:Nat):Int).toNat=ao.length:=ci
 show ⟨_,rfl,bA,_,rfl,.inl (aK.of (s1 _ _ hb)),((ws.length:Nat):Int),rfl,ci,ci,let I:ce:=fun i Z H'=>KU fun (o4 o5:ω) (kT:γ)=>Z=[ap sA,ap bA,some (.int st),ap d,o4,o5]/\aq H H'/\OC H' d kT (·.nm) (ao.take i) (fun H v b=>fe K H v (T b.nm));cq (lo:=0) (n:=((ws.length:Nat):Int).toNat) I ⟨none,none,[],rfl,s1,e1,by simp,fun x hx=>by simp at hx⟩ ?_ ?_⟩
 ·rintro i Z H2 hi ⟨o4,o5,kT,rfl,s2,di⟩
  let ek:(0:Int)+(i:Int)=(i:Int):=Ow _;rw [ek];let wI:i<ws.length:=ci
  obtain ⟨b,eb,LU⟩:=aE pb (gE wI);obtain ⟨ta,j1,j2,eu,h1,_⟩:=LU;let ai:jc ws (i:Int)=some (.ref ta):=bF (by rw [gE wI,eu]);let tb:=hT i b eb;show ⟨_,rfl,_,rfl,_,rfl,_,_,rfl,rfl,sA,ns,_,rfl,s2.seq hS,ci,ci,?_⟩;generalize cell ns (st+(i:Int))=c at tb ⊢;let i1:=aL (c:=c) (p:=4001) (m:=2001) cr;let i2:=aL (c:=c) (p:=5003) (m:=9) cr;show ⟨_,rfl,_,_,_,rfl,cr,cr,cr,_,_,rfl,rfl,_,rfl,_,_,_,rfl,cr,cr,cr,_,_,rfl,rfl,_,_,rfl,ci,fun p4 H4 s4 e4=>?_⟩;rw [fY ci,<-tb] at e4;let di4:=di.gV (fun _ _ z=>z.gV s4) s4;let lk:=di4.len;rw [HQ] at lk;show ⟨_,rfl,_,rfl,_,rfl,bA,_,_,_,rfl,rfl,aK.of (s4 _ _ (s2 _ _ hb)),ai,ta,_,_,_,rfl,rfl,Ty.aq.dI (s2.trans s4) h1,dC,d,_,rfl,gM.k (k:=.inr b.nm) di4.hd (GG (show kT.length<=1000 by omega) cr),_,_,_,rfl,fun b o z=>(by rw [ah (ak z n1)];exact s4 _ _ (s2 _ _ z)),di4.put nb eb (fun _ _ z=>z.aT (ni di4.hd)) (gS e4)⟩
 ·rintro Z H2 ⟨o4,o5,kT,rfl,s2,di⟩
  rw [en,Nq] at di;show ⟨_,rfl,q d kT T H2 s2 n1 di fun b hb=>?_⟩;obtain ⟨i,ei⟩:=MF hb;rw [hT i b ei];generalize cell ns (st+(i:Int))=c;let i1:=aL (c:=c) (p:=4001) (m:=2001) cr;let i2:=aL (c:=c) (p:=5003) (m:=9) cr;exact aiP ci ci ci
theorem qV :∀(n:Nat) {us:ζ} {zs:List Y},Paired R us zs->Paired R (us.take n) (zs.take n)
 | 0,_,_,_=>by simpa using Paired.nil
 | n+1,_,_,.nil=>by simpa using Paired.nil
 | n+1,_,_,.cons h t=>by
  rw [ala,ala];exact .cons h (qV n t)
def UsR (K:Frag)(U:Str->List Rat)(H:Hp)(v:V)(p:aY):Prop:=∃la ys,v=.ref la/\H la=some (.lst ys)/\Paired (fe K H) ys (U p.nm)
theorem UsR.gV (h:UsR K U H v p)(s:aq H H'):UsR K U H' v p:=by
 obtain ⟨la,ys,a,b,c⟩:=h;show ⟨la,ys,a,s _ _ b,Paired.dc c fun _ _ z=>z.gV s⟩
inductive qu (K:Frag)(vs:ζ)(H:Hp)(Q:VK)(E_:XK):Prop
|mk (sA pA:AO)(st:Int)(ns:ξ)(us:ζ)(pX:ς)(_:vs=[.ref sA,.ref pA,.int st])(_:aK K H sA (ns.map V.int))(_:H pA=some (.lst us))(_:Paired (oQ K H) us pX)(_:mF pX)(_:pX.length<=9)(_:0<=st)(_:st<=900)(_:∀(d:AO)(kU:γ)(U:Str->List Rat)(H':Hp),aq H H' ->H d=none->OC H' d kU (·.nm) pX (UsR K U)->(∀p∈pX,(U p.nm).length=p.ws.length)->(∀p∈pX,∀u∈U p.nm,Sz 11 u)->Q (.ref d) H')
def eY:av ["_law_script","_law_pins_here","_law_start","_law_pushes_here","_law_k","_law_cell","_law_some"] BL (ae dZ):=sq
def adR (D:Def K mg "_law_pushes" dZ BL)(aX:mg "len"=none)(aZ:mg "range"=none)(jV:ac P w K mg gw 1 "_law_cell_at" V1 (jT K))(cB:ac P w K mg gw 1 "_law_field" Q6 dN):
  ac P w K mg gw 2 "_law_pushes" BL (qu K):=by
 refine D.oo eY fun H hr h=>?_;obtain ⟨sA,pA,st,ns,us,pX,rfl,hS,hp,pp,gp,lp,st0,st1,q⟩:=h;let L2:2<=BZ:=cr
 let lu:us.length=pX.length:=HR pp;obtain ⟨U,hU⟩:=S7 (nm:=aY.nm) ([]:List Rat) gp.np fun i=>([((field (cell ns (st+(i:Int))) 6007 201-100:Int):Rat),((field (cell ns (st+(i:Int))) 7001 401-200:Int):Rat)]).take ((pX[i]?.map fun p=>p.ws.length).getD 0)
 show ⟨_,(aa (aA 3 eY.nd cT) (aa (a_ HM rfl (bV rfl aZ (aV (aR aH rfl aX cA (aV (pv 1))))) (b6 4 eY.nd) (aa (aA 5 eY.nd (aU jV hr (aF (pv 0) (aw bG (pv 2) (pv 4))))) (aa (aA 6 eY.nd (bI (aF (aJ (aF (aw cJ (aU cB hr (bx (pv 5) af af)) af) af)) (aJ (aF (aw cJ (aU cB hr (bx (pv 5) af af)) af) af))))) (aj (cy (bU hr) (pv 3) (aG (bL aQ (pv 1) (pv 4))) (bY cX (pv 6) cP (cC (aR aH rfl aX cA (aV (aG (bL aQ (pv 1) (pv 4))))))) rfl))))) (aj (aD (pv 3))))),?_⟩;sleep 2
 intros d n1 H1 s1 e1;let en:((us.length:Nat):Int).toNat=pX.length:=ci
 show ⟨_,rfl,pA,_,rfl,.inl (aK.of (s1 _ _ hp)),((us.length:Nat):Int),rfl,ci,ci,let I:ce:=fun i Z H'=>Nw fun (o4 o5 o6:ω) (kU:γ)=>Z=[ap sA,ap pA,some (.int st),ap d,o4,o5,o6]/\aq H H'/\OC H' d kU (·.nm) (pX.take i) (UsR K U);cq (lo:=0) (n:=((us.length:Nat):Int).toNat) I ⟨none,none,none,[],rfl,s1,e1,by simp,fun x hx=>by simp at hx⟩ ?_ ?_⟩
 ·rintro i Z H2 hi ⟨o4,o5,o6,kU,rfl,s2,di⟩
  let ek:(0:Int)+(i:Int)=(i:Int):=Ow _;rw [ek];let wI:i<us.length:=ci
  obtain ⟨p,ep,WE⟩:=aE pp (gE wI);let mp:=DA ep;obtain ⟨ta,l,sv,iY,eu,h1,h2,h3,h4⟩:=WE.gV s2;let ai:jc us (i:Int)=some (.ref ta):=bF (by rw [gE wI,eu]);let lv:iY.length=p.ws.length:=HR h4;let lwp:=(gp.ws p mp).len;let tb:=hU i p ep;rw [ep] at tb;show ⟨_,rfl,_,rfl,_,rfl,_,_,rfl,rfl,sA,ns,_,rfl,s2.seq hS,ci,ci,?_⟩;generalize cell ns (st+(i:Int))=c0 at tb ⊢;show ⟨_,rfl,_,_,_,rfl,cr,cr,cr,_,_,rfl,rfl,L2,?_⟩;intros p5 n5 H5 s5 e5;show ⟨_,rfl,_,_,_,rfl,cr,cr,cr,_,_,rfl,rfl,L2,?_⟩;intros p6 n6 H6 s6 e6;show ⟨L2,?_⟩;intros l7 n7 H7 s7 e7;let s27:=s5.trans (s6.trans s7);show ⟨_,rfl,_,rfl,_,rfl,pA,_,_,_,rfl,rfl,aK.of (s27 _ _ (s2 _ _ hp)),ai,ta,_,_,_,rfl,rfl,Ty.aq.dI s27 h1,rfl,l,_,rfl,.inl (aK.of (s27 _ _ h3)),_,rfl,l7,_,rfl,aK.of e7,?_⟩;rw [jL (show iY.length<=[V.ref p5,V.ref p6].length by show iY.length<=2;omega)];intros la n8 H8 s8 e8;let s28:=s27.trans s8;let di8:=di.gV (fun _ _ z=>z.gV s28) s28;let lk:=di8.len;rw [HQ] at lk;show ⟨_,rfl,_,rfl,_,rfl,pA,_,_,_,rfl,rfl,aK.of (s28 _ _ (s2 _ _ hp)),ai,ta,_,_,_,rfl,rfl,Ty.aq.dI s28 h1,dC,d,_,rfl,gM.k (k:=.inr p.nm) di8.hd (GG (show kU.length<=1000 by omega) cr),?_⟩;let two:Paired (fe K H8) [V.ref p5,V.ref p6] [((field c0 6007 201-100:Int):Rat),((field c0 7001 401-200:Int):Rat)]:=.cons (uG _ (s8 _ _ (s7 _ _ (s6 _ _ e5)))) (.cons (uG _ (s8 _ _ (s7 _ _ e6))) .nil);show ⟨_,_,_,_,rfl,fun b o z=>(by rw [ah (ak z n1)];exact s28 _ _ (s2 _ _ z)),di8.put gp.np ep (fun _ _ ⟨a,ys,z1,z2,z3⟩=>⟨a,ys,z1,by rw [ah (fun e=>by erw [e,di8.hd] at z2)];exact z2,Paired.dc z3 fun _ _ z=>z.aT (ni di8.hd)⟩) ⟨la,_,rfl,e8,?_⟩⟩;rw [tb,lv];exact qV _ two
 ·rintro Z H2 ⟨o4,o5,o6,kU,rfl,s2,di⟩
  rw [en,Nq] at di;show ⟨_,rfl,q d kU U H2 s2 n1 di (fun p hp=>?_) fun p hp u hu=>?_⟩
  ·obtain ⟨i,ei⟩:=MF hp
   let lwp:=(gp.ws p hp).len;rw [hU i p ei,ei,HQ];show min p.ws.length 2=p.ws.length;omega
  ·obtain ⟨i,ei⟩:=MF hp
   rw [hU i p ei] at hu;generalize cell ns (st+(i:Int))=c at hu;let i1:=aL (c:=c) (p:=6007) (m:=201) cr;let i2:=aL (c:=c) (p:=7001) (m:=401) cr;let sm:∀i:Int,i.natAbs<2048->Sz 11 (i:Rat):=fun i h=>i6 h cr
   rcases M_.mp (Qt hu) with z|z
   ·rw [z]
    exact sm _ ci
   ·rw [GZ.mp z]
    exact sm _ ci
structure LdG (K:Frag)(H:Hp)(d:AO)(AD:γ)(pX:ς)(L:ρ):Prop where
 hd:H d=some (.dK AD)
 pt:Nk K H AD L
 nk:(AD.map (·.1)).Nodup
 ks:∀kv∈AD,∃x∈pX.map (·.nm),kv.1=.inr x
 sz:mvL L
 ll:AD.length<=100
theorem LdG.gV (h:LdG K H d AD pX L)(s:aq H H'):LdG K H' d AD pX L:=⟨s _ _ h.hd,h.pt.gV s,h.nk,h.ks,h.sz,h.ll⟩
inductive yF (K:Frag)(vs:ζ)(H:Hp)(Q:VK)(E_:XK):Prop
|mk (pA bA tA uA:AO)(us ws:ζ)(kT kU:γ)(pX:ς)(ao:Η)(T:Str->Rat)(U:Str->List Rat)(N:Nat)(_:vs=[.ref pA,.ref bA,.ref tA,.ref uA])(_:LFr K H pA bA us ws pX ao)(_:LFo K H tA uA kT kU pX ao T U N)(_:N<=11)(_:pX.length<=3)(_:ao.length<=7)(_:∀(d:AO)(AD:γ)(L:ρ)(H':Hp),aq H H' ->LdG K H' d AD pX L->AD.length<=9->Q (.ref d) H')
def szN (h:0<q.2)(n:Ns 2490 q):Sz 2500 (((0-q.1:Int):Rat) / (q.2:Rat)):=tU (Nd h) (intBits_le_iff.mpr (by rw [show (0-q.1:Int).natAbs=q.1.natAbs by omega];exact GG n.top (AJ cr cr))) (intBits_le_iff.mpr (GG n.bot (AJ cr cr)))
def dR:av ["_law_pins_here","_law_bars_here","_law_pulls_here","_law_pushes_here","_law_found","_law_load","_law_k","_law_x"] V_ (ae dF):=sq
def aeU (D:Def K mg "_law_load_by" dF V_)(aX:mg "len"=none)(aZ:mg "range"=none)(aoi:ac P w K mg gw 3 "_law_forces" V_ (uJ K))(m8:ac P w K mg gw 33 "_law_lowest" VH cH):
  ac P w K mg gw 34 "_law_load_by" V_ (yF K):=by
 refine D.oo dR fun H hr h=>?_;obtain ⟨pA,bA,tA,uA,us,ws,kT,kU,pX,ao,T,U,N,rfl,fr,fo,lN,lp3,lb7,q⟩:=h;let L2:2<=BZ:=cr
 let lp:=fr.lp;let lu:us.length=pX.length:=HR fr.pp
 show ⟨_,(aa (aA 4 dR.nd (aU aoi hr (rR (pv 0) (bx (pv 1) (pv 2) (pv 3))))) (aa (aA 5 dR.nd cT) (aa (a_ HM rfl (bV rfl aZ (aV (aR aH rfl aX cA (aV (pv 0))))) (b6 6 dR.nd) (aa (aA 7 dR.nd (aU m8 hr (aF (aw cJ af (aG (iM (bL aQ (pv 4) (pv 6))))) (aG (iM (bL aQ (pv 4) (pv 6))))))) (aj (cy (bU hr) (pv 5) (aG (bL aQ (pv 0) (pv 6))) (aJ (aF (pv 7) (aU m8 hr (aF (aw cJ af (aG (iM (bL aQ (pv 4) (pv 6))))) (aG (iM (bL aQ (pv 4) (pv 6)))))))) rfl)))) (aj (aD (pv 5)))))),?_⟩;sleep 3
 show ⟨_,rfl,_,rfl,_,rfl,_,rfl,pA,bA,tA,uA,us,ws,kT,kU,pX,ao,T,U,N,rfl,fr,fo,fun fA ls H1 s1 ll hF=>?_⟩
 let hF:=hF.up (show _<=2490 by
  let h1:ao.length*(4*(N+51))<=7*(4*(11+51)):=SV lb7 ci;let h2:pX.length*(4*(N+51))<=3*(4*(11+51)):=SV lp3 ci
  omega)
 intros d nd H2 s2 e2;let LI:=s1.trans s2;let enb:((us.length:Nat):Int).toNat=pX.length:=ci
 show ⟨_,rfl,pA,_,rfl,.inl (aK.of (LI _ _ fr.hp)),((us.length:Nat):Int),rfl,ci,ci,let I:ce:=fun i Z H'=>KU fun (o6 o7:ω) (AD:γ)=>Z=[ap pA,ap bA,ap tA,ap uA,ap fA,ap d,o6,o7]/\aq H1 H'/\OC H' d AD (·.nm) (pX.take i) (fun H v _=>∃r,gC K H v r/\Sz 2500 r.1/\Sz 2500 r.2);cq (lo:=0) (n:=((us.length:Nat):Int).toNat) I ⟨none,none,[],rfl,s2,e2,by simp,fun x hx=>by simp at hx⟩ ?_ ?_⟩
 ·rintro i Z H3 hi ⟨o6,o7,AD,rfl,s3,di⟩
  let ek:(0:Int)+(i:Int)=(i:Int):=Ow _;rw [ek];let Wo:=s1.trans s3;let hiu:i<us.length:=ci
  obtain ⟨p,ep,WE⟩:=aE fr.pp (gE hiu);obtain ⟨ta,lw,sv,iY,eu,h1,_,_,_⟩:=WE.gV Wo;let ai:jc us (i:Int)=some (.ref ta):=bF (by rw [gE hiu,eu]);let F3:=hF.gV s3;obtain ⟨lr,elr⟩:∃lr,ls[i]?=some lr:=⟨_,gE ci⟩;obtain ⟨w1,w2,r1,r2,hlr,⟨q1,⟨a1,rfl,m1⟩,b1,_,d1⟩,⟨q2,⟨a2,rfl,m2⟩,b2,_,d2⟩⟩:=F3.row lr (DA elr);let etl:jc (ls.map V.ref) (i:Int)=some (.ref lr):=bF (by rw [BJ,elr];rfl);let lf:=aK.of (K:=K) F3.hf;let lrq:=aK.of (K:=K) hlr;show ⟨_,rfl,_,rfl,fA,_,_,_,rfl,rfl,lf,etl,lr,_,_,_,rfl,rfl,lrq,rfl,a1,_,_,_,rfl,rfl,m1,ib,_,_,rfl,rfl,_,rfl,_,rfl,fA,_,_,_,rfl,rfl,lf,etl,lr,_,_,_,rfl,rfl,lrq,rfl,a1,_,_,_,rfl,rfl,m1,iD,_,_,rfl,b1,fun p4 H4 s4 e4=>?_⟩;rw [fY (Nd b1)] at e4;let lf4:=aK.of (K:=K) (s4 _ _ F3.hf);let lr4:=aK.of (K:=K) (s4 _ _ hlr);let m24:=Ty.aq.dI s4 m2;show ⟨_,rfl,_,rfl,_,rfl,fA,_,_,_,rfl,rfl,lf4,etl,lr,_,_,_,rfl,rfl,lr4,rfl,a2,_,_,_,rfl,rfl,m24,ib,_,_,rfl,rfl,_,rfl,_,rfl,fA,_,_,_,rfl,rfl,lf4,etl,lr,_,_,_,rfl,rfl,lr4,rfl,a2,_,_,_,rfl,rfl,m24,iD,_,_,rfl,b2,fun p5 H5 s5 e5=>?_⟩;rw [fY (Nd b2)] at e5;show ⟨L2,?_⟩;intros p6 n6 H6 s6 e6;let SM:=s4.trans (s5.trans s6);let di6:=di.gV (fun _ _ ⟨r,z,z'⟩=>⟨r,z.gV SM,z'⟩) SM;let lk:=di6.len;rw [HQ] at lk;show ⟨_,rfl,_,rfl,_,rfl,pA,_,_,_,rfl,rfl,aK.of ((Wo.trans SM) _ _ fr.hp),ai,ta,_,_,_,rfl,rfl,Ty.aq.dI SM h1,dC,d,_,rfl,gM.k (k:=.inr p.nm) di6.hd (GG (show AD.length<=100 by omega) cr),_,_,_,rfl,fun b o z=>(by rw [ah (ak z nd)];exact SM _ _ (s3 _ _ z)),di6.put fr.gp.np ep (fun _ _ ⟨r,z,z'⟩=>⟨r,z.aT (ni di6.hd),z'⟩) ⟨(_,_),⟨p6,_,_,rfl,bZ.of e6,gS (s6 _ _ (s5 _ _ e4)),gS (s6 _ _ e5)⟩,szN b1 d1,szN b2 d2⟩⟩
 ·rintro Z H3 ⟨o6,o7,AD,rfl,s3,di⟩
  rw [enb,Nq] at di;let lk:=di.len;let ky:=di.ky
  let nk:(AD.map (·.1)).Nodup:=by
   rw [ky];have:(pX.map fun p=>(GH p.nm:Key))=(pX.map (·.nm)).map GH:=by rw [MI];rfl
   rw [this];exact akM _ (fun a b n z=>n (by injection z)) fr.gp.np
  let ex:∀x:Str,∃o:Option (Rat×Rat),(bB AD (.inr x)=none/\o=none)\/∃v r,bB AD (.inr x)=some v/\o=some r/\gC K H3 v r/\Sz 2500 r.1/\Sz 2500 r.2:=fun x=>by
   by_cases c:x∈pX.map (·.nm)
   ·obtain ⟨p,mp,rfl⟩:=CI.mp c
    obtain ⟨v,a,r,b,z⟩:=di.tv p mp;show ⟨some r,.inr ⟨v,r,a,rfl,b,z⟩⟩
   ·show ⟨none,.inl ⟨bS (fun z=>c ?_),rfl⟩⟩
    rw [ky] at z;obtain ⟨p,mp,e⟩:=CI.mp z;exact CI.mpr ⟨p,mp,by injection e⟩
  obtain ⟨L,hL⟩:=Classical.skolem.mp ex;show ⟨_,rfl,q d AD L H3 (s1.trans s3) ⟨di.hd,fun x=>?_,nk,fun kv BO=>?_,fun x=>?_,ci⟩ ci⟩
  ·rcases hL x with h|⟨v,r,a,b,c,_⟩
   ·exact .inl h
   ·exact .inr ⟨v,r,a,b,c⟩
  ·have:kv.1∈AD.map (·.1):=CI.mpr ⟨kv,BO,rfl⟩
   rw [ky] at this;obtain ⟨p',mp,e⟩:=CI.mp this;show ⟨p'.nm,CI.mpr ⟨p',mp,rfl⟩,e.symm⟩
  ·unfold mv
   rcases hL x with ⟨_,h⟩|⟨v,r,_,b,_,c⟩
   ·rw [h]
    show ⟨d9 cr,d9 cr⟩
   ·rw [b]
    exact c
def agx (CN CB CG:AO)(H:Hp)(v:V)(k x:Str):Prop:=(v=.cO/\k="told"/\x="")\/∃(a C dx:AO)(f:Str),v=.ref a/\H a=some (pQ (.ref C) a (some dx))/\H dx=some (MM dx [(f,.str x)])/\((C=CN/\f="pin"/\k="pin")\/(C=CB/\f="bar"/\k="bar")\/(C=CG/\f="bar"/\k="grip"))
inductive yG (CN CB CG:AO)(vs:ζ)(H:Hp)(Q:VK)(E_:XK):Prop
|mk (v:V)(k x:Str)(_:vs=[v])(_:agx CN CB CG H v k x)(_:∀(p:AO)(H':Hp),aq H H' ->H p=none->H' p=some (.tup [.str k,.str x])->Q (.ref p) H')
structure WH (K:Frag)(C CN CB CG:AO)(a b c:Bool):Prop where
 n:Ou K (.ref C) (.ref CN)=some a
 b:Ou K (.ref C) (.ref CB)=some b
 g:Ou K (.ref C) (.ref CG)=some c
 v:Ou K (.ref C) (.type "ValueError")=some true
def qW:av ["_law_error","_law_kinds"] vn (ae f9):=sq
def aal (D:Def K mg "_law_said" f9 vn)(Ov:mg "NoPin"=some (.ref CN))(Ox:mg "NoBar"=some (.ref CB))(jw:mg "NoGrip"=some (.ref CG))(eC:mg "isinstance"=none)(jW:mg "ValueError"=none)(S8:mg "sum"=none)(LV:mg "int"=none)(xn:mH.nX K CN "pin")(xb:mH.nX K CB "bar")(xg:mH.nX K CG "bar")
  (kn:WH K CN CN CB CG true false false) (kb:WH K CB CN CB CG false true false) (kg:WH K CG CN CB CG false false true):ac P w K mg gw 2 "_law_said" vn (yG CN CB CG):=by
 refine D.op qW fun f bE A outer s H vs Q E hr h=>?_;obtain ⟨v,k,x,rfl,h,q⟩:=h
 show ⟨_,(aa (bh (bg FI (pv 0) kc) (aj (aD (aJ (aF bT bT)))) aI) (aa (aA 1 qW.nd (bI (bx (aR (lQ (K:=K) rfl) rfl eC gX (aF (pv 0) (FU rfl Ov))) (aR (lQ (K:=K) rfl) rfl eC gX (aF (pv 0) (FU rfl Ox))) (aR (lQ (K:=K) rfl) rfl eC gX (aF (pv 0) (FU rfl jw)))))) (aa (bh (PW.pt (Qg (ahV (EZ (aR (lQ (K:=K) rfl) rfl eC gX (aF (pv 0) (adv rfl jW akz))))) (FA (bg AG (aR (aha rfl) rfl S8 adT (aV (g6 (tn:=Vb) (fr:=[]) (oV:=[]) (a9 (pv 1)) (cu we rfl LV Yc (aV (pv 0)))))) af)))) (aj (aD (aJ (aF bT bT)))) aI) (aa (bh (EZ (iM (pv 1))) (aj (aD (aJ (aF bT (zak (K:=K) rfl (pv 0) rfl))))) aI) (aj (aD (aJ (aF (bL aQ (bI (aF bT bT)) (cu we rfl LV Yc (aV (iM (pv 1))))) (zak (K:=K) rfl (pv 0) rfl))))))))),?_⟩;sleep 4
 rcases h with ⟨rfl,rfl,rfl⟩|⟨a,C,dx,f,rfl,ea,ed,h⟩
 ·show ⟨_,rfl,rfl,_,rfl,bD (fun _=>?_) (fun c=>CH rfl c)⟩
  show ⟨qZ,?_⟩;intros p n1 H1 s1 e1;exact q p H1 s1 n1 e1
 show ⟨_,rfl,rfl,_,rfl,bD (fun c=>nomatch c) (fun _=>?_)⟩
 obtain ⟨b1,b2,b3,kt,xf,hw⟩:∃b1 b2 b3,WH K C CN CB CG b1 b2 b3/\mH.nX K C f/\((b1=true/\b2=false/\b3=false/\k="pin")\/(b1=false/\((b2=true/\b3=false/\k="bar")\/(b2=false/\b3=true/\k="grip")))):=by
  rcases h with ⟨rfl,rfl,rfl⟩|⟨rfl,rfl,rfl⟩|⟨rfl,rfl,rfl⟩
  ·show ⟨_,_,_,kn,xn,.inl ⟨rfl,rfl,rfl,rfl⟩⟩
  ·show ⟨_,_,_,kb,xb,.inr ⟨rfl,.inl ⟨rfl,rfl,rfl⟩⟩⟩
  ·show ⟨_,_,_,kg,xg,.inr ⟨rfl,.inr ⟨rfl,rfl,rfl⟩⟩⟩
 show ⟨_,rfl,a,C,_,b1,_,rfl,rfl,ea,xf.k,kt.n,_,rfl,a,C,_,b2,_,rfl,rfl,ea,xf.k,kt.b,_,rfl,a,C,_,b3,_,rfl,rfl,ea,xf.k,kt.g,z3L,?_⟩;intros l n1 H1 s1 e1;let ea1:=s1 _ _ ea;show ⟨_,rfl,a,C,_,true,_,rfl,rfl,ea1,xf.k,kt.v,_,rfl,bD (fun c=>nomatch c) (fun _=>?_)⟩;show ⟨_,rfl,l,rfl,⟨_,aK.of e1⟩,fun D1 nD=>?_⟩;refine dE (oY:=[]) (K:=K) (a:=l) (xs:=[.bl b1,.bl b2,.bl b3]) (fun i v _=>∃b,[b1,b2,b3][i]?=some b/\v=.int (if b=true then 1 else 0)) nD (by show 3<BZ;decide) (fun H2 s2=>aK.of (s2 _ _ e1)) (fun _ _ _ _ _ _ _ h=>h) ?_ ?_
 ·intro j u H6 Rq hu s6 k6
  let hu':([b1,b2,b3].map V.bl)[j]?=some u:=hu;rw [BJ] at hu';obtain ⟨b,eb,rfl⟩:=GX.mp hu';show ⟨_,rfl,.inr ⟨b,rfl,k6 _ _ (aq.refl _) ⟨b,eb,rfl⟩⟩⟩
 intro ys H4 hy kK s4 hD
 let ey:ys=([b1,b2,b3].map fun b=>if b=true then (1:Int) else 0).map V.int:=by
  refine V0 fun i=>?_;rw [MI,BJ];by_cases c:i<3
  ·let hi:i<ys.length:=by rwa [hy]
   obtain ⟨b,eb,e⟩:=kK i ys[i] (gE hi);rw [gE hi,e,eb];rfl
  ·rw [HX (by rw [hy];show 3<=i;omega),HX (by show 3<=i;omega)]
   rfl
 rw [ey] at hD
 let sm:([b1,b2,b3].map fun b=>if b=true then (1:Int) else 0).sum=1:=by
  rcases hw with ⟨rfl,rfl,rfl,_⟩|⟨rfl,⟨rfl,rfl,_⟩|⟨rfl,rfl,_⟩⟩<;>rfl
 show ⟨D1,_,rfl,aK.of hD,rfl,_,rfl,?_⟩;rw [sm];refine bD (fun c=>nomatch c) (fun _=>?_);let e4:=s4 _ _ e1;let ea4:=s4 _ _ ea1;let ed4:=s4 _ _ (s1 _ _ ed);let s04:=s1.trans s4;show ⟨_,rfl,l,_,_,_,rfl,rfl,aK.of e4,rfl,_,rfl,?_⟩
 rcases hw with ⟨rfl,rfl,rfl,rfl⟩|⟨rfl,hw⟩
 ·refine bD (fun _=>?_) (fun c=>CH rfl c)
  obtain rfl:f="pin":=by
   rcases h with ⟨_,z,_⟩|⟨_,_,z⟩|⟨_,_,z⟩
   ·exact z
   ·exact CH z (by decide+kernel)
   ·exact CH z (by decide+kernel)
  show ⟨_,rfl,a,C,dx,_,.str x,rfl,ea4,ed4,xf,YA _ _,qZ,?_⟩;intros p n5 H5 s5 e5;exact q p H5 (s04.trans s5) (s04.free n5) e5
 ·refine bD (fun c=>nomatch c) (fun _=>?_)
  obtain rfl:f="bar":=by
   rcases h with ⟨_,_,z⟩|⟨_,z,_⟩|⟨_,z,_⟩
   ·rcases hw with ⟨_,_,y⟩|⟨_,_,y⟩
    ·exact CH (y.symm.trans z) (by decide+kernel)
    ·exact CH (y.symm.trans z) (by decide+kernel)
   ·exact z
   ·exact z
  show ⟨qZ,?_⟩;intros l2 n5 H5 s5 e5
  let ez:jc [V.str "bar",V.str "grip"] (if b3=true then 1 else 0)=some (.str k):=by
   rcases hw with ⟨_,rfl,rfl⟩|⟨_,rfl,rfl⟩<;>rfl
  show ⟨_,rfl,l,_,_,_,rfl,rfl,aK.of (s5 _ _ e4),rfl,.inr ⟨_,rfl,l2,_,_,_,rfl,rfl,aK.of e5,ez,?_⟩⟩;show ⟨_,rfl,a,C,dx,_,.str x,rfl,s5 _ _ ea4,s5 _ _ ed4,xf,YA _ _,qZ,?_⟩;intros p n6 H6 s6 e6;exact q p H6 (s04.trans (s5.trans s6)) ((s04.trans s5).free n6) e6
inductive Due (ns:θ)(AD:γ)(G:ο):Str->Str->Prop
 | bar {t:Nat} {x:Str} {y:V} (e:AD[t]?=some (.inr x,y)) (n:x∉ns) (k:KeysIn ns (AD.take t)):Due ns AD G "bar" x
 | DB {t:Nat} {x:Str} (k:KeysIn ns AD) (e:ns[t]?=some x) (p:∀y∈ns.take t,0<(bX G y).1) (n:(bX G x).1<=0):Due ns AD G "grip" x
 | told (k:KeysIn ns AD) (p:∀x∈ns,0<(bX G x).1):Due ns AD G "told" ""
def xj {Y:Type}{l:List Y}{x:Y}(e:l[t]?=some x)(h:t<u):x∈l.take u:=DA (show (l.take u)[t]?=some x by rwa [VC h])
def KeysIn.no (k:KeysIn ns AD)(h:((.inr x,y):Key×V)∈AD)(n:x∉ns):False:=by
 obtain ⟨z,hz,e⟩:=k _ h;obtain rfl:=MQ e;exact n hz
def xk {Y:Type}{l:List Y}{A:Y->Prop}{x y:Y}(ex:l[t]?=some x)(ey:l[u]?=some y)(px:∀z∈l.take t,¬ A z)(py:∀z∈l.take u,¬ A z)(ax:A x)(ay:A y):x=y:=by
 rcases alu t u with h|h|h
 ·exact CH ax (py x (xj ex h))
 ·rw [h,ey] at ex
  exact (MY ex).symm
 ·exact CH ay (px y (xj ey h))
def Due.uniq (h:Due ns AD G k x)(h':Due ns AD G k' x'):k=k'/\x=x':=by
 cases h with
 | bar e n kk=>
  cases h' with
  | bar e' n' kk'=>
   have:=xk (A:=fun z:Key×V=>∃s y,z=(.inr s,y)/\s∉ns) e e' (fun z hz ⟨s,y,es,ns'⟩=>kk.no (es▸hz) ns') (fun z hz ⟨s,y,es,ns'⟩=>kk'.no (es▸hz) ns') ⟨_,_,rfl,n⟩ ⟨_,_,rfl,n'⟩;cases this;show ⟨rfl,rfl⟩
  | DB k'=>exact (k'.no (DA e) n).elim
  | told k'=>exact (k'.no (DA e) n).elim
 | DB kk e p n=>
  cases h' with
  | bar e' n'=>exact (kk.no (DA e') n').elim
  | DB k' e' p' n'=>show ⟨rfl,xk (A:=fun z=>(bX G z).1<=0) e e' (fun z hz a=>by have:=p z hz;omega) (fun z hz a=>by have:=p' z hz;omega) n n'⟩
  | told k' p'=>exact CH (p' _ (DA e)) ci
 | told kk p=>
  cases h' with
  | bar e' n'=>exact (kk.no (DA e') n').elim
  | DB k' e' p' n'=>exact CH (p _ (DA e')) ci
  | told=>show ⟨rfl,rfl⟩
def aok (ps ns:θ)(kL kG:γ)(G:ο)(k x:Str):Prop:=(k="pin"/\∃(t:Nat)(y:V),kL[t]?=some (.inr x,y)/\x∉ps/\KeysIn ps (kL.take t))\/(KeysIn ps kL/\Due ns kG G k x)
inductive yH (K:Frag)(C:AO)(vs:ζ)(H:Hp)(Q:VK)(E_:XK):Prop
|mk (a d e:AO)(pX:ς)(ao:Η)(kG kL:γ)(Go:τ)(L:ρ)(_:vs=[.ref a,.ref d,.ref e])(_:SK K H C a d e pX ao kG kL Go L)(_:∀(p:AO)(k x:Str)(H':Hp),aq H H' ->H' p=some (.tup [.str k,.str x])->aok (pX.map (·.nm)) (ao.map (·.nm)) kL kG (fun x=>(Go x).map qr) k x->Q (.ref p) H')
def iR:av ["_law_frame_here","_law_grips_here","_law_load","_law_error","e"] BP (ae f_):=sq
def abM (D:Def K mg "_law_bend" f_ BP)(mW:mg "YardError"=some (.ref CY))(en:VM K (.ref CN) (.ref CY)=some true)(eb:VM K (.ref CB) (.ref CY)=some true)(eg:VM K (.ref CG) (.ref CY)=some true)(nj:ac P w K mg gw 2 "_law_said" vn (yG CN CB CG))
  (OD:ac P w K mg gw 40 "bend_of" CP (HW K C CN CB CG)):ac P w K mg gw 41 "_law_bend" BP (yH K C):=by
 refine D.oo iR fun H hr h=>?_;obtain ⟨a,d,e,pX,ao,kG,kL,Go,L,rfl,B,q⟩:=h
 show ⟨_,(aa (aA 3 iR.nd kc) (aa (ahF ⟨rfl,rfl⟩ (zv4 (Yf OD hr.mo (bx (pv 0) (pv 1) (pv 2)))) (Yd (i:=4) (QN.own mW) iR.nd rfl rfl (fun a=>(aj (aA 3 iR.nd (pv 4)))) ahJ)) (aj (aD (aU nj hr (aV (pv 3))))))),?_⟩
 show ⟨_,rfl,_,rfl,_,rfl,a,d,e,pX,ao,kG,kL,Go,L,rfl,B,fun t x y e1 n1 k1 dd H' sH nd hd=>?_,fun ki=>⟨fun t x y e1 n1 k1 dd H' sH nd hd=>?_,fun kb t x e1 p1 n1 dd H' sH nd hd=>?_⟩,fun v H' k1 k2 p1 sH=>?_⟩
 ·show ⟨true,en,QH fun ea na=>?_⟩
  let sE:=aC na (pQ (.ref CN) ea (some dd));show ⟨_,rfl,_,rfl,.ref ea,"pin",x,rfl,.inr ⟨ea,CN,dd,"pin",rfl,ag,sE _ _ hd,.inl ⟨rfl,rfl,rfl⟩⟩,fun p H2 s2 n2 e2=>q p _ _ H2 (sH.trans (sE.trans s2)) e2 (.inl ⟨rfl,t,y,e1,n1,k1⟩)⟩
 ·show ⟨true,eb,QH fun ea na=>?_⟩
  let sE:=aC na (pQ (.ref CB) ea (some dd));show ⟨_,rfl,_,rfl,.ref ea,"bar",x,rfl,.inr ⟨ea,CB,dd,"bar",rfl,ag,sE _ _ hd,.inr (.inl ⟨rfl,rfl,rfl⟩)⟩,fun p H2 s2 n2 e2=>q p _ _ H2 (sH.trans (sE.trans s2)) e2 (.inr ⟨ki,.bar e1 n1 k1⟩)⟩
 ·show ⟨true,eg,QH fun ea na=>?_⟩
  let sE:=aC na (pQ (.ref CG) ea (some dd));show ⟨_,rfl,_,rfl,.ref ea,"grip",x,rfl,.inr ⟨ea,CG,dd,"bar",rfl,ag,sE _ _ hd,.inr (.inr ⟨rfl,rfl,rfl⟩)⟩,fun p H2 s2 n2 e2=>q p _ _ H2 (sH.trans (sE.trans s2)) e2 (.inr ⟨ki,.DB kb e1 p1 n1⟩)⟩
 ·show ⟨_,rfl,.cO,"told","",rfl,.inl ⟨rfl,rfl,rfl⟩,fun p H2 s2 n2 e2=>q p _ _ H2 (sH.trans s2) e2 (.inr ⟨k1,.told k2 p1⟩)⟩
structure WI (K:Frag)(H:Hp)(C a d e:AO)(ns:θ)(kG:γ)(G:ο):Prop where
 ex:∃(dx pP pW pB:AO)(ps:Ι)(bs:Α)(kP kW kB SU:γ)(Pl:ο),gZ K H C a dx pP pW pB ps bs kP kW kB/\bs.map (·.1)=ns/\H e=some (.dK SU)/\pG K H SU Pl/\(∀x,mi 40 (mZ Pl x))
 hd:H d=some (.dK kG)
 hG:pG K H kG G
 hk:∀kv∈kG,∃x:Str,kv.1=.inr x
 ln:ns.length<=20
 nd:ns.Nodup
 zg:∀x,mi 40 (bX G x)
inductive qv (K:Frag)(C:AO)(vs:ζ)(H:Hp)(Q:VK)(E_:XK):Prop
|mk (a d e:AO)(ns:θ)(kG:γ)(G:ο)(_:vs=[.ref a,.ref d,.ref e])(_:WI K H C a d e ns kG G)(_:∀(p:AO)(k x:Str)(H':Hp),aq H H' ->H' p=some (.tup [.str k,.str x])->Due ns kG G k x->Q (.ref p) H')
def gu:av ["_law_frame_here","_law_grips_here","_law_pulls_here","_law_error","e"] BX (ae d6):=sq
def ad4 (D:Def K mg "_law_stored" d6 BX)(mW:mg "YardError"=some (.ref CY))(eb:VM K (.ref CB) (.ref CY)=some true)(eg:VM K (.ref CG) (.ref CY)=some true)(nj:ac P w K mg gw 2 "_law_said" vn (yG CN CB CG))
  (DE:ac P w K mg gw 35 "stored_of" CU (uE K C CB CG)):ac P w K mg gw 36 "_law_stored" BX (qv K C):=by
 refine D.oo gu fun H hr h=>?_;obtain ⟨a,d,e,ns,kG,G,rfl,B,q⟩:=h;obtain ⟨⟨dx,pP,pW,pB,ps,bs,kP,kW,kB,SU,Pl,R,rfl,he,hP,zp⟩,hd,hG,hk,ln,nd,zg⟩:=B
 show ⟨_,(aa (aA 3 gu.nd kc) (aa (ahF ⟨rfl,rfl⟩ (zv4 (Yf DE hr.mo (bx (pv 0) (pv 1) (pv 2)))) (Yd (i:=4) (QN.own mW) gu.nd rfl rfl (fun a=>(aj (aA 3 gu.nd (pv 4)))) ahJ)) (aj (aD (aU nj hr (aV (pv 3))))))),?_⟩
 show ⟨_,rfl,_,rfl,_,rfl,a,dx,pP,pW,pB,d,e,ps,bs,kP,kW,kB,kG,SU,G,Pl,rfl,R,hd,hG,he,hP,hk,(by rwa [ir] at ln),nd,zg,zp,fun t x y e1 n1 k1 dd H' sH nd hd=>?_,fun kb t x e1 p1 n1 dd H' sH nd hd=>?_,fun v H' k2 p1 sH=>?_⟩
 ·show ⟨true,eb,QH fun ea na=>?_⟩
  let sE:=aC na (pQ (.ref CB) ea (some dd));show ⟨_,rfl,_,rfl,.ref ea,"bar",x,rfl,.inr ⟨ea,CB,dd,"bar",rfl,ag,sE _ _ hd,.inr (.inl ⟨rfl,rfl,rfl⟩)⟩,fun p H2 s2 n2 e2=>q p _ _ H2 (sH.trans (sE.trans s2)) e2 (.bar e1 n1 k1)⟩
 ·show ⟨true,eg,QH fun ea na=>?_⟩
  let sE:=aC na (pQ (.ref CG) ea (some dd));show ⟨_,rfl,_,rfl,.ref ea,"grip",x,rfl,.inr ⟨ea,CG,dd,"bar",rfl,ag,sE _ _ hd,.inr (.inr ⟨rfl,rfl,rfl⟩)⟩,fun p H2 s2 n2 e2=>q p _ _ H2 (sH.trans (sE.trans s2)) e2 (.DB kb e1 p1 n1)⟩
 ·show ⟨_,rfl,.cO,"told","",rfl,.inl ⟨rfl,rfl,rfl⟩,fun p H2 s2 n2 e2=>q p _ _ H2 (sH.trans s2) e2 (.told k2 p1)⟩
inductive S9 (K:Frag)(vs:ζ)(H:Hp)(Q:VK)(E_:XK):Prop
|mk (bA gA nA:AO)(ws:ζ)(pX:ς)(ao:Η)(kG:γ)(G:ο)(_:vs=[.ref bA,.ref gA,.ref nA])(_:H bA=some (.lst ws))(_:Paired (m_ K H pX) ws ao)(_:H gA=some (.dK kG))(_:pG K H kG G)(_:(∀kv∈kG,∃x:Str,kv.1=.inr x))(_:H nA=some (.lst ((ao.map (·.nm)).map V.str)))(_:∀(p:AO)(k x:Str)(H':Hp),aq H H' ->H' p=some (.tup [.str k,.str x])->Due (ao.map (·.nm)) kG G k x->Q (.ref p) H')
def nq:av ["_law_bars_here","_law_grips_here","_law_names","_law_name_here","_law_bar"] BN (ae ia):=sq
def aaW (D:Def K mg "_law_due" ia BN)(cj:mg "list"=none):ac P w K mg gw 1 "_law_due" BN (S9 K):=by
 refine D.oo nq fun H hr h=>?_;obtain ⟨bA,gA,nA,ws,pX,ao,kG,G,rfl,hb,pb,hd,hG,hk,hn,q⟩:=h;let lw:ws.length=ao.length:=HR pb
 show ⟨_,(aa (a_ HM rfl (a9 (cu (fX rfl) rfl cj kE (aV (pv 1)))) (b6 3 nq.nd) (aj (bh (jD gW (pv 3) (pv 2) rfl) (aj (aD (aJ (aF bT (pv 3))))) aI))) (aa (a_ HM rfl (a9 (pv 0)) (b6 4 nq.nd) (aj (bh (bg X3 (aG (ip (bU hr) (pv 1) (aG (pv 4)) (aJ (aF af af)) ⟨rfl,rfl,rfl,rfl⟩)) af) (aj (aD (aJ (aF bT (aG (pv 4)))))) aI))) (aj (aD (aJ (aF bT bT)))))),?_⟩;sleep 2
 show ⟨_,rfl,gA,kG,rfl,.inl hd,?_⟩;intros l n1 H1 s1 e1;let hn1:=s1 _ _ hn
 show ⟨l,rfl,⟨_,aK.of e1⟩,let I:ce:=fun i Z H'=>∃(o3:ω),Z=[ap bA,ap gA,ap nA,o3,none]/\H'=H1/\KeysIn (ao.map (·.nm)) (kG.take i);bM (K:=K) (a:=l) (xs:=kG.map fun kv=>kV kv.1) I ⟨none,rfl,rfl,fun kv h=>(by simp at h)⟩ (fun i Z H' _ h=>by
   obtain ⟨_,_,rfl,_⟩:=h
   exact aK.of e1) ?_ ?_⟩
 ·rintro i z Z H2 hi ⟨o3,rfl,rfl,ki⟩
  rw [BJ] at hi;obtain ⟨⟨ky,y⟩,mj,rfl⟩:=GX.mp hi;obtain ⟨x,ex⟩:=hk _ (DA mj);have u_ :ky=.inr x:=ex;subst u_;show ⟨_,rfl,_,rfl,nA,_,rfl,.inl (aK.of hn1),rfl,jq _,_,rfl,?_⟩;refine bD (fun c=>?_) (fun c=>?_)
  ·let c':(!zV (.str x) ((ao.map (·.nm)).map V.str))=true:=c
   let nx:x∉ao.map (·.nm):=fun z=>by
    erw [dy,Ms z] at c'
   show ⟨_,rfl,qZ,?_⟩;intros p n2 H2 s2 e2;exact q p _ _ H2 (s1.trans s2) e2 (.bar mj nx ki)
  ·show ⟨_,rfl,rfl,fun kv h=>?_⟩
   rw [take_snoc mj] at h
   rcases FQ.mp h with h|h
   ·exact ki kv h
   ·rw [GZ.mp h]
    let c':¬ (!zV (.str x) ((ao.map (·.nm)).map V.str))=true:=c;show ⟨x,?_,rfl⟩;by_cases hx:x∈ao.map (·.nm)
    ·exact hx
    ·rw [dy,Nt hx] at c'
     exact CH rfl c'
 ·rintro Z H2 ⟨o3,rfl,rfl,ki⟩
  rw [SS (by rw [ir];exact DH _)] at ki
  show ⟨_,rfl,bA,rfl,⟨_,aK.of (s1 _ _ hb)⟩,let I:ce:=fun i Z H'=>∃(o4:ω),Z=[ap bA,ap gA,ap nA,o3,o4]/\aq H H'/\∀y∈(ao.map (·.nm)).take i,0<(bX G y).1;bM (K:=K) (a:=bA) (xs:=ws) I ⟨none,rfl,s1,fun y h=>(by simp at h)⟩ (fun i Z H' _ h=>by
   obtain ⟨_,_,h,_⟩:=h
   exact aK.of (h _ _ hb)) ?_ ?_⟩
  ·rintro i z Z H3 hi ⟨o4,rfl,s3,pr⟩
   obtain ⟨b,eb,LU⟩:=aE pb hi;obtain ⟨ta,j1,j2,rfl,h1,_⟩:=LU.gV s3;let ex:(ao.map (·.nm))[i]?=some b.nm:=by rw [BJ,eb];rfl
   show ⟨_,rfl,gA,rfl,.inl ⟨_,.inl (s3 _ _ hd)⟩,_,rfl,ta,_,_,_,rfl,rfl,h1,dC,qZ,?_⟩;intros pO n4 H4 s4 e4;let s34:=s3.trans s4;let d4:=s34 _ _ hd;let g4:=(hG.gV s34).BQ (x:=b.nm) (v:=.ref pO) (q:=(1,1)) ⟨pO,rfl,bZ.of e4⟩;show ⟨_,dX.k (k:=.inr b.nm) d4,?_⟩;obtain ⟨p,ep,hp4⟩:=id g4;rw [ep];show ⟨p,_,_,_,rfl,rfl,hp4,ib,_,_,rfl,rfl,_,rfl,?_⟩;refine bD (fun c=>?_) (fun c=>?_)
   ·show ⟨_,rfl,ta,_,_,_,rfl,rfl,Ty.aq.dI s4 h1,dC,qZ,?_⟩
    intros p5 n5 H5 s5 e5;exact q p5 _ _ H5 (s34.trans s5) e5 (.DB ki ex pr (Nl c))
   ·show ⟨_,rfl,s34,fun y hy=>?_⟩
    rw [Q0,ex] at hy
    rcases FQ.mp hy with h|h
    ·exact pr y h
    ·rw [show y=b.nm by simpa using h]
     exact Int.not_le.mp fun z=>c (Ms z)
  ·rintro Z H3 ⟨o4,rfl,s3,pr⟩
   rw [SS (by rw [ir];omega)] at pr;show ⟨qZ,?_⟩;intros p5 n5 H5 s5 e5;exact q p5 _ _ H5 (s3.trans s5) e5 (.told ki pr)
def zaI {Y:Type}{nm:Y->Str}{l:List Y}{ys:ζ}(hl:ys.length=l.length)(h:∀(i:Nat)(v:V),ys[i]?=some v->∃p,l[i]?=some p/\v=V.str (nm p)):ys=(l.map nm).map V.str:=by
 refine V0 fun i=>?_;by_cases hi:i<ys.length
 ·obtain ⟨p,e1,e2⟩:=h i ys[i] (gE hi)
  rw [gE hi,e2,BJ,BJ,e1];rfl
 ·rw [HX ci,HX (by rw [ir,ir];omega)]
def zaG (xs:θ):Paired (fun u (x:Str)=>u=V.str x) (xs.map V.str) xs:=by
 induction xs with
 | nil=>exact .nil
 | cons x xs ih=>exact .cons rfl ih
theorem qw:∀{us:ζ} {xs:θ},Paired (fun u (x:Str)=>u=V.str x) us xs->us=xs.map V.str
 | _,_,.nil=>rfl
 | _,_,.cons h t=>by rw [h,qw t];rfl
inductive qz (K:Frag)(vs:ζ)(H:Hp)(Q:VK)(E_:XK):Prop
|mk (c0:Int)(kA oA:AO)(OE VP:θ)(_:vs=[.int c0,.ref kA,.ref oA])(_:H kA=some (.lst (OE.map V.str)))(_:OE.length<=9)(_:(∀x∈OE,1<=x.length/\x.length<=40))(_:H oA=some (.lst (VP.map V.str)))(_:VP.length<=9)(_:∀(l:AO)(xs:θ)(H':Hp),aq H H' ->H' l=some (.lst (xs.map V.str))->1<=xs.length->xs.length<=2->xs.Nodup->(∀x∈xs,x∉OE)->Q (.ref l) H')
def uN:av ["_law_cell","_law_known","_law_others","_law_some","_law_name_here","_law_first","_law_second"] BK (ae N8):=sq
def agy (D:Def K mg "_law_strange" N8 BK)(aX:mg "len"=none)(cB:ac P w K mg gw 1 "_law_field" Q6 dN):
  ac P w K mg gw 3 "_law_strange" BK (qz K):=by
 refine D.oo uN fun H hr h=>?_;obtain ⟨c0,kA,oA,OE,VP,rfl,hk,lk,ln,ho,lo,q⟩:=h;let sz:∀{n:Nat},n<=100->n<=BZ:=fun h=>CT h cr
 show ⟨_,(aa (aA 3 uN.nd (bI (alB ["zz","z","pppppppppp","","bb 1"] (by decide+kernel)))) (aa (a_ HM rfl (a9 (pv 1)) (b6 4 uN.nd) (aj (aA 3 uN.nd (aw fU (pv 3) (bI (bx (aw ie (pv 4) bT) (bY aj_ (pv 4) cP (cC (Qp FH af))) (aw ie bT (pv 4)))))))) (aa (GN (i:=3) (tn:=Vb) (fr:=["_law_known"]) (oV:=[1]) uN.nd (a9 (aw fU (pv 3) (pv 2))) (fun _ _ _ _=>(fC (i:=0) (show (["_law_one","_law_known"]:List Str).Nodup from by decide+kernel) rfl (RY rfl))) (fun _ _ _ _=>(FW (jD (mC (K:=K) rfl) (pv 0) (pv 1) rfl))) (pv 0)) (aa (aA 5 uN.nd (bL aQ (pv 3) (aU cB hr (bx (pv 0) af (aR aH rfl aX cA (aV (pv 3))))))) (aa (aA 6 uN.nd (bL aQ (pv 3) (aU cB hr (bx (pv 0) af (aR aH rfl aX cA (aV (pv 3))))))) (aa (bh (bg cY (pv 6) (pv 5)) (aj (aD (bI (aV (pv 5))))) aI) (aj (aD (bI (aF (pv 5) (pv 6))))))))))),?_⟩;sleep 6
 show ⟨z5L,?_⟩;intros l0 n0 H0 s0 e0
 show ⟨_,rfl,kA,rfl,⟨_,aK.of (s0 _ _ hk)⟩,let I:ce:=fun i Z H'=>KU fun (o4:ω) (l:AO) (ss:θ)=>Z=[some (.int c0),ap kA,ap oA,ap l,o4,none,none]/\aq H H'/\H' l=some (.lst (ss.map V.str))/\("":Str)∈ss/\ss.length<=5+3*i;bM (K:=K) (a:=kA) (xs:=OE.map V.str) I ⟨none,l0,["zz","z","pppppppppp","","bb 1"],rfl,s0,e0,by simp,DH _⟩ (fun i Z H' _ h=>by
   obtain ⟨_,_,_,_,h,_⟩:=h
   exact aK.of (h _ _ hk)) ?_ ?_⟩
 ·rintro i u Z H2 hu ⟨o4,l,ss,rfl,s2,el,me,ls⟩
  rw [BJ] at hu;obtain ⟨x,ex,rfl⟩:=GX.mp hu;let il:i<OE.length:=(Wp.mp ex).1;obtain ⟨n1,n40⟩:=ln x (DA ex);let lp1:("p":Str).length=1:=by decide+kernel
  show ⟨_,rfl,_,rfl,_,_,rfl,rfl,sz ci,_,rfl,_,rfl,_,rfl,x,rfl,sz ci,_,rfl,_,_,rfl,rfl,sz ci,z3L,?_⟩;intros l3 n3 H3 s3 e3;show ⟨l,l3,_,_,rfl,rfl,s3 _ _ el,e3,sz (by rw [ir];show ss.length+3<=100;omega),?_⟩;intros l4 n4 H4 s4 e4;show ⟨_,l4,ss++[x++("p":Str),Txt.slice x none (some (-1)),("p":Str)++x],rfl,s2.trans (s3.trans s4),?_,OA _ me,?_⟩
  ·rw [e4,MX]
   rfl
  ·rw [IA]
   show ss.length+3<=_;omega
 rintro Z H3 ⟨o4,l,ss,rfl,s3,el,me,ls⟩;rw [ir] at ls;let hk3:=s3 _ _ hk
 let no:("":Str)∉OE:=fun z=>by
  have:=(ln _ z).1;exact CH this (by decide+kernel)
 show ⟨_,rfl,_,rfl,l,oA,_,_,rfl,rfl,el,s3 _ _ ho,sz (by rw [ir,ir];omega),?_⟩;intros l5 n5 H5 s5 e5;rw [<-MX] at e5;let s05:=s3.trans s5;let hk5:=s5 _ _ hk3;let me5:("":Str)∈ss++VP:=OA _ me;let ls5:(ss++VP).length<=100:=by rw [IA];omega
 generalize ss++VP=ss at e5 me5 ls5;show ⟨l5,rfl,⟨_,aK.of e5⟩,fun D2 n2=>?_⟩;refine tV (K:=K) (a:=l5) (xs:=ss.map V.str) (zs:=ss) (Rl:=fun u (x:Str)=>u=V.str x) (oY:=[some (.ref kA)]) (fun x=> !zV (.str x) (OE.map V.str)) (zaG ss) n2 (by rw [ir];exact GG (show ss.length<=1000 by omega) cr) (fun H2 s2=>aK.of (s2 _ _ e5)) ?_ ?_ ?_
 ·intro x z HC RC hz mz sC kC
  rw [hz];show ⟨_,rfl,_,rfl,kA,_,rfl,.inl (aK.of (sC _ _ hk5)),rfl,jq _,_,rfl,kC _ (aq.refl _)⟩
 ·intro x z HC RC hz sC k
  show ⟨_,rfl,k⟩
 intro us5 H6 p5 s6 e6;rw [qw p5] at e6
 let abd:∀x∈ss.filter (fun x=> !zV (.str x) (OE.map V.str)),x∉OE:=fun x h=>by
  have:=(Wu.mp h).2;rw [dy] at this;simpa using this
 let pos:0<(ss.filter (fun x=> !zV (.str x) (OE.map V.str))).length:=Ry (Wu.mpr ⟨me5,by rw [dy];simpa using no⟩);generalize ss.filter (fun x=> !zV (.str x) (OE.map V.str))=fs at e6 abd pos;let Wq:=s05.trans s6;let f1:=aL (c:=c0) (p:=1009) (m:=((fs.map V.str).length:Int)) (by rw [ir];omega);let f2:=aL (c:=c0) (p:=2003) (m:=((fs.map V.str).length:Int)) (by rw [ir];omega);obtain ⟨k1,ek1⟩:∃n:Nat,field c0 1009 ((fs.map V.str).length:Int)=(n:Int):=⟨(field c0 1009 ((fs.map V.str).length:Int)).toNat,ci⟩;obtain ⟨k2,ek2⟩:∃n:Nat,field c0 2003 ((fs.map V.str).length:Int)=(n:Int):=⟨(field c0 2003 ((fs.map V.str).length:Int)).toNat,ci⟩;rw [ek1,ir] at f1;rw [ek2,ir] at f2;obtain ⟨x1,ex1⟩:∃x,fs[k1]?=some x:=⟨_,gE ci⟩;obtain ⟨x2,ex2⟩:∃x,fs[k2]?=some x:=⟨_,gE ci⟩;let pos':(0:Int)<((fs.map V.str).length:Int):=by rw [ir];omega
 show ⟨_,rfl,_,rfl,_,rfl,D2,_,rfl,.inl (aK.of e6),c0,1009,_,rfl,cr,cr,pos',D2,_,_,_,rfl,rfl,aK.of e6,(by rw [ek1];exact bF (by rw [BJ,ex1];rfl)),_,rfl,_,rfl,_,rfl,D2,_,rfl,.inl (aK.of e6),c0,2003,_,rfl,cr,cr,pos',D2,_,_,_,rfl,rfl,aK.of e6,(by rw [ek2];exact bF (by rw [BJ,ex2];rfl)),?_⟩;let m1:=abd x1 (DA ex1);let m2:=abd x2 (DA ex2);show ⟨_,rfl,_,rfl,rfl,_,rfl,?_⟩;refine bD (fun _=>?_) (fun c=>?_)
 ·show ⟨_,rfl,uX,?_⟩
  intros l9 n9 H9 s9 e9;exact q l9 [x1] H9 (Wq.trans s9) e9 (DH _) dL dL (fun x hx=>by rwa [GZ.mp hx])
 ·let ne:x2≠x1:=fun z=>c (Ms (by rw [z]))
  show ⟨_,rfl,_,rfl,qZ,?_⟩;intros l9 n9 H9 s9 e9
  exact q l9 [x1,x2] H9 (Wq.trans s9) e9 dL dL (by simp;exact fun z=>ne z.symm) (fun x hx=>by
   have:x=x1\/x=x2:=by simpa using hx
   rcases this with rfl|rfl
   ·exact m1
   ·exact m2)
def zan {Y:Type}(l:List Y)(t:Nat):(l.drop t++l.take t).Perm l:=by
 let e:(l.drop t++l.take t).Perm (l.take t++l.drop t):=ak3;rwa [Ri] at e
def acH {Y:Type}(l:List Y)(t:Nat)(x:Y):(l.take t++[x]++l.drop t).Perm (l++[x]):=by
 let e:(l.take t++[x]++l.drop t).Perm (l.take t++l.drop t++[x]):=by
  rw [Wv,Wv];exact List.Perm.append_left _ ak3
 rwa [Ri] at e
inductive yI (vs:ζ)(H:Hp)(Q:VK)(E_:XK):Prop
|mk (tA sA:AO)(th:V)(c:Int)(AD:γ)(ks xs:θ)(_:vs=[.ref tA,.ref sA,th,.int c])(_:H tA=some (.dK AD))(_:AD.map (·.1)=ks.map GH)(_:ks.Nodup)(_:ks.length<=20)(_:H sA=some (.lst (xs.map V.str)))(_:xs.length<=2)(_:xs.Nodup)(_:(∀x∈xs,x∉ks))(_:∀(d:AO)(jt :γ)(ns:θ)(H':Hp),aq H H' ->H d=none->H' d=some (.dK jt)->jt.map (·.1)=ns.map GH->ns.Perm (ks++xs)->(∀x∈ns,bB jt (.inr x)=some ((bB AD (.inr x)).getD th))->Q (.ref d) H')
def cg:av ["_law_told","_law_strange_here","_law_thing","_law_cell","_law_names","_law_turn","_law_name_here","_law_at","_law_found"] BY (ae d3):=sq
def acV (D:Def K mg "_law_put_in" d3 BY)(aX:mg "len"=none)(cj:mg "list"=none)(cB:ac P w K mg gw 1 "_law_field" Q6 dN):ac P w K mg gw 2 "_law_put_in" BY yI:=by
 refine D.oo cg fun H hr h=>?_;obtain ⟨tA,sA,th,c,AD,ks,xs,rfl,ht,T_,nk,lk,hs,lx,nx,hx,q⟩:=h;let sz:∀{n:Nat},n<=100->n<=BZ:=fun h=>CT h cr
 show ⟨_,(aa (aA 4 cg.nd (cu (fX rfl) rfl cj kE (aV (pv 0)))) (aa (bh (bg Qs (aR aH rfl aX cA (aV (pv 4))) af) (aa (aA 5 cg.nd (aU cB hr (bx (pv 3) af (aR aH rfl aX cA (aV (pv 4)))))) (aj (aA 4 cg.nd (aw fU (bY cX (pv 4) (cC (pv 5)) cP) (bY cX (pv 4) cP (cC (pv 5))))))) aI) (aa (a_ HM rfl (a9 (pv 1)) (b6 6 cg.nd) (aa (aA 7 cg.nd (aU cB hr (bx (pv 3) af (aw bG (aR aH rfl aX cA (aV (pv 4))) af)))) (aj (aA 4 cg.nd (aw fU (aw fU (bY cX (pv 4) cP (cC (pv 7))) (bI (aV (pv 6)))) (bY cX (pv 4) (cC (pv 7)) cP)))))) (aa (aA 8 cg.nd cT) (aa (a_ HM rfl (a9 (pv 4)) (b6 6 cg.nd) (aj (cy (bU hr) (pv 8) (pv 6) (ip (bU hr) (pv 0) (pv 6) (pv 2) ⟨rfl,rfl,rfl,rfl⟩) rfl))) (aj (aD (pv 8)))))))),?_⟩;try dsimp only [md,j6,Cx.wd,Cx.q_]
 show ⟨_,rfl,tA,AD,rfl,.inl ht,?_⟩;intros l n1 H1 s1 e1
 let ek:AD.map (fun kv=>kV kv.1)=ks.map V.str:=by
  let z:AD.map (fun kv=>kV kv.1)=(AD.map (·.1)).map kV:=by rw [MI];rfl
  rw [z,T_,MI];rfl
 rw [ek] at e1;dsimp only [cG];refine fM (fun Z' H'=>KU fun (l:AO) (ns:θ) (o5:ω)=>Z' =[some (.ref tA),some (.ref sA),some th,some (.int c),some (.ref l),o5,none,none,none]/\aq H H'/\H' l=some (.lst (ns.map V.str))/\ns.Perm ks) (fun N hN=>?_) ?_
 ·show ⟨_,rfl,l,_,rfl,.inl (aK.of e1),_,_,rfl,rfl,_,rfl,bD (fun cc=>?_) (fun _=>hN _ _ ⟨l,ks,none,rfl,s1,e1,.refl _⟩)⟩
  let pos:(0:Int)<((ks.map V.str).length:Int):=Nl cc;let f1:=aL (c:=c) (p:=3001) (m:=((ks.map V.str).length:Int)) pos;show ⟨_,rfl,_,rfl,l,_,rfl,.inl (aK.of e1),c,3001,_,rfl,cr,cr,pos,?_⟩;obtain ⟨k1,ek1⟩:∃n:Nat,field c 3001 ((ks.map V.str).length:Int)=(n:Int):=⟨_,(RH f1.1).symm⟩;rw [ek1] at f1 ⊢;let hk1:k1<=(ks.map V.str).length:=ci
  show ⟨_,rfl,_,rfl,_,rfl,l,_,rfl,aK.of e1,?_⟩;rw [gc hk1];intros l2 n2 H2 s2 e2;show ⟨_,rfl,_,rfl,_,rfl,l,_,rfl,aK.of (s2 _ _ e1),?_⟩;rw [jL hk1];intros l3 n3 H3 s3 e3;show ⟨l2,l3,_,_,rfl,rfl,s3 _ _ e2,e3,sz (by rw [ue,HQ,ir];omega),?_⟩;intros l4 n4 H4 s4 e4;exact hN _ _ ⟨l4,ks.drop k1++ks.take k1,_,rfl,s1.trans (s2.trans (s3.trans s4)),(by rw [e4,MX,ale,xW]),zan _ _⟩
 rintro Z H2 ⟨l,ns,o5,rfl,s2,e2,pm⟩
 show ⟨_,rfl,sA,rfl,⟨_,aK.of (s2 _ _ hs)⟩,let I:ce:=fun i Z H'=>Nw fun (l:AO) (ns:θ) (o6 o7:ω)=>Z=[ap tA,ap sA,some th,some (.int c),ap l,o5,o6,o7,none]/\aq H H'/\H' l=some (.lst (ns.map V.str))/\ns.Perm (ks++xs.take i);bM (K:=K) (a:=sA) (xs:=xs.map V.str) I ⟨l,ns,none,none,rfl,s2,e2,(by rwa [amA,Sw])⟩ (fun i Z H' _ h=>by
   obtain ⟨_,_,_,_,_,h,_⟩:=h
   exact aK.of (h _ _ hs)) ?_ ?_⟩
 ·rintro i u Z H3 hu ⟨l,ns,o6,o7,rfl,s3,e3,pm⟩
  rw [BJ] at hu;obtain ⟨x,ex,rfl⟩:=GX.mp hu;let ll:=pm.length_eq;let lt:(xs.take i).length<=2:=by rw [HQ];omega
  rw [IA] at ll;let pos:(0:Int)<((ns.map V.str).length:Int)+1:=ci
  let f1:=aL (c:=c) (p:=4001) (m:=((ns.map V.str).length:Int)+1) pos;show ⟨_,rfl,_,rfl,l,_,rfl,.inl (aK.of e3),_,_,rfl,rfl,c,4001,_,rfl,cr,cr,pos,?_⟩;obtain ⟨k1,ek1⟩:∃n:Nat,field c 4001 (((ns.map V.str).length:Int)+1)=(n:Int):=⟨_,(RH f1.1).symm⟩;rw [ek1] at f1 ⊢;let hk1:k1<=(ns.map V.str).length:=ci
  show ⟨_,rfl,_,rfl,_,rfl,l,_,rfl,aK.of e3,?_⟩;rw [jL hk1];intros l4 n4 H4 s4 e4;show ⟨_,rfl,uX,?_⟩;intros l5 n5 H5 s5 e5;show ⟨l4,l5,_,_,rfl,rfl,s5 _ _ e4,e5,sz (by rw [HQ,ir];show _+1<=100;omega),?_⟩;intros l6 n6 H6 s6 e6;let SM:=s4.trans (s5.trans s6);show ⟨_,rfl,_,rfl,_,rfl,l,_,rfl,aK.of (SM _ _ e3),?_⟩;rw [gc hk1];intros l7 n7 H7 s7 e7;show ⟨l6,l7,_,_,rfl,rfl,s7 _ _ e6,e7,sz (by rw [IA,HQ,ue];show _+1+_<=100;rw [ir];omega),?_⟩;intros l8 n8 H8 s8 e8;show ⟨l8,ns.take k1++[x]++ns.drop k1,_,_,rfl,s3.trans (SM.trans (s7.trans s8)),(by rw [e8,MX,MX,ale,xW];rfl),?_⟩;rw [Q0,ex,<-Wv];exact (acH ns k1 x).trans (pm.append_right _)
 rintro Z H3 ⟨l,ns,o6,o7,rfl,s3,e3,pm⟩;rw [ir,Nq] at pm;let Sh:=pm.length_eq;rw [IA] at Sh
 let nns:ns.Nodup:=by
  rw [pm.nodup_iff,Vw];show ⟨nk,nx,fun a ha b hb e=>hx b hb (e▸ha)⟩
 intros d n4 H4 s4 e4;let Yx:=s3.free n4
 show ⟨_,rfl,l,rfl,⟨_,aK.of (s4 _ _ e3)⟩,let I:ce:=fun i Z H'=>CK fun (o6:ω) (iC :γ)=>Z=[ap tA,ap sA,some th,some (.int c),ap l,o5,o6,o7,ap d]/\aq H3 H'/\H' d=some (.dK iC)/\iC.map (·.1)=(ns.take i).map GH/\∀x∈ns.take i,bB iC (.inr x)=some ((bB AD (.inr x)).getD th);bM (K:=K) (a:=l) (xs:=ns.map V.str) I ⟨o6,[],rfl,s4,e4,rfl,fun x h=>(by simp at h)⟩ (fun i Z H' _ h=>by
   obtain ⟨_,_,_,h,_⟩:=h
   exact aK.of (h _ _ e3)) ?_ ?_⟩
 ·rintro i u Z H5 hu ⟨o6,iC,rfl,s5,e5,ks5,v5⟩
  rw [BJ] at hu;obtain ⟨x,ex,rfl⟩:=GX.mp hu;let ht5:=s5 _ _ (s3 _ _ ht)
  let lk5:iC.length<=1000:=by
   have:=ph Rg ks5;rw [ir,ir,HQ] at this;omega
  show ⟨_,rfl,tA,rfl,.inl ⟨_,.inl ht5⟩,_,rfl,_,rfl,_,dX.k (k:=.inr x) ht5,_,rfl,_,rfl,d,_,rfl,gM.k (k:=.inr x) e5 (GG lk5 cr),?_⟩
  let QG:(GH x:Key)∉iC.map (·.1):=fun z=>by
   rw [ks5] at z;obtain ⟨y,hy,e⟩:=CI.mp z;obtain rfl:=MQ e;obtain ⟨j,ej⟩:=MF hy;let hj:=(Wp.mp ej).1;rw [HQ] at hj;rw [VC ci] at ej;have:=eL nns ej ex;omega
  show ⟨_,_,rfl,fun b o z=>(by rw [ah (ak z n4)];exact s5 _ _ z),ag,?_,fun y hy=>?_⟩
  ·rw [dw _ (bS QG),MX,ks5,Q0,ex,MX]
   rfl
  ·rw [jm]
   rw [Q0,ex] at hy;by_cases yx:y=x
   ·rw [mG (by rw [yx]),yx]
   ·rw [lH (fun z=>yx (MQ z))]
    rcases FQ.mp hy with h|h
    ·exact v5 y h
    ·exact CH (by simpa using h) yx
 rintro Z H5 ⟨o6,iC,rfl,s5,e5,ks5,v5⟩;rw [ir,Nq] at ks5 v5;show ⟨_,rfl,q d iC ns H5 (s3.trans s5) Yx e5 ks5 pm v5⟩
inductive qA (K:Frag)(vs:ζ)(H:Hp)(Q:VK)(E_:XK):Prop
|mk (sA bA d:AO)(ns:ξ)(ws:ζ)(pX:ς)(ao:Η)(kG:γ)(Go:τ)(H0:Hp)(n:Nat)(_:vs=[.ref sA,.ref bA,.ref d])(_:rF K H0 H d kG (ao.map (·.nm)) Go n)(_:n<=60)(_:H0 d=none)(_:aK K H0 sA (ns.map V.int))(_:H0 bA=some (.lst ws))(_:Paired (m_ K H0 pX) ws ao)(_:ao.length<=14)(_:∀(kG':γ)(Go':τ)(H':Hp),rF K H0 H' d kG' (ao.map (·.nm)) Go' (n+14)->Q (.ref d) H')
def i_:av ["_law_script","_law_bars_here","_law_grips_here","_law_k","_law_cell"] BR (ae d5):=sq
def ac9 (D:Def K mg "_law_spoilt" d5 BR)(aX:mg "len"=none)(aZ:mg "range"=none)(jV:ac P w K mg gw 1 "_law_cell_at" V1 (jT K))(cB:ac P w K mg gw 1 "_law_field" Q6 dN)(m8:ac P w K mg gw 33 "_law_lowest" VH cH):
  ac P w K mg gw 34 "_law_spoilt" BR (qA K):=by
 refine D.oo i_ fun H hr h=>?_;obtain ⟨sA,bA,d,ns,ws,pX,ao,kG,Go,H0,n,rfl,g1,ln,n1,hS,hb,pb,lb,q⟩:=h;let lw:ws.length=ao.length:=HR pb
 show ⟨_,(aa (a_ HM rfl (bV rfl aZ (aV (aR aH rfl aX cA (aV (pv 1))))) (b6 3 i_.nd) (aa (aA 4 i_.nd (aU jV hr (aF (pv 0) (aw bG af (pv 3))))) (aj (bh (bg cY (aU cB hr (bx (pv 4) af af)) af) (aj (cy (bU hr) (pv 2) (aG (bL aQ (pv 1) (pv 3))) (aU m8 hr (aF (aw cJ af (aU cB hr (bx (pv 4) af af))) (aw bG af (aU cB hr (bx (pv 4) af af))))) rfl)) aI)))) (aj (aD (pv 2)))),?_⟩
 show ⟨_,rfl,bA,_,rfl,.inl (aK.of (g1.s _ _ hb)),((ws.length:Nat):Int),rfl,ci,ci,let I:ce:=fun i Z H'=>Nw fun (o3 o4:ω) (kG:γ) (Go:τ)=>Z=[ap sA,ap bA,ap d,o3,o4]/\rF K H0 H' d kG (ao.map (·.nm)) Go (n+i);cq (lo:=0) (n:=((ws.length:Nat):Int).toNat) I ⟨none,none,kG,Go,rfl,g1⟩ ?_ ?_⟩
 ·rintro i Z H2 hi ⟨o3,o4,kG,Go,rfl,g2⟩
  let ek:(0:Int)+(i:Int)=(i:Int):=Ow _;rw [ek];let wI:i<ws.length:=ci
  show ⟨_,rfl,_,rfl,_,_,rfl,rfl,sA,ns,_,rfl,g2.s.seq hS,ci,ci,?_⟩;generalize cell ns (40+(i:Int))=c;let i1:=aL (c:=c) (p:=2003) (m:=100) cr;let i2:=aL (c:=c) (p:=3001) (m:=9) cr;obtain ⟨b,eb,LU⟩:=aE pb (gE wI);let mn:b.nm∈ao.map (·.nm):=CI.mpr ⟨b,DA eb,rfl⟩;obtain ⟨ta,j1,j2,eu,h1,_⟩:=LU;let ai:jc ws (i:Int)=some (.ref ta):=bF (by rw [gE wI,eu]);show ⟨_,rfl,_,_,_,rfl,cr,cr,cr,rfl,_,rfl,bD (fun _=>?_) (fun _=>⟨_,_,_,_,rfl,g2.up ci⟩)⟩;show ⟨_,rfl,_,_,_,rfl,cr,cr,cr,_,_,rfl,rfl,_,rfl,_,_,_,rfl,cr,cr,cr,_,_,rfl,rfl,_,_,rfl,ci,fun p4 H4 s4 e4=>?_⟩;let g5:=g2.gV s4;show ⟨_,rfl,_,rfl,_,rfl,bA,_,_,_,rfl,rfl,aK.of (g5.s _ _ hb),ai,ta,_,_,_,rfl,rfl,Ty.aq.dI g5.s h1,dC,d,_,rfl,gM.k (k:=.inr b.nm) g5.hd (GG (show kG.length<=1000 by have:=g5.ll;omega) cr),_,_,_,_,rfl,g5.put n1 mn (l_ ci ci ci e4)⟩
 ·rintro Z H2 ⟨o3,o4,kG,Go,rfl,g2⟩
  show ⟨_,rfl,q kG Go H2 (g2.up ci)⟩
theorem rF.drop (h:rF K H0 H d kG ns Go n)(n0:H0 d=none)(x:Str):rF K H0 (upd H d (.dK (jh kG (.inr x)))) d (jh kG (.inr x)) ns (fun y=>if y=x then none else Go y) n:=by
 let hd:=h.hd;let t6:bf H (upd H d (.dK (jh kG (.inr x)))):=.dict hd;let sub:(jh kG (GH x:Key)).Sublist kG:=List.filter_sublist;show ⟨fun a o z=>?_,ag,?_,fun kv BO=>h.ks kv (sub.subset BO),h.nk.sublist (sub.map _),fun y=>?_,CT (zv1 _ _) h.ll⟩
 ·rw [ah (ak z n0)]
  exact h.s _ _ z
 ·have:=(pG.drop h.nm x).aT t6
  let e:(fun nm=>if nm=x then none else (Go nm).map qr)=fun y=>(if y=x then none else Go y).map qr:=funext fun y=>by
   by_cases c:y=x
   ·rw [mG c,mG c]
    rfl
   ·rw [lH c,lH c]
  rwa [e] at this
 ·show Sz 31 ((if y=x then none else Go y).getD 1)
  by_cases c:y=x
  ·rw [mG c]
   exact i6 (i:=1) (k:=31) cr cr
  ·rw [lH c]
   exact h.zs y
def nextK (k x:Str)(p:AO)(kG:γ):List (Key×V):=if k="bar" then jh kG (.inr x) else putK kG (.inr x) (.ref p)
def LW (k x:Str)(Go:τ):Str->Option Rat:=fun y=>if y=x then (if k="bar" then none else some 1) else Go y
inductive IC (K:Frag)(vs:ζ)(H:Hp)(Q:VK)(E_:XK):Prop
|mk (d t:AO)(k x:Str)(ns:θ)(kG:γ)(Go:τ)(H0:Hp)(n:Nat)(_:vs=[.ref d,.ref t])(_:H t=some (.tup [.str k,.str x]))(_:rF K H0 H d kG ns Go n)(_:n<=900)(_:H0 d=none)(_:((k="bar"/\(bB kG (.inr x)).isSome)\/(k="grip"/\x∈ns)))(_:∀(p:AO)(H':Hp),rF K H0 H' d (nextK k x p kG) ns (LW k x Go) (n+1)->Q .cO H')
def aaC:av vd vd (ae f'):=sq
def abI (D:Def K mg "_law_next" f' vd):ac P w K mg gw 1 "_law_next" vd (IC K):=by
 refine D.oo aaC fun H hr h=>?_;obtain ⟨d,t,k,x,ns,kG,Go,H0,n,rfl,ht,g,ln,n0,hw,q⟩:=h;let big:kG.length<BZ:=GG (show kG.length<=1000 by have:=g.ll;omega) cr;let td:t≠d:=fun z=>by erw [z,g.hd] at ht
 show ⟨_,(aa (bh (bg cY (aG (pv 1)) bT) (aj (bP (ade (pv 0) (aG (pv 1)) ⟨rfl,rfl,rfl,rfl⟩))) aI) (aj (bh (bg cY (aG (pv 1)) bT) (aj (cy (bU hr) (pv 0) (aG (pv 1)) (aJ (aF af af)) rfl)) aI))),?_⟩
 rcases hw with ⟨rfl,hv⟩|⟨rfl,hx⟩
 ·obtain ⟨v,ev⟩:=S1.mp hv
  show ⟨_,rfl,t,_,_,_,rfl,rfl,bZ.of ht,ib,rfl,_,rfl,bD (fun _=>?_) (fun c=>CH rfl c)⟩;show ⟨_,rfl,d,rfl,.inl ⟨_,.inl g.hd⟩,_,rfl,t,_,_,_,rfl,rfl,bZ.of ht,iD,kG,.inr x,v,g.hd,rfl,ev,_,rfl,t,_,_,_,rfl,rfl,bZ.of (by rwa [ah td]),ib,rfl,_,rfl,bD (fun c=>CH (Nl c) (by decide+kernel)) (fun _=>?_)⟩;exact q 0 _ ((g.drop n0 x).up (Vv _))
 ·show ⟨_,rfl,t,_,_,_,rfl,rfl,bZ.of ht,ib,rfl,_,rfl,bD (fun c=>CH (Nl c) (by decide+kernel)) (fun _=>?_)⟩
  show ⟨_,rfl,t,_,_,_,rfl,rfl,bZ.of ht,ib,rfl,_,rfl,bD (fun _=>?_) (fun c=>CH rfl c)⟩;show ⟨qZ,?_⟩;intros p n1 H1 s1 e1;let g1:=g.gV s1;show ⟨_,rfl,_,rfl,t,_,_,_,rfl,rfl,bZ.of (s1 _ _ ht),iD,d,_,rfl,gM.k (k:=.inr x) g1.hd big,q p _ (g1.put n0 hx ⟨gS (by rwa [show qr 1=(1,1) by decide+kernel]),i6 (i:=1) (k:=31) cr cr⟩)⟩
mutual
theorem aiJ {H:Hp}:∀(d:Da)(x:V),Is K H d x->alike d d=true/\je d d=true
 | .v a,x,h=>by
  unfold Is at h;unfold alike je;show ⟨rfl,sP h.2⟩
 | .t ds,x,h=>by
  unfold Is at h;unfold alike je;obtain ⟨p,xs,_,_,k⟩:=h;exact lD ds xs k
 | .l ds,x,h=>by
  unfold Is at h;unfold alike je;obtain ⟨p,xs,_,_,k⟩:=h;exact lD ds xs k
theorem lD {H:Hp}:∀(ds:List Da)(xs:ζ),iX K H ds xs->fV ds ds=true/\eE ds ds=true
 | [],_,_=>⟨rfl,rfl⟩
 | d::ds,[],h=>by unfold iX at h;exact h.elim
 | d::ds,x::xs,h=>by
  unfold iX at h;unfold fV eE;obtain ⟨a1,a2⟩:=aiJ d x h.1;obtain ⟨b1,b2⟩:=lD ds xs h.2;rw [a1,a2,b1,b2];show ⟨rfl,rfl⟩
end
theorem zaF {Y:Type}{f:Y->Da}(h:∀a,dep (f a)<=60):∀l:List Y,jE (l.map f)<=60
 | []=>Mu _
 | a::l=>by
  show max (dep (f a)) (jE (l.map f))<=60;let h1:=h a;let h2:=zaF h l;omega
theorem ajk {R:V->Y->Prop}(h:∀u a,R u a->Is K H (f a) u):∀{us:ζ} {l:List Y},Paired R us l->iX K H (l.map f) us
 | [],[],.nil=>by
  unfold iX;trivial
 | _::_,_::_,.cons z t=>by
  show iX K H (_::_) _;unfold iX;show ⟨h _ _ z,ajk h t⟩
def ID (x:Str):Is K H (.v (.str x)) (.str x):=by
 unfold Is;show ⟨rfl,rfl⟩
def aon (h1:Is K H (.l ds) x)(h2:Is K H (.l ds) y)(hd:jE ds<=60)(q:Q (.bl false) H):AV K x y H Q:=by
 let h:=h1;unfold Is at h;obtain ⟨p,xs,_,_,k⟩:=h;obtain ⟨b1,b2⟩:=lD ds xs k;show ⟨ds,ds,.inr ⟨h1,h2⟩,b1,hd,?_⟩;rwa [b2]
def abe (h1:Is K H (.t ds) x)(h2:Is K H (.t ds) y)(hd:jE ds<=60)(q:Q (.bl false) H):AV K x y H Q:=by
 let h:=h1;unfold Is at h;obtain ⟨p,xs,_,_,k⟩:=h;obtain ⟨b1,b2⟩:=lD ds xs k;show ⟨ds,ds,.inl ⟨h1,h2⟩,b1,hd,?_⟩;rwa [b2]
def qB (h:bZ K H p [.str x,.str y]):Is K H (.t [.v (.str x),.v (.str y)]) (.ref p):=by
 unfold Is;show ⟨p,_,rfl,h,?_⟩;unfold iX;show ⟨ID x,?_⟩;unfold iX;show ⟨ID y,?_⟩;unfold iX;trivial
def agz:Key->Str
 | .inr x=>x
 | .inl _=> ""
theorem uO :∀{us:List Y} {l:List β},Paired R us l->Paired (fun u a=>a∈l/\R u a) us l
 | _,_,.nil=>.nil
 | _,_,.cons h t=>.cons ⟨LZ,h⟩ (Paired.dc (uO t) fun _ _ z=>⟨HV _ z.1,z.2⟩)
theorem qC:∀{AD:γ},(∀kv∈AD,∃x:Str,kv.1=.inr x)->∃ks:List Str,AD.map (·.1)=ks.map GH
 | [],_=>⟨[],rfl⟩
 | kv::AD,h=>by
  obtain ⟨x,ex⟩:=h kv LZ;obtain ⟨ks,e⟩:=qC fun z hz=>h z (HV _ hz);show ⟨x::ks,by rw [HU,HU,ex,e]⟩
def acP {ks:θ}(h:ks.Nodup):(ks.map (GH:Str->Key)).Nodup:=akM _ (fun _ _ n z=>n (MQ z)) h
theorem qD:∀{ks:θ},(ks.map (GH:Str->Key)).Nodup->ks.Nodup
 | [],_=>rj
 | x::ks,h=>by
  rw [HU,Qd] at h;exact Qd.mpr ⟨fun z=>h.1 (CI.mpr ⟨x,z,rfl⟩),qD h.2⟩
def YL {AD:γ}{ks:θ}(e:AD.map (·.1)=ks.map GH):KeysIn ks AD:=fun kv h=>by
 have:kv.1∈AD.map (·.1):=CI.mpr ⟨kv,h,rfl⟩;rw [e] at this;obtain ⟨x,hx,ex⟩:=CI.mp this;show ⟨x,hx,ex.symm⟩
def Ta {AD:γ}{ks:θ}(e:AD.map (·.1)=ks.map GH)(h:x∉ks):bB AD (.inr x)=none:=bS fun z=>by
 rw [e] at z;obtain ⟨y,hy,ey⟩:=CI.mp z;exact h (MQ ey▸hy)
def DK {Y:Type}(F:Str->Option Y)(ns:θ)(q:Y):Str->Option Y:=fun x=>if x∈ns then some ((F x).getD q) else none
def abf {kG iC :γ}{Go:τ}{ns:θ}(h:pG K H kG (fun x=>(Go x).map qr))(e:iC.map (·.1)=ns.map GH)(hv:∀x∈ns,bB iC (.inr x)=some ((bB kG (.inr x)).getD th))(ht:fe K H th q):pG K H iC (fun x=>(DK Go ns q x).map qr):=fun x=>by
 unfold DK;by_cases c:x∈ns
 ·refine .inr ⟨_,_,hv x c,by show Option.map qr (if x∈ns then some ((Go x).getD q) else none)=_;rw [mG c];rfl,?_⟩
  have:=h.BQ (x:=x) ht;cases z:Go x with
  | none=>
   rwa [z] at this
  | some r=>
   rwa [z] at this
 ·exact .inl ⟨Ta e c,by show Option.map qr (if x∈ns then some ((Go x).getD q) else none)=_;rw [lH c];rfl⟩
def abg {kL iC :γ}{ns:θ}(h:Nk K H kL L)(e:iC.map (·.1)=ns.map GH)(hv:∀x∈ns,bB iC (.inr x)=some ((bB kL (.inr x)).getD th))(ht:gC K H th q):Nk K H iC (DK L ns q):=fun x=>by
 unfold DK;by_cases c:x∈ns
 ·refine .inr ⟨_,_,hv x c,mG c,?_⟩
  rcases h x with ⟨h1,h2⟩|⟨v,p,h1,h2,h3⟩
  ·rw [h1,h2]
   exact ht
  ·rw [h1,h2]
   exact h3
 ·exact .inl ⟨Ta e c,lH c⟩
theorem lE {Y:Type}{p p':Y->Bool}:∀{l:List Y},(∀y∈l,p' y=true->p y=true)->∀{x:Y},x∈l->p x=true->p' x=false->(l.filter p').length<(l.filter p).length
 | y::l,h,x,hx,px,px'=>by
  let le:∀{l:List Y},(∀y∈l,p' y=true->p y=true)->(l.filter p').length<=(l.filter p).length:=fun {l} h=>by
   induction l with
   | nil=>exact DH _
   | cons z l ih=>
    have:=ih fun y hy=>h y (HV _ hy);let hz:=h z LZ;rw [Ru,Ru];split
    ·rename_i c
     rw [mG (hz c)];exact al6 this
    ·split
     ·exact LA this
     ·exact this
  let hl:=le fun y hy=>h y (HV _ hy);rw [Ru,Ru]
  rcases M_.mp hx with rfl|hx
  ·rw [mG px,lH (by rw [px'];exact MS)]
   exact Nat.lt_succ_of_le hl
  ·let ih:=lE (fun y hy=>h y (HV _ hy)) hx px px'
   split
   ·rename_i c
    rw [mG (h y LZ c)];exact Nat.succ_lt_succ ih
   ·split
    ·exact Wy ih
    ·exact ih
def OG (xs ns:θ)(kG:γ)(Go:τ):Nat:=(xs.filter fun x=>(bB kG (.inr x)).isSome).length+(ns.filter fun x=>decide ((bX (fun y=>(Go y).map qr) x).1<=0)).length
def abh (xs ns:θ)(kG:γ)(Go:τ):OG xs ns kG Go<=xs.length+ns.length:=Nat.add_le_add (uf _ _) (uf _ _)
def ajb {Go Go':τ}(e:Go' x=Go x):bX (fun y=>(Go' y).map qr) x=bX (fun y=>(Go y).map qr) x:=by
 show ((Go' x).map qr).getD (1,1)=((Go x).map qr).getD (1,1);rw [e]
def zaC (hk:KeysIn (ns++xs) kG)(hx:∀y∈xs,y∉ns)(nk:(kG.map (·.1)).Nodup)(d:Due ns kG (fun y=>(Go y).map qr) k x)(nt:k≠ "told"):OG xs ns (nextK k x p kG) (LW k x Go)<OG xs ns kG Go/\((k="bar"/\(bB kG (.inr x)).isSome)\/(k="grip"/\x∈ns++xs)):=by
 cases d with
 | bar e n _=>
  let hv:(bB kG (.inr x)).isSome:=by
   rw [oj nk e];rfl
  let hxs:x∈xs:=by
   obtain ⟨z,hz,ez⟩:=hk _ (DA e);obtain rfl:=MQ ez
   rcases FQ.mp hz with h|h
   ·exact CH h n
   ·exact h
  show ⟨?_,.inl ⟨rfl,hv⟩⟩;unfold OG;refine Nat.add_lt_add_of_lt_of_le (lE (fun y _ h=>?_) hxs hv ?_) (ZQ ?_)
  ·by_cases c:y=x
   ·rw [c]
    exact hv
   ·let e2:bB (nextK "bar" x p kG) (GH y:Key)=bB kG (.inr y):=by
     unfold nextK;rw [mG rfl,lX,lH (fun z=>c (MQ z))]
    rwa [e2] at h
  ·unfold nextK
   rw [mG rfl,lX,mG rfl];rfl
  ·congr 1
   refine alx fun y hy=>?_;rw [ajb (Go':=LW "bar" x Go) (Go:=Go) (lH fun z:y=x=>n (z▸hy))]
 | DB _ e _ n=>
  let hm:=DA e;show ⟨?_,.inr ⟨rfl,OA _ hm⟩⟩;unfold OG;refine Nat.add_lt_add_of_le_of_lt (ZQ ?_) (lE (fun y _ h=>?_) hm (Ms n) ?_)
  ·congr 1
   refine alx fun y hy=>?_;unfold nextK;rw [lH (by decide+kernel),jm,lH (fun z=>hx y hy (by rwa [MQ z]))]
  ·by_cases c:y=x
   ·rw [c]
    exact Ms n
   ·rw [ajb (Go':=LW "grip" x Go) (Go:=Go) (lH c)] at h
    exact h
  ·refine Nt ?_
   show ¬ (((if x=x then (if ("grip":Str)="bar" then none else some (1:Rat)) else Go x).map qr).getD (1,1)).1<=0;rw [mG rfl,lH (by decide+kernel)];decide+kernel
 | told=>exact CH rfl nt
theorem oT :∀{l:θ} {t:Nat} {x:Str},l[t]?=some x->p x=true->(∀y∈l.take t,p y=false)->(l.filter p)[0]?=some x
 | y::l,0,x,e,px,_=>by
  cases e;rw [Ru,mG px];rfl
 | y::l,t+1,x,e,px,h=>by
  rw [Ru,lH (by rw [h y dL];exact MS)];exact oT (t:=t) (by simpa using e) px fun z hz=>h z (by simp [hz])
def daG (Go:τ)(kv:Φ):Da:=.t [.v (kV kv.1),.t [.v (.int (qr ((Go (agz kv.1)).getD 0)).1),.v (.int (qr ((Go (agz kv.1)).getD 0)).2)]]
def xl (hP:pG K H AD (fun x=>(Go x).map qr))(nd:(AD.map (·.1)).Nodup)(hk:∀kv∈AD,∃x:Str,kv.1=.inr x)(hl:aK K H l us)(p:Paired (fun u (kv:Φ)=>∃p,u=.ref p/\H p=some (.tup [kV kv.1,kv.2])) us AD):Is K H (.l (AD.map (daG Go))) (.ref l):=by
 unfold Is;show ⟨l,_,rfl,hl,ajk (fun u kv z=>?_) (uO p)⟩;obtain ⟨m,a,rfl,ha⟩:=z;obtain ⟨x,ex⟩:=hk kv m;obtain ⟨i,hi,ei⟩:=Vy.mp m;obtain ⟨k,y⟩:=kv;have u_ :k=.inr x:=ex;subst u_;let vy:bB AD (.inr x)=some y:=oj nd (t:=i) (by rw [gE hi,ei])
 rcases hP x with ⟨h,_⟩|⟨v,r,h1,h2,h3⟩
 ·rw [vy] at h
  cases h
 erw [vy] at h1;obtain ⟨g,z,rfl⟩:=GX.mp h2;unfold daG;show Is K H (.t [.v (.str x),.t [.v (.int (qr ((Go x).getD 0)).1),.v (.int (qr ((Go x).getD 0)).2)]]) (.ref a);rw [z];unfold Is;show ⟨a,_,rfl,bZ.of ha,?_⟩;unfold iX;show ⟨ID x,?_⟩;unfold iX;show ⟨oi h3,?_⟩;unfold iX;trivial
def acM (Go:τ)(kv:Φ):dep (daG Go kv)<=60:=CT (show dep (daG Go kv)<=3 by simp [daG,dep,jE]) cr
def abi (a b:Str):jE [.v (.str a),.v (.str b)]<=60:=by simp [jE,dep]
def cN:av ["_law_script","_law_pins_here","_law_bars_here","_law_frame_here","_law_names","_law_spots","_law_pulls_here","_law_load","_law_way","_law_grips_here","_law_cell","_law_strange_here","_law_lost","_law_bad","_law_first","_law_k","_law_due_here","_law_handed"] ["_law_script"] (ae oq):=sq
def abj (F:qH K "law" "law" oq f fd)(aX:mg "len"=none)(aZ:mg "range"=none)(cj:mg "list"=none)(kY:mg "dict"=none)
  (jV:ac P w K mg gw 1 "_law_cell_at" V1 (jT K)) (cB:ac P w K mg gw 1 "_law_field" Q6 dN) (aoo:ac P w K mg gw 35 "_law_pins" DJ (yB K)) (aop:ac P w K mg gw 3 "_law_bars" JH (yC K)) (aoq:ac P w K mg gw 4 "_law_frame" BI (uI K C))
  (DM:ac P w K mg gw 34 "_law_grips" JG (uK K)) (DN:ac P w K mg gw 34 "_law_pulls" BM (uL K)) (yJ:ac P w K mg gw 2 "_law_pushes" BL (qu K))
  (vF:ac P w K mg gw 34 "_law_load_by" V_ (yF K)) (yK:ac P w K mg gw 34 "_law_spoilt" BR (qA K)) (agB:ac P w K mg gw 3 "_law_strange" BK (qz K)) (oU:ac P w K mg gw 2 "_law_put_in" BY yI)
  (uP:ac P w K mg gw 41 "_law_bend" BP (yH K C)) (yL:ac P w K mg gw 36 "_law_stored" BX (qv K C)) (OI:ac P w K mg gw 1 "_law_due" BN (S9 K)) (IE:ac P w K mg gw 1 "_law_next" vd (IC K)):
  ad P w K mg gw 42 f fd ["_law_script"] (QJ K):=by
 refine F.okG cN (fun vs H Q E h=>?_) (fun bE A outer s H vs Q E hr h=>?_)
 ·obtain ⟨a,ns,rfl,_⟩:=h
  rfl
 obtain ⟨sA,ns,rfl,hS,hn,hb,q⟩:=h
 show ⟨_,(aa (aA 1 cN.nd (aU aoo hr (aF (pv 0) af))) (aa (aA 2 cN.nd (aU aop hr (aF (pv 0) (pv 1)))) (aa (aA 3 cN.nd (aU aoq hr (aF (pv 1) (pv 2)))) (aa (qf (i:=4) (tn:=["_law_bar"]) (fr:=[]) (oV:=[]) cN.nd (a9 (pv 2)) (bL (fF (K:=K) rfl) (pv 0) af)) (aa (aA 5 cN.nd (g6 (tn:=["_law_pin"]) (fr:=[]) (oV:=[]) (a9 (pv 1)) (bL (fF (K:=K) rfl) (pv 0) af))) (aa (aA 6 cN.nd (aU DN hr (bx (pv 0) (pv 2) af))) (aa (aA 7 cN.nd (aU vF hr (rR (pv 1) (bx (pv 2) (pv 6) (aU yJ hr (bx (pv 0) (pv 1) af)))))) (aa (aA 8 cN.nd (aU cB hr (bx (aU jV hr (aF (pv 0) af)) af af))) (aa (aA 9 cN.nd (aU DM hr (aF (pv 0) (pv 2)))) (aa (bh (bg cY (aw dS (pv 8) af) af) (aj (aA 9 cN.nd (aU yK hr (bx (pv 0) (pv 2) (pv 9))))) aI) (aa (aA 10 cN.nd (aU jV hr (aF (pv 0) af))) (aa (aA 11 cN.nd (bI iV)) (aa (bh (bg cY (aw dS (aw nK (pv 8) af) af) af) (aj (aA 11 cN.nd (aU agB hr (bx (pv 10) (pv 4) (pv 5))))) aI) (aa (aA 9 cN.nd (aU oU hr (rR (pv 9) (bx (pv 11) (aJ (aF (aw cJ af (aU cB hr (bx (pv 10) af af))) af)) (pv 10))))) (aa (aA 10 cN.nd (aU jV hr (aF (pv 0) af))) (aa (bh (bg cY (aw nK (pv 8) af) af) (aa (aA 12 cN.nd (aU agB hr (bx (pv 10) (pv 5) (pv 4)))) (aa (aA 13 cN.nd (aU oU hr (rR (pv 7) (bx (pv 12) (aJ (aF (aJ (aF af af)) (aJ (aF af af)))) (pv 10))))) (aa (aA 14 cN.nd (iM (GL (tn:=["_law_name_here"]) (fr:=["_law_spots"]) (oV:=[5]) (a9 (cu (fX rfl) rfl cj kE (aV (pv 13)))) (fun _ _ _ _=>(fC (i:=0) (show (["_law_name_here","_law_spots"]:List Str).Nodup from by decide+kernel) rfl (RY rfl))) (fun _ _ _ _=>(FW (jD (mC (K:=K) rfl) (pv 0) (pv 1) rfl))) (pv 0)))) (aj (bh (bg (nN hr.units) (aU uP hr (bx (pv 3) (cu mR rfl kY FT (aV (pv 9))) (pv 13))) (aJ (aF bT (pv 14)))) (aj (aD AA)) aI))))) aI) (aa (a_ HM rfl (bV rfl aZ (aV (aw bG (aR aH rfl aX cA (aV (pv 2))) af))) (b6 15 cN.nd) (aa (aA 16 cN.nd (aU OI hr (bx (pv 2) (pv 9) (pv 4)))) (aa (aA 17 cN.nd (bI (aF (cu mR rfl kY FT (aV (pv 9))) (cu mR rfl kY FT (aV (pv 7)))))) (aa (bh (PW.pt (Qg (bg (nN hr.units) (aU uP hr (bx (pv 3) (iM (pv 17)) (iM (pv 17)))) (pv 16)) (FA (bg (nN hr.units) (aU yL hr (bx (pv 3) (iM (pv 17)) (pv 6))) (pv 16))))) (aj (aD AA)) aI) (aa (bh (PW.pt (Qg (bg (nN hr.units) (wW rfl rfl cj (iM (pv 17))) (wW rfl rfl cj (pv 9))) (FA (bg (aai hr.units) (iM (pv 17)) (pv 7))))) (aj (aD AA)) aI) (aa (bh (bg cY (aG (pv 16)) bT) (aj (aD AA)) aI) (aj (bP (aU IE hr (aF (pv 9) (pv 16))))))))))) (aj (aD AA))))))))))))))))))),?_⟩;try dsimp only [md,j6,Cx.wd,Cx.q_]
 show ⟨_,rfl,sA,ns,3,rfl,hS,fun lP us pX H1 s1 nP eP pp gp _ lp pl=>?_⟩;let lu:us.length=pX.length:=HR pp;show ⟨_,rfl,_,rfl,sA,lP,ns,us,pX,rfl,s1.seq hS,eP,lu,gp.np,ci,fun lB vs ao H2 s2 nB eB pb gb lb bl=>?_⟩;let pp2:Paired (oQ K H2) us pX:=Paired.dc pp fun _ _ z=>z.gV s2;let eP2:=s2 _ _ eP;let lv:vs.length=ao.length:=HR pb;show ⟨_,rfl,_,rfl,lP,lB,us,vs,pX,ao,rfl,eP2,pp2,eB,pb,gp,gb,ci,ci,fun fA H3 s3 R=>?_⟩;let g:=age gp gb ci ci;let ZA:LFr K H3 lP lB us vs pX ao:=⟨s3 _ _ eP2,Paired.dc pp2 fun _ _ z=>z.gV s3,gp,s3 _ _ eB,Paired.dc pb fun _ _ z=>z.gV s3,fun b hb=>(gb.ends b hb).2.2,ci,ci⟩;let Wo:=s1.trans (s2.trans s3);show ⟨_,rfl,lB,rfl,⟨_,aK.of ZA.hb⟩,fun nA n4=>?_⟩;refine dE (oY:=[]) (K:=K) (a:=lB) (xs:=vs) (fun i v _=>∃b,ao[i]?=some b/\v=.str b.nm) n4 (by rw [lv];exact GG (show ao.length<=1000 by omega) cr) (fun H2 s2=>aK.of (s2 _ _ ZA.hb)) (fun _ _ _ _ _ _ _ h=>h) ?_ ?_
 ·intro j u H6 Rq hu s6 k
  obtain ⟨b,eb,LU⟩:=aE ZA.pb hu;obtain ⟨ta,j1,j2,rfl,h1,_⟩:=LU.gV s6;show ⟨_,rfl,ta,_,_,_,rfl,rfl,h1,rfl,k _ _ (aq.refl _) ⟨b,eb,rfl⟩⟩
 intro ys4 H4 hy4 agC s4 e4;rw [zaI (nm:=bK.nm) (by rw [hy4,lv]) agC] at e4;let fr4:=ZA.gV s4;show ⟨_,rfl,lP,rfl,⟨_,aK.of fr4.hp⟩,fun pA n5=>?_⟩;refine dE (oY:=[]) (K:=K) (a:=lP) (xs:=us) (fun i v _=>∃p,pX[i]?=some p/\v=.str p.nm) n5 (by rw [lu];exact GG (show pX.length<=1000 by omega) cr) (fun H2 s2=>aK.of (s2 _ _ fr4.hp)) (fun _ _ _ _ _ _ _ h=>h) ?_ ?_
 ·intro j u H6 Rq hu s6 k
  obtain ⟨p,ep,WE⟩:=aE fr4.pp hu;obtain ⟨ta,l',sv,pF,rfl,h1,_⟩:=WE.gV s6;show ⟨_,rfl,ta,_,_,_,rfl,rfl,h1,rfl,k _ _ (aq.refl _) ⟨p,ep,rfl⟩⟩
 intro ys5 H5 hy5 agD s5 e5;rw [zaI (nm:=aY.nm) (by rw [hy5,lu]) agD] at e5;let X0:=fr4.gV s5;let s05:=Wo.trans (s4.trans s5);show ⟨_,rfl,_,rfl,sA,lB,20,ns,vs,pX,ao,rfl,s05.seq hS,X0.hb,X0.pb,ci,gb.nb,cr,cr,fun dA kD D H6 s6 nD di zD=>?_⟩;let fr6:=X0.gV s6;let Wq:=s05.trans s6;show ⟨_,rfl,_,rfl,_,rfl,_,rfl,_,rfl,sA,lP,28,ns,us,pX,rfl,Wq.seq hS,fr6.hp,fr6.pp,gp,ci,cr,cr,fun uA kU U0 H7 s7 nU du lU zU=>?_⟩;let fr7:=fr6.gV s7;let di7:=di.gV (fun _ _ z=>z.gV s7) s7
 let fo:LFo K H7 dA uA kD kU pX ao D U0 11:=⟨di7.hd,fun b hb=>by
  obtain ⟨v,a,c⟩:=di7.tv b hb;show ⟨v,a,uF c (CW (zD b hb) (DH _))⟩,du.hd,fun p hp=>by
  obtain ⟨v,a,la,ys,rfl,b,c⟩:=du.tv p hp
  show ⟨la,ys,a,b,qm (HR c) fun i u e=>by
   obtain ⟨r,er,h⟩:=aE c e
   show ⟨r,er,uF h (CW (zU p hp r (DA er)) (DH _))⟩⟩,lU,cr⟩
 show ⟨lP,lB,dA,uA,us,vs,kD,kU,pX,ao,D,U0,11,rfl,fr7,fo,cr,lp,lb,fun lA kL L H8 s8 ld ll=>?_⟩;let YJ:=Wq.trans (s7.trans s8);let fr8:=fr7.gV s8;show ⟨_,rfl,sA,ns,2,rfl,YJ.seq hS,cr,cr,_,_,_,rfl,cr,cr,cr,?_⟩;let iw:=aL (c:=cell ns 2) (p:=1009) (m:=8) cr;generalize field (cell ns 2) 1009 8=way at iw ⊢;show ⟨_,rfl,_,rfl,sA,lB,ns,vs,pX,ao,rfl,YJ.seq hS,fr8.hb,fr8.pb,ci,fun gA kG9 Go9 H9 nG g9=>?_⟩;dsimp only [cG];refine fM (fun Z' H'=>CK fun (kG:γ) (Go:τ)=>Z' =[some (.ref sA),some (.ref lP),some (.ref lB),some (.ref fA),some (.ref nA),some (.ref pA),some (.ref dA),some (.ref lA),some (.int way),some (.ref gA),none,none,none,none,none,none,none,none]/\rF K H8 H' gA kG (ao.map (·.nm)) Go 70) (fun N hN=>?_) ?_
 ·show ⟨_,rfl,_,_,rfl,rfl,nz cr,rfl,_,rfl,bD (fun _=>?_) (fun _=>hN _ _ ⟨kG9,Go9,rfl,g9.up cr⟩)⟩
  show ⟨_,rfl,_,rfl,_,rfl,sA,lB,gA,ns,vs,pX,ao,kG9,Go9,H8,56,rfl,g9,cr,nG,YJ.seq hS,fr8.hb,fr8.pb,ci,fun kG' Go' H' g'=>hN _ _ ⟨kG',Go',rfl,g'⟩⟩
 rintro Z QZ ⟨kG,Go,rfl,g10⟩;let BB:=g10.s;show ⟨_,rfl,sA,ns,47,rfl,(YJ.trans BB).seq hS,cr,cr,?_⟩;generalize cell ns 47=c47;show ⟨z0L,?_⟩;intros l11 n11 Pw zX e11;let s4b:aq H4 Pw:=s5.trans (s6.trans (s7.trans (s8.trans (BB.trans zX))));let s5b:aq H5 Pw:=s6.trans (s7.trans (s8.trans (BB.trans zX)))
 let hbn:∀x∈ao.map (·.nm),1<=x.length/\x.length<=40:=fun x hx=>by
  obtain ⟨b,hb,rfl⟩:=CI.mp hx;exact bl b hb
 let hpn:∀x∈pX.map (·.nm),1<=x.length/\x.length<=40:=fun x hx=>by
  obtain ⟨b,hb,rfl⟩:=CI.mp hx;exact pl b hb
 let lbn:(ao.map (·.nm)).length<=9:=by rw [ir];omega
 let lpn:(pX.map (·.nm)).length<=9:=by rw [ir];omega
 dsimp only [cG];refine fM (fun Z' H'=>CK fun (l:AO) (xs:θ)=>Z' =[some (.ref sA),some (.ref lP),some (.ref lB),some (.ref fA),some (.ref nA),some (.ref pA),some (.ref dA),some (.ref lA),some (.int way),some (.ref gA),some (.int c47),some (.ref l),none,none,none,none,none,none]/\aq Pw H'/\H' l=some (.lst (xs.map V.str))/\xs.length<=2/\xs.Nodup/\∀x∈xs,x∉ao.map (·.nm)) (fun N hN=>?_) ?_
 ·show ⟨_,rfl,_,_,rfl,rfl,⟨cr,cr⟩,_,_,rfl,rfl,nz cr,rfl,_,rfl,bD (fun _=>?_) (fun _=>hN _ _ ⟨l11,[],rfl,aq.refl _,e11,cr,rj,fun x h=>nomatch h⟩)⟩
  show ⟨_,rfl,_,rfl,_,rfl,c47,nA,pA,_,_,rfl,s4b _ _ e4,lbn,hbn,s5b _ _ e5,lpn,fun l xs H' s' e' l1 l2 nd nx=>hN _ _ ⟨l,xs,rfl,s',e',l2,nd,nx⟩⟩
 rintro Z H12 ⟨l,xs,rfl,j9,e12,lx,nx,hx⟩;let g12:=g10.gV (zX.trans j9);show ⟨_,rfl,_,rfl,_,rfl,_,_,_,rfl,cr,cr,cr,_,_,rfl,rfl,qZ,?_⟩;let iq:=aL (c:=c47) (p:=5003) (m:=3) cr;generalize field c47 5003 3=fq at iq ⊢;intros th n13 H13 x9 e13;let WK:=g12.gV x9;obtain ⟨ks,eks⟩:=qC fun kv h=>(WK.ks kv h).imp fun x hx=>hx.2;let nks:ks.Nodup:=qD (by rw [<-eks];exact WK.nk)
 let lks:ks.length<=70:=by
  have:=ph Rg eks;rw [ir,ir] at this;have:=WK.ll;omega
 let T_:∀x∈ks,x∈ao.map (·.nm):=fun x h=>by
  obtain ⟨kv,BO,mj⟩:=CI.mp (show (GH x:Key)∈kG.map (·.1) by rw [eks];exact CI.mpr ⟨x,h,rfl⟩);obtain ⟨y,hy,ey⟩:=WK.ks kv BO;rw [mj] at ey;rwa [MQ ey]
 let aHq:ks.length<=9:=CT (tW nks T_) lbn;show ⟨_,rfl,gA,l,.ref th,c47,kG,ks,xs,rfl,WK.hd,eks,nks,ci,x9 _ _ e12,lx,nx,fun x h z=>hx x h (T_ x z),fun d kv ns2 H14 LD nd ed mj pm hv=>?_⟩;let tq:fe K H13 (.ref th) ((0-fq:Int):Rat):=gS (by rwa [mT])
 let nns:ns2.Nodup:=by
  rw [pm.nodup_iff,Vw];show ⟨nks,nx,fun a ha b hb e=>hx b hb (e▸T_ a ha)⟩
 let sub:∀x∈ns2,x∈ao.map (·.nm)++xs:=fun x h=>by
  rcases FQ.mp (pm.mem_iff.mp h) with h|h
  ·exact OA _ (T_ x h)
  ·exact Qv _ h
 let g14:rF K H13 H14 d kv (ao.map (·.nm)++xs) (DK Go ns2 ((0-fq:Int):Rat)) 100:=⟨LD,ed,abf (WK.nm.gV LD) mj hv (fe.gV tq LD),fun z hz=>(YL mj z hz).imp fun x hx=>⟨sub x hx.1,hx.2⟩,by rw [mj];exact acP nns,fun x=>by
  let zq:Sz 31 ((0-fq:Int):Rat):=i6 (by show _<2147483648;omega) cr;show Sz 31 ((if x∈ns2 then some ((Go x).getD ((0-fq:Int):Rat)) else none).getD 1);split
  ·have:=WK.zs x
   unfold gR at this;show Sz 31 ((Go x).getD ((0-fq:Int):Rat));cases z:Go x with
   | none=>exact zq
   | some r=>
    rwa [z] at this
  ·exact i6 (i:=1) (k:=31) cr cr,by
  have:=ph Rg mj;rw [ir,ir,pm.length_eq,IA] at this
  omega⟩
 generalize DK Go ns2 ((0-fq:Int):Rat)=Gp at g14;let s8e:aq H8 H14:=(WK.s).trans LD;let s0e:=YJ.trans s8e;let fre:=fr8.gV s8e;let lde:=ld.gV s8e;let Re:=R.gV (s4.trans (s5.trans (s6.trans (s7.trans (s8.trans s8e)))));let e4e:=(s4b.trans (j9.trans (x9.trans LD))) _ _ e4;let e5e:=(s5b.trans (j9.trans (x9.trans LD))) _ _ e5;let die:=di7.gV (fun _ _ z=>z.gV (s8.trans s8e)) (s8.trans s8e);show ⟨_,rfl,sA,ns,48,rfl,s0e.seq hS,cr,cr,?_⟩;generalize cell ns 48=c48;dsimp only [cG];refine fM (fun Z' H'=>KU fun (o12 o13 o14:ω)=>Z' =[some (.ref sA),some (.ref lP),some (.ref lB),some (.ref fA),some (.ref nA),some (.ref pA),some (.ref dA),some (.ref lA),some (.int way),some (.ref d),some (.int c48),some (.ref l),o12,o13,o14,none,none,none]/\aq H14 H') (fun N hN=>?_) ?_
 ·show ⟨_,rfl,_,_,rfl,rfl,⟨cr,cr⟩,rfl,_,rfl,bD (fun _=>?_) (fun _=>hN _ _ ⟨_,_,_,rfl,aq.refl _⟩)⟩
  show ⟨_,rfl,_,rfl,_,rfl,c48,pA,nA,_,_,rfl,e5e,lpn,hpn,e4e,lbn,fun lo ls HA sa ea l1 l2 nlo hlo=>?_⟩;show ⟨_,rfl,_,rfl,qZ,?_⟩;intros t1 m1 HB sb eb;show ⟨qZ,?_⟩;intros t2 m2 HC sc ec;show ⟨qZ,?_⟩;intros t3 m3 HD sd e3;let sad:=sb.trans (sc.trans sd);let sD:=sa.trans sad;let ldD:=lde.gV sD;obtain ⟨kl,ekl⟩:=qC fun kv h=>(ldD.ks kv h).imp fun x hx=>hx.2;let nkl:kl.Nodup:=qD (by rw [<-ekl];exact ldD.nk)
  let hkl:∀x∈kl,x∈pX.map (·.nm):=fun x h=>by
   obtain ⟨kv,BO,mj⟩:=CI.mp (show (GH x:Key)∈kL.map (·.1) by rw [ekl];exact CI.mpr ⟨x,h,rfl⟩);obtain ⟨y,hy,ey⟩:=ldD.ks kv BO;rw [mj] at ey;rwa [MQ ey]
  let lkl:kl.length<=9:=CT (tW nkl hkl) lpn;show ⟨_,rfl,lA,lo,.ref t3,c48,kL,kl,ls,rfl,ldD.hd,ekl,nkl,ci,sad _ _ ea,l2,nlo,fun x h z=>hlo x h (hkl x z),fun dB kB Tb HE se nB edB ekB pmB hvB=>?_⟩;let pt:gC K HD (.ref t3) ((0:Rat),(1:Rat)):=⟨t3,_,_,rfl,bZ.of e3,gS (by rw [show qr (0:Rat)=(0,1) by decide+kernel];exact (sc.trans sd) _ _ eb),gS (by rw [show qr (1:Rat)=(1,1) by decide+kernel];exact sd _ _ ec)⟩;let ptB:=abg (ldD.pt.gV se) ekB hvB (pt.gV se)
  let zlB:mvL (DK L Tb ((0:Rat),(1:Rat))):=fun x=>by
   unfold mv DK;split
   ·have:=ldD.sz x
    unfold mv at this;cases z:L x with
    | none=>show ⟨d9 cr,i6 (i:=1) (k:=2500) (by show 1<2^2500;decide+kernel) cr⟩
    | some r=>
     rwa [z] at this
   ·show ⟨d9 cr,d9 cr⟩
  show ⟨_,rfl,dB,kB,rfl,.inl edB,?_⟩;intros lk mk HF sf ef
  let elk:kB.map (fun kv=>kV kv.1)=Tb.map V.str:=by
   let z:kB.map (fun kv=>kV kv.1)=(kB.map (·.1)).map kV:=by rw [MI];rfl
   rw [z,ekB,MI];rfl
  rw [elk] at ef;let lnB:Tb.length<=100:=by rw [pmB.length_eq,IA];omega
  let sF:=sD.trans (se.trans sf);let e5F:=sF _ _ e5e;show ⟨lk,rfl,⟨_,aK.of ef⟩,fun D2 n2=>?_⟩;refine tV (K:=K) (a:=lk) (xs:=Tb.map V.str) (zs:=Tb) (Rl:=fun u (x:Str)=>u=V.str x) (oY:=[some (.ref pA)]) (fun x=> !zV (.str x) ((pX.map (·.nm)).map V.str)) (zaG Tb) n2 (by rw [ir];exact GG (show Tb.length<=1000 by omega) cr) (fun H2 s2=>aK.of (s2 _ _ ef)) ?_ ?_ ?_
  ·intro x z HC RC hz mz sC kC
   rw [hz];show ⟨_,rfl,_,rfl,pA,_,rfl,.inl (aK.of (sC _ _ e5F)),rfl,jq _,_,rfl,kC _ (aq.refl _)⟩
  ·intro x z HC RC hz sC k
   show ⟨_,rfl,k⟩
  intro us5 HG p5 sg e6;rw [qw p5] at e6;obtain ⟨x1,VB⟩:∃x,x∈ls:=⟨ls[0],Rk _⟩;let m1:x1∈Tb:=pmB.mem_iff.mpr (Qv _ VB);let fm:x1∈Tb.filter (fun x=> !zV (.str x) ((pX.map (·.nm)).map V.str)):=Wu.mpr ⟨m1,by rw [dy];simpa using hlo x1 VB⟩;obtain ⟨x0,ex0⟩:∃x,(Tb.filter (fun x=> !zV (.str x) ((pX.map (·.nm)).map V.str)))[0]?=some x:=⟨_,gE (Ry fm)⟩;show ⟨D2,_,_,_,rfl,rfl,aK.of e6,bF (j:=0) (by rw [BJ,ex0];rfl),?_⟩;let sG:=sF.trans sg;show ⟨_,rfl,_,rfl,d,kv,rfl,.inl (sG _ _ g14.hd),?_⟩;intros dh nh HH sh eh;let sH:=sG.trans sh;show ⟨_,rfl,fA,dh,dB,pX,ao,kv,kB,Gp,_,rfl,⟨Re.gV sH,g,ci,ci,eh,g14.nm.gV sH,fun z hz=>(g14.ks z hz).imp fun x hx=>hx.2,g14.zs,(sf.trans (sg.trans sh)) _ _ edB,ptB.gV (sf.trans (sg.trans sh)),zlB,fun z hz=>(YL ekB z hz).imp fun x hx=>hx.2⟩,fun p k x HI sI ep due=>?_⟩;show ⟨_,rfl,qZ,?_⟩;intros p2 m9 HJ sJ ep2
  obtain ⟨rfl,rfl⟩:k="pin"/\x=x0:=by
   rcases due with ⟨rfl,t,y,ey,ny,ky⟩|⟨ki,_⟩
   ·show ⟨rfl,?_⟩
    let et:Tb[t]?=some x:=by
     have:(kB.map (·.1))[t]?=some (.inr x):=by rw [BJ,ey];rfl
     rw [ekB,BJ] at this;obtain ⟨z,ez,e⟩:=GX.mp this;rw [ez,MQ e]
    have:=oT (p:=fun x=> !zV (.str x) ((pX.map (·.nm)).map V.str)) et (by rw [dy];simpa using ny) fun y hy=>by
     rw [dy]
     let hm:(GH y:Key)∈(kB.take t).map (·.1):=by
      rw [xW,ekB,<-xW];exact CI.mpr ⟨y,hy,rfl⟩
     obtain ⟨iC,abk,e'⟩:=CI.mp hm;obtain ⟨w,hw,ew⟩:=ky iC abk;rw [e'] at ew;rw [Ms (by rwa [MQ ew])];rfl
    exact MY (this.symm.trans ex0)
   ·exfalso
    let hm:(GH x1:Key)∈kB.map (·.1):=by rw [ekB];exact CI.mpr ⟨x1,m1,rfl⟩
    obtain ⟨iC,abk,e'⟩:=CI.mp hm;obtain ⟨w,hw,ew⟩:=ki iC abk;rw [e'] at ew;exact hlo x1 VB (by rwa [MQ ew])
  refine abe (qB (bZ.of (sJ _ _ ep))) (qB (bZ.of ep2)) (abi _ _) ⟨_,rfl,?_⟩;refine bD (fun c=>nomatch c) (fun _=>?_);exact hN _ _ ⟨_,_,_,rfl,sH.trans (sI.trans sJ)⟩
 rintro Z H15 ⟨o12,o13,o14,rfl,s15⟩;let s8d:=WK.s;let frd:=fr8.gV s8d;let WL:=ld.gV s8d;let Rd:=R.gV (s4.trans (s5.trans (s6.trans (s7.trans (s8.trans s8d)))));let e4d:=(s4b.trans (j9.trans x9)) _ _ e4;let did:=di7.gV (fun _ _ z=>z.gV (s8.trans s8d)) (s8.trans s8d)
 let ppD:pG K H13 kD fun x=>if x∈ao.map (·.nm) then some (qr (D x)) else none:=fun x=>by
  by_cases c:x∈ao.map (·.nm)
  ·obtain ⟨b,mb,rfl⟩:=CI.mp c
   obtain ⟨v,a,h⟩:=did.tv b mb;exact .inr ⟨v,_,a,mG c,h⟩
  ·refine .inl ⟨bS (fun z=>c ?_),lH c⟩
   rw [did.ky] at z;obtain ⟨b,mb,e⟩:=CI.mp z;exact CI.mpr ⟨b,mb,by injection e⟩
 let zP:∀x,mi 40 (mZ (fun x=>if x∈ao.map (·.nm) then some (qr (D x)) else none) x):=fun x=>by
  show mi 40 ((if x∈ao.map (·.nm) then some (qr (D x)) else none).getD (0,1));by_cases c:x∈ao.map (·.nm)
  ·obtain ⟨b,mb,rfl⟩:=CI.mp c
   rw [mG c];exact (kR (zD b mb)).up cr
  ·rw [lH c]
   exact SQ.up cr
 obtain ⟨dx',pP,pW,pB,kP,kW,kB,F1,W1⟩:=Rd.ex;let YH:=r6 ao
 let fl:∀kv∈kL,jd kv.2=true\/∃c,kv.2=.ref c:=fun kv h=>by
  obtain ⟨x,_,ex⟩:=WL.ks kv h;obtain ⟨i,ei⟩:=MF h;let vy:bB kL (.inr x)=some kv.2:=oj WL.nk (t:=i) (by rw [ei,<-ex])
  rcases WL.pt x with ⟨h,_⟩|⟨v,r,h1,h2,a,_,_,rfl,_⟩
  ·rw [vy] at h
   cases h
  ·rw [vy] at h1
   exact .inr ⟨a,MY h1⟩
 show ⟨_,rfl,lB,_,rfl,.inl (aK.of ((LD.trans s15) _ _ frd.hb)),_,_,rfl,rfl,((vs.length:Nat):Int)+3,rfl,ci,ci,let I:ce:=fun i Z H'=>Ex5 fun (o15 o16 o17:ω) (kG:γ) (Go:τ)=>Z=[ap sA,ap lP,ap lB,ap fA,ap nA,ap pA,ap dA,ap lA,some (.int way),ap d,some (.int c48),ap l,o12,o13,o14,o15,o16,o17]/\rF K H13 H' d kG (ao.map (·.nm)++xs) Go (100+i)/\OG xs (ao.map (·.nm)) kG Go+i<=ao.length+2;cq (lo:=0) (n:=(((vs.length:Nat):Int)+3).toNat) I ⟨none,none,none,kv,Gp,rfl,g14.gV s15,?_⟩ ?_ ?_⟩
 ·have:=abh xs (ao.map (·.nm)) kv Gp
  rw [ir] at this;omega
 ·rintro i Z HA hi ⟨o15,o16,o17,kG,Go,rfl,ga,bad⟩
  let sa:=ga.s;let hk:∀kv∈kG,∃x:Str,kv.1=.inr x:=fun z hz=>(ga.ks z hz).imp fun x hx=>hx.2;show ⟨_,rfl,_,rfl,_,rfl,lB,d,nA,vs,pX,ao,kG,_,rfl,sa _ _ frd.hb,Paired.dc frd.pb fun _ _ z=>z.gV sa,ga.hd,ga.nm,hk,sa _ _ e4d,fun p16 k x HB sb e16 due=>?_⟩;show ⟨_,rfl,d,kG,rfl,.inl (sb _ _ ga.hd),?_⟩;intros h0 m0 HC sc ec;let sac:=sa.trans (sb.trans sc);show ⟨_,rfl,lA,kL,rfl,.inl (sac _ _ WL.hd),?_⟩;intros h1 m1 HD sd ed1;show ⟨qZ,?_⟩;intros lh m2 HE se ee;let sbe:=sc.trans (sd.trans se);let sE:=sa.trans (sb.trans sbe);let gE:=ga.gV (sb.trans sbe);let abl:=sbe _ _ e16;let h0E:=(sd.trans se) _ _ ec;let h1E:=se _ _ ed1;show ⟨_,rfl,_,rfl,lh,_,_,_,rfl,rfl,aK.of ee,ib,_,rfl,lh,_,_,_,rfl,rfl,aK.of ee,iD,fA,h0,h1,pX,ao,kG,kL,Go,L,rfl,⟨Rd.gV sE,g,ci,ci,h0E,gE.nm,hk,gE.zs,h1E,WL.pt.gV sE,WL.sz,fun z hz=>(WL.ks z hz).imp fun x hx=>hx.2⟩,fun p k' x' HF sf ep dp=>?_⟩
  obtain ⟨rfl,rfl⟩:k=k'/\x=x':=by
   rcases dp with ⟨_,t,y,ey,ny,_⟩|⟨_,du'⟩
   ·exact (KeysIn.no WL.ks (DA ey) ny).elim
   ·exact due.uniq du'
  show ⟨_,rfl,abe (qB (bZ.of ep)) (qB (bZ.of (sf _ _ abl))) (abi _ _) ⟨_,rfl,?_⟩⟩;refine bD (fun c=>nomatch c) (fun _=>?_);let sF:=sE.trans sf;let gF:=gE.gV sf;show ⟨_,rfl,_,rfl,lh,_,_,_,rfl,rfl,aK.of (sf _ _ ee),ib,_,rfl,fA,h0,dA,ao.map (·.nm),kG,_,rfl,⟨⟨dx',pP,pW,pB,_,_,kP,kW,kB,kD,_,F1.gV sF,YH,sF _ _ did.hd,ppD.gV sF,zP⟩,sf _ _ h0E,gF.nm,hk,by rw [ir];omega,gb.nb,fun x=>by rw [yu];exact (kR (gF.zs x)).up cr⟩,fun p' k' x' HG sg ET du'=>?_⟩;obtain ⟨rfl,rfl⟩:=due.uniq du';show ⟨_,rfl,abe (qB (bZ.of ET)) (qB (bZ.of ((sf.trans sg) _ _ abl))) (abi _ _) ⟨_,rfl,?_⟩⟩;refine bD (fun c=>nomatch c) (fun _=>?_);let sfg:=sf.trans sg;let gG:=gE.gV sfg;show ⟨_,rfl,lh,_,_,_,rfl,rfl,aK.of (sfg _ _ ee),ib,h0,kG,rfl,sfg _ _ h0E,fun lI ui HI sI nI eI pI=>?_⟩;show ⟨_,rfl,d,kG,rfl,sI _ _ gG.hd,fun lJ uj HJ sJ nJ eJ pJ=>?_⟩;let pI':=Paired.dc pI fun (u:V) (kv:Φ) (z:∃p,u=.ref p/\HI p=some (.tup [kV kv.1,kv.2]))=>(show ∃p,u=.ref p/\HJ p=some (.tup [kV kv.1,kv.2]) from by obtain ⟨p,h1,h2⟩:=z;show ⟨p,h1,sJ _ _ h2⟩);let gJ:=gG.gV (sI.trans sJ);refine aon (xl gJ.nm gJ.nk hk (aK.of (sJ _ _ eI)) pI') (xl gJ.nm gJ.nk hk (aK.of eJ) pJ) (zaF (acM Go) _) ⟨_,rfl,?_⟩;refine bD (fun c=>nomatch c) (fun _=>?_);let sEJ:=sfg.trans (sI.trans sJ);show ⟨_,rfl,lh,_,_,_,rfl,rfl,aK.of (sEJ _ _ ee),iD,_,rfl,⟨h1,lA,kL,rfl,rfl,.inl (sEJ _ _ h1E),.inl ((sE.trans sEJ) _ _ WL.hd),fl⟩,_,rfl,bD (fun c=>nomatch c) (fun _=>?_)⟩;let agH:=sEJ _ _ abl;show ⟨_,rfl,p16,_,_,_,rfl,rfl,bZ.of agH,ib,rfl,_,rfl,bD (fun _=>q _) (fun c=>?_)⟩;let nt:k≠ "told":=fun z=>c (Ms (by rw [z]));obtain ⟨_,hw⟩:=zaC (p:=0) ga.ks hx ga.nk due nt;show ⟨_,rfl,_,rfl,d,p16,k,x,ao.map (·.nm)++xs,kG,Go,H13,100+i,rfl,agH,gJ,ci,nd,hw,fun p6 HK gk=>⟨_,_,_,_,_,rfl,gk,?_⟩⟩;have:=(zaC (p:=p6) ga.ks hx ga.nk due nt).1;omega
 ·rintro Z HA ⟨o15,o16,o17,kG,Go,rfl,ga,bad⟩
  exfalso;omega
end
def all_mk {l:PySem.W.OpenLaw}{w:World}{K:Frag}{h:Heap}{mg:ι}{fa:AO}(X:K.In h)(G:h.Ns FZ mg)(hfa:mg "law"=some (.ref fa))
  {agI agJ:Str} {agK YM:ν} {agL:Bool} {agM:θ} {abm:ν} {agN:Bool} {abn:Option Bool} {agO agP agQ agR agS:Option Value} {agT agU:Str} {agV YN:ν} {agW:Bool} {agX:θ} {abo:ν} {agY:Bool} {abp:Option Bool} {agZ ag0 ag1 ag2 ag3:Option Value} {OJ OK:Str} {OL xm:ν} {OM:Bool} {ON:θ} {IF:ν} {OO:Bool} {IG:Option Bool} {OP OQ OR OS OT:Option Value}
  (Tc:oX K "sum_of" iy) (aoI:oX K "difference_of" GO) (yM:oX K "product_of" dk) (vH:oX K "quotient_of" cU) (aoM:oX K "lowest_terms" CL) (aoQ:oX K "greatest_shared" Ny) (uR:oX K "lengthenings" c6) (aoU:oX K "arm_between" Nz) (aoY:oX K "pair_difference" GP) (uV:oX K "pair_product" cL) (ao2:oX K "pair_row" NA) (ao6:oX K "load_row" GQ) (yQ:oX K "check_bars" dm) (ao':oX K "bar_row" NC) (apd:oX K "draw_rows" NF) (aph:oX K "pulls_and_pushes" NG) (apl:oX K "motion_from" NH) (apq:oX K "signs_turned" NI) (apu:oX K "solve_rows" NJ) (apy:oX K "turned" NK) (apC:oX K "whole_row" NL) (apG:oX K "solution_of" NM) (apK:oX K "reduced" NO) (apO:oX K "first_not_nought" NP) (apS:oX K "cleared" NQ) (apW:oX K "divided" NR) (OV:oX K "bend_of" fZ) (DP:oX K "stored_of" dP) (DT:oX K "all_grips" dQ) (OZ:oX K "gripped" h_) (DX:oX K "bend_rows" fg) (yX:oX K "stiff_rows" dY) (ap0:oX K "_law_cell_at" NS) (ap4:oX K "_law_field" NT) (ap8:oX K "_law_lowest" NU) (aqb:oX K "_law_sum" NV) (aqf:oX K "_law_times" NW) (aqj:oX K "_law_turned" NX) (aqn:oX K "_law_name" GU) (aqr:oX K "_law_spot" NY) (aqv:oX K "_law_ways" NZ) (aqz:oX K "_law_pins" N0) (aqD:oX K "_law_bars" N3) (aqH:oX K "_law_frame" N4) (aqL:oX K "_law_arm" N5) (aqP:oX K "_law_add" N6) (aqT:oX K "_law_forces" N7) (D':oX K "_law_grips" fh) (ED:oX K "_law_pulls" fj) (y_:oX K "_law_pushes" dZ) (vO:oX K "_law_load_by" dF) (aqX:oX K "_law_strange" N8) (ze:oX K "_law_put_in" d3) (zk:oX K "_law_spoilt" d5) (O5:oX K "_law_due" ia) (IK:oX K "_law_said" f9) (IQ:oX K "_law_bend" f_) (zv:oX K "_law_stored" d6) (IV:oX K "_law_next" f') (aic:nsIn K FZ "law"=some (some (.ref Zc))) (aid:K.lookup Zc=some ⟨aq1,aq2,.func (fnOf "law" "law" (au oq) (ar oq) (ae oq) .none abP abQ abR abS TB abT),aq3⟩) (aie:codeIn K TB "law"=true) (aif:keepIn K (.ref Zc)=true) (aq4:nsIn K FZ "MOST_PINS"=some (some (.int 24 aAX))) (aq5:nsIn K FZ "MOST_BARS"=some (some (.int 60 aAY))) (aq6:nsIn K FZ "NOUGHT"=some (some (.ref abU))) (aq7:K.lookup abU=some ⟨.type "tuple",aAZ,.seq #[.int 0 aq8,.int 1 aq9] aA0,aA1⟩) (aq':nsIn K FZ "ONE"=some (some (.ref abV))) (ara:K.lookup abV=some ⟨.type "tuple",aA2,.seq #[.int 1 arb,.int 1 arc] aA3,aA4⟩) (ard:nsIn K FZ "NO_MOVE"=some (some (.ref abW))) (arf:K.lookup abW=some ⟨.type "tuple",aA5,.seq #[.ref aih,.ref aii] aA6,aA7⟩) (arh:K.lookup aih=some ⟨.type "tuple",aA8,.seq #[.int 0 ari,.int 1 arj] aA9,aA'⟩) (ark:K.lookup aii=some ⟨.type "tuple",aBa,.seq #[.int 0 arl,.int 1 arn] aBb,aBc⟩) (zE:nsIn K FZ "ValueError"=some none) (aij:nsIn K FZ "abs"=some none) (aik:nsIn K FZ "any"=some none) (abX:nsIn K FZ "dict"=some none) (EK:nsIn K FZ "enumerate"=some none) (ail:nsIn K FZ "int"=some none) (zF:nsIn K FZ "isinstance"=some none) (aim:nsIn K FZ "len"=some none) (abY:nsIn K FZ "list"=some none) (ain:nsIn K FZ "min"=some none) (Xv:nsIn K FZ "range"=some none) (aio:nsIn K FZ "str"=some none) (aip:nsIn K FZ "sum"=some none) (aiq:nsIn K FZ "zip"=some none) (aro:nsIn K FZ "YardError"=some (some (.ref EL))) (IZ:nsIn K FZ "NoNumber"=some (some (.ref I_))) (arp:nsIn K FZ "NoWay"=some (some (.ref arq))) (ars:nsIn K FZ "PinThere"=some (some (.ref art))) (aru:nsIn K FZ "SpotTaken"=some (some (.ref arv))) (arw:nsIn K FZ "NoPin"=some (some (.ref gj))) (arx:nsIn K FZ "BarThere"=some (some (.ref ary))) (arz:nsIn K FZ "NoBar"=some (some (.ref gm))) (arA:nsIn K FZ "NoLength"=some (some (.ref arB))) (arC:nsIn K FZ "TooMany"=some (some (.ref arD))) (TC:nsIn K FZ "NoGrip"=some (some (.ref bo))) (arE:nsIn K FZ "Frame"=some (some (.ref ck))) (arF:nsIn K FZ "Hold"=some (some (.ref rJ))) (arG:nsIn K FZ "Roller"=some (some (.ref mq))) (arH:nsIn K FZ "Fixed"=some (some (.ref qE))) (air:Vh K ck Str.empty=true) (ais:V3 K ck=true) (ait:Zy K ck=true) (aiu:H_ K (.ref ck) "__setattr__"=some (some (.builtin "object.__setattr__"))) (aiv:Vl K ck=true) (aiw:keepIn K (.ref ck)=true) (aix:uW K ck "__init__" "Frame.__init__" N') (arK:H_ K (.ref ck) "put_pin"=some (some (.ref Xw))) (arL:ZW K (.ref Xw)=true) (arM:K.lookup Xw=some ⟨aBl,aBm,.func (fnOf "put_pin" "Frame.put_pin" (au rq) (ar rq) (ae rq) (.ref TJ) Zd Ze Zf Zg TK Zh),aBn⟩) (aiB:K.lookup TJ=some ⟨aBo,arN,.seq #[.none] aBp,arO⟩) (arP:codeIn K TK "Frame.put_pin"=true) (aiC:keepIn K (.ref Xw)=true) (arQ:uW K ck "put_bar" "Frame.put_bar" Oa) (arU:uW K ck "check_bar" "Frame.check_bar" Ob) (arY:uW K ck "check_pin" "Frame.check_pin" Oc) (ar2:uW K ck "pins" "Frame.pins" Od) (ar6:uW K ck "bars" "Frame.bars" Oe) (ar':uW K ck "place" "Frame.place" Of) (ase:uW K ck "ways" "Frame.ways" Og) (asj:uW K ck "ends" "Frame.ends" Oh) (aiT:Vh K rJ Str.empty=true) (aiU:V3 K rJ=true) (aiV:Zy K rJ=true) (aiW:H_ K (.ref rJ) "__setattr__"=some (some (.builtin "object.__setattr__"))) (aiX:Vl K rJ=true) (aiY:keepIn K (.ref rJ)=true) (aiZ:H_ K (.ref rJ) "__init__"=some (some (.builtin "object.__init__"))) (aso:uW K rJ "ways" "Hold.ways" V8) (ai2:Vh K mq Str.empty=true) (ai3:V3 K mq=true) (ai4:Zy K mq=true) (ai5:H_ K (.ref mq) "__setattr__"=some (some (.builtin "object.__setattr__"))) (ai6:Vl K mq=true) (ai7:keepIn K (.ref mq)=true) (ai8:uW K mq "__init__" "Roller.__init__" Oi) (asv:uW K mq "ways" "Roller.ways" Oj) (ajd:Vh K qE Str.empty=true) (aje:V3 K qE=true) (ajf:Zy K qE=true) (ajg:H_ K (.ref qE) "__setattr__"=some (some (.builtin "object.__setattr__"))) (ajh:Vl K qE=true) (aji:keepIn K (.ref qE)=true) (ajj:H_ K (.ref qE) "__init__"=some (some (.builtin "object.__init__"))) (asz:uW K qE "ways" "Fixed.ways" Ol) (asD:K.lookup gj=some (Sf agI agJ gj aHJ agK YM agL agM abm agN abn aCX agO agP agQ agR agS "ValueError.__new__")) (ajm:JR K bmV YM=true) (ajn:keepIn K (.ref gj)=true) (ajo:H_ K (.ref gj) "__getattribute__"=some (some (.builtin "BaseException.__getattribute__"))) (ajp:H_ K (.ref gj) "__getattr__"=some none) (ajq:H_ K (.ref gj) "__class__"=some (some (.builtin "object.__class__"))) (ajr:Ra K gj (.type "object")=some true) (ajs:Ra K gj (.type "BaseException")=some true) (ajt:Ra K gj (.type "ValueError")=some true) (aju:(Zl K gj).isSome=true) (ajv:H_ K (.ref gj) "__setattr__"=some (some (.builtin "object.__setattr__"))) (ajw:V3 K gj=true) (ajx:(Zl K gj).any (fun cd=>mH.jI cd.mro)=true) (zH:H_ K (.ref gj) "pin"=some none) (asE:uW K gj "__init__" "NoPin.__init__" N9) (asJ:K.lookup gm=some (Sf agT agU gm aHK agV YN agW agX abo agY abp aC6 agZ ag0 ag1 ag2 ag3 "ValueError.__new__")) (ajz:JR K bmV YN=true) (ajA:keepIn K (.ref gm)=true) (ajB:H_ K (.ref gm) "__getattribute__"=some (some (.builtin "BaseException.__getattribute__"))) (ajC:H_ K (.ref gm) "__getattr__"=some none) (ajD:H_ K (.ref gm) "__class__"=some (some (.builtin "object.__class__"))) (ajE:Ra K gm (.type "object")=some true) (ajF:Ra K gm (.type "BaseException")=some true) (ajG:Ra K gm (.type "ValueError")=some true) (ajH:(Zl K gm).isSome=true) (ajI:H_ K (.ref gm) "__setattr__"=some (some (.builtin "object.__setattr__"))) (ajJ:V3 K gm=true) (ajK:(Zl K gm).any (fun cd=>mH.jI cd.mro)=true) (zI:H_ K (.ref gm) "bar"=some none) (asK:uW K gm "__init__" "NoBar.__init__" N_) (TM:K.lookup bo=some (Sf OJ OK bo ajM OL xm OM ON IF OO IG acO OP OQ OR OS OT "ValueError.__new__")) (O9:JR K bmV xm=true) (O_:keepIn K (.ref bo)=true) (Pa:H_ K (.ref bo) "__getattribute__"=some (some (.builtin "BaseException.__getattribute__"))) (Pb:H_ K (.ref bo) "__getattr__"=some none) (Pc:H_ K (.ref bo) "__class__"=some (some (.builtin "object.__class__"))) (Pd:Ra K bo (.type "object")=some true) (Pe:Ra K bo (.type "BaseException")=some true) (Pf:Ra K bo (.type "ValueError")=some true) (Pg:(Zl K bo).isSome=true) (Ph:H_ K (.ref bo) "__setattr__"=some (some (.builtin "object.__setattr__"))) (Pj:V3 K bo=true) (Pk:(Zl K bo).any (fun cd=>mH.jI cd.mro)=true) (vV:H_ K (.ref bo) "bar"=some none) (vW:uW K bo "__init__" "NoGrip.__init__" dG) (T1:H_ K (.ref ck) "pin_places"=some none) (abZ:H_ K (.ref ck) "pin_ways"=some none) (ab0:H_ K (.ref ck) "bar_ends"=some none) (Zi:H_ K (.ref mq) "way"=some none) (ht:l.prog.given.tree=none) (asP:PySem.W.specialIn K (.ref EL) "__getattribute__"=some (some (.builtin "type.__getattribute__"))) (asQ:PySem.W.readsIn K EL (.type "type")=true) (asR:PySem.W.findCls K (.ref EL) (.type "type") "__init__"=some (.val (.builtin "ValueError.__init__"))) (ajN:VM K (.ref gj) (.ref EL)=some true) (ajO:Ou K (.ref gj) (.ref gj)=some true) (ajP:Ou K (.ref gj) (.ref gm)=some false) (ajQ:Ou K (.ref gj) (.ref bo)=some false) (ajR:Ou K (.ref gj) (.type "ValueError")=some true) (Zj:VM K (.ref gm) (.ref EL)=some true) (ajS:Ou K (.ref gm) (.ref gj)=some false) (ajT:Ou K (.ref gm) (.ref gm)=some true) (ajU:Ou K (.ref gm) (.ref bo)=some false) (ajV:Ou K (.ref gm) (.type "ValueError")=some true) (Zk:VM K (.ref bo) (.ref EL)=some true) (ajW:Ou K (.ref bo) (.ref gj)=some false) (ajX:Ou K (.ref bo) (.ref gm)=some false) (ajY:Ou K (.ref bo) (.ref bo)=some true) (ajZ:Ou K (.ref bo) (.type "ValueError")=some true):
  ∃fd:FuncData,(∀(s:BW)(v:Value),BindsTo s fd ⟨[v],[]⟩ [("_law_script",v)])/\∀gw:Heap,K.In gw->gw.Ns FZ mg->cK l.prog w K mg gw (aS l.prog w) 42 fa fd ["_law_script"] (QJ K):=by
 let e:=hfa.symm.trans (mg_of X G aic);cases e;obtain ⟨aix,aiy,arI,arJ,aiA⟩:=aix;obtain ⟨arQ,arR,arS,arT,aiE⟩:=arQ;obtain ⟨arU,arV,arW,arX,aiG⟩:=arU;obtain ⟨arY,arZ,ar0,ar1,aiI⟩:=arY;obtain ⟨ar2,ar3,ar4,ar5,aiK⟩:=ar2;obtain ⟨ar6,ar7,ar8,ar9,aiM⟩:=ar6;obtain ⟨ar',asa,asb,asd,aiO⟩:=ar';obtain ⟨ase,asf,ash,asi,aiQ⟩:=ase;obtain ⟨asj,asl,asm,asn,aiS⟩:=asj;obtain ⟨aso,asp,asq,asr,ai1⟩:=aso;obtain ⟨ai8,ai9,ass,asu,aja⟩:=ai8;obtain ⟨asv,asw,asx,asy,ajc⟩:=asv;obtain ⟨asz,asA,asB,asC,ajl⟩:=asz;obtain ⟨asE,asF,asG,asH,asI⟩:=asE;obtain ⟨asK,asL,asM,asN,asO⟩:=asK;obtain ⟨vW,vX,vY,vZ,v7⟩:=vW;let T2:Def K mg _ _ ["one","other"]:=fJ X G Tc;let asS:Def K mg _ _ ["one","other"]:=fJ X G aoI;let zJ:Def K mg _ _ ["one","other"]:=fJ X G yM;let v8:Def K mg _ _ ["one","other"]:=fJ X G vH;let asT:Def K mg _ _ ["top","bottom"]:=fJ X G aoM;let asU:Def K mg _ _ ["one","other"]:=fJ X G aoQ;let u6:Def K mg _ _ ["F","motion"]:=fJ X G uR;let asV:Def K mg _ _ ["F","one","other"]:=fJ X G aoU;let asW:Def K mg _ _ ["one","other"]:=fJ X G aoY;let u9:Def K mg _ _ ["one","other"]:=fJ X G uV;let asX:Def K mg _ _ ["F","draws"]:=fJ X G ao2;let asY:Def K mg _ _ ["F","load"]:=fJ X G ao6;let zK:Def K mg _ _ ["F","told"]:=fJ X G yQ;let asZ:Def K mg _ _ ["F","one","other"]:=fJ X G ao';let as0:Def K mg _ _ ["F"]:=fJ X G apd;let as1:Def K mg _ _ ["F","numbers"]:=fJ X G aph;let as2:Def K mg _ _ ["F","numbers"]:=fJ X G apl;let as3:Def K mg _ _ ["numbers"]:=fJ X G apq;let as4:Def K mg _ _ ["rows","due","many"]:=fJ X G apu;let as5:Def K mg _ _ ["rows","many"]:=fJ X G apy;let as6:Def K mg _ _ ["row"]:=fJ X G apC;let as7:Def K mg _ _ ["lines","many"]:=fJ X G apG;let as8:Def K mg _ _ ["lines","many"]:=fJ X G apK;let as9:Def K mg _ _ ["lines","column"]:=fJ X G apO;let as':Def K mg _ _ ["line","lead","column"]:=fJ X G apS;let ata:Def K mg _ _ ["line"]:=fJ X G apW;let Pm:Def K mg _ _ ["F","grips","load"]:=fJ X G OV;let EM:Def K mg _ _ ["F","grips","pulls"]:=fJ X G DP;let EN:Def K mg _ _ ["F","grips"]:=fJ X G DT;let Pn:Def K mg _ _ ["firm","longer"]:=fJ X G OZ;let EO:Def K mg _ _ ["F","firm"]:=fJ X G DX;let zL:Def K mg _ _ ["F","firm","bar_rows"]:=fJ X G yX;let atb:Def K mg _ _ ["_law_script","_law_k"]:=fJ X G ap0;let atc:Def K mg _ _ ["_law_cell","_law_prime","_law_many"]:=fJ X G ap4;let atd:Def K mg _ _ ["_law_top","_law_bottom"]:=fJ X G ap8;let ate:Def K mg _ _ ["_law_one","_law_other"]:=fJ X G aqb;let atf:Def K mg _ _ ["_law_one","_law_other"]:=fJ X G aqf;let atg:Def K mg _ _ ["_law_one"]:=fJ X G aqj;let ath:Def K mg _ _ ["_law_cell","_law_k"]:=fJ X G aqn;let ati:Def K mg _ _ ["_law_cell","_law_kind"]:=fJ X G aqr;let atj:Def K mg _ _ ["_law_cell"]:=fJ X G aqv;let atk:Def K mg _ _ ["_law_script","_law_most"]:=fJ X G aqz;let atl:Def K mg _ _ ["_law_script","_law_pins_here"]:=fJ X G aqD;let atm:Def K mg _ _ ["_law_pins_here","_law_bars_here"]:=fJ X G aqH;let atn:Def K mg _ _ ["_law_pins_here","_law_bar","_law_axis"]:=fJ X G aqL;let ato:Def K mg _ _ ["_law_found","_law_k","_law_axis","_law_draw"]:=fJ X G aqP;let atp:Def K mg _ _ ["_law_pins_here","_law_bars_here","_law_pulls_here","_law_pushes_here"]:=fJ X G aqT;let ER:Def K mg _ _ ["_law_script","_law_bars_here"]:=fJ X G D';let ES:Def K mg _ _ ["_law_script","_law_bars_here","_law_start"]:=fJ X G ED;let zN:Def K mg _ _ ["_law_script","_law_pins_here","_law_start"]:=fJ X G y_;let v9:Def K mg _ _ ["_law_pins_here","_law_bars_here","_law_pulls_here","_law_pushes_here"]:=fJ X G vO;let atq:Def K mg _ _ ["_law_cell","_law_known","_law_others"]:=fJ X G aqX;let zO:Def K mg _ _ ["_law_told","_law_strange_here","_law_thing","_law_cell"]:=fJ X G ze;let zQ:Def K mg _ _ ["_law_script","_law_bars_here","_law_grips_here"]:=fJ X G zk;let Po:Def K mg _ _ ["_law_bars_here","_law_grips_here","_law_names"]:=fJ X G O5;let JA:Def K mg _ _ ["_law_error"]:=fJ X G IK;let JB:Def K mg _ _ ["_law_frame_here","_law_grips_here","_law_load"]:=fJ X G IQ;let zR:Def K mg _ _ ["_law_frame_here","_law_grips_here","_law_pulls_here"]:=fJ X G zv;let JC:Def K mg _ _ ["_law_grips_here","_law_due_here"]:=fJ X G IV;let iB:EU K ck:=⟨air,ais,ait,aiu⟩;let aa3:Mk K ck _:=⟨aiv,aix,aiy,aiw⟩;let aj0:=df (st:=N') arI arJ aiA;let aa5:=aj0.EW (ps:=["self"]);let aHL:Meth K ck "__init__" _:=⟨aix,aiy,aiA⟩;let atr:=ady (st:=rq) arM arP aiC;let ats:Binds K (fnOf "put_pin" "Frame.put_pin" (au rq) (ar rq) (ae rq) (.ref TJ) Zd Ze Zf Zg TK Zh) ["self","name","x","y","hold"] []:=fun s us X hl=>by obtain ⟨a,b,c,d,e,rfl⟩:=bl5 (P:=fun us=>∃a b c d e,us=[a,b,c,d,e]) (fun a b c d e=>⟨a,b,c,d,e,rfl⟩) us (by simpa using hl);exact BindsTo.of_defaults rfl (X _ _ aiB) rfl rfl rfl
 let aj1:Binds K (fnOf "put_pin" "Frame.put_pin" (au rq) (ar rq) (ae rq) (.ref TJ) Zd Ze Zf Zg TK Zh) ["self","name","x","y","hold"] [.none]:=fun s us X hl=>by obtain ⟨a,b,c,d,rfl⟩:=bl4 (P:=fun us=>∃a b c d,us=[a,b,c,d]) (fun a b c d=>⟨a,b,c,d,rfl⟩) us (by simpa using hl);exact BindsTo.of_defaults rfl (X _ _ aiB) rfl rfl rfl
 let aj2:Meth K ck "put_pin" Xw:=⟨arK,arL,aiC⟩;let aj3:=df (st:=Oa) arS arT aiE;let att:=aj3.EW (ps:=["self","name","one","other"]);let atu:Meth K ck "put_bar" _:=⟨arQ,arR,aiE⟩;let aj4:=df (st:=Ob) arW arX aiG;let atv:=aj4.EW (ps:=["self","name","one","other"]);let atw:Meth K ck "check_bar" _:=⟨arU,arV,aiG⟩;let aj5:=df (st:=Oc) ar0 ar1 aiI;let atx:=aj5.EW (ps:=["self","pin"]);let aty:Meth K ck "check_pin" _:=⟨arY,arZ,aiI⟩;let aj6:=df (st:=Od) ar4 ar5 aiK;let atz:=aj6.EW (ps:=["self"]);let atA:Meth K ck "pins" _:=⟨ar2,ar3,aiK⟩;let aj7:=df (st:=Oe) ar8 ar9 aiM;let atB:=aj7.EW (ps:=["self"]);let atD:Meth K ck "bars" _:=⟨ar6,ar7,aiM⟩;let aj8:=df (st:=Of) asb asd aiO;let atE:=aj8.EW (ps:=["self","pin"]);let atF:Meth K ck "place" _:=⟨ar',asa,aiO⟩;let aj9:=df (st:=Og) ash asi aiQ;let atG:=aj9.EW (ps:=["self","pin"]);let atH:Meth K ck "ways" _:=⟨ase,asf,aiQ⟩;let aj':=df (st:=Oh) asm asn aiS;let atJ:=aj'.EW (ps:=["self","bar"]);let atL:Meth K ck "ends" _:=⟨asj,asl,aiS⟩;let cls_cm:EU K rJ:=⟨aiT,aiU,aiV,aiW⟩;let aHM:Mk0 K rJ:=⟨aiX,aiZ,aiY⟩;let atM:=df (st:=V8) asq asr ai1;let aHN:=atM.EW (ps:=["self"]);let aHO:Meth K rJ "ways" _:=⟨aso,asp,ai1⟩;let JD:EU K mq:=⟨ai2,ai3,ai4,ai5⟩;let aa9:Mk K mq _:=⟨ai6,ai8,ai9,ai7⟩;let aka:=df (st:=Oi) ass asu aja;let aa':=aka.EW (ps:=["self","x","y"]);let aHP:Meth K mq "__init__" _:=⟨ai8,ai9,aja⟩;let akb:=df (st:=Oj) asx asy ajc;let atN:=akb.EW (ps:=["self"]);let atO:Meth K mq "ways" _:=⟨asv,asw,ajc⟩;let ab1:EU K qE:=⟨ajd,aje,ajf,ajg⟩;let aa8:Mk0 K qE:=⟨ajh,ajj,aji⟩;let akc:=df (st:=Ol) asB asC ajl;let atP:=akc.EW (ps:=["self"]);let atQ:Meth K qE "ways" _:=⟨asz,asA,ajl⟩;let akd:=df (st:=N9) asG asH asI;let aaE:=akd.EW (ps:=["self","pin"]);let ake:mH.jH K gj:=⟨ajo,ajp,ajq,ajr,ajs,aju⟩;let pj:mH.nX K gj "pin":=⟨ake,ajv,ajw,ajx,zH⟩;let aaD:FV K gj _:=⟨⟨_,_,_,_,_,_,_,_,_,_,_,_,_,_,_,_,asD,ajm⟩,asE,asF,ajn⟩;let akf:=df (st:=N_) asM asN asO;let aaQ:=akf.EW (ps:=["self","bar"]);let akg:mH.jH K gm:=⟨ajB,ajC,ajD,ajE,ajF,ajH⟩;let pC:mH.nX K gm "bar":=⟨akg,ajI,ajJ,ajK,zI⟩;let aaP:FV K gm _:=⟨⟨_,_,_,_,_,_,_,_,_,_,_,_,_,_,_,_,asJ,ajz⟩,asK,asL,ajA⟩;let mI:=df (st:=dG) vY vZ v7;let i9:=mI.EW (ps:=["self","bar"]);let Pp:mH.jH K bo:=⟨Pa,Pb,Pc,Pd,Pe,Pg⟩;let mJ:mH.nX K bo "bar":=⟨Pp,Ph,Pj,Pk,vV⟩;let uq:FV K bo _:=⟨⟨_,_,_,_,_,_,_,_,_,_,_,_,_,_,_,_,TM,O9⟩,vW,vX,O_⟩;let aay:=mg_of X G aq4;let aaA:=mg_of X G aq5;let kN:mg "NOUGHT"=some (.ref abU):=mg_of X G aq6;let aaR:mg "ONE"=some (.ref abV):=mg_of X G aq';let G_:mg "NO_MOVE"=some (.ref abW):=mg_of X G ard;let mW:mg "YardError"=some (.ref EL):=mg_of X G aro;let ab2:mg "NoNumber"=some (.ref I_):=mg_of X G IZ;let aHQ:mg "NoWay"=some (.ref arq):=mg_of X G arp;let aHR:mg "PinThere"=some (.ref art):=mg_of X G ars;let aHS:mg "SpotTaken"=some (.ref arv):=mg_of X G aru;let Ov:mg "NoPin"=some (.ref gj):=mg_of X G arw;let aHT:mg "BarThere"=some (.ref ary):=mg_of X G arx;let Ox:mg "NoBar"=some (.ref gm):=mg_of X G arz;let aHU:mg "NoLength"=some (.ref arB):=mg_of X G arA;let aHV:mg "TooMany"=some (.ref arD):=mg_of X G arC;let jw:mg "NoGrip"=some (.ref bo):=mg_of X G TC;let aa4:mg "Frame"=some (.ref ck):=mg_of X G arE;let aHW:mg "Hold"=some (.ref rJ):=mg_of X G arF;let aa6:mg "Roller"=some (.ref mq):=mg_of X G arG;let aa7:mg "Fixed"=some (.ref qE):=mg_of X G arH;let jW:mg "ValueError"=none:=mg_none_of X G zE;let w4:mg "abs"=none:=mg_none_of X G aij;let Sa:mg "any"=none:=mg_none_of X G aik;let kY:mg "dict"=none:=mg_none_of X G abX;let fu:mg "enumerate"=none:=mg_none_of X G EK;let LV:mg "int"=none:=mg_none_of X G ail;let eC:mg "isinstance"=none:=mg_none_of X G zF;let aX:mg "len"=none:=mg_none_of X G aim;let cj:mg "list"=none:=mg_none_of X G abY;let S2:mg "min"=none:=mg_none_of X G ain;let aZ:mg "range"=none:=mg_none_of X G Xv;let SX:mg "str"=none:=mg_none_of X G aio;let S8:mg "sum"=none:=mg_none_of X G aip;let gQ:mg "zip"=none:=mg_none_of X G aiq;let F:=df (st:=oq) aid aie aif;show ⟨fnOf "law" "law" (au oq) (ar oq) (ae oq) .none abP abQ abR abS TB abT,fun s v=>.of_eq rfl,fun gw _ _=>?_⟩;let hM:rl (aS l.prog w):=aS.AY;let hN:∀H:Hp,bZ K H abU [.int 0,.int 1]:=fun H=>.inr ⟨_,_,_,aq7,rfl,rfl,qZ,.cons ⟨_,rfl⟩ (.cons ⟨_,rfl⟩ .nil)⟩;let hO:∀H:Hp,bZ K H abV [.int 1,.int 1]:=fun H=>.inr ⟨_,_,_,ara,rfl,rfl,qZ,.cons ⟨_,rfl⟩ (.cons ⟨_,rfl⟩ .nil)⟩;let nm:∀{c:AO} {o:Δ} {k0 k1:Tok} {n:Nat} {sl:Ν},K.lookup c=some ⟨.type "tuple",o,.seq #[.int 0 k0,.int 1 k1] n,sl⟩->∀H:Hp,fe K H (.ref c) 0:=fun t H=>⟨_,rfl,by rw [dH];exact .inr ⟨_,_,_,t,rfl,rfl,qZ,.cons ⟨_,rfl⟩ (.cons ⟨_,rfl⟩ .nil)⟩⟩;let hMo:∀H:Hp,gC K H (.ref abW) (0,0):=fun H=>⟨_,.ref aih,.ref aii,rfl,.inr ⟨_,_,_,arf,rfl,rfl,qZ,.cons rfl (.cons rfl .nil)⟩,nm arh H,nm ark H⟩;let hY:BA K EL:=⟨asP,asQ,asR⟩;let XP:=ae3 (P:=l.prog) (w:=w) (mg:=mg) (gw:=gw) akd hY mW pj ajt;let XB:=ae5 (P:=l.prog) (w:=w) (mg:=mg) (gw:=gw) akf hY mW pC ajG;let XG:=adf (P:=l.prog) (w:=w) (mg:=mg) (gw:=gw) mI hY mW mJ Pf;let fc:Rw K ck:=⟨iB,T1,abZ,ab0⟩;let G1:=aeB (P:=l.prog) (w:=w) (gw:=gw) (CX:=aS l.prog w) asU w4;let G2:=aeC ht asT G1;let GW:=aeE as6 G1;let GDv:=aeF ht ata G1;let GCl:=aeG ht as' gQ G1 GDv;let GF:=aeH (P:=l.prog) (w:=w) (gw:=gw) as9 fu;let GR:=aeI as8 aZ cj GF GCl;let GS:=aeN hN kN as7 Sa GR G2;let GTn:=aeR (P:=l.prog) (w:=w) (gw:=gw) as5 aZ;let atR:=aeS as4 gQ aX GW GS (ahz GTn) G2;let KS:=ag6 hM T2 G2;let KM:=zaR hM zJ G2;let RS:=aau KS;let RM:=aaw KM;let GD:=aav (ae7 hM asS G2);let GPD:=ae9 hM asW GD;let GPd:=ahC hM u9 RS RM;let GI:=afc (P:=l.prog) (w:=w) (mg:=mg) (gw:=gw) aj0 fc;let MBs:bQ l.prog w K mg gw (aS l.prog w) 1 ck "bars" ["self"] (jN K ck):=⟨_,_,iB,atD,afe aj7 fc cj,atB⟩;let MPn:bQ l.prog w K mg gw (aS l.prog w) 1 ck "pins" ["self"] (jO K ck):=⟨_,_,iB,atA,afg aj6 fc cj,atz⟩;let MCp:bQ l.prog w K mg gw (aS l.prog w) 1 ck "check_pin" ["self","pin"] (gf K ck):=⟨_,_,iB,aty,afi aj5 fc,atx⟩;let MCb:bQ l.prog w K mg gw (aS l.prog w) 2 ck "check_bar" ["self","name","one","other"] (jP K ck):=⟨_,_,iB,atw,afy aj4 fc aaA aX MCp,atv⟩;let MPb:bQ l.prog w K mg gw (aS l.prog w) 3 ck "put_bar" ["self","name","one","other"] (oH K ck):=⟨_,_,iB,atu,afA aj3 fc MCb,att⟩;let okP:=afw (P:=l.prog) (w:=w) (mg:=mg) (gw:=gw) atr fc aay aX cj;let MPp:bQ l.prog w K mg gw (aS l.prog w) 3 ck "put_pin" ["self","name","x","y","hold"] (gh l.prog w K mg gw ck):=⟨_,_,iB,aj2,okP,ats⟩;let MPd:F_ l.prog w K mg gw (aS l.prog w) 3 ck "put_pin" ["self","name","x","y","hold"] [.none] (gh l.prog w K mg gw ck):=⟨_,_,iB,aj2,okP,aj1⟩;let MPl:bQ l.prog w K mg gw (aS l.prog w) 2 ck "place" ["self","pin"] (rY K ck):=⟨_,_,iB,atF,afk aj8 fc MCp,atE⟩;let ME:bQ l.prog w K mg gw (aS l.prog w) 1 ck "ends" ["self","bar"] (ug K ck):=⟨_,_,iB,atL,afm aj' fc,atJ⟩;let MW:bQ l.prog w K mg gw (aS l.prog w) 2 ck "ways" ["self","pin"] (uh K ck):=⟨_,_,iB,atH,afo aj9 fc cj MCp,atG⟩;let wR:bQ l.prog w K mg gw (aS l.prog w) 1 mq "ways" ["self"] (oF K mq):=⟨_,_,JD,atO,afs akb JD Zi,atN⟩;let wF:bQ l.prog w K mg gw (aS l.prog w) 1 qE "ways" ["self"] (oG K):=⟨_,_,ab1,atQ,afu akc,atP⟩;let GRI:=afq (P:=l.prog) (w:=w) (mg:=mg) (gw:=gw) aka JD Zi;let GA:=afC asV MPl GPD;let GPR:=afD hMo G_ asX MPn;let GBR:=afG asZ GA GPR;let GDR:=afH as0 MPn MW MBs ME GPR GBR;let GPP:=afI as1 aX kY gQ MPn MW MBs;let GMF:=afJ as2 fu MPn;let GLR:=afE asY MPn GPR Ov aaD XP aaE;let GCB:=zaO zK MBs Ox aaP XB aaQ;let GAG:=aia hO aaR EN MBs GCB jw uq XG i9;let GLe:=agF hMo G_ u6 MBs ME GA GPD GPd;let GSt:=zaE hN kN zL aX aZ gQ MPn RS RM;let GSg:=afL (P:=l.prog) (w:=w) (gw:=gw) as3;let GBe:=ahZ hN kN EO aX gQ GDR GSt GTn GSg;let GGr:=ab4 Pn RM;let GBo:=aaG hN kN Pm aX GLR GAG GBe atR GMF GLe GGr GPP;let GSo:=ahS hN kN EM MBs GAG KS KM (adV hM v8 G2);let GC:=af2 (P:=l.prog) (w:=w) (gw:=gw) (CX:=aS l.prog w) atb aX;let Qc:=af4 (P:=l.prog) (w:=w) (gw:=gw) (CX:=aS l.prog w) atc;let GLo:=af5 (w:=w) (gw:=gw) ht atd w4;let GSu:=af7 (P:=l.prog) (w:=w) (gw:=gw) ate;let GTi:=af9 (P:=l.prog) (w:=w) (gw:=gw) atf;let GTu:=aga (P:=l.prog) (w:=w) (gw:=gw) atg;let GNa:=agb hM ath SX Qc;let GSp:=agc ati Qc GLo;let GWy:=agd atj Qc GLo;let GPi:=agh atk aZ S2 GC Qc GSp GWy GNa GSu;let GBa:=agk atl aZ aX GC Qc GNa;let GFr:=agl atm aX aa3 aa4 GI aa5 aa6 aa7 aa8 aa9 GRI aa' (wR.mono cr) (wF.mono cr) MPb MPp MPd;let GAr:=ago atn GSu GTu;let GAd:=agq ato GSu;let GFo:=agr atp aX aZ GTi GTu GAr GAd;let GGp:=akB ER aX aZ GC Qc GLo;let GPl:=akA ES aX aZ GC Qc GLo;let GPh:=adR zN aX aZ GC Qc;let GLB:=aeU v9 aX aZ GFo GLo;let GSd:=aal (P:=l.prog) (w:=w) (gw:=gw) JA Ov Ox jw eC jW S8 LV pj pC mJ ⟨ajO,ajP,ajQ,ajR⟩ ⟨ajS,ajT,ajU,ajV⟩ ⟨ajW,ajX,ajY,ajZ⟩;let GBd:=abM JB mW ajN Zj Zk GSd GBo;let GLs:=ad4 zR mW Zj Zk GSd GSo;let GDu:=aaW (P:=l.prog) (w:=w) (gw:=gw) Po cj;let GSe:=agy atq aX Qc;let GPu:=acV zO aX cj Qc;let GSl:=ac9 zQ aX aZ GC Qc GLo;let GNx:=abI (P:=l.prog) (w:=w) (gw:=gw) JC;exact abj F aX aZ cj kY GC Qc GPi GBa GFr GGp GPl GPh GLB GSl GSe GPu GBd GLs GDu GNx
end T_k62
open PySem PySem.W PyProof.Rows
set_option maxRecDepth 100000 in
set_option maxHeartbeats 0 in
theorem PySem.Challenge.cw_trussyard_k62_grips_refused_holds : PySem.Challenge.rw_trussyard_k62_grips_refused.Holds := by
 w_on;o_law;k_head;(case hw=>w_witness2)
 k_fill
 refine Ty.walk (l:=PySem.Challenge.rw_trussyard_k62_grips_refused) (x:="_law_script") (k:=42) (CX:=fun w=>Ty.aS (PySem.Challenge.rw_trussyard_k62_grips_refused).prog w) rfl rfl (by first | rfl | decide+kernel) ⟨rfl,cr,cr⟩ (fun w h α=>PySem.W.kIn_of α) (fun w=>Ty.aS.AY) ?F
 case F=>
  intro w mg fa h KX G hmg
  refine' T_k62.all_mk KX G hmg ⟨?A0,?A1,?A2,?A3⟩ ⟨?A4,?A5,?A6,?A7⟩ ⟨?A8,?A9,?Aa,?Ab⟩ ⟨?Ac,?Ad,?Ae,?Af⟩ ⟨?Ag,?Ah,?Ai,?Aj⟩ ⟨?Ak,?Al,?Am,?An⟩ ⟨?Ao,?Ap,?Aq,?Ar⟩ ⟨?As,?At,?Au,?Av⟩ ⟨?Aw,?Ax,?Ay,?Az⟩ ⟨?B0,?B1,?B2,?B3⟩ ⟨?B4,?B5,?B6,?B7⟩ ⟨?B8,?B9,?Ba,?Bb⟩ ⟨?Bc,?Bd,?Be,?Bf⟩ ⟨?Bg,?Bh,?Bi,?Bj⟩ ⟨?Bk,?Bl,?Bm,?Bn⟩ ⟨?Bo,?Bp,?Bq,?Br⟩ ⟨?Bs,?Bt,?Bu,?Bv⟩ ⟨?Bw,?Bx,?By,?Bz⟩ ⟨?C0,?C1,?C2,?C3⟩ ⟨?C4,?C5,?C6,?C7⟩ ⟨?C8,?C9,?Ca,?Cb⟩ ⟨?Cc,?Cd,?Ce,?Cf⟩ ⟨?Cg,?Ch,?Ci,?Cj⟩ ⟨?Ck,?Cl,?Cm,?Cn⟩ ⟨?Co,?Cp,?Cq,?Cr⟩ ⟨?Cs,?Ct,?Cu,?Cv⟩ ⟨?Cw,?Cx,?Cy,?Cz⟩ ⟨?D0,?D1,?D2,?D3⟩ ⟨?D4,?D5,?D6,?D7⟩ ⟨?D8,?D9,?Da,?Db⟩ ⟨?Dc,?Dd,?De,?Df⟩ ⟨?Dg,?Dh,?Di,?Dj⟩ ⟨?Dk,?Dl,?Dm,?Dn⟩ ⟨?Do,?Dp,?Dq,?Dr⟩ ⟨?Ds,?Dt,?Du,?Dv⟩ ⟨?Dw,?Dx,?Dy,?Dz⟩ ⟨?E0,?E1,?E2,?E3⟩ ⟨?E4,?E5,?E6,?E7⟩ ⟨?E8,?E9,?Ea,?Eb⟩ ⟨?Ec,?Ed,?Ee,?Ef⟩ ⟨?Eg,?Eh,?Ei,?Ej⟩ ⟨?Ek,?El,?Em,?En⟩ ⟨?Eo,?Ep,?Eq,?Er⟩ ⟨?Es,?Et,?Eu,?Ev⟩ ⟨?Ew,?Ex,?Ey,?Ez⟩ ⟨?F0,?F1,?F2,?F3⟩ ⟨?F4,?F5,?F6,?F7⟩ ⟨?F8,?F9,?Fa,?Fb⟩ ⟨?Fc,?Fd,?Fe,?Ff⟩ ⟨?Fg,?Fh,?Fi,?Fj⟩ ⟨?Fk,?Fl,?Fm,?Fn⟩ ⟨?Fo,?Fp,?Fq,?Fr⟩ ⟨?Fs,?Ft,?Fu,?Fv⟩ ⟨?Fw,?Fx,?Fy,?Fz⟩ ⟨?G0,?G1,?G2,?G3⟩ ⟨?G4,?G5,?G6,?G7⟩ ⟨?G8,?G9,?Ga,?Gb⟩ ⟨?Gc,?Gd,?Ge,?Gf⟩ ⟨?Gg,?Gh,?Gi,?Gj⟩ ?Gk ?Gl ?Gm ?Gn ?Go ?Gp ?Gq ?Gr ?Gs ?Gt ?Gu ?Gv ?Gw ?Gx ?Gy ?Gz ?H0 ?H1 ?H2 ?H3 ?H4 ?H5 ?H6 ?H7 ?H8 ?H9 ?Ha ?Hb ?Hc ?Hd ?He ?Hf ?Hg ?Hh ?Hi ?Hj ?Hk ?Hl ?Hm ?Hn ?Ho ?Hp ?Hq ?Hr ?Hs ?Ht ?Hu ?Hv ?Hw ⟨?Hx,?Hy,?Hz,?I0,?I1⟩ ?I2 ?I3 ?I4 ?I5 ?I6 ?I7 ⟨?I8,?I9,?Ia,?Ib,?Ic⟩ ⟨?Id,?Ie,?If,?Ig,?Ih⟩ ⟨?Ii,?Ij,?Ik,?Il,?Im⟩ ⟨?In,?Io,?Ip,?Iq,?Ir⟩ ⟨?Is,?It,?Iu,?Iv,?Iw⟩ ⟨?Ix,?Iy,?Iz,?J0,?J1⟩ ⟨?J2,?J3,?J4,?J5,?J6⟩ ⟨?J7,?J8,?J9,?Ja,?Jb⟩ ?Jc ?Jd ?Je ?Jf ?Jg ?Jh ?Ji ⟨?Jj,?Jk,?Jl,?Jm,?Jn⟩ ?Jo ?Jp ?Jq ?Jr ?Js ?Jt ⟨?Ju,?Jv,?Jw,?Jx,?Jy⟩ ⟨?Jz,?K0,?K1,?K2,?K3⟩ ?K4 ?K5 ?K6 ?K7 ?K8 ?K9 ?Ka ⟨?Kb,?Kc,?Kd,?Ke,?Kf⟩ ?Kg ?Kh ?Ki ?Kj ?Kk ?Kl ?Km ?Kn ?Ko ?Kp ?Kq ?Kr ?Ks ?Kt ⟨?Ku,?Kv,?Kw,?Kx,?Ky⟩ ?Kz ?L0 ?L1 ?L2 ?L3 ?L4 ?L5 ?L6 ?L7 ?L8 ?L9 ?La ?Lb ?Lc ⟨?Ld,?Le,?Lf,?Lg,?Lh⟩ ?Li ?Lj ?Lk ?Ll ?Lm ?Ln ?Lo ?Lp ?Lq ?Lr ?Ls ?Lt ?Lu ?Lv ⟨?Lw,?Lx,?Ly,?Lz,?M0⟩ ?M1 ?M2 ?M3 ?M4 ?M5 ?M6 ?M7 ?M8 ?M9 ?Ma ?Mb ?Mc ?Md ?Me ?Mf ?Mg ?Mh ?Mi ?Mj ?Mk ?Ml ?Mm ?Mn
  (case A0|A1|A2|A3|A4|A5|A6|A7|A8|A9|Aa|Ab|Ac|Ad|Ae|Af|Ag|Ah|Ai|Aj|Ak|Al|Am|An|Ao|Ap|Aq|Ar|As|At|Au|Av|Aw|Ax|Ay|Az|B0|B1|B2|B3|B4|B5|B6|B7|B8|B9|Ba|Bb|Bc|Bd|Be|Bf|Bg|Bh|Bi|Bj|Bk|Bl|Bm|Bn|Bo|Bp|Bq|Br|Bs|Bt|Bu|Bv|Bw|Bx|By|Bz|C0|C1|C2|C3|C4|C5|C6|C7|C8|C9|Ca|Cb|Cc|Cd|Ce|Cf|Cg|Ch|Ci|Cj|Ck|Cl|Cm|Cn|Co|Cp|Cq|Cr|Cs|Ct|Cu|Cv|Cw|Cx|Cy|Cz|D0|D1|D2|D3|D4|D5|D6|D7|D8|D9|Da|Db|Dc|Dd|De|Df|Dg|Dh|Di|Dj|Dk|Dl|Dm|Dn|Do|Dp|Dq|Dr|Ds|Dt|Du|Dv|Dw|Dx|Dy|Dz|E0|E1|E2|E3|E4|E5|E6|E7|E8|E9|Ea|Eb|Ec|Ed|Ee|Ef|Eg|Eh|Ei|Ej|Ek|El|Em|En|Eo|Ep|Eq|Er|Es|Et|Eu|Ev|Ew|Ex|Ey|Ez|F0|F1|F2|F3|F4|F5|F6|F7|F8|F9|Fa|Fb|Fc|Fd|Fe|Ff|Fg|Fh|Fi|Fj|Fk|Fl|Fm|Fn|Fo|Fp|Fq|Fr|Fs|Ft|Fu|Fv|Fw|Fx|Fy|Fz|G0|G1|G2|G3|G4|G5|G6|G7|G8|G9|Ga|Gb|Gc|Gd|Ge|Gf|Gg|Gh|Gi|Gj|Gk|Gl|Gm|Gn|Go|Gp|Gq|Gr|Gs|Gt|Gu|Gv|Gw|Gx|Gy|Gz|H0|H1|H2|H3|H4|H5|H6|H7|H8|H9|Ha|Hb|Hc|Hd|He|Hf|Hg|Hh|Hi|Hj|Hk|Hl|Hm|Hn|Ho|Hp|Hq|Hr|Hs|Ht|Hu|Hv|Hw|Hx|Hy|Hz|I0|I1|I2|I3|I4|I5|I6|I7|I8|I9|Ia|Ib|Ic|Id|Ie|If|Ig|Ih|Ii|Ij|Ik|Il|Im|In|Io|Ip|Iq|Ir|Is|It|Iu|Iv|Iw|Ix|Iy|Iz|J0|J1|J2|J3|J4|J5|J6|J7|J8|J9|Ja|Jb|Jc|Jd|Je|Jf|Jg|Jh|Ji|Jj|Jk|Jl|Jm|Jn|Jo|Jp|Jq|Jr|Js|Jt|Ju|Jv|Jw|Jx|Jy|Jz|K0|K1|K2|K3|K4|K5|K6|K7|K8|K9|Ka|Kb|Kc|Kd|Ke|Kf|Kg=>k_is);(case Kh=>kernel_rfl);(case Ki|Kj|Kk|Kl=>k_is);(case Km=>kernel_rfl);(case Kn=>kernel_rfl);(case Ko=>kernel_rfl);(case Kp=>kernel_rfl);(case Kq|Kr=>k_is);(case Ks=>kernel_rfl);(case Kt|Ku|Kv|Kw|Kx|Ky|Kz=>k_is);(case L0=>kernel_rfl);(case L1|L2|L3|L4=>k_is);(case L5=>kernel_rfl);(case L6=>kernel_rfl);(case L7=>kernel_rfl);(case L8=>kernel_rfl);(case L9|La=>k_is);(case Lb=>kernel_rfl);(case Lc|Ld|Le|Lf|Lg|Lh|Li=>k_is);(case Lj=>kernel_rfl);(case Lk|Ll|Lm|Ln=>k_is);(case Lo=>kernel_rfl);(case Lp=>kernel_rfl);(case Lq=>kernel_rfl);(case Lr=>kernel_rfl);(case Ls|Lt=>k_is);(case Lu=>kernel_rfl);(case Lv|Lw|Lx|Ly|Lz|M0|M1|M2|M3|M4=>k_is);(case M5=>rfl);(case M6|M7=>k_is);(case M8=>kernel_rfl);(case M9=>kernel_rfl);(case Ma=>kernel_rfl);(case Mb=>kernel_rfl);(case Mc=>kernel_rfl);(case Md=>kernel_rfl);(case Me=>kernel_rfl);(case Mf=>kernel_rfl);(case Mg=>kernel_rfl);(case Mh=>kernel_rfl);(case Mi=>kernel_rfl);(case Mj=>kernel_rfl);(case Mk=>kernel_rfl);(case Ml=>kernel_rfl);(case Mm=>kernel_rfl);(case Mn=>kernel_rfl)
#print axioms PySem.Challenge.cw_trussyard_k62_grips_refused_holds
