import PyProof.Rows.All
import Wide.All
import OpenK.AllK
import PySem.Challenge.RW_trussyard_k54_whole_counts_at_changes
set_option Elab.async false
set_option linter.all false
set_option maxRecDepth 100000
set_option compiler.extract_closed false
def gE.{u}{Z:Type u}{l:List Z}(h:i < l.length):l[i]? =some l[i]:=List.getElem?_eq_getElem h
namespace PySem.W.Fast
def tw3888697567495580426:=()
def tw4729215768772108082:=()
def tw7499433610510629677:=()
def tw10963475992241457881:=()
def tw18421397023444156495:=()
def tw5047581733340105651:=()
def tw10276234720928814064:=()
def tw10656657743884955366:=()
def tw7035028674442254617:=()
def tw7067547749979408184:=()
def tw8185165742835452399:=()
def tw643542007304683188:=()
def tw17455630285092062626:=()
def tw8394771911299237235:=()
def tw2609642429656772843:=()
def tw8966665419458576240:=()
def tw17181298238683239254:=()
def tw18246424934295953046:=()
def tw10155541860264978737:=()
def tw9877480898082301376:=()
def tw483458424724713275:=()
def tw13281633170896782406:=()
def tw16781649172659351977:=()
def tw12726855713620884070:=()
def tw14286528335773948947:=()
def tw15136632425673415710:=()
def tw2859265966387206042:=()
def tw16469305998945824365:=()
def tw3932749872004719231:=()
def tw2671091638154590733:=()
def tw9857246989630498487:=()
def tw17928355383172951491:=()
def tw13619661680287411935:=()
def tw11426971281964903961:=()
def tw11597144851965263280:=()
def tw17932274709743400670:=()
def tw5526425357037093503:=()
def tw11914463920824591912:=()
def tw6503238644064013173:=()
def tw18389595157427796195:=()
def tw11818553128198571075:=()
def tw962204827688740145:=()
def tw18019176042535466464:=()
def tw3401800143208464650:=()
def tw14808942844183366173:=()
def tw5395774366981767349:=()
def tw12917108401638394516:=()
def tw7633059936345139972:=()
def tw15806795761697861855:=()
def tw17601655858298296734:=()
def tw17071680382526028276:=()
def tw11242178963533249880:=()
def tw17139928913914531536:=()
def tw11879729083993917423:=()
def tw16108110777832662120:=()
def tw1044160171722655044:=()
def tw7337583520535014623:=()
def tw7722853122851894445:=()
def tw4909924340379858815:=()
def tw4069745337786273456:=()
def tw3094389860131869979:=()
def tw1020834680625606297:=()
def tw12051978917101180893:=()
def tw16349654824867479704:=()
def tw10736867729139916357:=()
def tw2246012502591949555:=()
def tw351803625085600718:=()
def tw15849389211151925198:=()
def tw13257132536296210128:=()
def tw12022375520277573026:=()
def tw606331644348158414:=()
def tw3946149125183914285:=()
def tw12363085824927583309:=()
def tw15552216111855670377:=()
def tw13671694056186492101:=()
def tw13598235271388118716:=()
def tw16307799956208072569:=()
def tw5638597451172178901:=()
def tw10323384812241286625:=()
def tw11833927359876609153:=()
def tw15298500390123181328:=()
def tw17860952637470102629:=()
def tw18145959839473614051:=()
def tw4868991885541285918:=()
def tw11324786741183076028:=()
def tw7437459612970443177:=()
def tw15623565090658664403:=()
def tw4802131977335385041:=()
def tw5632686796465923846:=()
def tw5205875413915989450:=()
def tw2358099981443653379:=()
def tw16579533645255613170:=()
def tw13315361641919792625:=()
def tw11011618448331176045:=()
def tw11204823950760483527:=()
def tw7933425859334751705:=()
def tw10754208931149329702:=()
def tw15223893411596826577:=()
def tw13759908610260132427:=()
def tw17033715091260508167:=()
def tw12367338735847983855:=()
def tw9305066082884107829:=()
def tw17848020099294354634:=()
def tw4370068326763392566:=()
def tw13311828462831166308:=()
def tw6132772420497128862:=()
def tw138866788612499205:=()
def tw14560824678041244976:=()
def tw13762768047514452576:=()
def tw15395167166858651857:=()
def tw7388017372295730311:=()
def tw16513530126368782953:=()
def tw1360849284970705593:=()
def tw8829915424608250319:=()
def tw15148640970272703027:=()
def tw17899344657892693907:=()
def tw2527668114326249504:=()
def tw12104302427402040980:=()
def tw1871322301314793555:=()
def tw8088042742186434511:=()
def tw7579657241883914841:=()
def tw13811517481135471475:=()
def tw10555405598918253432:=()
def tw4194380305095134838:=()
def tw7721274679240099266:=()
def tw15570392127660379131:=()
def tw6833893369715433757:=()
def tw11863666948869099371:=()
def tw18388488562136848978:=()
def tw14524929453604829220:=()
def tw15201714467861053340:=()
def tw11286011858904432356:=()
def tw4424176661690025366:=()
def tw10833389140914780736:=()
def tw1668137215561349679:=()
def tw17278637242375227645:=()
def tw3648109828470161817:=()
def tw7236074663853414672:=()
def tw9170617702358868743:=()
def tw17622571557802379491:=()
def tw10095119911797647038:=()
def tw17947844951278852142:=()
def tw15859808489579715012:=()
def tw10660049758364341376:=()
def tw3019690042075357453:=()
def tw13033612103637155933:=()
def tw17615646081614855957:=()
def tw15963929218092942327:=()
def tw10118406124125752812:=()
def tw4755799247182849381:=()
def tw7128415527765205337:=()
def tw6161094733580166931:=()
def tw6535860907772595131:=()
def tw14934319232142406818:=()
def tw13002951526541033630:=()
def tw3025228630286120211:=()
def tw926674362004227630:=()
def tw17638495546900901254:=()
def tw9190009328352869104:=()
def tw5950857329495348874:=()
def tw4043559176723812488:=()
def tw16795026951500090540:=()
def tw101120129559212354:=()
def tw9042744086472496926:=()
def tw15593628270788292336:=()
def tw6809050259681806042:=()
def tw6076415374763164272:=()
def tw8400773488345001750:=()
def tw17328820802225734365:=()
def tw3428112114320721288:=()
def tw3779245417835778951:=()
def tw73831441600038137:=()
def tw7813500298001127224:=()
def tw3396167697768483464:=()
def tw10804889670341669374:=()
def tw8561636695634412360:=()
def tw7254441095555656487:=()
def tw5548593885766773061:=()
def tw12017444898520706490:=()
def tw7784749836326464435:=()
def tw8725397316367942075:=()
def tw4714979653947196698:=()
def tw12576854197219219027:=()
def tw1256599586342213841:=()
def tw1782389232953777237:=()
def tw10573281395385231978:=()
def tw12085680036796997790:=()
def tw17125064328014237827:=()
def tw16242439100256875711:=()
def tw1364647924116005526:=()
def tw3088646843277603312:=()
def tw13111139701178039611:=()
def tw9863468428548182870:=()
def tw2805315864670156774:=()
def tw4659074263094347911:=()
def tw2599593163427325664:=()
def tw10979939035180571998:=()
def tw1938638647557342719:=()
def tw8941867732540178657:=()
def tw17999021720954102020:=()
def tw16086767352899333809:=()
def tw17676596383526882978:=()
def tw9378171968610759374:=()
def tw3606566241671709571:=()
def tw17002997855117871935:=()
def tw589139690187363115:=()
def tw12719614308567745534:=()
def tw4508968127343361235:=()
def tw3617909335580298328:=()
def tw2947514525251939964:=()
def tw9459481926098757508:=()
def tw16732091598285870344:=()
def tw8603422491525320412:=()
def tw13151035769045306864:=()
def tw13444578849198777194:=()
def tw10242882514541897008:=()
def tw7421025560339771968:=()
def tw5354267834096487729:=()
def tw17105146702992407156:=()
def tw5283290942434677680:=()
def tw11384117440823256351:=()
def tw5500866585362323317:=()
def tw17195266371291688638:=()
def tw4854518112632357449:=()
def tw5928097290080035706:=()
def tw1179068076416916308:=()
def tw2508178445073804102:=()
def tw2422303410589118391:=()
def tw3319451289070100440:=()
def tw14204972485150749668:=()
def tw16338272592263231714:=()
def tw746988885113530434:=()
def tw12056850426485532682:=()
def tw8827031169242644095:=()
def tw1346934945270992798:=()
def tw15409905100724984038:=()
def tw13100539318911467092:=()
def tw4844408216074616169:=()
def tw1270005905273460040:=()
def tw2128449944859380609:=()
def tw5178415155828612218:=()
def tw627610390475694742:=()
def tw9399793675413073732:=()
def tw3880554919100349315:=()
def tw14130314825640252024:=()
def tw16264743332947453906:=()
def tw12008156853897918722:=()
def tw7832726387307993300:=()
def tw14012973258616539601:=()
def tw6074678267873192403:=()
def tw5833490012145881005:=()
def tw12384993689095968558:=()
def tw13164340307977178560:=()
def tw2309603187296435259:=()
end PySem.W.Fast
open Array renaming length_toList->ahJ, toList->apu
open Bool renaming false_ne_true->JP, and_eq_true->Ri, eq_iff_iff->Rc, false_eq_true->t_, and_false->Wx, eq_false_iff->s_, or_false->aiJ, and_true->aiN
open Classical renaming byContradiction->Md, propDecidable->Rb, not_imp->ah4, not_forall->aiH
open Int renaming zero_add->Kz, gcd->JF, ne_of_gt->O5, natAbs_mul->QX, gcd_dvd_right->VT, mul_comm->QT, gcd_dvd_left->VQ, fmod_nonneg_of_pos->vB, natAbs_dvd_natAbs->vx, fdiv_eq_of_eq_mul_right->agT, natAbs_add_le->α8, mul_pos->RT, lt_trichotomy->tV, mul_zero->VF, emod_eq_of_lt->rS, mul_assoc->YO, fmod_lt_of_pos->ahQ, fmod_eq_emod_of_nonneg->ahW, mul_neg_of_pos_of_neg->ahX, mul_eq_zero->aiu, natAbs_neg->aiz, gcd_zero_right->aiR, sub_emod_right->aiZ, toNat_natCast->ai3, fmod_def->ai5, gcd_mul_left->aoZ, gcd_pos_iff->ao4, mul_ne_zero->ao5, dvd_coe_gcd->ao9
open List renaming getElem?_eq_some_iff->ir, mem_of_getElem?->Wp, length_map->AU, getElem?_map->AY, mem_map->AW, map_cons->BS, length_append->CL, mem_cons_self->CU, getElem?_eq_none->IW, mem_cons_of_mem->DM, getElem?_of_mem->IV, getD_eq_getElem?_getD->JE, mem_singleton->IZ, mem_append->DL, map_append->IX, getElem?_append_right->JZ, getElem?_append_left->JU, replicate->DQ, flatMap_cons->JJ, size_toArray->JN, map_map->DP, mem_cons->JC, mem_append_right->Ma, length_take->JT, mem_append_left->M3, range->JA, nodup_cons->KC, mem_range->JW, length_singleton->NP, length_cons->L7, map_congr_left->NF, sum_cons->Kv, ext_getElem?->N_, mem_filter->N0, mem_flatMap->Nz, length_eraseIdx->Pf, eraseIdx_sublist->QU, map_nil->Mi, take_length->OU, getElem?_set->Pq, nodup_append->Po, filter_cons_of_pos->SJ, filter_cons_of_neg->SI, mem_iff_getElem->RY, zipWith->Nc, getElem?_eraseIdx->SG, flatMap_append->RX, append_assoc->QW, length_filter_le->SE, take_append_drop->Ry, getElem?_replicate->Vk, getElem_mem->QV, take_of_length_le->Vj, length_range->RU, replicate_succ->Rx, length->O3, length_replicate->Vm, filter_cons->Rh, lookup->OV, length_eq_zero_iff->ZC, length_drop->Rw, getElem?_zipWith->ZE, getElem?_take_of_lt->vt, mem_of_mem_eraseIdx->vN, getElem?_range->YX, any_eq_true->VO, mem_eraseIdx_iff_getElem?->agm, sum_nil->RM, length_eq_one_iff->w8, append_nil->V_, find?_cons->VU, any_cons->Rv, getElem?_set_ne->wA, lookup_cons->α7, cons_append->α', nodup_range->YZ, filterMap_cons->wD, nil_append->Xl, range_succ->XI, filter_append->tX, getElem?_set_self->ahm, flatten_cons->tW, range_succ_eq_map->ahu, getElem?_inj->tS, take_add_one->tR, all_cons->YW, mem_of_mem_take->ahE, mem_filterMap->ahP, lookup_append->ahR, nodup_nil->tf, pairwise_cons->ahU, nodup_iff_pairwise_ne->ahV, pairwise_map->ah3, length_erase_of_mem->ah6, length_eraseIdx_le->ah8, zipWith_cons_cons->aid, length_pos_of_mem->aie, getElem_cons_drop->aii, pairwise_lt_range->aij, of_mem_zip->ain, length_set->aiq, sum_append->air, length_nil->ait, eq_nil_or_concat->aiw, concat_eq_append->aix, mem_of_mem_erase->aiy, forIn_nil->aiA, getElem_toArray->aiE, filter_eq_self->aiI, forIn_toArray->aiQ, set_cons_zero->aiS, set_cons_succ->aiX, zip_cons_cons->aiY, all_map->ai6, getElem_take->aj_, Sublist->am_, getElem_inj->aoX, all_eq_true->ao0, cons_ne_nil->ao1, flatMap_nil->ao2, forIn_cons->ao6, foldl->apa, Nodup->apc
open Nat renaming le_trans->BX, le_refl->BW, lt_of_le_of_lt->IY, lt_of_lt_of_le->JQ, pow_le_pow_right->Me, ne_of_lt->JK, mul_le_mul_right->NG, zero_le->JS, lt_succ_self->NZ, add_sub_cancel_left->SH, mul_le_mul->OT, lt_irrefl->OS, lt_succ_iff_lt_or_eq->Vl, not_lt_zero->QY, le_of_lt->Oj, lt_succ_of_lt->Sa, add_mul->Oz, min_eq_left->XF, one_le_two_pow->tY, pow_succ->V9, pow_add->VH, pow_le_pow_left->ahL, ne_of_gt->σ4, mul_comm->σ0, zero_mul->Xp, le_succ->Xm, le_of_not_lt->ah7, le_add_right->ah9, log2_le_self->ah_, le_of_eq->tm, add_comm->qj, lt_trans->oy, one_mul->rR, min_self->ai7, le_succ_of_le->ajh, sub_self->al_, two_pow_pos->ao7
open Ne renaming symm->CA
open Option renaming map_eq_some_iff->JI, map_some->VZ, isSome_map->ah2, isSome_iff_exists->ah5, isSome_some->aiO, getD_none->aoY, none->apE
open Option.some renaming inj->C_
open Or renaming inl->Np, inr->Oq
open Prod renaming ext->OO, fst->Wr, snd->Ww
open Rat renaming intCast_le_intCast->Pk, intCast_mul->Pl, intCast_inj->Xk, intCast_add->XJ, intCast_lt_intCast->aik, num_divInt_den->aiP, sub_eq_add_neg->ai0, divInt_eq_div->aje, intCast_sub->ao8
open Std renaming lt_of_lt_of_le->ai1
open Sum renaming inr->J', inl->QR
open Sum.inl renaming inj->VM
open Sum.inr renaming inj->Ky
open PySem.W (Frag nsIn codeIn keepIn fnOf mg_of mg_none_of)
open PySem renaming Addr->AO, wpAny_bind->AZ, sizeLine->BL, wpAny->AV, Shared->BR, wpAny_pure->CK, model->BC, mainGlobals->DG, starEach->CZ, Program->DN, Around->JD, bootBuiltins->JX, eval->CB, wpAny_mono->Kw, sysModules->Mf, compareOp->Mb, foldedSetIterable->QK, wpAny_holding->Og, backTo->Ku, binaryOp->NR, codeAny->N6, wpAny_Call_Name_kw->Vy, wpAny_passesOwn->Sg, wpAny_truthy_bool->Vx, wpAny_newObj_type->Vu, wpAny_field->RA, intBits_mul_le->Sf, cLine->LY, mem_of_lookup->ZJ, wpAny_getItem_str_slice->yR, behindInMarks->Se, attributeBase->Sd, swapsWith->QJ, tupleKind_room_in1->ZN, rawInt->Nj, assignEach->Ro, call_meets->Rm, sliceBounds->Sk, keywordEach->Sj, call_meetsIn->W7, wpAny_pyIter_list->EX, wpAny_call_entry->zC, holding->R7, builtinsNs->Vs, wpAny_execs_nil->xM, letOwnedTupleGo->xJ, wpAny_typeOf->ZF, post_val_or_str->xI, wpAny_updateSeq->x8, recursionLimit->yC, newFunctionEnv->yA, wpAny_seqItems->yG, sizeLine_eq->Ws
open PySem.Heap renaming get?_push_of_some->DI, lt_size->DE, get?_push_size->Kt, get?_update_other->RD, size_push->RC, get?_update_self->FA, SameBut->ZI
open PySem.Paired renaming length->CV, snoc->Vz
open PySem.PassesOwn renaming never->I_
open PySem.W renaming findIn->JY, emptyDict->Nl, instObj->Nk, kitOne->NU, kia_one->OY, plainGet->Rp, makesIn->Rj, hasDictIn->Si, plainOver->Vt, callWith_K->EY, isFn->ZG, lookIn->yD
open PySem.F renaming plainAttrs_list->Of, slot_list_append->Sn, type_list_append->Sl, slot_dict_items->zD, slot_zip_next->wz
open PySem.Str renaming ofString->L9
open PyProof.Rows renaming callWith_type1->WN, envOfC->NS, kindOf->Ni, AllBare->Q4
open PySem.Builtin.List renaming listTooLong->WH, listExtendWith->yq
open PySem.Builtin.SmallTypes renaming ownedTupleIsFree->FD, nextOf->yi
open PySem.Calls renaming callWith_builtin->ZK, spliced_cons->ZP, spliced_nil->EW
open PySem.Builtin.Slice renaming slicePlaces->yl
open PySem.Obj renaming mapSeq->Q3
open PySem.Builtin.Tuple renaming tupleExact->yX
def qA.{u}{c:Prop}[Decidable c](a:¬c){Z:Sort u}{t e:Z}:ite c t e=e:=if_neg a
def tu.{u}{c:Prop}[Decidable c](a:c){Z:Sort u}{t e:Z}:ite c t e=t:=if_pos a
def BH{a b:Prop}(h:a)(n:¬a):b:=absurd h n
def JO{p:Prop}[Decidable p](h:p):decide p=true:=decide_eq_true h
def ud.{u,v}{Z:Sort u}{β:Sort v}{a b:Z}(f:Z->β)(h:a=b):f a=f b:=congrArg f h
def Mp{p:Prop}[Decidable p](h:decide p=true):p:=of_decide_eq_true h
def NV{p:Prop}[Decidable p](h:¬p):decide p=false:=decide_eq_false h
local macro_rules|`(tactic|show ⟨$xs,*⟩)=>`(tactic|refine ⟨$xs,*⟩)
theorem bv {p:Prop}(h:p:=by omega):p:=h
def db:∀{a b:Nat},a=b->b-a=0:=bv
def eA:∀{a:Nat},(a:Int).toNat=a:=bv
def ga:∀{a b:Nat},a<b->b-(a+1)<b-a:=bv
def gt:∀{a b:Nat},¬a-b=0->1≤a-b:=bv
def gV:∀{a:Nat},0≤(a:Int):=bv
def ii:∀{a b:Nat},¬a<b->b≤a:=bv
def im:∀{a:Nat},a<a+1:=bv
def io:∀{a b:Nat},a<b->a<b+1:=bv
def iy:∀{a b:Nat},a<b->b-1+1=b:=bv
def jp:∀{a b c:Nat},a=b->c<b->c<a:=bv
def jw:∀{a b c:Nat},a=b->c<a->c<b:=bv
def kZ:∀{a b c:Nat},a=b->c-a=0->c-b=0:=bv
def mh:∀{a b:Nat},a≤a+b+1:=bv
def ms:∀{a:Int},0<a->a≠0:=bv
def nQ:∀{a b:Nat},a≤a+b:=bv
def nR:∀{a b:Nat},a<b->a+1≤b:=bv
def nV:∀{a b:Nat},a<(b:Int).toNat->a<b:=bv
def nX:∀{a b c:Nat},a<b->a<b+c:=bv
def nY:∀{a b c:Nat},a<b->c=b->a<c:=bv
def nZ:∀{a b:Nat},a+1≤b->a≤b:=bv
def oe:∀{a:Int}{b:Nat},0≤a∧a<(b:Int)->a=(a.toNat:Int):=bv
def ol:∀{a b:Nat},a≤b->¬a<b->a=b:=bv
def or:∀{a b c:Nat},a=b->c=a->c=b:=bv
def ox:∀{a b c:Nat},a<min b c->a<c:=bv
def oZ:∀{a b c:Nat},a<b->b=c->a<c:=bv
def pc:∀{a b:Nat},a=b+1->b<a:=bv
theorem ce {p:Prop}[Decidable p](h:decide p=true:=by rfl):p:=of_decide_eq_true h
theorem cr {p:Prop}(h:p:=by simp):p:=h
local macro_rules|`(tactic|erw [$r,*] at $h:ident)=>`(tactic|(rw [$r,*] at $h:ident;cases $h:ident))
local macro_rules|`(tactic|let $d:letDecl)=>`(tactic|have $d:letDecl)
namespace L2
open PySem PySem.Spec PyProof.Rows
abbrev _root_.γ:=Value->BR->Prop
abbrev _root_.ζ:=List (List Int)
abbrev _root_.η:=List (AO×Obj)
abbrev _root_.ι:=List (Nat×List Int)
abbrev _root_.ν:=Str->Option Value
abbrev _root_.ξ:=List (List (Int×Int))
abbrev _root_.ο:=List Int
abbrev _root_.π:=List (Int×Int)
abbrev _root_.ς:=List Value
abbrev _root_.τ:=List Str
abbrev _root_.υ:=List (Rat×Rat)
abbrev _root_.χ:=Str->List Rat
abbrev _root_.ψ:=Str->Option (Rat×Rat)
abbrev _root_.ω:=Str->Rat×Rat
abbrev _root_.Α:=List (Str×Str×Str)
abbrev _root_.Β:=List AO
abbrev _root_.Δ:=List Expr
abbrev _root_.Ζ:=List Nat
abbrev _root_.Ι:=Str->Rat
abbrev _root_.Λ:=List (Str×List (Rat×Rat))
abbrev _root_.Μ:=Option AO
abbrev _root_.Ν:=List Rat
abbrev _root_.Ξ:=Array (Option Value)
abbrev _root_.Ο:=Array Value
abbrev _root_.Ρ:=Option Int
abbrev _root_.Τ:=Result->BR->Prop
abbrev _root_.Φ:=Option Value->BR->Prop
abbrev _root_.Χ:=List (Str×Value)
abbrev Key:=Sum Int Str
abbrev _root_.Υ:=List (List Key×AO×Value)
def uv:Key->Value->Bool
 | .inl k,v=>Value.isInt k v
 | .inr x,v=>Value.isStrOf x v
def agg (w:World):Key->Int
 | .inl k=>hashInt k
 | .inr x=>hashStr w x
def cI:∀{k:Key} {v:Value},uv k v=true->(∃i t,k=QR i/\v=Value.int i t)\/(∃x t,k=J' x/\v=Value.str x t)
 | .inl i,v,h=>by
  obtain ⟨t,e⟩:=Value.isInt_shape (k:=i) (v:=v) h;exact .inl ⟨i,t,rfl,e⟩
 | .inr x,v,h=>by
  obtain ⟨t,e⟩:=Value.isStrOf_shape (x:=x) (v:=v) h;exact .inr ⟨x,t,rfl,e⟩
def aaX (i:Int)(t:Tok):uv (.inl i) (.int i t)=true:=by simp [uv,Value.isInt]
def aaU (x:Str)(t:Tok):uv (.inr x) (.str x t)=true:=by simp [uv,Value.isStrOf]
def afW (a b:Int):decide ((QR a:Key)=QR b)=(a==b):=by
 by_cases e:a=b
 ·subst e;simp
 ·let h:¬ (QR a:Key)=QR b:=fun q=>e (VM q)
  rw [NV h];exact (beq_eq_false_iff_ne.mpr e).symm
def afU (a b:Str):decide ((J' a:Key)=J' b)=decide (a=b):=by
 by_cases e:a=b
 ·subst e;simp
 ·let h:¬ (J' a:Key)=J' b:=fun q=>e (Ky q)
  rw [NV h,NV e]
def afR (a:Int)(b:Str):decide ((QR a:Key)=J' b)=false:=NV (fun q=>nomatch q)
def af1 (a:Str)(b:Int):decide ((J' a:Key)=QR b)=false:=NV (fun q=>nomatch q)
def bQ (prog:DN)(w:World):PySem.KeyKind prog w Key where
 is:=uv
 hash:=agg w
 inj:=fun v a b ha hb=>by
  rcases cI ha with ⟨i,t,rfl,rfl⟩|⟨x,t,rfl,rfl⟩
  ·rcases cI hb with ⟨j,u,rfl,e⟩|⟨y,u,rfl,e⟩
   ·injection e with e1 _;rw [e1]
   ·exact nomatch e
  ·rcases cI hb with ⟨j,u,rfl,e⟩|⟨y,u,rfl,e⟩
   ·exact nomatch e
   ·injection e with e1 _;rw [e1]
 byValue:=fun k v h=>by
  rcases cI h with ⟨i,t,rfl,rfl⟩|⟨x,t,rfl,rfl⟩<;>rfl
 pyHash:=fun hv h=>by
  rcases cI hv with ⟨i,t,rfl,rfl⟩|⟨x,t,rfl,rfl⟩
  ·exact wpAny_pyHash_int h
  ·exact wpAny_pyHash_str h
 eqBool:=fun hu hv h=>by
  rcases cI hu with ⟨i,t,rfl,rfl⟩|⟨x,t,rfl,rfl⟩
  ·rcases cI hv with ⟨j,u,rfl,rfl⟩|⟨y,u,rfl,rfl⟩
   ·rw [afW] at h;exact wpAny_eqBool_int h
   ·rw [afR] at h;exact SeqAt.EqAt.int_str i t y u _ _ _ _ h
  ·rcases cI hv with ⟨j,u,rfl,rfl⟩|⟨y,u,rfl,rfl⟩
   ·rw [af1] at h;exact SeqAt.EqAt.str_int x t j u _ _ _ _ h
   ·rw [afU] at h;exact wpAny_eqBool_str h
 «strs»:=fun k x t v h=>by
  rcases cI h with ⟨i,u,rfl,e⟩|⟨y,u,rfl,e⟩
  ·exact nomatch e
  ·injection e with e1 _
   subst e1;cases v<;>rfl
def aev (prog:DN)(w:World)(i:Int)(t:Tok):(bQ prog w).is (.inl i) (.int i t)=true:=aaX i t
def aep (prog:DN)(w:World)(x:Str)(t:Tok):(bQ prog w).is (.inr x) (.str x t)=true:=aaU x t
inductive V where
 | cL|bl (b:Bool)|int (i:Int)|str (x:Str)|xm (b:Array UInt8)|Vn (b:UInt64)|ref (a:AO)|ty (n:String)
 deriving DecidableEq
abbrev _root_.δ:=List (Key×V)
abbrev _root_.ε:=List V
abbrev _root_.Ε:=Option V
abbrev _root_.Η:=List (List V)
abbrev _root_.Θ:=List (List Key×V)
def RelV:V->Value->Prop
 | .cL,u=>u=Value.none
 | .bl b,u=>u=Value.bool b
 | .int i,u=>∃t,u=Value.int i t
 | .str x,u=>∃t,u=Value.str x t
 | .xm b,u=>∃t,u=Value.bytes b t
 | .Vn b,u=>∃t,u=Value.float b t
 | .ref a,u=>u=Value.ref a
 | .ty n,u=>u=Value.type n
abbrev Vals:List V->List Value->Prop:=Paired RelV
theorem Vals.length {xs:ε}{us:ς}(r:Vals xs us):xs.length=us.length:=CV r
theorem Vals.get:∀{xs:ε} {us:ς} {i:Nat} {x:V},Vals xs us->xs[i]?=some x->∃u,us[i]?=some u/\RelV x u
 | _,_,_,_,.nil,e=>by simp at e
 | _,_,0,_,.cons r _,e=>by simp at e;subst e;show ⟨_,rfl,r⟩
 | _,_,i+1,x,.cons _ t,e=>by
  obtain ⟨u,h1,h2⟩:=Vals.get (i:=i) (x:=x) t (by simpa using e);show ⟨u,by simpa using h1,h2⟩
theorem Vals.set (r:RelV x u):∀{xs:ε} {us:ς} (i:Nat),Vals xs us->Vals (xs.set i x) (us.set i u)
 | _,_,_,.nil=>.nil
 | _,_,0,.cons _ t=>.cons r t
 | _,_,i+1,.cons q t=>.cons q (Vals.set r i t)
theorem Vals.append:∀{xs ys:ε} {us ws:ς},Vals xs us->Vals ys ws->Vals (xs++ys) (us++ws)
 | _,_,_,_,.nil,s=>s
 | _,_,_,_,.cons r t,s=>.cons r (Vals.append t s)
theorem Vals.take:∀{xs:ε} {us:ς} (n:Nat),Vals xs us->Vals (xs.take n) (us.take n)
 | _,_,0,_=>.nil
 | _,_,_+1,.nil=>.nil
 | _,_,n+1,.cons r t=>.cons r (Vals.take n t)
theorem Vals.drop:∀{xs:ε} {us:ς} (n:Nat),Vals xs us->Vals (xs.drop n) (us.drop n)
 | _,_,0,r=>r
 | _,_,_+1,.nil=>.nil
 | _,_,n+1,.cons _ t=>Vals.drop n t
def iZ:Option V->Option Value->Prop
 | some v,some u=>RelV v u
 | none,none=>True
 | _,_=>False
def KV {κ:Type}:List (κ×V)->List (κ×Value)->Prop:=Paired fun (p:κ×V) (q:κ×Value)=>p.1=q.1/\RelV p.2 q.2
def kV:Key->V
 | .inl i=>.int i
 | .inr x=>.str x
inductive HO where
 | lst (xs:ε)
 | tup (xs:ε)
 | dK (AN:δ)|dT (AN:Θ)
 | set (S:Int->Bool) (n:Nat)
 | ins (C dx:AO) (fs:List (Str×V))
 | own (x:AO)
 | xd (fs:List (Str×V))
 | met (f x:AO)
 | rng (lo hi:Int)
 | gP (o:Obj) (u:HO)
 | Vo (ps:Ο)
 | ext (φ:Heap->Prop)
abbrev Hp:=AO->Option HO
abbrev _root_.Ψ:=Nat->V->Hp->Prop
def upd (H:Hp)(a:AO)(o:HO):Hp:=fun b=>if b=a then some o else H b
def aj :upd H a o a=some o:=by unfold upd;rw [tu rfl]
def ak (h:b≠a):upd H a o b=H b:=by unfold upd;rw [qA h]
def ahB {H:Hp}(h:H a=some o)(h':H b=some u)(d:o≠u):a≠b:=by
 intro e;subst e;rw [h] at h';exact d (C_ h')
def ao {H:Hp}(h:H a=some o)(h':H b=none):a≠b:=by
 intro e;subst e;erw [h] at h'
section
variable (P:DN)(w:World)
def df (H:Hp)(h:Heap)(a:AO):HO->Prop
 | .lst xs=>xs.length<=BL/\∃(AP:ς)(n:Nat),Vals xs AP/\h.get? a=some {cls:=.type "list",data:=.seq AP.toArray n}
 | .tup xs=>xs.length<=BL/\∃AP:List Value,Vals xs AP/\IsTup h a AP.toArray
 | .dK AN=>AN.length<=BL/\(a==Mf)=false/\∃vs,KV AN vs/\h.DictOf (bQ P w) a vs
 | .dT AN=>AN.length<=BL/\(a==Mf)=false/\∃xs:List (List Key×AO×Value),
   Paired (fun (p:List Key×V) (q:List Key×AO×Value)=>p.1=q.1/\H q.2.1=some (.tup (p.1.map kV))/\RelV p.2 q.2.2) AN xs/\
   ∃o es ep,h.get? a=some o/\o.ExactDict/\o.data=.dict es ep/\es.toList=xs.map (entryOfKey (tupleKind (bQ P w)))/\(xs.map (·.1)).Nodup
 | .set S n=>h.SetOf (intKind P w) a S n
 | .ins C dx fs=>H dx=some (.own a)/\fs.length<=1000/\dx≠a/\h.get? a=some (Nk C dx)/\
   ∃mA,h.Ns1 dx mA/\(∀f,iZ (fs.lookup f) (mA f))/\PySem.Within mA (fs.map (·.1))
 | .own _=>∃o,h.get? a=some o
 | .xd fs=>∃mA,h.Ns1 a mA/\∀f,iZ (fs.lookup f) (mA f)
 | .rng lo hi=>∃t u v,h.get? a=some {cls:=.type "range",data:=.fields #[.int lo t,.int hi u,.int 1 v]}
 | .gP o u=>h.get? a=some o/\df H h a u
 | .Vo ps=>h.get? a=some {cls:=.none,data:=.fields ps}
 | .met f x=>h.get? a=some (PySem.W.methodObj (.ref f) (.ref x))
 | .ext φ=>φ h/\(∃o,h.get? a=some o)/\∀h1 h2:Heap,φ h1->(∀o,h1.get? a=some o->h2.get? a=some o)->φ h2
def kN (H:Hp)(h:Heap):Prop:=∀a o,H a=some o->df P w H h a o
end
section
variable {P:DN}{w:World}{H H':Hp}{h h':Heap}{a:AO}{o:HO}
theorem df.lt (x:df P w H h a o):a<h.objs.size:=by
 cases o with
 | lst xs=>obtain ⟨_,_,_,_,e⟩:=x;exact DE e
 | tup xs=>obtain ⟨_,_,_,p⟩:=x;exact p.lt
 | dK AN=>obtain ⟨_,_,_,_,o,_,_,e,_⟩:=x;exact DE e
 | dT AN=>obtain ⟨_,_,_,_,o,_,_,e,_⟩:=x;exact DE e
 | set S n=>obtain ⟨o,_,_,_,e,_⟩:=x;exact DE e
 | ins C dx fs=>obtain ⟨_,_,_,e,_⟩:=x;exact DE e
 | own y=>obtain ⟨_,e⟩:=x;exact DE e
 | xd fs=>obtain ⟨_,⟨_,_,_,e,_⟩,_⟩:=x;exact DE e
 | rng lo hi=>obtain ⟨_,_,_,e⟩:=x;exact DE e
 | gP ob u=>obtain ⟨e,_⟩:=x;exact DE e
 | Vo ps=>exact DE (show h.get? a=some _ from x)
 | met f y=>exact DE (show h.get? a=some _ from x)
 | ext φ=>obtain ⟨_,⟨_,e⟩,_⟩:=x;exact DE e
theorem Paired.bP :∀{ug:List Z} {uf:List β},Paired F ug uf->(∀a b,F a b->G a b)->Paired G ug uf
 | _,_,.nil,_=>.nil
 | _,_,.cons r t,f=>.cons (f _ _ r) (Paired.bP t f)
def df.vh (x:df P w H h a o)(k:∀b u,(b=a\/H b=some (.own a))->h.get? b=some u->h'.get? b=some u)
  (ho:∀b,H b=some (.own a)->H' b=some (.own a)) (ht:∀b xs,H b=some (.tup xs)->H' b=some (.tup xs)):df P w H' h' a o:=by
 induction o with
 | lst xs=>obtain ⟨z,AP,n,r,e⟩:=x;show ⟨z,AP,n,r,k _ _ (.inl rfl) e⟩
 | tup xs=>obtain ⟨z,AP,r,ob,e,c⟩:=x;show ⟨z,AP,r,ob,k _ _ (.inl rfl) e,c⟩
 | dK AN=>obtain ⟨z,y,vs,r,ob,es,ep,e,c⟩:=x;show ⟨z,y,vs,r,ob,es,ep,k _ _ (.inl rfl) e,c⟩
 | dT AN=>
  obtain ⟨z,y,xs,r,ob,es,ep,e,c⟩:=x;show ⟨z,y,xs,Paired.bP r fun p q z=>⟨z.1,ht _ _ z.2.1,z.2.2⟩,ob,es,ep,k _ _ (.inl rfl) e,c⟩
 | set S n=>obtain ⟨ob,es,ep,t,e,c⟩:=x;show ⟨ob,es,ep,t,k _ _ (.inl rfl) e,c⟩
 | ins C dx fs=>
  obtain ⟨d,z,ne,e,mA,⟨od,es,ep,e2,c⟩,r⟩:=x;show ⟨ho _ d,z,ne,k _ _ (.inl rfl) e,mA,⟨od,es,ep,k _ _ (.inr d) e2,c⟩,r⟩
 | own y=>obtain ⟨ob,e⟩:=x;show ⟨ob,k _ _ (.inl rfl) e⟩
 | xd fs=>obtain ⟨mA,⟨od,es,ep,e,c⟩,r⟩:=x;show ⟨mA,⟨od,es,ep,k _ _ (.inl rfl) e,c⟩,r⟩
 | rng lo hi=>obtain ⟨t,u,v,e⟩:=x;show ⟨t,u,v,k _ _ (.inl rfl) e⟩
 | gP ob u ih=>obtain ⟨e,q⟩:=x;show ⟨k _ _ (.inl rfl) e,ih q⟩
 | Vo ps=>
  let e:h.get? a=some {cls:=.none,data:=.fields ps}:=x;show h'.get? a=some {cls:=.none,data:=.fields ps};exact k a _ (.inl rfl) e
 | met f y=>
  let e:h.get? a=some (PySem.W.methodObj (.ref f) (.ref y)):=x;show h'.get? a=some (PySem.W.methodObj (.ref f) (.ref y));exact k a _ (.inl rfl) e
 | ext φ=>obtain ⟨p,⟨o,e⟩,st⟩:=x;show ⟨st _ _ p fun o q=>k _ _ (.inl rfl) q,⟨o,k _ _ (.inl rfl) e⟩,st⟩
theorem kN.lt (x:kN P w H h)(e:H a=some o):a<h.objs.size:=(x a o e).lt
def kN.fresh (x:kN P w H h)(e:h.objs.size<=a):H a=none:=by
 cases q:H a with
 | none=>rfl
 | some u=>exact BH (JQ (x.lt q) e) (OS _)
def kN.kept (x:kN P w H h)(k:∀b u,h.get? b=some u->h'.get? b=some u):kN P w H h':=fun a o e=>
 (x a o e).vh (fun b u _ q=>k b u q) (fun _ q=>q) fun _ _ q=>q
def kN.laid (x:kN P w H h)(k:∀b u,h.get? b=some u->h'.get? b=some u)(hp:h.objs.size<=a)(new:df P w (upd H a o) h' a o):kN P w (upd H a o) h':=fun b u e=>by
 let hn:=x.fresh hp;by_cases hb:b=a
 ·subst hb;erw [aj] at e;exact new
 ·rw [ak hb] at e
  exact (x b u e).vh (fun c v _ q=>k c v q) (fun c q=>by rwa [ak (ao q hn)]) fun c xs q=>by rwa [ak (ao q hn)]
end
def Rd (H:Hp)(a:AO)(u:HO):Prop:=H a=some u\/∃o,H a=some (.gP o u)
def Rd.of (h:H a=some u):Rd H a u:=.inl h
def Rd.ok (r:Rd H a u)(x:kN P w H h):df P w H h a u:=by
 rcases r with r|⟨o,r⟩
 ·exact x a u r
 ·obtain ⟨_,q⟩:=x a _ r
  exact q
def YQ:Option HO->Prop
 | some (.lst _)=>True
 | some (.dK _)=>True
 | some (.dT _)=>True
 | some (.set _ _)=>True
 | some (.ins _ _ _)=>True
 | some (.ext _)=>True
 | _=>False
section
variable {P:DN}{w:World}{H:Hp}{h h':Heap}{x e:AO}{o':HO}
def kN.write (ok:kN P w H h)(mu:YQ (H x))(he:e=x\/H e=some (.own x))(k:∀b u,b≠e->h.get? b=some u->h'.get? b=some u)(Yi:∃u,h'.get? e=some u)
  (new:df P w (upd H x o') h' x o'):kN P w (upd H x o') h':=fun b u q=>by
 let YR:∀c y,H c=some (.own y)->c≠x:=fun c y r z=>by subst z;rwa [r] at mu
 let agi:∀c xs,H c=some (.tup xs)->c≠x:=fun c xs r z=>by subst z;rwa [r] at mu
 by_cases hb:b=x
 ·subst hb;erw [aj] at q;exact new
 ·rw [ak hb] at q
  by_cases Vp:b=e
  ·let q':H b=some (.own x):=by
    rcases he with z|z
    ·exact BH (Vp.trans z) hb
    ·rwa [Vp]
   erw [q] at q';obtain ⟨v,hv⟩:=Yi;show ⟨v,by rwa [Vp]⟩
  ·refine (ok b u q).vh (fun c v hc r=>k c v ?_ r) (fun c r=>by rwa [ak (YR c b r)]) fun c xs r=>by rwa [ak (agi c xs r)]
   rcases hc with rfl|hc
   ·exact Vp
   ·rintro rfl
    rcases he with z|z
    ·exact YR c b hc z
    ·erw [hc] at z;exact hb rfl
end
structure Un (fs ex:Β)(H H':Hp)(h h':Heap):Prop where
 keep:∀b o,h.get? b=some o->H b=none->b∉fs->b∉ex->h'.get? b=some o
 slot:∀b o,h.get? b=some o->H b=none->b∈fs->b∉ex->∃sl,h'.get? b=some {o with slots:=sl}
 free:∀b o,h.get? b=some o->H b=none->b∉ex->H' b=none
 there:∀b o,h.get? b=some o->b∉ex->∃o',h'.get? b=some o'
 vi:∀b xs,H b=some (.tup xs)->H' b=some (.tup xs)
 tN:∀b o u,H b=some (.gP o u)->H' b=some (.gP o u)
 vj:∀b ps,H b=some (.Vo ps)->∃more,H' b=some (.Vo (ps++more))
section
variable {fs fs' ex P7 :Β}{H H1 H2:Hp}{h h1 h2 h':Heap}{a x e:AO}{o:HO}
def Un.any (u:Un fs ex H H1 h h1)(q:h.get? b=some ob)(n:H b=none)(hx:b∉ex):∃sl,h1.get? b=some {ob with slots:=sl}:=by
 by_cases hb:b∈fs
 ·exact u.slot b ob q n hb hx
 ·show ⟨ob.slots,u.keep b ob q n hb hx⟩
def Un.kept (k:∀b u,h.get? b=some u->h'.get? b=some u):Un fs ex H H h h':=
 ⟨fun b ob q _ _ _=>k b ob q,fun b ob q _ _ _=>⟨ob.slots,k b ob q⟩,fun _ _ _ n _=>n,fun b ob q _=>⟨ob,k b ob q⟩,fun _ _ q=>q,fun _ _ _ q=>q,fun _ ps q=>⟨#[],by rw [q];simp⟩⟩
def Un.refl:Un fs ex H H h h:=Un.kept fun _ _ q=>q
def Un.laid (k:∀b u,h.get? b=some u->h'.get? b=some u)(hp:h.objs.size<=a)(hn:H a=none):Un fs ex H (upd H a o) h h' where
 keep:=fun b u q _ _ _=>k b u q
 slot:=fun b u q _ _ _=>⟨u.slots,k b u q⟩
 free:=fun b u q n _=>by rwa [ak (JK (JQ (DE q) hp))]
 there:=fun b u q _=>⟨u,k b u q⟩
 vi:=fun b xs q=>by rwa [ak (ao q hn)]
 tN:=fun b u xs q=>by rwa [ak (ao q hn)]
 vj:=fun b ps q=>⟨#[],by rw [ak (ao q hn),q];simp⟩
def Un.write (mu:YQ (H x))(he:e=x\/H e=some (.own x))(k:∀b u,b≠e->h.get? b=some u->h'.get? b=some u)(Yi:∃u,h'.get? e=some u):Un fs ex H (upd H x o) h h':=by
 let hx:∀b,H b=none->b≠x:=fun b n z=>by subst z;rwa [n] at mu
 let hb:∀b,H b=none->b≠e:=fun b n z=>by
  subst z
  rcases he with r|r
  ·exact hx b n r
  ·erw [n] at r
 let hm:∀b u,H b=some u->¬ YQ (some u)->b≠x:=fun b u q nm z=>by subst z;rw [q] at mu;exact nm mu
 show ⟨fun b u q n _ _=>k b u (hb b n) q,fun b u q n _ _=>⟨u.slots,k b u (hb b n) q⟩,fun b u q n _=>by rwa [ak (hx b n)],fun b u q _=>?_,
  fun b xs q=>by rwa [ak (hm b _ q fun z=>z)],fun b u xs q=>by rwa [ak (hm b _ q fun z=>z)],fun b ps q=>⟨#[],by rw [ak (hm b _ q fun z=>z),q];simp⟩⟩
 by_cases Vp:b=e
 ·subst Vp;exact Yi
 ·show ⟨u,k b u Vp q⟩
end
def trk (h:Heap)(H:Hp):List AO:=(JA h.objs.size).filter fun a=>(H a).isSome
def vk (h:Heap)(H:Hp):Heap:=PySem.W.hideAll h (trk h H)
def abq (h:Heap)(H:Hp):(vk h H).objs.size=h.objs.size:=PySem.W.hideAll_size _ _
def acj (e:h.get? b=some o)(n:H b=none):(vk h H).get? b=some o:=
 PySem.W.hideAll_get _ e fun hm=>by
  let q:(H b).isSome=true:=(N0.mp hm).2;rw [n] at q;simp at q
def adA (e:(vk h H).get? b=some o):h.get? b=some o/\H b=none:=by
 let e':h.get? b=some o:=PySem.W.of_hideAll (trk h H) e;show ⟨e',?_⟩;cases q:H b with
 | none=>rfl
 | some x=>
  let hm:b∈trk h H:=N0.mpr ⟨JW.mpr (DE e'),by simp [q]⟩;let z:(vk h H).get? b=none:=PySem.W.hideAll_none (trk h H) hm;erw [z] at e
def ac1 (g h:Heap)(L:AO):List (AO×Obj):=(JA h.objs.size).filterMap fun a=>if a=L\/(g.get? a).isSome=true then none else (h.get? a).map fun o=>(a,o)
def rest (g h:Heap)(L d:AO):List (AO×Obj):=(ac1 g h L).filter fun p=>decide (p.1≠d)
structure Mod (K:Frag)(mg:ν)(qf:Heap):Prop where
 Yj:K.In qf
 glob:qf.Ns DG mg
 blt:∃mb,qf.Ns Vs mb/\∀x:Str,x≠ "__name__"->mb x=JX x
 nolimit:qf.NoLimit
 seer:qf.NoSeer
structure Cx where
 prog:DN
 w:World
 K:Frag
 mg:Str->Option Value
 qf:Heap
 A:JD
 N:List Str
 uc:BR
 H₀:Hp
 env:Env
 qw:List Env
 stack:List Env
 ex:List AO
 fn:Str->Bool
 calm:Bool
 pn:List (AO×Obj)
 xe:Value->BR->Prop
def ET (l:List Env):List AO:=l.filterMap (·.frame)
abbrev Cx.fs (X:Cx):List AO:=ET X.qw
def Vis (sc:Scope)(x:Str):Prop:=sc.names.lookup x=some .local\/sc.names.lookup x=some .cell\/sc.names.lookup x=some .free
def Loc (sc:Scope)(x:Str):Prop:=sc.names.lookup x=some .local\/sc.names.lookup x=some .cell
def Look (env:Env)(h:Heap)(m:ν)(x:Str)(u:Value):Prop:=
 (env.kindOf x=some .local/\m x=some u)\/((env.kindOf x=some .cell\/env.kindOf x=some .free)/\∃c,env.cells.lookup x=some c/\h.IsCell c (some u))
structure Cx.Ok (X:Cx):Prop where
 mod:Mod X.K X.mg X.qf
 kind:X.env.scope.kind=.function
 glob:X.env.globals=DG
 blt:X.env.builtins=Vs
 above:X.uc.heap.objs.size<=X.env.locals
 inj:∀x y c,X.env.cells.lookup x=some c->X.env.cells.lookup y=some c->x=y
 has:∀x,(X.env.kindOf x=some .cell\/X.env.kindOf x=some .free)->∃c,X.env.cells.lookup x=some c
 YS:∀x c,X.fn x=true->X.env.cells.lookup x=some c->X.uc.heap.objs.size<=c
 hd:X.calm=true->X.A.handled=none
 frames:X.A.frames=some X.stack
 stk:X.stack=X.qw\/(X.stack=X.env::X.qw/\X.env.frame=some X.env.locals)
 exf:∀b∈X.ex,b≠X.env.locals/\∀x c,X.env.cells.lookup x=some c->c≠b
 bs:∀b o,X.qf.get? b=some o->X.uc.heap.get? b=some o/\X.H₀ b=none
 QL:X.qf.objs.size<=X.uc.heap.objs.size
 M6:∀b o,X.qf.get? b=some o->b∉X.ex
 QM:∀b∈X.ex,b∉X.fs
 qh:X.uc.heap.FunFrames X.qf X.qw
 Vq:∀b∈X.fs,X.H₀ b=none
structure Inv (X:Cx)(pX:η)(Y:List (Option V))(H:Hp)(s:BR):Prop where
 ok:X.Ok
 os:s.os=X.uc.os
 bare:Q4 s.gens
 qf:Un X.fs X.ex X.H₀ H X.uc.heap s.heap
 loc:∃m,s.heap.Ns X.env.locals m/\∀(i:Nat)(x:Str)(v:V),X.N[i]?=some x->Y[i]?=some (some v)->Vis X.env.scope x->∃u,RelV v u/\Look X.env s.heap m x u
 cell:∀x c,X.env.cells.lookup x=some c->∃v,s.heap.IsCell c v
 free:H X.env.locals=none
 jB:∀x c,X.env.cells.lookup x=some c->H c=none
 pin:∀p∈X.pn++pX,s.heap.get? p.1=some p.2/\H p.1=none/\p.1≠X.env.locals/\p.1∉X.fs/\∀v,p.2.data≠.cell v
 bY:kN X.prog X.w H s.heap
 len:Y.length=X.N.length
section
variable {X:Cx}{pX:η}{Y:List (Option V)}{H H':Hp}{s:BR}{h':Heap}
def Cx.Ok.agk (ok:X.Ok)(e:X.qf.get? b=some o):b∉X.fs:=fun hb=>by
 have:=(ok.qh.mem hb).1;erw [e] at this
theorem Inv.bs (I:Inv X pX Y H s):∀b o,X.qf.get? b=some o->s.heap.get? b=some o/\H b=none:=fun b o e=>
 ⟨I.qf.keep b o (I.ok.bs b o e).1 (I.ok.bs b o e).2 (I.ok.agk e) (I.ok.M6 b o e),I.qf.free b o (I.ok.bs b o e).1 (I.ok.bs b o e).2 (I.ok.M6 b o e)⟩
def Inv.bk (I:Inv X pX Y H s):∀b o,X.qf.get? b=some o->s.heap.get? b=some o:=fun b o e=>(I.bs b o e).1
theorem Inv.mod (I:Inv X pX Y H s):Mod X.K X.mg X.qf:=I.ok.mod
def Inv.lh (I:Inv X pX Y H s):X.K.In s.heap:=I.ok.mod.Yj.keeps I.bk
theorem Inv.nolimit (I:Inv X pX Y H s):s.heap.NoLimit:=I.ok.mod.nolimit.keeps I.bk
theorem Inv.lt (I:Inv X pX Y H s):X.env.locals<s.heap.objs.size:=let ⟨_,hn,_⟩:=I.loc;hn.lt
def Inv.sz (I:Inv X pX Y H s):X.uc.heap.objs.size<=s.heap.objs.size:=BX I.ok.above (Oj I.lt)
def Inv.agl (I:Inv X pX Y H s){a:AO}(h:s.heap.objs.size<=a):a∉X.fs:=fun hb=>by
 obtain ⟨_,o,ho,_⟩:=I.ok.qh.mem hb;exact BH (JQ (DE ho) (BX I.sz h)) (OS _)
def Inv.QN (I:Inv X pX Y H s):∀x c,X.env.cells.lookup x=some c->c≠X.env.locals:=fun x c e z=>by
 obtain ⟨v,o,ho,hd⟩:=I.cell x c e;obtain ⟨m,⟨o',es,ep,Vr,Tu,_⟩,_⟩:=I.loc;erw [z,Vr] at ho;erw [Tu] at hd
theorem Inv.qh (I:Inv X pX Y H s):s.heap.FunFrames X.qf X.qw:=by
 let all:∀(l:List Env),(∀b∈ET l,b∈X.fs)->X.uc.heap.FunFrames X.qf l->s.heap.FunFrames X.qf l:=by
  intro l
  induction l with
  | nil=>intro _ _;trivial
  | cons env r ih=>
   intro hs hl;obtain ⟨hk,⟨L,o,hf,hn,ho,hd⟩,hr⟩:=hl;let hL:L∈X.fs:=hs L (by unfold ET;rw [wD,hf];exact CU);obtain ⟨sl,e⟩:=I.qf.slot L o ho (I.ok.Vq L hL) hL fun z=>I.ok.QM L z hL;show ⟨hk,⟨L,_,hf,hn,e,hd⟩,ih (fun b hb=>hs b (by unfold ET;rw [wD,hf];exact DM _ hb)) hr⟩
 exact all X.qw (fun _ hb=>hb) I.ok.qh
theorem Inv.stack (I:Inv X pX Y H s):s.heap.FunFrames X.qf X.stack:=by
 rcases I.ok.stk with e|⟨e,hf⟩
 ·rw [e];exact I.qh
 ·rw [e]
  obtain ⟨m,hn,_⟩:=I.loc;refine .cons (by rw [I.ok.kind];decide) hf hn ?_ I.qh;exact Heap.get?_none_of_le (BX I.ok.QL I.ok.above)
def Inv.AK (I:Inv X pX Y H s):∀b∈ET X.stack,b∈X.env.locals::X.fs:=fun b hb=>by
 rcases I.ok.stk with e|⟨e,hf⟩
 ·rw [e] at hb;exact DM _ hb
 ·rw [e] at hb
  unfold ET at hb;rwa [wD,hf] at hb
def Inv.EU (I:Inv X pX Y H s):∀b∈ET X.stack,H b=none:=fun b hb=>by
 rcases JC.mp (I.AK b hb) with e|hb
 ·rw [e];exact I.free
 ·obtain ⟨_,o,ho,_⟩:=I.ok.qh.mem hb
  exact I.qf.free b o ho (I.ok.Vq b hb) fun z=>I.ok.QM b z hb
def Inv.step {ch:Β}(I:Inv X pX Y H s)
  (P8:∀b∈ch,(b∈X.ex\/X.uc.heap.objs.size<=b)/\b≠X.env.locals/\(∀x c,X.env.cells.lookup x=some c->c≠b)/\∀p∈X.pn++pX,p.1≠b)
  (keep:∀b o,b≠X.env.locals->b∉X.fs->b∉ch->s.heap.get? b=some o->H b=none->h'.get? b=some o)
  (slot:∀b o,b≠X.env.locals->b∈X.fs->b∉ch->s.heap.get? b=some o->H b=none->∃sl,h'.get? b=some {o with slots:=sl}) (free:∀b o,b∉ch->s.heap.get? b=some o->H b=none->H' b=none)
  (there:∀b o,b∉ch->s.heap.get? b=some o->∃o',h'.get? b=some o')
  (vi:∀b xs,H b=some (.tup xs)->H' b=some (.tup xs)) (tN:∀b o u,H b=some (.gP o u)->H' b=some (.gP o u)) (vj:∀b ps,H b=some (.Vo ps)->∃more,H' b=some (.Vo (ps++more)))
  (ns:∀m,s.heap.Ns X.env.locals m->h'.Ns X.env.locals m) (bY:kN X.prog X.w H' h') (hg:Q4 g'):
  Inv X pX Y H' {s with heap:=h',gens:=g',drawn:=d',toks:=t'}:=by
 let neL:∀b o,X.uc.heap.get? b=some o->b≠X.env.locals:=fun b o e=>JK (JQ (DE e) I.ok.above)
 let neC:∀b o,X.uc.heap.get? b=some o->b∉X.ex->b∉ch:=fun b o e hx hb=>by
  rcases (P8 b hb).1 with z|z
  ·exact hx z
  ·exact BH (JQ (DE e) z) (OS _)
 let cellK:∀x c,X.env.cells.lookup x=some c->∀v,s.heap.IsCell c v->h'.IsCell c v:=fun x c e v ⟨o,ho,hd⟩=>by
  let YT:c∉ch:=fun z=>(P8 c z).2.2.1 x c e rfl;by_cases hc:c∈X.fs
  ·obtain ⟨sl,q⟩:=slot c o (I.QN x c e) hc YT ho (I.jB x c e)
   show ⟨_,q,hd⟩
  ·show ⟨o,keep c o (I.QN x c e) hc YT ho (I.jB x c e),hd⟩
 show ⟨I.ok,I.os,hg,⟨fun b o e n hb hx=>?_,fun b o e n hb hx=>?_,fun b o e n hx=>?_,fun b o e hx=>?_,fun b xs e=>vi b xs (I.qf.vi b xs e),fun b o xs e=>tN b o xs (I.qf.tN b o xs e),fun b ps e=>?_⟩,?_,fun x c e=>?_,?_,fun x c e=>?_,fun p hp=>?_,bY,I.len⟩
 ·exact keep b o (neL b o e) hb (neC b o e hx) (I.qf.keep b o e n hb hx) (I.qf.free b o e n hx)
 ·obtain ⟨sl,e1⟩:=I.qf.slot b o e n hb hx
  obtain ⟨sl',e2⟩:=slot b _ (neL b o e) hb (neC b o e hx) e1 (I.qf.free b o e n hx);show ⟨sl',e2⟩
 ·obtain ⟨o',e1⟩:=I.qf.there b o e hx
  exact free b o' (neC b o e hx) e1 (I.qf.free b o e n hx)
 ·obtain ⟨o',e1⟩:=I.qf.there b o e hx
  exact there b o' (neC b o e hx) e1
 ·obtain ⟨m1,e1⟩:=I.qf.vj b ps e
  obtain ⟨m2,e2⟩:=vj b _ e1;show ⟨m1++m2,by rw [e2,Array.append_assoc]⟩
 ·obtain ⟨m,hn,hl⟩:=I.loc
  show ⟨m,ns m hn,fun i x v e1 e2 e3=>?_⟩;obtain ⟨u,r,l⟩:=hl i x v e1 e2 e3;show ⟨u,r,?_⟩
  rcases l with l|⟨k,c,e,z⟩
  ·exact .inl l
  ·exact .inr ⟨k,c,e,cellK x c e _ z⟩
 ·obtain ⟨v,z⟩:=I.cell x c e
  show ⟨v,cellK x c e v z⟩
 ·obtain ⟨m,⟨o,_,_,ho,_⟩,_⟩:=I.loc
  exact free _ o (fun z=>(P8 _ z).2.1 rfl) ho I.free
 ·obtain ⟨v,o,ho,hd⟩:=I.cell x c e
  exact free c o (fun z=>(P8 c z).2.2.1 x c e rfl) ho (I.jB x c e)
 ·obtain ⟨e,n,ne,nf,d⟩:=I.pin p hp
  let YT:p.1∉ch:=fun z=>(P8 p.1 z).2.2.2 p hp rfl;show ⟨keep p.1 p.2 ne nf YT e n,free p.1 p.2 YT e n,ne,nf,d⟩
def Inv.un (I:Inv X pX Y H s)(u:Un X.fs [] H H' s.heap h')(bY:kN X.prog X.w H' h'):Inv X pX Y H' {s with heap:=h',toks:=t'}:=by
 obtain ⟨m,⟨o,es,ep,ho,r⟩,_⟩:=id I.loc;obtain ⟨sl,hL⟩:=u.any ho I.free cr
 exact I.step (g':=s.gens) (d':=s.drawn) (ch:=[]) (fun _ z=>nomatch z) (fun b o _ hb _ e n=>u.keep b o e n hb cr) (fun b o _ hb _ e n=>u.slot b o e n hb cr) (fun b o _ e n=>u.free b o e n cr) (fun b o _ e=>u.there b o e cr) u.vi u.tN u.vj (fun m' hm=>by
  obtain ⟨o',es',AA,Vr,r'⟩:=hm;erw [ho] at Vr
  show ⟨_,es',AA,hL,r'⟩) bY I.bare
def Inv.call (I:Inv X pX Y H s)(u:Un (ET X.stack) ch H H' s.heap h')(bY:kN X.prog X.w H' h')(hg:Q4 g')
  (P8:∀b∈ch,(b∈X.ex\/X.uc.heap.objs.size<=b)/\b≠X.env.locals/\(∀x c,X.env.cells.lookup x=some c->c≠b)/\∀p∈X.pn++pX,p.1≠b):
  Inv X pX Y H' {s with heap:=h',gens:=g',drawn:=d',toks:=t'}:=by
 obtain ⟨m,⟨o,es,ep,ho,r⟩,_⟩:=id I.loc;obtain ⟨sl,hL⟩:=u.any ho I.free fun z=>(P8 _ z).2.1 rfl
 exact I.step (ch:=ch) P8 (fun b o hL hb hc e n=>u.keep b o e n (fun z=>(JC.mp (I.AK b z)).elim hL hb) hc) (fun b o _ _ hc e n=>u.any e n hc) (fun b o hc e n=>u.free b o e n hc) (fun b o hc e=>u.there b o e hc) u.vi u.tN u.vj (fun m' hm=>by
  obtain ⟨o',es',AA,Vr,r'⟩:=hm;erw [ho] at Vr
  show ⟨_,es',AA,hL,r'⟩) bY hg
def Inv.turned (I:Inv X pX Y H s)(k:∀b o,b≠it->s.heap.get? b=some o->h'.get? b=some o)(hn:H it=none)(hL:it≠X.env.locals)
  (h1:it∈X.ex\/X.uc.heap.objs.size<=it) (h2:∀x c,X.env.cells.lookup x=some c->c≠it) (h3:∀p∈X.pn++pX,p.1≠it):Inv X pX Y H {s with heap:=h',toks:=t'}:=by
 let Tv:∀b u,H b=some u->b≠it:=fun b u e z=>by erw [z,hn] at e
 refine I.step (g':=s.gens) (d':=s.drawn) (ch:=[it]) (fun b hb=>?_) (fun b o _ _ hc e _=>k b o (fun z=>hc (by simp [z])) e) (fun b o _ _ hc e _=>⟨o.slots,k b o (fun z=>hc (by simp [z])) e⟩) (fun _ _ _ _ n=>n)
  (fun b o hc e=>⟨o,k b o (fun z=>hc (by simp [z])) e⟩) (fun _ _ e=>e) (fun _ _ _ e=>e) (fun b ps e=>⟨#[],by rw [e];simp⟩) (fun m hm=>?_) (fun b u e=>?_) I.bare
 ·let e:b=it:=by simpa using hb
  subst e;show ⟨h1,hL,h2,h3⟩
 ·obtain ⟨o,es,ep,ho,r⟩:=hm
  show ⟨o,es,ep,k _ o (CA hL) ho,r⟩
 ·refine (I.bY b u e).vh (fun c v hc q=>k c v ?_ q) (fun _ q=>q) fun _ _ q=>q
  rcases hc with z|z
  ·rw [z];exact Tv b u e
  ·exact Tv c _ z
def Inv.tok (I:Inv X pX Y H s)(t:Nat):Inv X pX Y H {s with toks:=t}:=I.un (h':=s.heap) (t':=t) Un.refl I.bY
theorem Inv.kept (I:Inv X pX Y H s)(k:∀b u,s.heap.get? b=some u->h'.get? b=some u):Inv X pX Y H {s with heap:=h',toks:=t'}:=I.un (Un.kept k) (I.bY.kept k)
theorem Inv.laid {a:AO}(I:Inv X pX Y H s)(k:∀b u,s.heap.get? b=some u->h'.get? b=some u)(hp:s.heap.objs.size<=a)(new:df X.prog X.w (upd H a o) h' a o):
  Inv X pX Y (upd H a o) {s with heap:=h',toks:=t'}:=I.un (Un.laid k hp (I.bY.fresh hp)) (I.bY.laid k hp new)
theorem Inv.write (I:Inv X pX Y H s)(mu:YQ (H x))(he:e=x\/H e=some (.own x))(k:∀b u,b≠e->s.heap.get? b=some u->h'.get? b=some u)(Yi:∃u,h'.get? e=some u)
  (new:df X.prog X.w (upd H x o) h' x o):Inv X pX Y (upd H x o) {s with heap:=h',toks:=t'}:=I.un (Un.write mu he k Yi) (I.bY.write mu he k Yi new)
def Inv.EV (I:Inv X pX Y H s)(h:∀p∈Tw,s.heap.get? p.1=some p.2/\H p.1=none/\p.1≠X.env.locals/\p.1∉X.fs/\∀v,p.2.data≠.cell v):Inv X Tw Y H s:=
 ⟨I.ok,I.os,I.bare,I.qf,I.loc,I.cell,I.free,I.jB,fun p hp=>(DL.mp hp).elim (fun z=>I.pin p (M3 _ z)) (h p),I.bY,I.len⟩
def bU {N:τ}(hN:N.Nodup){i j:Nat}(a:N[i]?=some x)(b:N[j]?=some x):i=j:=by
 obtain ⟨h1,e1⟩:=ir.mp a;obtain ⟨h2,e2⟩:=ir.mp b;exact (aoX hN).mp (e1.trans e2.symm)
def uw {E:γ}(I:Inv X pX Y H s)(hN:X.N.Nodup)(hi:X.N[i]?=some x)(hx:Loc X.env.scope x)(r:RelV v u)
  (h:∀s',Inv X pX (Y.set i (some v)) H s' ->(∃a,ZI a s.heap s'.heap/\(a=X.env.locals\/X.env.cells.lookup x=some a))->Q () s') (hf:X.fn x=true\/X.env.scope.names.lookup x=some .local:=by first|exact .inl rfl|exact .inr rfl|assumption):AV M A (storeName X.env x u) Q E s:=by
 obtain ⟨m,hn,hl⟩:=id I.loc;let agn:(X.env.scope.kind==.class || (X.env.scope.kind==.module && X.env.locals !=X.env.globals))=false:=by rw [I.ok.kind];rfl
 let hiσ:i < Y.length:=by rw [I.len];exact (ir.mp hi).1
 let QN:=I.QN
 let tracked:∀{a:AO} {h':Heap},(∃o,s.heap.get? a=some o/\H a=none)->ZI a s.heap h' ->kN X.prog X.w H h':=fun {a h'} ha hs b ob e=>by
  obtain ⟨_,_,Tx⟩:=ha;refine (I.bY b ob e).vh (fun c w' hc q=>(hs.2 c ?_).trans q) (fun _ q=>q) fun _ _ q=>q;rintro rfl
  rcases hc with rfl|hc
  ·erw [Tx] at e
  ·erw [Tx] at hc
 rcases hx with hk|hk
 ·refine wpAny_storeName_local hk hn (fun h' hn' hs=>?_) agn
  obtain ⟨oL,_,_,hoL,_⟩:=id hn;refine h _ ⟨I.ok,I.os,I.bare,⟨fun b o e n hb hx=>?_,fun b o e n hb hx=>?_,I.qf.free,fun b o e hx=>?_,I.qf.vi,I.qf.tN,I.qf.vj⟩,⟨_,hn',fun j y v' e1 e2 e3=>?_⟩,fun y c e=>?_,I.free,I.jB,fun p hp=>?_,tracked ⟨oL,hoL,I.free⟩ hs,by simpa using I.len⟩ ⟨_,hs,.inl rfl⟩
  ·exact (hs.2 b (JK (JQ (DE e) I.ok.above))).trans (I.qf.keep b o e n hb hx)
  ·obtain ⟨sl,e1⟩:=I.qf.slot b o e n hb hx
   show ⟨sl,(hs.2 b (JK (JQ (DE e) I.ok.above))).trans e1⟩
  ·obtain ⟨o',e1⟩:=I.qf.there b o e hx
   show ⟨o',(hs.2 b (JK (JQ (DE e) I.ok.above))).trans e1⟩
  ·by_cases hj:j=i
   ·subst hj
    erw [hi] at e1;erw [ahm hiσ] at e2;show ⟨u,r,.inl ⟨hk,by simp⟩⟩
   ·rw [wA (CA hj)] at e2
    obtain ⟨u',r',q⟩:=hl j y v' e1 e2 e3;show ⟨u',r',?_⟩
    rcases q with ⟨k,e⟩|⟨k,c,e,z⟩
    ·refine .inl ⟨k,?_⟩
     have:y≠x:=fun e=>hj (bU hN e1 (e▸hi));simp [this,e]
    ·exact .inr ⟨k,c,e,z.sameBut hs (QN y c e)⟩
  ·obtain ⟨w',z⟩:=I.cell y c e
   show ⟨w',z.sameBut hs (QN y c e)⟩
  ·obtain ⟨e,n,ne,nf,d⟩:=I.pin p hp
   show ⟨(hs.2 p.1 ne).trans e,n,ne,nf,d⟩
 ·let YU:X.fn x=true:=by
   rcases hf with z|z
   ·exact z
   ·erw [z] at hk
  obtain ⟨c,hc⟩:=I.ok.has x (.inl hk);obtain ⟨w',z⟩:=I.cell x c hc;refine wpAny_storeName_cell I.ok.kind hk hc z (fun h' xB hs=>?_);obtain ⟨oc,hoc,agp⟩:=id z;refine h {s with heap:=h'} ⟨I.ok,I.os,I.bare,⟨fun b o e n hb hx=>?_,fun b o e n hb hx=>?_,I.qf.free,fun b o e hx=>?_,I.qf.vi,I.qf.tN,I.qf.vj⟩,⟨m,hn.sameBut hs (CA (QN x c hc)),fun j y v' e1 e2 e3=>?_⟩,fun y c' e=>?_,I.free,I.jB,fun p hp=>?_,tracked ⟨oc,hoc,I.jB x c hc⟩ hs,by simpa using I.len⟩ ⟨c,hs,.inr hc⟩
  ·exact (hs.2 b (JK (JQ (DE e) (I.ok.YS x c YU hc)))).trans (I.qf.keep b o e n hb hx)
  ·obtain ⟨sl,e1⟩:=I.qf.slot b o e n hb hx
   show ⟨sl,(hs.2 b (JK (JQ (DE e) (I.ok.YS x c YU hc)))).trans e1⟩
  ·obtain ⟨o',e1⟩:=I.qf.there b o e hx
   show ⟨o',(hs.2 b (JK (JQ (DE e) (I.ok.YS x c YU hc)))).trans e1⟩
  ·by_cases hj:j=i
   ·subst hj
    erw [hi] at e1;erw [ahm hiσ] at e2;show ⟨u,r,.inr ⟨.inl hk,c,hc,xB⟩⟩
   ·rw [wA (CA hj)] at e2
    obtain ⟨u',r',q⟩:=hl j y v' e1 e2 e3;show ⟨u',r',?_⟩
    rcases q with q|⟨k,c',e,z'⟩
    ·exact .inl q
    ·refine .inr ⟨k,c',e,z'.sameBut hs ?_⟩
     rintro rfl;exact hj (bU hN e1 (I.ok.inj _ _ _ e hc▸hi))
  ·by_cases hcc:c'=c
   ·subst hcc;show ⟨_,xB⟩
   ·obtain ⟨w2,z2⟩:=I.cell y c' e
    show ⟨w2,z2.sameBut hs hcc⟩
  ·obtain ⟨e,n,ne,nf,d⟩:=I.pin p hp
   show ⟨(hs.2 p.1 ?_).trans e,n,ne,nf,d⟩;intro q;rw [q,hoc] at e;let q':oc=p.2:=C_ e;exact d w' (by rwa [<-q'])
def mm {E:γ}(I:Inv X pX Y H s)(hN:X.N.Nodup)(hi:X.N[i]?=some x)(hx:Loc X.env.scope x)(r:RelV v u)
  (h:∀s',Inv X pX (Y.set i (some v)) H s' ->Q () s') (hf:X.fn x=true\/X.env.scope.names.lookup x=some .local:=by first|exact .inl rfl|exact .inr rfl|assumption):AV M A (storeName X.env x u) Q E s:=
 uw I hN hi hx r (fun s' I' _=>h s' I') hf
def Inv.YV (I:Inv X pX Y H s)(ho:s'.os=s.os)(u:Un (ET X.stack) ch H H' s.heap s'.heap)(bY:kN X.prog X.w H' s'.heap)(hg:Q4 s'.gens)
  (P8:∀b∈ch,(b∈X.ex\/X.uc.heap.objs.size<=b)/\b≠X.env.locals/\(∀x c,X.env.cells.lookup x=some c->c≠b)/\∀p∈X.pn++pX,p.1≠b):Inv X pX Y H' s':=by
 obtain ⟨h',g',d',t',o'⟩:=s';let e:o'=s.os:=ho;subst e;exact I.call (g':=g') (t':=t') (d':=d') u bY hg P8
end
abbrev XK:=Value->Option AO->Hp->Prop
abbrev St:=List (Option V)
abbrev VK:=V->Hp->Prop
abbrev _root_.Ω:=V->List V->Hp->VK->Prop
abbrev TE:=St->Hp->VK->Prop
abbrev TT:=St->Hp->(Bool->Hp->Prop)->Prop
abbrev TA:=St->Hp->(List V->Hp->Prop)->Prop
structure Ends where
 nx:St->Hp->Prop
 rt:VK
 bk:St->Hp->Prop:=fun _ _=>False
 ct:St->Hp->Prop:=fun _ _=>False
abbrev TS:=Ends->St->Hp->Prop
def EP (X:Cx)(pX:η)(Y:St)(Q:VK)(u:Value)(s':BR):Prop:=∃v H',Inv X pX Y H' s'/\RelV v u/\Q v H'
def TP (X:Cx)(pX:η)(Y:St)(Q:Bool->Hp->Prop)(b:Bool)(s':BR):Prop:=∃H',Inv X pX Y H' s'/\Q b H'
def its (X:Cx)(pX:η)(Y:St)(Q:List V->Hp->Prop)(us:ς)(s':BR):Prop:=∃vs H',Inv X pX Y H' s'/\Vals vs us/\Q vs H'
def SP (X:Cx)(pX:η)(D:Ends)(f:Flow)(s':BR):Prop:=
 match f with
 | .next=>∃Y' H',Inv X pX Y' H' s'/\D.nx Y' H'
 | .brk=>∃Y' H',Inv X pX Y' H' s'/\D.bk Y' H'
 | .cont=>∃Y' H',Inv X pX Y' H' s'/\D.ct Y' H'
 | .ret u=>∃v Y' H',Inv X pX Y' H' s'/\RelV v u/\D.rt v H'
def PE (X:Cx)(e:Expr)(t:TE):Prop:=
 ∀(pX:η)(s:BR)(Y:St)(H:Hp)(Q:VK),Inv X pX Y H s->t Y H Q->AV (BC X.prog X.w) X.A (CB e X.env) (EP X pX Y Q) X.xe s
def PT (X:Cx)(e:Expr)(t:TT):Prop:=
 ∀(pX:η)(s:BR)(Y:St)(H:Hp)(Q:Bool->Hp->Prop),Inv X pX Y H s->t Y H Q->AV (BC X.prog X.w) X.A (isTrue e X.env (CB e X.env)) (TP X pX Y Q) X.xe s
def PW (X:Cx)(e:Expr)(t:TT):Prop:=
 ∀(whole:Sem Value)(pX:η)(s:BR)(Y:St)(H:Hp)(Q:Bool->Hp->Prop),Inv X pX Y H s->t Y H Q->AV (BC X.prog X.w) X.A (isTrue e X.env whole) (TP X pX Y Q) X.xe s
def PW.pt (h:PW X e t):PT X e t:=h _
def PA (X:Cx)(es:Δ)(t:TA):Prop:=
 ∀(pos:Pos)(pX:η)(s:BR)(Y:St)(H:Hp)(Q:List V->Hp->Prop),Inv X pX Y H s->t Y H Q->AV (BC X.prog X.w) X.A (spliced (Ku pos (CZ es X.env))) (its X pX Y Q) X.xe s
def PS (X:Cx)(st:Stmt)(t:TS):Prop:=
 ∀(pX:η)(s:BR)(Y:St)(H:Hp)(D:Ends),Inv X pX Y H s->t D Y H->AV (BC X.prog X.w) X.A (exec st X.env) (SP X pX D) X.xe s
def vf (X:Cx)(st:List Stmt)(t:TS):Prop:=
 ∀(pX:η)(s:BR)(Y:St)(H:Hp)(D:Ends),Inv X pX Y H s->t D Y H->AV (BC X.prog X.w) X.A (execs st X.env) (SP X pX D) X.xe s
def cU {Q Q':Z->BR->Prop}{E:γ}(h:AV M A t Q E s)(hQ:∀a s,Q a s->Q' a s):AV M A t Q' E s:=Kw h hQ fun _ _ x=>x
section
variable {X:Cx}
inductive QO (i:Nat)(Y:St)(H:Hp)(Q:VK):Prop
|mk (v:_)(_:Y[i]?=some (some v))(_:Q v H)
def tC (v:V):TE:=fun _ H Q=>Q v H
def aej {pos:Pos}(hN:X.N[i]?=some x)(hv:Vis X.env.scope x)(hd:(x==("__debug__":Str))=false:=by decide)(tO:(x==("__classdict__":Str))=false:=by decide):PE X (.Name x pos) (QO i):=by
 intro pX s Y H Q I h;obtain ⟨v,e,h⟩:=h;obtain ⟨m,hn,hl⟩:=I.loc;obtain ⟨u,r,l⟩:=hl i x v hN e hv;let fin:EP X pX Y Q u s:=⟨v,H,I,r,h⟩
 rcases l with ⟨hk,hm⟩|⟨hk,c,hc,hcell⟩
 ·exact wpAny_Name (wpAny_loadName_local I.ok.kind hk hn hm fin) hd
 ·rcases hk with hk|hk
  ·exact wpAny_Name (wpAny_loadName_cell I.ok.kind hk hc hcell fin) hd
  ·exact wpAny_Name (wpAny_loadName_free I.ok.kind hk hc hcell fin tO) hd
def ag :PE X (.Constant (.int i) j pos) (tC (.int i)):=fun _ _ _ H _ I h=>wpAny_Constant_int ⟨.int i,H,I.tok _,⟨_,rfl⟩,h⟩
def du :PE X (.Constant (.bool b) j pos) (tC (.bl b)):=fun _ _ _ H _ I h=>Constant_bool ⟨.bl b,H,I,rfl,h⟩
def jC :PE X (.Constant .none j pos) (tC .cL):=fun _ _ _ H _ I h=>Constant_none ⟨.cL,H,I,rfl,h⟩
def cy :PE X (.Constant (.str x) j pos) (tC (.str x)):=fun _ _ _ H _ I h=>Calls.Constant_str ⟨.str x,H,I.tok _,⟨_,rfl⟩,h⟩
def Gl (X:Cx)(x:Str):Prop:=X.env.kindOf x=some .globalImplicit
def mq {E:γ}{Y:St}{Q:γ}(I:Inv X pX Y H s)(hg:Gl X x)(hm:X.mg x=some u)(h:Q u s)
  (hd:(x==("__debug__":Str))=false:=by decide):AV (BC X.prog X.w) X.A (CB (.Name x pos) X.env) Q E s:=
 Calls.Name_function_global I.ok.kind hg (Calls.loadGlobal_global (by rw [I.ok.glob];exact I.mod.glob.keeps I.bk) hm h) hd
def jD {E:γ}{Y:St}{pos:Pos}{Q:γ}(I:Inv X pX Y H s)(hg:Gl X x)(hm:X.mg x=none)(hv:JX x=some u)(h:Q u s)
  (hn:x≠ "__name__":=by decide) (hd:(x==("__debug__":Str))=false:=by decide):AV (BC X.prog X.w) X.A (CB (.Name x pos) X.env) Q E s:=by
 obtain ⟨mb,h1,h2⟩:=I.mod.blt;exact Calls.Name_function_global I.ok.kind hg (Calls.loadGlobal_builtin (by rw [I.ok.glob];exact I.mod.glob.keeps I.bk) hm (by rw [I.ok.blt];exact h1.keeps I.bk) ((h2 x hn).trans hv) h) hd
def i5 (hg:Gl X x)(hm:X.mg x=some u)(r:RelV v u)(hd:(x==("__debug__":Str))=false:=by decide):PE X (.Name x pos) (tC v):=
 fun _ _ _ H _ I h=>mq I hg hm ⟨v,H,I,r,h⟩ hd
def zay {pos:Pos}(hg:Gl X x)(hm:X.mg x=none)(hv:JX x=some u)(r:RelV v u)(hn:x≠ "__name__":=by decide)(hd:(x==("__debug__":Str))=false:=by decide):PE X (.Name x pos) (tC v):=
 fun _ _ _ H _ I h=>jD I hg hm hv ⟨v,H,I,r,h⟩ hn hd
variable {a b:Expr}{ta tb:TE}{pos:Pos}
def PC (X:Cx)(op:CmpOp)(a b:Expr)(t:TE):Prop:=
 ∀(pX:η)(s:BR)(Y:St)(H:Hp)(Q:VK),Inv X pX Y H s->t Y H Q->
  AV (BC X.prog X.w) X.A (CB a X.env) (fun v tD=>AV (BC X.prog X.w) X.A (CB b X.env) (fun u uq=>AV (BC X.prog X.w) X.A (Mb op v u) (EP X pX Y Q) X.xe uq) X.xe tD) X.xe s
inductive tB_ (Q:(Bool->Hp->Prop))(x:V)(H1:Hp):Prop
|mk (c:_)(_:x=.bl c)(_:Q c H1)
def tB (t:TE):TT:=fun Y H Q=>t Y H fun x H1=>tB_ Q x H1
def adn (h:PC X op a b t)(h1:Se op b=false:=by first|exact nobehind _ ce ce|rfl):PE X (.Compare a [op] [b] pos) t:=fun pX s Y H Q I hw=>wpAny_Compare1 (h pX s Y H Q I hw) h1
def oh (h:PC X op a b t)(h1:Se op b=false:=by first|exact nobehind _ ce ce|rfl):PT X (.Compare a [op] [b] pos) (tB t):=by
 intro pX s Y H Q I hw;refine wpAny_isTrue_Compare1 (cU (h pX s Y H _ I hw) fun v s1 h1=>cU h1 fun u s2 h2=>cU h2 fun c s3 ⟨x,H1,I1,r1,q1⟩=>?_) h1;obtain ⟨d,rfl,q⟩:=q1;cases r1;exact Vx ⟨H1,I1,q⟩
def dk (h:PE X e t)(he:∀whole,isTrue e X.env whole=(do let v <- whole;standAt e.pos;R7 [v] (truthy v)):=by intro _;rfl):PT X e (tB t):=by
 intro pX s Y H Q I hw;refine isTrue_plain (cU (h pX s Y H _ I hw) fun v s1 ⟨x,H1,I1,r1,q1⟩=>?_) (he _);obtain ⟨d,rfl,q⟩:=q1;cases r1;exact Vx ⟨H1,I1,q⟩
variable {tA tB':TT}{rest:Δ}
def agq (t u:TT):TT:=fun Y H Q=>t Y H fun c H1=>if c=true then u Y H1 Q else Q false H1
def tOr (t u:TT):TT:=fun Y H Q=>t Y H fun c H1=>if c=true then Q true H1 else u Y H1 Q
def agr (t:TT):TT:=fun Y H Q=>t Y H fun c H1=>Q (!c) H1
def qD (ha:PT X a tA):PW X (.BoolOp .And [a] pos) tA:=by
 intro wh pX s Y H Q I h;refine isTrue_and (cU (ha pX s Y H Q I h) fun c s1 e=>?_);cases c with
 | true=>exact isTrue_and_nil e
 | false=>exact e
def gQ (ha:PT X a tA):PW X (.BoolOp .Or [a] pos) tA:=by
 intro wh pX s Y H Q I h;refine isTrue_or (cU (ha pX s Y H Q I h) fun c s1 e=>?_);cases c with
 | false=>exact isTrue_or_nil e
 | true=>exact e
def rg (ha:PT X a tA)(hb:PW X (.BoolOp .And (b::rest) pos) tB'):PW X (.BoolOp .And (a::b::rest) pos) (agq tA tB'):=by
 intro wh pX s Y H Q I h;refine isTrue_and (cU (ha pX s Y H _ I h) fun c s1 ⟨H1,I1,q1⟩=>?_);cases c with
 | true=>exact hb wh pX s1 Y H1 Q I1 q1
 | false=>show ⟨H1,I1,q1⟩
def jn (ha:PT X a tA)(hb:PW X (.BoolOp .Or (b::rest) pos) tB'):PW X (.BoolOp .Or (a::b::rest) pos) (tOr tA tB'):=by
 intro wh pX s Y H Q I h;refine isTrue_or (cU (ha pX s Y H _ I h) fun c s1 ⟨H1,I1,q1⟩=>?_);cases c with
 | true=>show ⟨H1,I1,q1⟩
 | false=>exact hb wh pX s1 Y H1 Q I1 q1
def dN (ha:PT X a tA):PT X (.UnaryOp .Not a pos) (agr tA):=by
 intro pX s Y H Q I h;exact isTrue_not (ha pX s Y H (fun c H1=>Q (!c) H1) I h)
def ahA (ta tb:TE):TE:=fun Y H Q=>ta Y H fun x H1=>∃c,x=.bl c/\if c=true then tb Y H1 Q else Q (.bl false) H1
def AL (h:PE X a t):PE X (.BoolOp op [a] pos) t:=fun pX s Y H Q I hw=>BoolOp_one (h pX s Y H Q I hw)
def AM (ha:PE X a ta)(hb:PE X (.BoolOp .And (b::rest) pos) tb):PE X (.BoolOp .And (a::b::rest) pos) (ahA ta tb):=by
 intro pX s Y H Q I h;refine BoolOp_and (cU (ha pX s Y H _ I h) fun v s1 ⟨x,H1,I1,r1,q1⟩=>?_);obtain ⟨c,rfl,q1⟩:=q1;cases r1;refine Vx ?_;cases c with
 | true=>exact hb pX s1 Y H1 Q I1 q1
 | false=>show ⟨.bl false,H1,I1,rfl,q1⟩
def tIf (t:TT)(ta tb:TE):TE:=fun Y H Q=>t Y H fun c H1=>if c=true then ta Y H1 Q else tb Y H1 Q
def xK (hc:PT X c tA)(ha:PE X a ta)(hb:PE X b tb):PE X (.IfExp c a b pos) (tIf tA ta tb):=by
 intro pX s Y H Q I h;refine wpAny_IfExp (cU (hc pX s Y H _ I h) fun d s1 ⟨H1,I1,q1⟩=>?_);cases d with
 | true=>exact ha pX s1 Y H1 Q I1 q1
 | false=>exact hb pX s1 Y H1 Q I1 q1
end
def aV (K:Frag)(H:Hp)(a:AO)(xs:ε):Prop:=
 Rd H a (.lst xs)\/
  ∃(o:Obj)(AP:Ο)(n:Nat),K.lookup a=some o/\o.cls=.type "list"/\o.dict=none/\o.data=.seq AP n/\AP.size<=BL/\Vals xs AP.toList
def bL (K:Frag)(H:Hp)(a:AO)(xs:ε):Prop:=
 Rd H a (.tup xs)\/
  ∃(o:Obj)(AP:Ο)(n:Nat),K.lookup a=some o/\o.cls=.type "tuple"/\o.data=.seq AP n/\AP.size<=BL/\Vals xs AP.toList
def ags:Value->Option V
 | .none=>some .cL
 | .bool b=>some (.bl b)
 | .int i _=>some (.int i)
 | .str x _=>some (.str x)
 | .bytes b _=>some (.xm b)
 | .float b _=>some (.Vn b)
 | .ref a=>some (.ref a)
 | .type n=>some (.ty n)
 | _=>none
def RelV.abs (r:RelV x u):ags u=some x:=by
 cases x with
 | cL=>cases r;rfl
 | bl _=>cases r;rfl
 | int _=>obtain ⟨t,rfl⟩:=r;rfl
 | str _=>obtain ⟨t,rfl⟩:=r;rfl
 | xm _=>obtain ⟨t,rfl⟩:=r;rfl
 | Vn _=>obtain ⟨t,rfl⟩:=r;rfl
 | ref _=>cases r;rfl
 | ty _=>cases r;rfl
def RelV.inj (r:RelV x u)(q:RelV y u):x=y:=C_ (r.abs.symm.trans q.abs)
theorem Vals.inj:∀{xs ys:ε} {us:ς},Vals xs us->Vals ys us->xs=ys
 | _,_,_,.nil,.nil=>rfl
 | _,_,_,.cons r t,.cons r' t'=>by rw [r.inj r',Vals.inj t t']
section
variable {X:Cx}{pX:η}{Y:St}{H:Hp}{s:BR}{a:AO}{xs ys:ε}
def aV.of {K:Frag}(h:H a=some (.lst xs)):aV K H a xs:=.inl (.inl h)
def bL.of {K:Frag}(h:H a=some (.tup xs)):bL K H a xs:=.inl (.inl h)
def Inv.list (I:Inv X pX Y H s)(h:aV X.K H a xs):∃AP:List Value,Vals xs AP/\PlainL s.heap a AP.toArray/\xs.length<=BL:=by
 rcases h with h|⟨o,AP,n,hk,hc,hd,hs,hz,r⟩
 ·obtain ⟨z,AP,n,r,e⟩:=h.ok I.bY
  show ⟨AP,r,⟨_,n,e,rfl,rfl,rfl⟩,z⟩
 ·show ⟨AP.toList,r,⟨o,n,I.lh a o hk,hc,hd,by simpa using hs⟩,?_⟩
  let e:=r.length;simp only [ahJ] at e;omega
def Inv.tuple (I:Inv X pX Y H s)(h:bL X.K H a xs):∃AP:List Value,Vals xs AP/\IsTup s.heap a AP.toArray/\xs.length<=BL:=by
 rcases h with h|⟨o,AP,n,hk,hc,hs,hz,r⟩
 ·obtain ⟨z,AP,r,p⟩:=h.ok I.bY
  show ⟨AP,r,p,z⟩
 ·show ⟨AP.toList,r,⟨o,I.lh a o hk,hc,n,by simpa using hs⟩,?_⟩
  let e:=r.length;simp only [ahJ] at e;omega
def Inv.jE (I:Inv X pX Y H s)(h:aV X.K H a xs)(h':aV X.K H a ys):xs=ys:=by
 obtain ⟨AP,r,⟨o,n,e,_,_,d⟩,_⟩:=I.list h;obtain ⟨uh,r',⟨o',n',e',_,_,d'⟩,_⟩:=I.list h';erw [e] at e';rw [d] at d';injection d' with d1 _
 have:AP=uh:=by simpa using ud apu d1
 subst this;exact r.inj r'
def Inv.iF (I:Inv X pX Y H s)(h:bL X.K H a xs)(h':bL X.K H a ys):xs=ys:=by
 obtain ⟨AP,r,⟨o,e,_,n,d⟩,_⟩:=I.tuple h;obtain ⟨uh,r',⟨o',e',_,n',d'⟩,_⟩:=I.tuple h';erw [e] at e';rw [d] at d';injection d' with d1 _
 have:AP=uh:=by simpa using ud apu d1
 subst this;exact r.inj r'
end
abbrev Cx.tQ (X:Cx)(E:γ):Cx:={X with xe:=E}
abbrev Cx.xC (X:Cx):Cx:=X.tQ fun _ _=>False
theorem Cx.Ok.tQ {X:Cx}(ok:X.Ok)(E:γ):(X.tQ E).Ok:=
 ⟨ok.mod,ok.kind,ok.glob,ok.blt,ok.above,ok.inj,ok.has,ok.YS,ok.hd,ok.frames,ok.stk,ok.exf,ok.bs,ok.QL,ok.M6,ok.QM,ok.qh,ok.Vq⟩
def Cx.Ok.jF {X:Cx}(ok:(X.tQ E).Ok):X.Ok:=
 ⟨ok.mod,ok.kind,ok.glob,ok.blt,ok.above,ok.inj,ok.has,ok.YS,ok.hd,ok.frames,ok.stk,ok.exf,ok.bs,ok.QL,ok.M6,ok.QM,ok.qh,ok.Vq⟩
section
variable {X:Cx}{pX:η}{Y:St}{H:Hp}{s:BR}{E:γ}
theorem Inv.tQ (I:Inv X pX Y H s)(E:γ):Inv (X.tQ E) pX Y H s:=⟨I.ok.tQ E,I.os,I.bare,I.qf,I.loc,I.cell,I.free,I.jB,I.pin,I.bY,I.len⟩
theorem Inv.jF (I:Inv (X.tQ E) pX Y H s):Inv X pX Y H s:=⟨I.ok.jF,I.os,I.bare,I.qf,I.loc,I.cell,I.free,I.jB,I.pin,I.bY,I.len⟩
theorem SP.jF (h:SP (X.tQ E) pX D f s'):SP X pX D f s':=by
 cases f with
 | next=>obtain ⟨Y',H',I,q⟩:=h;show ⟨Y',H',I.jF,q⟩
 | brk=>obtain ⟨Y',H',I,q⟩:=h;show ⟨Y',H',I.jF,q⟩
 | cont=>obtain ⟨Y',H',I,q⟩:=h;show ⟨Y',H',I.jF,q⟩
 | ret u=>obtain ⟨v,Y',H',I,r,q⟩:=h;show ⟨v,Y',H',I.jF,r,q⟩
theorem vf.xC {st:List Stmt}(h:vf X.xC st t):vf X st t:=fun pX s Y H D I hw=>
 Kw (h pX s Y H D (I.tQ _) hw) (fun _ _ q=>q.jF) fun _ _ z=>False.elim z
end
section
variable {X:Cx}{st:Stmt}{rest:List Stmt}{t u:TS}{e:Expr}{te:TE}{pos:Pos}
def agf:TS:=fun D Y H=>D.nx Y H
def YY (t u:TS):TS:=fun D Y H=>t {D with nx:=u D} Y H
def aR:vf X [] agf:=fun _ _ Y H _ I h=>xM ⟨Y,H,I,h⟩
def aa (h1:PS X st t)(h2:vf X rest u):vf X (st::rest) (YY t u):=by
 intro pX s Y H D I h;refine wpAny_execs_cons (cU (h1 pX s Y H {D with nx:=u D} I h) fun f s1 q=>?_);cases f with
 | next=>
  obtain ⟨Y',H',I',q⟩:=q;exact h2 pX s1 Y' H' D I' q
 | ret v=>exact q
 | brk=>exact q
 | cont=>exact q
def ah (h1:PS X st t):vf X [st] t:=by
 intro pX s Y H D I h;refine wpAny_execs_cons (cU (h1 pX s Y H D I h) fun f s1 q=>?_);cases f with
 | next=>exact xM q
 | ret v=>exact q
 | brk=>exact q
 | cont=>exact q
def ag_:TS:=fun D Y H=>D.ct Y H
def aen:PS X (.Continue pos) ag_:=fun _ _ Y H _ I h=>wpAny_Continue ⟨Y,H,I,h⟩
def Inv.quiet {Y:St}(I:Inv X pX Y H s):interactive X.env=false:=by simp [interactive,I.ok.kind]
def ahN (te:TE):TS:=fun D Y H=>te Y H fun _ H1=>D.nx Y H1
def bx (he:PE X e te)(hs:QJ e none pos.line X.env=pure false:=by rfl):PS X (.Expr e pos) (ahN te):=by
 intro pX s Y H D I h;exact wpAny_Expr_any (cU (he pX s Y H _ I h) fun v s1 ⟨x,H1,I1,r1,q1⟩=>⟨Y,H1,I1,q1⟩) I.quiet hs
def agt (te:TE):TS:=fun D Y H=>te Y H D.rt
def aE (he:PE X e te):PS X (.Return (some e) pos) (agt te):=by
 intro pX s Y H D I h;exact wpAny_Return_some (cU (he pX s Y H _ I h) fun v s1 ⟨x,H1,I1,r1,q1⟩=>⟨x,Y,H1,I1,r1,q1⟩)
def agu (c:TT)(t u:TS):TS:=fun D Y H=>c Y H fun b H1=>if b=true then t D Y H1 else u D Y H1
def bg (hc:PT X c tc)(ha:vf X a t)(hb:vf X b u):PS X (.If c a b pos) (agu tc t u):=by
 intro pX s Y H D I h;refine wpAny_If (cU (hc pX s Y H _ I h) fun d s1 ⟨H1,I1,q1⟩=>?_);cases d with
 | true=>exact ha pX s1 Y H1 D I1 q1
 | false=>exact hb pX s1 Y H1 D I1 q1
def adm:TS:=fun _ _ _=>False
def dA:PS X st adm:=fun _ _ _ _ _ _ h=>h.elim
end
abbrev TG:=V->St->Hp->(St->Hp->Prop)->Prop
abbrev Tz:=List V->St->Hp->(St->Hp->Prop)->Prop
def PG (X:Cx)(target:Expr)(t:TG):Prop:=
 ∀(pX:η)(s:BR)(Y:St)(H:Hp)(v:V)(u:Value)(Q:St->Hp->Prop),Inv X pX Y H s->RelV v u->t v Y H Q->
  AV (BC X.prog X.w) X.A (assign target X.env u) (fun _ s'=>∃Y' H',Inv X pX Y' H' s'/\Q Y' H') X.xe s
def σ1 (X:Cx)(ts:Δ)(t:Tz):Prop:=
 ∀(pX:η)(s:BR)(Y:St)(H:Hp)(vs:ε)(us:ς)(Q:St->Hp->Prop),Inv X pX Y H s->Vals vs us->t vs Y H Q->
  AV (BC X.prog X.w) X.A (assignInOrder ((Ro ts X.env).map (·.2)) us) (fun _ s'=>∃Y' H',Inv X pX Y' H' s'/\Q Y' H') X.xe s
abbrev Vv:=V->V->V->Hp->(Hp->Prop)->Prop
def σ2 (X:Cx)(t:Vv):Prop:=
 ∀(pX:η)(s:BR)(Y:St)(H:Hp)(o i v:V)(ov iv u:Value)(Q:Hp->Prop),Inv X pX Y H s->RelV o ov->RelV i iv->RelV v u->t o i v H Q->
  AV (BC X.prog X.w) X.A (setItem ov iv u) (fun _ s'=>∃H',Inv X pX Y H' s'/\Q H') X.xe s
section
variable {X:Cx}{pos:Pos}
def cX (i:Nat):TG:=fun v Y H Q=>Q (Y.set i (some v)) H
def gF (hN:X.N.Nodup)(hi:X.N[i]?=some x)(hx:Loc X.env.scope x)(hf:X.fn x=true\/X.env.scope.names.lookup x=some .local:=by first|exact .inl rfl|exact .inr rfl|assumption):PG X (.Name x pos) (cX i):=by
 intro pX s Y H v u Q I r h;exact wpAny_assign_Name (mm I hN hi hx r (fun s' I'=>⟨_,H,I',h⟩) hf)
def Vw:Tz:=fun vs Y H Q=>vs=[]/\Q Y H
def xN (t:TG)(u:Tz):Tz:=fun vs Y H Q=>∃v r,vs=v::r/\t v Y H fun Y' H'=>u r Y' H' Q
def cY:σ1 X [] Vw:=by
 intro pX s Y H vs us Q I r h;obtain ⟨e,h⟩:=h;subst e;cases r;exact assignInOrder_nil ⟨Y,H,I,h⟩
def a_ (h1:PG X e t)(h2:σ1 X es u)
  (hs:(Ro (e::es) X.env).map (·.2)=assign e X.env::(Ro es X.env).map (·.2):=by rfl):σ1 X (e::es) (xN t u):=by
 intro pX s Y H vs us Q I r h;obtain ⟨v,vr,e1,h⟩:=h;subst e1;cases r with
 | cons r rr=>
  rw [hs];refine assignInOrder_cons (cU (h1 pX s Y H _ _ _ I r h) fun _ s1 ⟨Y1,H1,I1,q1⟩=>?_);exact h2 pX s1 Y1 H1 _ _ Q I1 rr q1
inductive M7 (K:Frag)(n:Nat)(t:Tz)(v:V)(Y:St)(H:Hp)(Q:(St->Hp->Prop)):Prop
|mk (a xs:_)(_:v=.ref a)(_:bL K H a xs)(_:xs.length=n)(_:t xs Y H Q)
def eU {k:Nat}(hc:X.calm=true)(h:σ1 X es t)
  (hn:(Ro es X.env).length=n:=by rfl) (M8:(Ro es X.env).findIdx? (·.1)=none:=by rfl):PG X (.Tuple es k pos) (M7 X.K n t):=by
 intro pX s Y H v u Q I r hw;obtain ⟨a,xs,e1,hq,hl,hw⟩:=hw;subst e1;cases r;obtain ⟨AP,rv,ht,hz⟩:=I.tuple hq;refine assign_Tuple_tuple (I.ok.hd hc) ht (by simp [hn,<-hl,rv.length]) M8 fun h' hx=>?_;let I1:Inv X pX Y H {s with heap:=h'}:=I.kept (t':=s.toks) fun b o e=>hx b o (JK (DE e)) e;exact h pX _ Y H xs _ Q I1 (by simpa using rv) hw
def agv (to ti:TE)(t:Vv):TG:=fun v Y H Q=>to Y H fun o H1=>ti Y H1 fun i H2=>t o i v H2 fun H3=>Q Y H3
def fS (ho:PE X o to)(hi:PE X i ti)(hs:σ2 X t)
  (ha:∀v,assign (.Subscript o i pos) X.env v=(do
   let ov <- R7 [v] (CB o X.env);let iv <- R7 [v,ov] (CB i X.env)
   standAt pos
   R7 [v,ov,iv] (setItem ov iv v)
   release [v,ov,iv] []):=by intro _;rfl):PG X (.Subscript o i pos) (agv to ti t):=by
 intro pX s Y H v u Q I r h;rw [ha];refine AZ (Og (cU (ho pX s Y H _ I h) fun ov s1 ⟨x,H1,I1,r1,q1⟩=>?_));refine AZ (Og (cU (hi pX s1 Y H1 _ I1 q1) fun iv s2 ⟨y,H2,I2,r2,q2⟩=>?_));refine AZ (wpAny_standAt (AZ (Og (cU (hs pX s2 Y H2 x y v ov iv u _ I2 r1 r2 r q2) fun _ s3 ⟨H3,I3,q3⟩=>?_))));exact wpAny_release ⟨Y,H3,I3,q3⟩
def xO (te:TE)(g:TG):TS:=fun D Y H=>te Y H fun x H1=>g x Y H1 D.nx
def ft (he:PE X e te)(hg:PG X tg g)(hs:swapsWithSole [tg] e pos.line X.env=pure false:=by rfl)(hw:swappedStores [tg] e X.env=pure none:=by rfl)
  (h1:(Ro [tg] X.env).map (·.2)=[assign tg X.env]:=by rfl):PS X (.Assign [tg] e pos) (xO te g):=by
 intro pX s Y H D I h;refine wpAny_Assign_stores (cU (he pX s Y H _ I h) fun v s1 ⟨x,H1,I1,r1,q1⟩=>?_) hs hw;rw [h1];exact cU (hg pX s1 Y H1 x v _ I1 r1 q1) fun _ s2 q=>q
def adl (hN:X.N.Nodup)(hi:X.N[i]?=some x)(hx:Loc X.env.scope x)(he:PE X e te)(hs:QJ e (some (.Name x pos')) pos.line X.env=pure false:=by rfl)(hf:X.fn x=true\/X.env.scope.names.lookup x=some .local:=by first|exact .inl rfl|exact .inr rfl|assumption):
  PS X (.Assign [.Name x pos'] e pos) (xO te (cX i)):=by
 intro pX s Y H D I h;refine wpAny_Assign_Name (cU (he pX s Y H _ I h) fun v s1 ⟨y,H1,I1,r1,q1⟩=>?_) hs;exact mm I1 hN hi hx r1 (fun s2 I2=>⟨_,H1,I2,q1⟩) hf
inductive TB (i:Nat)(j:Nat)(D:Ends)(Y:St)(vs:ε)(H1:Hp):Prop
|mk (v w:_)(_:vs=[v,w])(_:D.nx ((Y.set i (some v)).set j (some w)) H1)
def agw (i j:Nat)(ta:TA):TS:=fun D Y H=>ta Y H fun vs H1=>TB i j D Y vs H1
def adi (hc:X.calm=true)(hN:X.N.Nodup)(hi:X.N[i]?=some x)(hj:X.N[j]?=some y)(hij:i≠j)
  (hx:X.env.scope.names.lookup x=some .local) (hy:X.env.scope.names.lookup y=some .local) (ha:PA X [a,b] ta)
  (hw:swappedStores [.Tuple [.Name x px,.Name y py] kt pt] (.Tuple [a,b] k2 pt2) X.env=pure (some [x,y]))
  (hs:swapsWithSole [.Tuple [.Name x px,.Name y py] kt pt] (.Tuple [a,b] k2 pt2) pos.line X.env=pure false:=by rfl):
  PS X (.Assign [.Tuple [.Name x px,.Name y py] kt pt] (.Tuple [a,b] k2 pt2) pos) (agw i j ta):=by
 intro pX s Y H D I h;rw [exec_Assign_arm];refine AZ (wpAny_standAt ?_);rw [hs];refine AZ (CK ?_);rw [qA ce];refine AZ (Tuple_ (cU (ha _ pX s Y H _ I h) fun us s1 ⟨vs,H1,I1,r1,q1⟩=>?_));obtain ⟨v,w,e1,q1⟩:=q1;subst e1
 obtain ⟨u1,u2,rfl,rv,qE⟩:∃u1 u2,us=[u1,u2]/\RelV v u1/\RelV w u2:=by
  cases r1 with
  | cons p q=>
   cases q with
   | cons p' q'=>
    cases q';show ⟨_,_,rfl,p,p'⟩
 refine Vu ?_ (by show 2<=BL;decide);let I2:Inv X pX Y H1 {s1 with heap:=s1.heap.push {cls:=.type "tuple",data:=.seq [u1,u2].toArray}}:=I1.kept (t':=s1.toks) fun b o e=>DI _ e;rw [hw];refine AZ (CK ?_);show AV (BC X.prog X.w) X.A (do rule "assign.swapped-stores";let items <- unpackItems (.ref s1.heap.objs.size) 2 none;assignInOrder [fun v=>bindName X.env y v,fun v=>bindName X.env x v] items.reverse;pure Flow.next) _ _ _;refine AZ (wpAny_rule (AZ (unpackItems_tuple (items:= #[u1,u2]) (I.ok.hd hc) (IsTup.new s1.heap _) fun h' AB =>?_)));let I3:=I2.kept (h':=h') (t':=s1.toks) fun b o e=>AB b o (JK (DE e)) e;show AV _ _ (assignInOrder [fun v=>bindName X.env y v,fun v=>bindName X.env x v] [u2,u1] >>=fun _=>pure Flow.next) _ _ _;refine AZ (assignInOrder_cons (wpAny_bindName (mm I3 hN hj (.inl hy) qE (fun s2 I4=>?_) (.inr hy))));refine assignInOrder_cons (wpAny_bindName (mm I4 hN hi (.inl hx) rv (fun s3 I5=>assignInOrder_nil (CK ?_)) (.inr hx)));rw [List.set_comm _ _ (CA hij)] at I5;show ⟨_,H1,I5,q1⟩
def M9 (c:TT)(tb:TS):TS:=fun D Y H=>∃W:Nat->St->Hp->Prop,(∃m,W m Y H)/\∀m Y H,W m Y H->
 c Y H fun b H1=>if b=true then ∃N:St->Hp->Prop,(∀Y' H',N Y' H' ->∃m',m'<m/\W m' Y' H')/\tb {D with nx:=N,ct:=N,bk:=D.nx} Y H1 else D.nx Y H1
def rh (hp:PassesOwn (BC X.prog X.w) X.A X.env X.xe)(hc:PT X c tc)(hb:vf X body tb):PS X (.While c body [] pos) (M9 tc tb):=by
 intro pX s Y H D I h;obtain ⟨W,⟨m0,w0⟩,turn⟩:=h;refine wpAny_While (codeAny_whileLoop (fun n s'=>∃Y' H',Inv X pX Y' H' s'/\W n Y' H') ?_ m0 ⟨Y,H,I,w0⟩);rintro n s1 ⟨Y1,H1,I1,w1⟩;refine Sg hp (cU (hc pX s1 Y1 H1 _ I1 (turn n Y1 H1 w1)) fun b s2 ⟨H2,I2,q2⟩=>?_);cases b with
 | true=>
  obtain ⟨N,hN,q2⟩:=q2;rw [tu rfl];refine Sg hp (cU (hb pX s2 Y1 H2 _ I2 q2) fun f s3 q3=>?_);cases f with
  | next=>
   obtain ⟨Y3,H3,I3,n3⟩:=q3;obtain ⟨m',hm,w3⟩:=hN Y3 H3 n3;show ⟨m',hm,Y3,H3,I3,w3⟩
  | cont=>
   obtain ⟨Y3,H3,I3,n3⟩:=q3;obtain ⟨m',hm,w3⟩:=hN Y3 H3 n3;show ⟨m',hm,Y3,H3,I3,w3⟩
  | brk=>exact q3
  | ret v=>exact q3
 | false=>
  rw [qA JP];exact xM ⟨Y1,H2,I2,q2⟩
end
structure It where
 go:Nat->Hp->Prop
 M_:Nat->Hp->V->Hp->Prop
 stop:Nat->Hp->Prop
def oi (X:Cx)(pX:η)(H:Hp)(b:AO):Prop:=
 H b=none/\b≠X.env.locals/\b∉X.fs/\(b∈X.ex\/X.uc.heap.objs.size<=b)/\(∀x c,X.env.cells.lookup x=some c->c≠b)/\∀p∈X.pn++pX,p.1≠b
def Inv.rj {Y:St}{b:AO}(I:Inv X pX Y H s)(hb:s.heap.objs.size<=b)(hn:H' b=none):oi X pX H' b:=by
 show ⟨hn,σ4 (JQ I.lt hb),I.agl hb,.inr (BX I.sz hb),fun x c e z=>?_,fun p hp z=>?_⟩
 ·obtain ⟨v,q⟩:=I.cell x c e
  exact BH (JQ q.lt (by rwa [z])) (OS _)
 ·exact BH (JQ (DE (I.pin p hp).1) (by rwa [z])) (OS _)
structure Turn (P:DN)(w:World)(K:Frag)(tg:Expr)(J:It)(fp:Β)(it:AO)(tn:Nat->Heap->Prop):Prop where
 mem:it∈fp
 obj:∀i h,tn i h->∀b∈fp,∃o,h.get? b=some o/\∀v,o.data≠.cell v
 keep:∀i h h',tn i h->(∀b∈fp,∀o,h.get? b=some o->h'.get? b=some o)->tn i h'
 item:∀(X:Cx),X.prog=P->X.w=w->X.K=K->X.calm=true->∀(i:Nat)(pX:η)(s:BR)(Y:St)(H:Hp)(E:γ),Inv X pX Y H s->(∀b∈fp,oi X pX H b)->tn i s.heap->J.go i H->
  AV (BC P w) X.A (pyNext (.ref it)) (fun r s1=>∃u,r=some u/\
   AV (BC P w) X.A (xJ tg (.ref it) u) (fun _ s2=>∃x H',Inv X pX Y H' s2/\RelV x u/\J.M_ i H x H'/\tn (i+1) s2.heap/\∀b∈fp,H' b=none) E s1) E s
 done:∀(X:Cx),X.prog=P->X.w=w->X.K=K->X.calm=true->∀(i:Nat)(pX:η)(s:BR)(Y:St)(H:Hp)(E:γ),Inv X pX Y H s->(∀b∈fp,oi X pX H b)->tn i s.heap->J.stop i H->
  AV (BC P w) X.A (pyNext (.ref it)) (fun r s1=>r=none/\Inv X pX Y H s1) E s
 self:∀(A:JD)(i:Nat)(s:BR)(Q:γ)(E:γ),tn i s.heap->Q (.ref it) s->AV (BC P w) A (pyIter (.ref it)) Q E s
abbrev TI:=St->Hp->(It->Hp->Prop)->Prop
def PIE (X:Cx)(pX:η)(Y:St)(tg:Expr)(R:It->Hp->Prop)(itv:Value)(s2:BR):Prop:=
 ∃(it:AO)(fp:Β)(tn:Nat->Heap->Prop)(J:It)(H':Hp),itv=.ref it/\Inv X pX Y H' s2/\Turn X.prog X.w X.K tg J fp it tn/\tn 0 s2.heap/\(∀b∈fp,oi X pX H' b)/\R J H'
def PI (X:Cx)(tg iter:Expr)(wi:TI):Prop:=
 ∀(pX:η)(s:BR)(Y:St)(H:Hp)(R:It->Hp->Prop),Inv X pX Y H s->wi Y H R->
  AV (BC X.prog X.w) X.A (CB iter X.env) (fun v s1=>AV (BC X.prog X.w) X.A (pyIter v) (PIE X pX Y tg R) X.xe s1) X.xe s
def Na            (ho : s.heap.get? it = some o) (hc : o.cls = .type n) (hd : o.data = .fields vs)
    (hn : ["enumerate", "zip", "dict_itemiterator", "dict_reverseitemiterator", "odict_iterator", "itertools.zip_longest", "itertools.pairwise"].contains n = false) (hQ : Q () s) : AV M A (xJ tg (.ref it) u) Q E s := by
  unfold xJ
  cases tg<;>first
    | exact CK hQ
    | (cases u<;>first
        | exact CK hQ
        | (refine AZ (wpAny_load ho ?_)
           rw [hc, hd];show AV M A (if (["enumerate", "zip", "dict_itemiterator", "dict_reverseitemiterator", "odict_iterator", "itertools.zip_longest", "itertools.pairwise"].contains n && vs[0]? == some (Nj _)) = true then _ else _) Q E s;rw [qA (by intro h; rw [hn, Bool.false_and] at h; cases h)]
           exact CK hQ))
def QQ (K:Frag)(a:AO):It:=
 ⟨fun i H=>∃xs x,aV K H a xs/\xs[i]?=some x,fun i H x H'=>H'=H/\∀xs,aV K H a xs->xs[i]?=some x,fun i H=>∃xs,aV K H a xs/\xs.length<=i⟩
def σ3 (K:Frag)(a:AO):It:=
 ⟨fun i H=>∃xs x,bL K H a xs/\xs[i]?=some x,fun i H x H'=>H'=H/\∀xs,bL K H a xs->xs[i]?=some x,fun i H=>∃xs,bL K H a xs/\xs.length<=i⟩
def TC (lo:Int)(n:Nat):It:=⟨fun i _=>i<n,fun i H x H'=>H'=H/\x=.int (lo+i),fun i _=>n<=i⟩
def abc {K:Frag}(a it:AO):Turn P w K tg (QQ K a) [it] it (fun i h=>h.IsListIter it a i) where
 mem:=by simp
 obj:=fun i h st b hb=>by
  let e:b=it:=by simpa using hb
  subst e;obtain ⟨o,e,c,d⟩:=st;show ⟨o,e,fun v z=>by erw [d] at z⟩
 keep:=fun i h h' st k=>st.at fun o e=>k it cr o e
 item:=by
  intro X hP hw hK hc i pX s Y H E I hf st hg;subst hP hw hK;obtain ⟨xs,x,hq,hx⟩:=hg;obtain ⟨AP,rv,p,hz⟩:=I.list hq;obtain ⟨u,hu,ru⟩:=rv.get hx;obtain ⟨f0,f1,f2,f3,f4,f5⟩:=hf it cr;refine wpAny_pyNext_list_item st p.isList (x:=u) (by simpa using hu) fun h' P9 sb=>?_;let I1:Inv X pX Y H {s with heap:=h'}:=I.turned (t':=s.toks) (fun b o hb e=>(sb.2 b hb).trans e) f0 f1 f3 f4 f5;obtain ⟨o,e,c,d⟩:=id P9;show ⟨u,rfl,Na (s:={s with heap:=h'}) e c d ce ⟨x,H,I1,ru,⟨rfl,fun ys hy=>by rwa [I.jE hy hq]⟩,P9,fun b hb=>(hf b hb).1⟩⟩
 done:=by
  intro X hP hw hK hc i pX s Y H E I hf st hg;subst hP hw hK;obtain ⟨xs,hq,hx⟩:=hg;obtain ⟨AP,rv,p,hz⟩:=I.list hq;obtain ⟨f0,f1,f2,f3,f4,f5⟩:=hf it cr;let hl:=rv.length;exact wpAny_pyNext_list_end (I.ok.hd hc) st p.isList (by simp;omega) fun h' eb=>⟨rfl,I.turned (t':=s.toks) (fun b o hb e=>eb b o hb e) f0 f1 f3 f4 f5⟩
 self:=fun _ _ _ _ _ st h=>wpAny_pyIter_listiter st h
def kvs {K:Frag}(a it:AO):Turn P w K tg (σ3 K a) [it] it (fun i h=>h.IsTupleIter it a i) where
 mem:=by simp
 obj:=fun i h st b hb=>by
  let e:b=it:=by simpa using hb
  subst e;obtain ⟨o,e,c,d⟩:=st;show ⟨o,e,fun v z=>by erw [d] at z⟩
 keep:=fun i h h' st k=>st.at fun o e=>k it cr o e
 item:=by
  intro X hP hw hK hc i pX s Y H E I hf st hg;subst hP hw hK;obtain ⟨xs,x,hq,hx⟩:=hg;obtain ⟨AP,rv,p,hz⟩:=I.tuple hq;obtain ⟨u,hu,ru⟩:=rv.get hx;obtain ⟨f0,f1,f2,f3,f4,f5⟩:=hf it cr;refine wpAny_pyNext_tuple_item st (show s.heap.IsTuple a AP.toArray from p) (x:=u) (by simpa using hu) fun h' P9 sb=>?_;let I1:Inv X pX Y H {s with heap:=h'}:=I.turned (t':=s.toks) (fun b o hb e=>(sb.2 b hb).trans e) f0 f1 f3 f4 f5;obtain ⟨o,e,c,d⟩:=id P9;show ⟨u,rfl,Na (s:={s with heap:=h'}) e c d ce ⟨x,H,I1,ru,⟨rfl,fun ys hy=>by rwa [I.iF hy hq]⟩,P9,fun b hb=>(hf b hb).1⟩⟩
 done:=by
  intro X hP hw hK hc i pX s Y H E I hf st hg;subst hP hw hK;obtain ⟨xs,hq,hx⟩:=hg;obtain ⟨AP,rv,p,hz⟩:=I.tuple hq;obtain ⟨f0,f1,f2,f3,f4,f5⟩:=hf it cr;let hl:=rv.length;exact wpAny_pyNext_tuple_end (I.ok.hd hc) st (show s.heap.IsTuple a AP.toArray from p) (by simp;omega) fun h' eb=>⟨rfl,I.turned (t':=s.toks) (fun b o hb e=>eb b o hb e) f0 f1 f3 f4 f5⟩
 self:=fun _ _ _ _ _ st h=>wpAny_pyIter_tupleiter st h
def acq {K:Frag}(it:AO)(lo:Int)(n:Nat):Turn P w K tg (TC lo n) [it] it (fun i h=>IsRangeIter h it (lo+(i:Nat)*1) ((n:Int)-(i:Nat)) 1) where
 mem:=by simp
 obj:=fun i h st b hb=>by
  let e:b=it:=by simpa using hb
  subst e
  show ⟨_,st,fun v z=>by
   let z':Data.fields _=Data.cell v:=z
   cases z'⟩
 keep:=fun i h h' st k=>k it cr _ st
 item:=by
  intro X hP hw hK hc i pX s Y H E I hf st hg;subst hP hw hK;obtain ⟨f0,f1,f2,f3,f4,f5⟩:=hf it cr;let W:=Walks.range (prog:=X.prog) (w:=X.w) (I.ok.hd hc) it lo 1 n;refine W.item i s _ _ hg st fun v h' tk hv P9 kk=>?_;obtain ⟨t,rfl⟩:=hv;let I1:Inv X pX Y H {s with heap:=h',toks:=tk}:=I.turned (fun b o hb e=>kk b o (by simpa using hb) e) f0 f1 f3 f4 f5;show ⟨_,rfl,Na (s:={s with heap:=h',toks:=tk}) (n:="range_iterator") P9 rfl rfl ce ⟨.int (lo+i),H,I1,⟨t,?_⟩,⟨rfl,rfl⟩,P9,fun b hb=>(hf b hb).1⟩⟩;rw [Int.mul_one]
 done:=by
  intro X hP hw hK hc i pX s Y H E I hf st hg;subst hP hw hK;obtain ⟨f0,f1,f2,f3,f4,f5⟩:=hf it cr;exact wpAny_pyNext_range_end (I.ok.hd hc) st (by have:n<=i:=hg;omega) fun h' eb=>⟨rfl,I.turned (t':=s.toks) (fun b o hb e=>eb b o hb e) f0 f1 f3 f4 f5⟩
 self:=fun _ _ _ _ _ st h=>wpAny_pyIter_rangeiter st h
section
variable {X:Cx}{tg:Expr}
inductive Nb (K:Frag)(R:(It->Hp->Prop))(x:V)(H1:Hp):Prop
|mk (a:_)(_:x=.ref a)(_:(∃xs,aV K H1 a xs))(_:R (QQ K a) H1)
def TF (K:Frag)(tl:TE):TI:=fun Y H R=>tl Y H fun x H1=>Nb K R x H1
inductive TH (K:Frag)(R:(It->Hp->Prop))(x:V)(H1:Hp):Prop
|mk (a:_)(_:x=.ref a)(_:(∃xs,bL K H1 a xs))(_:R (σ3 K a) H1)
def agy (K:Frag)(tl:TE):TI:=fun Y H R=>tl Y H fun x H1=>TH K R x H1
def bw (hl:PE X l tl):PI X tg l (TF X.K tl):=by
 intro pX s Y H R I h;refine cU (hl pX s Y H _ I h) fun v s1 ⟨x,H1,I1,r1,q1⟩=>?_;obtain ⟨a,e,⟨xs,hq⟩,q⟩:=q1;subst e;cases r1;obtain ⟨AP,rv,p,hz⟩:=I1.list hq;refine EX p.isList ?_;show ⟨s1.heap.objs.size,[s1.heap.objs.size],_,_,H1,rfl,I1.kept (t':=s1.toks) fun b o e=>DI _ e,abc a _,⟨_,Kt _ rfl,rfl,rfl⟩,fun b hb=>?_,q⟩;let e:b=s1.heap.objs.size:=by simpa using hb
 subst e;exact I1.rj (BW _) (I1.bY.fresh (BW _))
def adR (hl:PE X l tl):PI X tg l (agy X.K tl):=by
 intro pX s Y H R I h;refine cU (hl pX s Y H _ I h) fun v s1 ⟨x,H1,I1,r1,q1⟩=>?_;obtain ⟨a,e,⟨xs,hq⟩,q⟩:=q1;subst e;cases r1;obtain ⟨AP,rv,p,hz⟩:=I1.tuple hq;refine wpAny_pyIter_tuple (show s1.heap.IsTuple a AP.toArray from p) ?_;show ⟨s1.heap.objs.size,[s1.heap.objs.size],_,_,H1,rfl,I1.kept (t':=s1.toks) fun b o e=>DI _ e,kvs a _,⟨_,Kt _ rfl,rfl,rfl⟩,fun b hb=>?_,q⟩;let e:b=s1.heap.objs.size:=by simpa using hb
 subst e;exact I1.rj (BW _) (I1.bY.fresh (BW _))
def afK {Y:St}{E:γ}{lo hi:Int}(I:Inv X pX Y H s)(h1: -(2^62)<=lo)(h2:lo<2^62)(h3: -(2^62)<=hi)(h4:hi<2^62)
  (q:R (TC lo (hi-lo).toNat) H):AV (BC X.prog X.w) X.A (pyIter (.ref s.heap.objs.size)) (PIE X pX Y tg R) E {s with heap:=s.heap.push {cls:=.type "range",data:=.fields #[.int lo t,.int hi u,.int 1 v]},toks:=tk}:=by
 refine wpAny_pyIter_range (IsRange.new ..) (small_one h1 h2 h3 h4) ?_;let I1:Inv X pX Y H {s with heap:=s.heap.push {cls:=.type "range",data:=.fields #[.int lo t,.int hi u,.int 1 v]},toks:=tk}:=I.kept fun b o e=>DI _ e
 show ⟨(s.heap.push {cls:=.type "range",data:=.fields #[.int lo t,.int hi u,.int 1 v]}).objs.size,[(s.heap.push {cls:=.type "range",data:=.fields #[.int lo t,.int hi u,.int 1 v]}).objs.size],_,_,H,rfl,
  I1.kept (t':=tk) fun b o e=>DI _ e,acq _ lo (hi-lo).toNat,?_,fun b hb=>?_,q⟩
 ·let e1:lo+((0:Nat):Int)*1=lo:=by simp
  let e2:(((hi-lo).toNat:Nat):Int)-((0:Nat):Int)=Builtin.Range.rangeSize lo hi 1:=by rw [rangeSize_one];split<;>omega
  show IsRangeIter _ _ (lo+((0:Nat):Int)*1) ((((hi-lo).toNat:Nat):Int)-((0:Nat):Int)) 1;rw [e1,e2];exact Kt _ rfl
 ·let e:b=(s.heap.push {cls:=.type "range",data:=.fields #[.int lo t,.int hi u,.int 1 v]}).objs.size:=by simpa using hb
  subst e;exact I1.rj (BW _) (I1.bY.fresh (BW _))
inductive Nf (R:(It->Hp->Prop))(vs:ε)(H1:Hp):Prop
|mk (j:Int)(_:vs=[.int j])(_: -(2^62)<=j)(_:j<2^62)(_:R (TC 0 j.toNat) H1)
def ahM (ta:TA):TI:=fun Y H R=>ta Y H fun vs H1=>Nf R vs H1
def cp (hg:Gl X "range")(hm:X.mg "range"=none)(ha:PA X [a] ta)(hs:CZ [a] X.env=[(false,CB a X.env)]:=by rfl):PI X tg (.Call (.Name "range" p) [a] [] pos) (ahM ta):=by
 intro pX s Y H R I h;refine Call_ (jD I hg hm boot_range (WN (cU (ha pos pX s Y H _ I h) fun us s1 ⟨vs,H1,I1,r1,q1⟩=>?_) hs rfl));obtain ⟨j,e,q1,q2,q⟩:=q1;subst e;cases r1 with
 | cons r rr=>
  cases rr;obtain ⟨t,rfl⟩:=r;exact call_range_1 (afK I1 bv bv q1 q2 (by simpa using q))
def agz (wi:TI)(g:TG)(tb:TS):TS:=fun D Y H=>wi Y H fun J H1=>∃W:Nat->Nat->St->Hp->Prop,(∃m,W 0 m Y H1)/\∀i m Y H,W i m Y H->
 (J.stop i H/\D.nx Y H)\/(J.go i H/\∃N:St->Hp->Prop,(∀Y' H',N Y' H' ->∃m',m'<m/\W (i+1) m' Y' H')/\∀x H',J.M_ i H x H' ->g x Y H' fun Y2 H2=>tb {D with nx:=N,ct:=N,bk:=D.nx} Y2 H2)
def rl (fp:Β)(h:Heap):List (AO×Obj):=fp.filterMap fun b=>(h.get? b).map fun o=>(b,o)
def i6 (hb:b∈fp)(e:h.get? b=some o):(b,o)∈rl fp h:=ahP.mpr ⟨b,hb,by rw [e];rfl⟩
def abe (hp:p∈rl fp h):p.1∈fp/\h.get? p.1=some p.2:=by
 obtain ⟨b,hb,e⟩:=ahP.mp hp;cases q:h.get? b with
 | none=>erw [q] at e
 | some o=>
  rw [q] at e;let e':(b,o)=p:=C_ e;subst e';show ⟨hb,q⟩
def Inv.pinned {Y:St}(I:Inv X pX Y H s)(hf:∀b∈fp,oi X pX H b)(ho:∀b∈fp,∃o,s.heap.get? b=some o/\∀v,o.data≠.cell v):Inv X (pX++rl fp s.heap) Y H s:=
 I.EV fun p hp=>(DL.mp hp).elim (fun z=>I.pin p (Ma _ z)) fun z=>by
  obtain ⟨hb,e⟩:=abe z;obtain ⟨f0,f1,f2,_⟩:=hf p.1 hb;obtain ⟨o,e',d⟩:=ho p.1 hb;erw [e] at e';show ⟨e,f0,f1,f2,d⟩
def Inv.jG {Y:St}(I:Inv X (pX++pl) Y H s):Inv X pX Y H s:=I.EV fun p hp=>I.pin p (Ma _ (M3 _ hp))
def bJ (hp:PassesOwn (BC X.prog X.w) X.A X.env X.xe)(hc:X.calm=true)(hi:PI X tg iter wi)(hg:PG X tg g)(hb:vf X body tb)
  (hs:∀x,QK iter X.env x=pure x:=by intro _;rfl):PS X (.For tg iter body [] pos) (agz wi g tb):=by
 intro pX s Y H D I h;refine wpAny_For (cU (hi pX s Y H _ I h) fun v s1 h1=>cU h1 fun itv s2 h2=>?_) hs;obtain ⟨it,fp,tn,J,H2,e,I2,T,oa,f2,W,⟨m0,w0⟩,turn⟩:=h2;subst e;let stat:∀{H':Hp},(∀b∈fp,H' b=none)->∀b∈fp,oi X pX H' b:=fun hn b hb=>⟨hn b hb,(f2 b hb).2⟩;refine codeAny_forLoop_any (fun n s'=>∃i Y' H',Inv X pX Y' H' s'/\tn i s'.heap/\(∀b∈fp,H' b=none)/\W i n Y' H') ?_ m0 ⟨0,Y,H2,I2,oa,fun b hb=>(f2 b hb).1,w0⟩;rintro n s3 ⟨i,Y3,H3,I3,P_,Yk,w3⟩
 rcases turn i n Y3 H3 w3 with ⟨stop,qn⟩|⟨go,N,hN,step⟩
 ·refine Sg hp (cU (T.done X rfl rfl rfl hc i pX s3 Y3 H3 X.xe I3 (stat Yk) P_ stop) fun r s4 ⟨hr,I4⟩=>?_)
  subst hr;exact xM ⟨Y3,H3,I4,qn⟩
 ·refine Sg hp (cU (T.item X rfl rfl rfl hc i pX s3 Y3 H3 X.xe I3 (stat Yk) P_ go) fun r s4 ⟨u,hr,h4⟩=>?_)
  subst hr;refine Sg hp (cU h4 fun _ s5 ⟨x,H5,I5,r5,y5,MT,Yl⟩=>?_);let I5':=I5.pinned (stat Yl) (T.obj _ _ MT);refine Sg hp (cU (hg _ s5 Y3 H5 x u _ I5' r5 (step x H5 y5)) fun _ s6 ⟨Y6,H6,I6,q6⟩=>?_);refine Sg hp (cU (hb _ s6 Y6 H6 _ I6 q6) fun f s7 q7=>?_)
  let again:∀{Y7:St} {H7:Hp},Inv X (pX++rl fp s5.heap) Y7 H7 s7->N Y7 H7->∃m,m<n/\∃i Y' H',Inv X pX Y' H' s7/\tn i s7.heap/\(∀b∈fp,H' b=none)/\W i m Y' H':=fun {Y7 H7} I7 n7=>by
   obtain ⟨m',hm,w7⟩:=hN Y7 H7 n7;show ⟨m',hm,i+1,Y7,H7,I7.jG,T.keep _ _ _ MT fun b hb o e=>(I7.pin (b,o) (Ma _ (Ma _ (i6 hb e)))).1,fun b hb=>?_,w7⟩;obtain ⟨o,e,d⟩:=T.obj _ _ MT b hb;exact (I7.pin (b,o) (Ma _ (Ma _ (i6 hb e)))).2.1
  cases f with
  | next=>obtain ⟨Y7,H7,I7,n7⟩:=q7;exact again I7 n7
  | cont=>obtain ⟨Y7,H7,I7,n7⟩:=q7;exact again I7 n7
  | brk=>obtain ⟨Y7,H7,I7,q7⟩:=q7;show ⟨Y7,H7,I7.jG,q7⟩
  | ret v=>obtain ⟨x7,Y7,H7,I7,r7,q7⟩:=q7;show ⟨x7,Y7,H7,I7.jG,r7,q7⟩
end
def cC {K:Frag}{g:TG}{tb:TS}{D:Ends}(Pv:Nat->St->Hp->Prop)(h0:Pv 0 Y H)(hl:∀i Y H,i<=xs.length->Pv i Y H->aV K H a xs)
  (hs:∀i x Y H,xs[i]?=some x->Pv i Y H->g x Y H fun Y2 H2=>tb {D with nx:=Pv (i+1),ct:=Pv (i+1),bk:=D.nx} Y2 H2) (hd:∀Y H,Pv xs.length Y H->D.nx Y H):
  ∃W:Nat->Nat->St->Hp->Prop,(∃m,W 0 m Y H)/\∀i m Y H,W i m Y H->
   ((QQ K a).stop i H/\D.nx Y H)\/((QQ K a).go i H/\∃N:St->Hp->Prop,(∀Y' H',N Y' H' ->∃m',m'<m/\W (i+1) m' Y' H')/\∀x H',(QQ K a).M_ i H x H' ->g x Y H' fun Y2 H2=>tb {D with nx:=N,ct:=N,bk:=D.nx} Y2 H2):=by
 show ⟨fun i m Y H=>m=xs.length-i/\i<=xs.length/\Pv i Y H,⟨xs.length,by simp,JS _,h0⟩,?_⟩;rintro i m Y H ⟨rfl,hi,p⟩;let q:=hl i Y H hi p;by_cases oj:i<xs.length
 ·refine .inr ⟨⟨xs,xs[i],q,by simp [oj]⟩,Pv (i+1),fun Y' H' p'=>⟨xs.length-(i+1),ga oj,rfl,oj,p'⟩,fun x H' y=>?_⟩
  obtain ⟨e,y⟩:=y;subst e;exact hs i x Y _ (y xs q) p
 ·let e:i=xs.length:=ol hi oj
  subst e;exact .inl ⟨⟨xs,q,BW _⟩,hd Y H p⟩
def ahY {K:Frag}{g:TG}{tb:TS}{D:Ends}(Pv:Nat->St->Hp->Prop)(h0:Pv 0 Y H)(hl:∀i Y H,i<=xs.length->Pv i Y H->bL K H a xs)
  (hs:∀i x Y H,xs[i]?=some x->Pv i Y H->g x Y H fun Y2 H2=>tb {D with nx:=Pv (i+1),ct:=Pv (i+1),bk:=D.nx} Y2 H2) (hd:∀Y H,Pv xs.length Y H->D.nx Y H):
  ∃W:Nat->Nat->St->Hp->Prop,(∃m,W 0 m Y H)/\∀i m Y H,W i m Y H->
   ((σ3 K a).stop i H/\D.nx Y H)\/((σ3 K a).go i H/\∃N:St->Hp->Prop,(∀Y' H',N Y' H' ->∃m',m'<m/\W (i+1) m' Y' H')/\∀x H',(σ3 K a).M_ i H x H' ->g x Y H' fun Y2 H2=>tb {D with nx:=N,ct:=N,bk:=D.nx} Y2 H2):=by
 show ⟨fun i m Y H=>m=xs.length-i/\i<=xs.length/\Pv i Y H,⟨xs.length,by simp,JS _,h0⟩,?_⟩;rintro i m Y H ⟨rfl,hi,p⟩;let q:=hl i Y H hi p;by_cases oj:i<xs.length
 ·refine .inr ⟨⟨xs,xs[i],q,by simp [oj]⟩,Pv (i+1),fun Y' H' p'=>⟨xs.length-(i+1),ga oj,rfl,oj,p'⟩,fun x H' y=>?_⟩
  obtain ⟨e,y⟩:=y;subst e;exact hs i x Y _ (y xs q) p
 ·let e:i=xs.length:=ol hi oj
  subst e;exact .inl ⟨⟨xs,q,BW _⟩,hd Y H p⟩
def cJ {lo:Int}{g:TG}{tb:TS}{D:Ends}(Pv:Nat->St->Hp->Prop)(h0:Pv 0 Y H)
  (hs:∀i Y H,i<n->Pv i Y H->g (.int (lo+i)) Y H fun Y2 H2=>tb {D with nx:=Pv (i+1),ct:=Pv (i+1),bk:=D.nx} Y2 H2) (hd:∀Y H,Pv n Y H->D.nx Y H):
  ∃W:Nat->Nat->St->Hp->Prop,(∃m,W 0 m Y H)/\∀i m Y H,W i m Y H->
   ((TC lo n).stop i H/\D.nx Y H)\/((TC lo n).go i H/\∃N:St->Hp->Prop,(∀Y' H',N Y' H' ->∃m',m'<m/\W (i+1) m' Y' H')/\∀x H',(TC lo n).M_ i H x H' ->g x Y H' fun Y2 H2=>tb {D with nx:=N,ct:=N,bk:=D.nx} Y2 H2):=by
 show ⟨fun i m Y H=>m=n-i/\i<=n/\Pv i Y H,⟨n,by simp,JS _,h0⟩,?_⟩;rintro i m Y H ⟨rfl,hi,p⟩;by_cases oj:i<n
 ·refine .inr ⟨oj,Pv (i+1),fun Y' H' p'=>⟨n-(i+1),ga oj,rfl,oj,p'⟩,fun x H' y=>?_⟩
  obtain ⟨e,y⟩:=y;subst e y;exact hs i Y _ oj p
 ·let e:i=n:=ol hi oj
  subst e;exact .inl ⟨BW _,hd Y H p⟩
def xP (Pv:St->Hp->Prop)(μ:St->Hp->Nat)(h0:Pv Y H)
  (hs:∀Y H,Pv Y H->c Y H fun b H1=>if b=true then tb {D with nx:=fun Y' H'=>Pv Y' H'/\μ Y' H' < μ Y H,ct:=fun Y' H'=>Pv Y' H'/\μ Y' H' < μ Y H,bk:=D.nx} Y H1 else D.nx Y H1)
  (mono:∀Y H Q Q',(∀b H1,Q b H1->Q' b H1)->c Y H Q->c Y H Q'):M9 c tb D Y H:=by
 show ⟨fun m Y H=>m=μ Y H/\Pv Y H,⟨_,rfl,h0⟩,?_⟩;rintro m Y H ⟨rfl,p⟩;refine mono Y H _ _ (fun b H1 q=>?_) (hs Y H p);cases b with
 | true=>show ⟨_,fun Y' H' ⟨p',l⟩=>⟨_,l,rfl,p'⟩,q⟩
 | false=>exact q
abbrev R2:=V->V->Hp->VK->Prop
def kD (X:Cx)(f:Value->Value->Sem Value)(r:R2):Prop:=
 ∀(pX:η)(s:BR)(Y:St)(H:Hp)(x y:V)(v u:Value)(Q:VK),Inv X pX Y H s->RelV x v->RelV y u->r x y H Q->
  AV (BC X.prog X.w) X.A (f v u) (EP X pX Y Q) X.xe s
def UnR (X:Cx)(f:Value->Sem Value)(r:V->Hp->VK->Prop):Prop:=
 ∀(pX:η)(s:BR)(Y:St)(H:Hp)(x:V)(v:Value)(Q:VK),Inv X pX Y H s->RelV x v->r x H Q->
  AV (BC X.prog X.w) X.A (f v) (EP X pX Y Q) X.xe s
def fu (X:Cx)(f:Value)(r:List V->Hp->VK->Prop):Prop:=
 ∀(pX:η)(s:BR)(Y:St)(H:Hp)(xs:ε)(us:ς)(Q:VK),Inv X pX Y H s->Vals xs us->r xs H Q->
  AV (BC X.prog X.w) X.A (call f us) (EP X pX Y Q) X.xe s
def QS (r:R2)(ta tb:TE):TE:=fun Y H Q=>ta Y H fun x H1=>tb Y H1 fun y H2=>r x y H2 Q
def tUn (r:V->Hp->VK->Prop)(ta:TE):TE:=fun Y H Q=>ta Y H fun x H1=>r x H1 Q
inductive rI (C:Int->Int->Prop)(g:Int->Int->V)(x:V)(y:V)(H:Hp)(Q:VK):Prop
|mk (i j:_)(_:x=.int i)(_:y=.int j)(_:C i j)(_:Q (g i j) H)
inductive TJ (g:Int->Int->V)(x:V)(y:V)(H:Hp)(Q:VK):Prop
|mk (i j:_)(_:x=.int i)(_:y=.int j)(_:Q (g i j) H)
inductive rU (g:Int->V)(x:V)(H:Hp)(Q:VK):Prop
|mk (i:_)(_:x=.int i)(_:Q (g i) H)
section
variable {X:Cx}{a b c:Expr}{ta tb tc:TE}{pos:Pos}
def VA (ha:PE X a ta)(hb:PE X b tb){Y:St}{R:V->V->Hp->Prop}(I:Inv X pX Y H s)
  (h:ta Y H fun x H1=>tb Y H1 fun y H2=>R x y H2) {Q:γ} {f:Value->Value->Sem Value}
  (hf:∀v u s2 x y H2,Inv X pX Y H2 s2->RelV x v->RelV y u->R x y H2->AV (BC X.prog X.w) X.A (f v u) Q X.xe s2):
  AV (BC X.prog X.w) X.A (CB a X.env) (fun v tD=>AV (BC X.prog X.w) X.A (CB b X.env) (fun u uq=>AV (BC X.prog X.w) X.A (f v u) Q X.xe uq) X.xe tD) X.xe s:=by
 refine cU (ha pX s Y H _ I h) fun v s1 ⟨x,H1,I1,r1,q1⟩=>?_;refine cU (hb pX s1 Y H1 _ I1 q1) fun u s2 ⟨y,H2,I2,r2,q2⟩=>?_;exact hf v u s2 x y H2 I2 r1 r2 q2
def aH (ho:kD X (NR op) r)(ha:PE X a ta)(hb:PE X b tb):PE X (.BinOp a op b pos) (QS r ta tb):=by
 intro pX s Y H Q I h;exact wpAny_BinOp (VA ha hb I h fun v u s2 x y H2 I2 rx ry q=>ho pX s2 Y H2 x y v u Q I2 rx ry q)
def uB (ho:UnR X (unaryOp op) r)(ha:PE X a ta):PE X (.UnaryOp op a pos) (tUn r ta):=by
 intro pX s Y H Q I h;exact UnaryOp_ (cU (ha pX s Y H _ I h) fun v s1 ⟨x,H1,I1,r1,q1⟩=>ho pX s1 Y H1 x v Q I1 r1 q1)
def opI {g:Int->Int->Int}
  (rule:∀(i j:Int)(t u:Tok)(s:BR)(Q:γ)(E:γ),C i j->Q (.int (g i j) s.toks) {s with toks:=s.toks+1}->AV (BC X.prog X.w) X.A (f (.int i t) (.int j u)) Q E s):
  kD X f (rI C fun i j=>.int (g i j)):=by
 intro pX s Y H x y v u Q I rx ry h;obtain ⟨i,j,rfl,rfl,hc,q⟩:=h;obtain ⟨t,rfl⟩:=rx;obtain ⟨t',rfl⟩:=ry;exact rule i j t t' s _ _ hc ⟨.int (g i j),H,I.tok _,⟨_,rfl⟩,q⟩
def σ5 {g:Int->Int->Int}
  (rule:∀(i j:Int)(t u:Tok)(s:BR)(Q:γ)(E:γ),Q (.int (g i j) s.toks) {s with toks:=s.toks+1}->AV (BC X.prog X.w) X.A (f (.int i t) (.int j u)) Q E s):
  kD X f (TJ fun i j=>.int (g i j)):=by
 intro pX s Y H x y v u Q I rx ry h;obtain ⟨i,j,rfl,rfl,q⟩:=h;obtain ⟨t,rfl⟩:=rx;obtain ⟨t',rfl⟩:=ry;exact rule i j t t' s _ _ ⟨.int (g i j),H,I.tok _,⟨_,rfl⟩,q⟩
def VB {g:Int->Int->Bool}
  (rule:∀(i j:Int)(t u:Tok)(s:BR)(Q:γ)(E:γ),Q (.bool (g i j)) s->AV (BC X.prog X.w) X.A (f (.int i t) (.int j u)) Q E s):
  kD X f (TJ fun i j=>.bl (g i j)):=by
 intro pX s Y H x y v u Q I rx ry h;obtain ⟨i,j,rfl,rfl,q⟩:=h;obtain ⟨t,rfl⟩:=rx;obtain ⟨t',rfl⟩:=ry;exact rule i j t t' s _ _ ⟨.bl (g i j),H,I,rfl,q⟩
def bV:kD X (NR .Add) (TJ fun i j=>.int (i+j)):=σ5 fun _ _ _ _ _ _ _ q=>add_int q
def dc:kD X (NR .Sub) (TJ fun i j=>.int (i-j)):=σ5 fun _ _ _ _ _ _ _ q=>sub_int q
def agb:kD X (NR .Mod) (rI (fun _ j=>j≠0) fun i j=>.int (i.fmod j)):=opI fun _ _ _ _ _ _ _ hc q=>mod_int' hc q
def unI {g:Int->Int}
  (rule:∀(i:Int)(t:Tok)(s:BR)(Q:γ)(E:γ),Q (.int (g i) s.toks) {s with toks:=s.toks+1}->AV (BC X.prog X.w) X.A (f (.int i t)) Q E s):
  UnR X f (rU fun i=>.int (g i)):=by
 intro pX s Y H x v Q I rx h;obtain ⟨i,rfl,q⟩:=h;obtain ⟨t,rfl⟩:=rx;exact rule i t s _ _ ⟨.int (g i),H,I.tok _,⟨_,rfl⟩,q⟩
def om:UnR X (unaryOp .USub) (rU fun i=>.int (-i)):=unI fun _ _ _ _ _ q=>neg_int q
end
def σ6:V->V->Bool
 | .cL,.cL=>true | .cL,.int _=>true | .int _,.cL=>true | .cL,.bl _=>true | .bl _,.cL=>true | .cL,.str _=>true | .str _,.cL=>true
 | .int _,.int _=>true | .bl _,.bl _=>true | .str _,.str _=>true | .xm _,.xm _=>true
 | .int _,.str _=>true | .str _,.int _=>true | .bl _,.str _=>true | .str _,.bl _=>true
 | _,_=>false
def rEq:R2:=fun x y H Q=>σ6 x y=true/\Q (.bl (decide (x=y))) H
def rNe:R2:=fun x y H Q=>σ6 x y=true/\Q (.bl (!decide (x=y))) H
def adP :decide (V.int i=V.int j)=(i==j):=by
 rw [Rc];simp
def Ng :decide (V.bl i=V.bl j)=(i==j):=by
 rw [Rc];simp
def adO :decide (V.str i=V.str j)=(i==j):=by
 rw [Rc];simp
def adL :decide (V.xm i=V.xm j)=(i.toList==j.toList):=by
 rw [Rc];cases i;cases j;simp
section
variable {X:Cx}{a b c:Expr}{ta tb tc:TE}{pos:Pos}
def bS {Y:St}(I:Inv X pX Y H s)(q:Q (.bl k) H)(e:k=k'):EP X pX Y Q (.bool k') s:=by
 subst e;show ⟨.bl k,H,I,rfl,q⟩
def cZ:kD X (Mb .Eq) rEq:=by
 intro pX s Y H x y v u Q I rx ry h;obtain ⟨hs,q⟩:=h;cases x with
 | cL=>
  cases rx;cases y with
  | cL=>cases ry;exact PySem.EqNone.eq_none_none (bS I q cr)
  | bl j=>cases ry;exact PySem.EqNone.eq_none_bool (bS I q cr)
  | int j=>obtain ⟨t',rfl⟩:=ry;exact PySem.EqNone.eq_none_int (bS I q cr)
  | str j=>obtain ⟨t',rfl⟩:=ry;exact PySem.EqNone.eq_none_str (bS I q cr)
  | _=>exact BH (show false=true from hs) JP
 | bl i=>
  cases rx;cases y with
  | cL=>cases ry;exact PySem.EqNone.eq_bool_none (bS I q cr)
  | bl j=>cases ry;exact eq_bool (bS I q Ng)
  | str j=>obtain ⟨t',rfl⟩:=ry;exact PySem.EqMixed.eq_bool_str (bS I q cr)
  | _=>exact BH (show false=true from hs) JP
 | int i=>
  obtain ⟨t,rfl⟩:=rx;cases y with
  | cL=>cases ry;exact PySem.EqNone.eq_int_none (bS I q cr)
  | int j=>obtain ⟨t',rfl⟩:=ry;exact eq_int (bS I q adP)
  | str j=>obtain ⟨t',rfl⟩:=ry;exact PySem.EqMixed.eq_int_str (bS I q cr)
  | _=>exact BH (show false=true from hs) JP
 | str i=>
  obtain ⟨t,rfl⟩:=rx;cases y with
  | cL=>cases ry;exact PySem.EqNone.eq_str_none (bS I q cr)
  | bl j=>cases ry;exact PySem.EqMixed.eq_str_bool (bS I q cr)
  | int j=>obtain ⟨t',rfl⟩:=ry;exact PySem.EqMixed.eq_str_int (bS I q cr)
  | str j=>obtain ⟨t',rfl⟩:=ry;exact eq_str (bS I q adO)
  | _=>exact BH (show false=true from hs) JP
 | xm i=>
  obtain ⟨t,rfl⟩:=rx;cases y with
  | xm j=>obtain ⟨t',rfl⟩:=ry;exact PySem.W.eq_bytes (bS I q adL)
  | _=>exact BH (show false=true from hs) JP
 | _=>cases y<;>exact BH (show false=true from hs) JP
def jo:kD X (Mb .NotEq) rNe:=by
 intro pX s Y H x y v u Q I rx ry h;obtain ⟨hs,q⟩:=h;cases x with
 | cL=>
  cases rx;cases y with
  | cL=>cases ry;exact PySem.EqNone.ne_none_none (bS I q cr)
  | bl j=>cases ry;exact PySem.EqNone.ne_none_bool (bS I q cr)
  | int j=>obtain ⟨t',rfl⟩:=ry;exact PySem.EqNone.ne_none_int (bS I q cr)
  | str j=>obtain ⟨t',rfl⟩:=ry;exact PySem.EqNone.ne_none_str (bS I q cr)
  | _=>exact BH (show false=true from hs) JP
 | bl i=>
  cases rx;cases y with
  | cL=>cases ry;exact PySem.EqNone.ne_bool_none (bS I q cr)
  | bl j=>cases ry;exact ne_bool (bS I q (ud not Ng))
  | str j=>obtain ⟨t',rfl⟩:=ry;exact PySem.EqMixed.ne_bool_str (bS I q cr)
  | _=>exact BH (show false=true from hs) JP
 | int i=>
  obtain ⟨t,rfl⟩:=rx;cases y with
  | cL=>cases ry;exact PySem.EqNone.ne_int_none (bS I q cr)
  | int j=>obtain ⟨t',rfl⟩:=ry;exact ne_int (bS I q (ud not adP))
  | str j=>obtain ⟨t',rfl⟩:=ry;exact PySem.EqMixed.ne_int_str (bS I q cr)
  | _=>exact BH (show false=true from hs) JP
 | str i=>
  obtain ⟨t,rfl⟩:=rx;cases y with
  | cL=>cases ry;exact PySem.EqNone.ne_str_none (bS I q cr)
  | bl j=>cases ry;exact PySem.EqMixed.ne_str_bool (bS I q cr)
  | int j=>obtain ⟨t',rfl⟩:=ry;exact PySem.EqMixed.ne_str_int (bS I q cr)
  | str j=>obtain ⟨t',rfl⟩:=ry;exact ne_str (bS I q (ud not adO))
  | _=>exact BH (show false=true from hs) JP
 | xm i=>
  obtain ⟨t,rfl⟩:=rx;cases y with
  | xm j=>obtain ⟨t',rfl⟩:=ry;exact PySem.W.ne_bytes (bS I q (ud not adL))
  | _=>exact BH (show false=true from hs) JP
 | _=>cases y<;>exact BH (show false=true from hs) JP
def rm:kD X (Mb .Lt) (TJ fun i j=>.bl (decide (i<j))):=VB fun _ _ _ _ _ _ _ q=>lt_int q
def uC:kD X (Mb .Gt) (TJ fun i j=>.bl (decide (j<i))):=VB fun _ _ _ _ _ _ _ q=>gt_int q
def TK:kD X (Mb .GtE) (TJ fun i j=>.bl (decide (j<=i))):=VB fun _ _ _ _ _ _ _ q=>ge_int q
def AQ:kD X (Mb .Is) (fun x y H Q=>y=.cL/\Q (.bl (decide (x=.cL))) H):=by
 intro pX s Y H x y v u Q I rx ry h;obtain ⟨rfl,q⟩:=h;cases ry;refine is_none_gen (bS I q ?_)
 cases x<;>first
  | (cases rx;rfl)
  | (obtain ⟨t,rfl⟩:=rx;rfl)
def afy:kD X (Mb .IsNot) (fun x y H Q=>y=.cL/\Q (.bl (!decide (x=.cL))) H):=by
 intro pX s Y H x y v u Q I rx ry h;obtain ⟨rfl,q⟩:=h;cases ry;refine isnot_none_gen (bS I q ?_)
 cases x<;>first
  | (cases rx;rfl)
  | (obtain ⟨t,rfl⟩:=rx;rfl)
def iz (b:Expr)(h:op≠.In:=by decide)(h2:op≠.NotIn:=by decide):Se op b=false:=by
 let e1:(op==CmpOp.In)=false:=by cases op<;>first|rfl|exact BH rfl h
 let e2:(op==CmpOp.NotIn)=false:=by cases op<;>first|rfl|exact BH rfl h2
 cases b<;>simp [Se,e1,e2]
def fw (ho:kD X (Mb op) r)(ha:PE X a ta)(hb:PE X b tb)(hm:Se op b=false):PE X (.Compare a [op] [b] pos) (QS r ta tb):=by
 intro pX s Y H Q I h;exact wpAny_Compare1 (VA ha hb I h fun v u s2 x y H2 I2 rx ry q=>ho pX s2 Y H2 x y v u Q I2 rx ry q) hm
inductive Nh (Q:(Bool->Hp->Prop))(x:V)(H':Hp):Prop
|mk (k:_)(_:x=.bl k)(_:Q k H')
def TL (t:TE):TT:=fun Y H Q=>t Y H fun x H'=>Nh Q x H'
def my (ho:kD X (Mb op) r)(ha:PE X a ta)(hb:PE X b tb)(hm:Se op b=false):PT X (.Compare a [op] [b] pos) (TL (QS r ta tb)):=by
 intro pX s Y H Q I h
 refine wpAny_isTrue_Compare1 (cU (ha pX s Y H _ I h) fun v s1 ⟨x,H1,I1,r1,q1⟩=>cU (hb pX s1 Y H1 _ I1 q1) fun u s2 ⟨y,H2,I2,r2,q2⟩=>
  cU (ho pX s2 Y H2 x y v u _ I2 r1 r2 q2) fun c s3 ⟨z,H3,I3,r3,k,e,q3⟩=>?_) hm
 subst e;cases r3;exact Vx ⟨H3,I3,q3⟩
def rn:(BL:Nat)<2^63:=by rw [Ws];decide
def gR:kD X (NR .Add) (fun x y H Q=>∃i j,x=.str i/\y=.str j/\i.length+j.length<=BL/\Q (.str (i++j)) H):=by
 intro pX s Y H x y v u Q I rx ry h;obtain ⟨i,j,rfl,rfl,hz,q⟩:=h;obtain ⟨t,rfl⟩:=rx;obtain ⟨t',rfl⟩:=ry;exact add_str (fun t' tk=>⟨.str (i++j),H,I.tok _,⟨_,rfl⟩,q⟩) hz
def vals1 {us:ς}(r:Vals [x] us):∃u,us=[u]/\RelV x u:=by
 cases r with
 | cons r1 r2=>cases r2;show ⟨_,rfl,r1⟩
def vals2 {us:ς}(r:Vals [x,y] us):∃u w',us=[u,w']/\RelV x u/\RelV y w':=by
 cases r with
 | cons r1 r2=>
  cases r2 with
  | cons r3 r4=>cases r4;show ⟨_,_,rfl,r1,r3⟩
def xQ:fu X (.builtin "abs") (fun xs H Q=>∃i,xs=[.int i]/\Q (.int (if i<0 then -i else i)) H):=by
 intro pX s Y H xs us Q I r h;obtain ⟨i,rfl,q⟩:=h;obtain ⟨u,rfl,t,rfl⟩:=vals1 r;exact call_abs_int fun u tk=>⟨.int (if i<0 then -i else i),H,I.tok _,⟨_,rfl⟩,q⟩
def acC (hc:X.calm=true):fu X (.builtin "min") (fun xs H Q=>∃i j,xs=[.int i,.int j]/\Q (.int (if j<i then j else i)) H):=by
 intro pX s Y H xs us Q I r h;obtain ⟨i,j,rfl,q⟩:=h;obtain ⟨u,w',rfl,⟨t,rfl⟩,⟨t',rfl⟩⟩:=vals2 r;refine min_two_ints (I.ok.hd hc) fun h' tk k=>⟨_,H,I.kept k,?_,q⟩;by_cases hj:j<i
 ·rw [tu hj,tu hj];show ⟨_,rfl⟩
 ·rw [qA hj,qA hj];show ⟨_,rfl⟩
def uD:fu X (.type "int") (fun xs H Q=>(∃i,xs=[.int i]/\Q (.int i) H)\/∃k,xs=[.bl k]/\Q (.int (if k then 1 else 0)) H):=by
 intro pX s Y H xs us Q I r h
 rcases h with ⟨i,rfl,q⟩|⟨k,rfl,q⟩
 ·obtain ⟨u,rfl,t,rfl⟩:=vals1 r
  exact call_int_int ⟨.int i,H,I,⟨_,rfl⟩,q⟩
 ·obtain ⟨u,rfl,r1⟩:=vals1 r
  cases r1;exact call_int_bool ⟨.int (if k then 1 else 0),H,I.tok _,⟨_,rfl⟩,q⟩
def i7:fu X (.type "str") (fun xs H Q=>∃i,xs=[.int i]/\i.natAbs.log2<1920/\Q (.str (toString i)) H):=by
 intro pX s Y H xs us Q I r h;obtain ⟨i,rfl,hz,q⟩:=h;obtain ⟨u,rfl,t,rfl⟩:=vals1 r;exact PySem.P.str_of_int hz ⟨.str _,H,I.tok _,⟨_,rfl⟩,q⟩
end
structure AR (h:Heap)(x dx C:AO)(mA:ν):Prop where
 obj:h.get? x=some (Nk C dx)
 ns:h.Ns1 dx mA
 ne:dx≠x
def aco {h:Heap}{mA:ν}(n:h.Ns1 dx mA):∃od,h.get? dx=some od/\∀name,yD name od=some (mA name):=by
 obtain ⟨o,es,ep,ho,hd,hk,_,hm⟩:=n;show ⟨o,ho,fun name=>?_⟩;let e:=hm name;unfold nsFind findBy at e;rw [<-Array.find?_toList] at e;unfold yD;rw [hd];dsimp only;split
 ·rename_i y q
  rw [q] at e;exact ud some e
 ·rename_i q
  rw [q] at e
  let a:es.toList.any (·.refKey)=false:=by
   rw [List.any_eq_false];intro y hy;obtain ⟨z,t,VC⟩:=hk y (Array.mem_toList_iff.mp hy);simp [DictEntry.refKey,VC]
  let a':¬ es.toList.any (·.refKey)=true:=by rw [a];exact JP
  rw [qA a'];exact ud some e
def AR.look (I:AR h x dx C mA):∃od,PySem.W.InstAt h x (Nk C dx) C (some od)/\∀name,yD name od=some (mA name):=
 let ⟨od,ho,hl⟩:=aco I.ns
 ⟨od,⟨I.obj,rfl,rfl,ho⟩,hl⟩
section
variable {prog:DN}{w:World}{A:JD}{E:γ}{s:BR}{K:Frag}{x dx C f:AO}{mA:ν}{name:Str}{v:Value}
def get_map {Q:γ}(X:K.In s.heap)(I:AR s.heap x dx C mA)(hg:Rp K C name=true)(hh:Si K C=true)
  (ha:JY K (.ref C) name=some none) (hv:mA name=some v) (Qa :PySem.W.handedIn v=true) (h:Q v {s with toks:=s.toks+1}):
  AV (BC prog w) A (getAttr (.ref x) name expr) Q E s:=by
 obtain ⟨od,J,hl⟩:=I.look;exact PySem.W.get_value X J (PySem.W.plainGet_of hg).1 (PySem.W.findObj_own hh ha rfl (by rw [hl,hv])) Qa h
def adF (X:K.In s.heap)(I:AR s.heap x dx C mA)(hg:Rp K C name=true)
  (hf:JY K (.ref C) name=some (some (.ref f))) (ht:ZG K (.ref f)=true) (hv:mA name=none) (h:Q (.ref f,[.ref x]) s):
  AV (BC prog w) A (getMethod (.ref x) name pl) Q E s:=by
 obtain ⟨od,J,hl⟩:=I.look;exact PySem.W.method_fn X J (PySem.W.plainGet_of hg).1 (PySem.W.plainGet_of hg).2 hf (beq_iff_eq.mp ht) (by show (yD name od).map (·.isSome)=some false;rw [hl,hv];rfl) h
def afV {ns:τ}(X:K.In s.heap)(I:AR s.heap x dx C mA)
  (hs:JY K (.ref C) "__setattr__"=some (some (.builtin "object.__setattr__"))) (hp:Vt K C=true) (ht:PySem.W.takerIn K C name=some none) (hh:Si K C=true)
  (hw:PySem.Within mA ns) (hsz:ns.length<=BL)
  (h:∀h',AR h' x dx C (fun y=>if y=name then some v else mA y)->ZI dx s.heap h' ->Q () {s with heap:=h',toks:=s.toks+2}):
  AV (BC prog w) A (setAttr (.ref x) name v) Q E s:=by
 obtain ⟨od,J,hl⟩:=I.look;refine PySem.W.set_plain X J hs (PySem.W.osa_open (s:={s with toks:=s.toks+1}) (r:=none) X J hp ht fun b=>?_);obtain ⟨cd,hc,Tu⟩:=PySem.W.any_some hh;let hx:s.heap.get? x=some ⟨.ref C,some dx,.plain, #[]⟩:=I.obj;refine AZ (CK (AZ (AZ (wpAny_loadPart hx (AZ (PySem.W.Looks.here (s:={s with toks:=s.toks+1}) (PySem.W.looks_clsIn X hc) ?_))))));rw [Tu];refine CK (a:=some dx) (AZ (CK (AZ ?_)));refine wpAny_nsSet1 (s:={s with toks:=s.toks+1}) I.ns fun h' Qb Qc=>?_;obtain ⟨oD,esD,epD,hoD,hdD,hcD⟩:=Qb.count (PySem.Within.cons name v hw);refine AZ (wpAny_lookBehind hoD (by rw [hdD];exact pastItsLine_dict (BX hcD (by rw [L7];omega))) ?_);exact CK (h _ ⟨(Qc.2 _ (CA I.ne)).trans I.obj,Qb,I.ne⟩ Qc)
def adE {R:Τ}{vs:ς}{kw:Χ}(X:K.In s.heap)(hm:Rj K C=true)
  (hi:JY K (.ref C) "__init__"=some (some (.ref f))) (hf:PySem.W.typeIn K (.ref f)=some (.type "function"))
  (h:N6 (BC prog w) (A.under (.builtin "type.__call__" ⟨.ref C::vs,kw⟩)) (.call (.ref f) ⟨.ref (s.heap.objs.size+1)::vs,kw⟩) (PySem.W.InitBack (s.heap.objs.size+1) R)
   {s with heap:=(s.heap.push Nl).push (Nk C s.heap.objs.size)}):
  N6 (BC prog w) A (.call (.ref C) ⟨vs,kw⟩) R s:=by
 obtain ⟨hh,g,d,t,os⟩:=s;exact PySem.W.make_core (PySem.W.makes_of X hm) (PySem.W.looks_findIn X hi) (fun self=>PySem.W.bind_fn X self hf) (.inl rfl) h
def zai {R:Τ}(X:K.In s.heap)(hm:Rj K C=true)
  (hi:JY K (.ref C) "__init__"=some (some (.builtin "object.__init__")))
  (hb:∀self,PySem.W.Looks (BC prog w) s.heap (bindSpecial (.builtin "object.__init__") self) (.builtin "object.__init__",[self]))
  (h:N6 (BC prog w) (A.under (.builtin "type.__call__" ⟨[.ref C],[]⟩)) (.call (.builtin "object.__init__") ⟨[.ref (s.heap.objs.size+1)],[]⟩) (PySem.W.InitBack (s.heap.objs.size+1) R)
   {s with heap:=(s.heap.push Nl).push (Nk C s.heap.objs.size)}):
  N6 (BC prog w) A (.call (.ref C) ⟨[],[]⟩) R s:=by
 obtain ⟨hh,g,d,t,os⟩:=s;exact PySem.W.make_core (PySem.W.makes_of X hm) (PySem.W.looks_findIn X hi) hb (.inr ⟨rfl,rfl⟩) h
end
def fB (f:Str)(v:V):List (Str×V)->List (Str×V)
 | []=>[(f,v)]
 | (g,x)::r=>if g=f then (g,v)::r else (g,x)::fB f v r
theorem pG (f g:Str)(v:V):∀fs:List (Str×V),(fB f v fs).lookup g=if g=f then some v else fs.lookup g
 | []=>by
  show OV g [(f,v)]=_;by_cases h:g=f
  ·let hb:(g==f)=true:=beq_iff_eq.mpr h
   simp only [OV,hb,tu h]
  ·let hb:(g==f)=false:=beq_eq_false_iff_ne.mpr h
   simp only [OV,hb,qA h]
 | (k,x)::r=>by
  let ih:=pG f g v r;rw [show fB f v ((k,x)::r)=(if k=f then (k,v)::r else (k,x)::fB f v r) from rfl];by_cases hk:k=f
  ·rw [tu hk]
   by_cases h:g=k
   ·let hb:(g==k)=true:=beq_iff_eq.mpr h
    simp only [OV,hb,tu (h.trans hk)]
   ·let hb:(g==k)=false:=beq_eq_false_iff_ne.mpr h
    simp only [OV,hb,qA (fun e:g=f=>h (e.trans hk.symm))]
  ·rw [qA hk]
   by_cases h:g=k
   ·let hb:(g==k)=true:=beq_iff_eq.mpr h
    simp only [OV,hb,qA (fun e:g=f=>hk (h.symm.trans e))]
   ·let hb:(g==k)=false:=beq_eq_false_iff_ne.mpr h
    simp only [OV,hb];exact ih
theorem oq (f:Str)(v:V):∀fs:List (Str×V),f∈(fB f v fs).map (·.1)/\∀g,g∈fs.map (·.1)->g∈(fB f v fs).map (·.1)
 | []=>⟨by simp [fB],fun g h=>by simp at h⟩
 | (k,x)::r=>by
  obtain ⟨i1,i2⟩:=oq f v r;rw [show fB f v ((k,x)::r)=(if k=f then (k,v)::r else (k,x)::fB f v r) from rfl];by_cases hk:k=f
  ·rw [tu hk]
   subst hk;show ⟨by simp,fun g h=>by simpa using h⟩
  ·rw [qA hk]
   show ⟨?_,fun g h=>?_⟩
   ·rw [BS]
    exact DM _ i1
   ·rw [BS] at h ⊢
    rcases JC.mp h with e|e
    ·exact JC.mpr (.inl e)
    ·exact DM _ (i2 g e)
theorem pH (f:Str)(v:V):∀fs:List (Str×V),(fB f v fs).length<=fs.length+1
 | []=>by simp [fB]
 | (k,x)::r=>by
  let ih:=pH f v r;rw [show fB f v ((k,x)::r)=(if k=f then (k,v)::r else (k,x)::fB f v r) from rfl];by_cases hk:k=f
  ·rw [tu hk,L7,L7];omega
  ·rw [qA hk,L7,L7];omega
def iZ.some_of (r:iZ (some v) o):∃u,o=some u/\RelV v u:=by
 cases o with
 | none=>exact (show False from r).elim
 | some u=>show ⟨u,rfl,r⟩
def iZ.none_of (r:iZ none o):o=none:=by
 cases o with
 | none=>rfl
 | some u=>exact (show False from r).elim
def acf (r:RelV v u):PySem.W.handedIn u=true:=by
 cases v with
 | cL=>cases (show u=Value.none from r);rfl
 | bl b=>cases (show u=Value.bool b from r);rfl
 | int i=>obtain ⟨t,e⟩:=(show ∃t,u=Value.int i t from r);cases e;rfl
 | str x=>obtain ⟨t,e⟩:=(show ∃t,u=Value.str x t from r);cases e;rfl
 | xm b=>obtain ⟨t,e⟩:=(show ∃t,u=Value.bytes b t from r);cases e;rfl
 | Vn b=>obtain ⟨t,e⟩:=(show ∃t,u=Value.float b t from r);cases e;rfl
 | ref a=>cases (show u=Value.ref a from r);rfl
 | ty n=>cases (show u=Value.type n from r);rfl
section
variable {P:DN}{w:World}{H H':Hp}{h h':Heap}{a C dx:AO}{fs fs':List (Str×V)}
def qF (bY:kN P w H h)(e:H a=some (.ins C dx fs)):∃mA,AR h a dx C mA/\(∀f,iZ (fs.lookup f) (mA f))/\PySem.Within mA (fs.map (·.1))/\fs.length<=1000/\H dx=some (.own a):=by
 obtain ⟨d,z,ne,ob,mA,n,r,q⟩:=(show df P w H h a (.ins C dx fs) from bY a _ e);show ⟨mA,⟨ob,n,ne⟩,r,q,z,d⟩
end
structure xR (K:Frag)(C:AO):Prop where
 pg:Rp K C Str.empty=true
 hd:Si K C=true
 po:Vt K C=true
 sa:JY K (.ref C) "__setattr__"=some (some (.builtin "object.__setattr__"))
def xR.get {K:Frag}(c:xR K C)(f:Str):Rp K C f=true:=c.pg
def gS (K:Frag)(C:AO)(f:Str):Prop:=JY K (.ref C) f=some none
def gS.σ7 {K:Frag}(n:gS K C f):PySem.W.takerIn K C f=some none:=by
 unfold PySem.W.takerIn;rw [show JY K (.ref C) f=some none from n];rfl
structure Meth (K:Frag)(C:AO)(m:Str)(f:AO):Prop where
 at_:JY K (.ref C) m=some (some (.ref f))
 fn:ZG K (.ref f)=true
 kp:keepIn K (.ref f)=true
section
variable {X:Cx}{pX:η}{Y:St}{H:Hp}{s:BR}{a C dx:AO}{fs:List (Str×V)}{f:Str}{v:V}{A:JD}{E:γ}
def lead {Q:γ}(I:Inv X pX Y H s)(e:H a=some (.ins C dx fs))(c:xR X.K C)(n:gS X.K C f)(l:fs.lookup f=some v)
  (h:∀u s',Inv X pX Y H s' ->RelV v u->Q u s'):AV (BC X.prog X.w) A (getAttr (.ref a) f b) Q E s:=by
 obtain ⟨mA,O,r,_,_,_⟩:=qF I.bY e;obtain ⟨u,hu,ru⟩:=iZ.some_of (v:=v) (o:=mA f) (by rw [<-l];exact r f);exact get_map I.lh O (c.get f) c.hd n hu (acf ru) (h u _ (I.tok _) ru)
def lj (I:Inv X pX Y H s)(e:H a=some (.ins C dx fs))(c:xR X.K C)(k:Meth X.K C m g)(l:fs.lookup m=none)
  (h:Q (.ref g,[.ref a]) s):AV (BC X.prog X.w) A (getMethod (.ref a) m pl) Q E s:=by
 obtain ⟨mA,O,r,_,_,_⟩:=qF I.bY e;let hn:mA m=none:=iZ.none_of (by rw [<-l];exact r m);exact adF I.lh O (c.get m) k.at_ k.fn hn h
def aaf (I:Inv X pX Y H s)(e:H a=some (.ins C dx fs))(c:xR X.K C)(n:gS X.K C f)(hl:fs.length<1000)(ry:RelV y u)
  (h:∀s',Inv X pX Y (upd H a (.ins C dx (fB f y fs))) s' ->Q () s'):AV (BC X.prog X.w) A (setAttr (.ref a) f u) Q E s:=by
 obtain ⟨mA,O,r,wi,_,ho⟩:=qF I.bY e;let hz:(fs.map (·.1)).length<=BL:=by rw [AU,Ws];omega
 refine afV I.lh O c.sa c.po n.σ7 c.hd wi hz fun h' O' sb=>h _ ?_;let hd:∃o,h'.get? dx=some o:=let ⟨o,_,_,e',_⟩:=O'.ns;⟨o,e'⟩;refine I.write (x:=a) (e:=dx) (by rw [e];exact True.intro) (.inr ho) (fun b q hb z=>(sb.2 b hb).trans z) hd ?_;show ⟨by rwa [ak O.ne],?_,O.ne,O'.obj,_,O'.ns,fun g=>?_,fun g hg=>?_⟩
 ·have:=pH f y fs;omega
 ·show iZ ((fB f y fs).lookup g) (if g=f then some u else mA g)
  rw [pG];by_cases q:g=f
  ·rwa [tu q,tu q]
  ·rw [qA q,qA q];exact r g
 ·by_cases q:g=f
  ·rw [q];exact (oq f y fs).1
  ·refine (oq f y fs).2 g (wi g fun z=>hg ?_)
   show (if g=f then some u else mA g)=none;rwa [qA q]
def Inv.made (I:Inv X pX Y H s):Inv X pX Y (upd (upd H s.heap.objs.size (.own (s.heap.objs.size+1))) (s.heap.objs.size+1) (.ins C s.heap.objs.size []))
  {s with heap:=(s.heap.push Nl).push (Nk C s.heap.objs.size)}:=by
 let e1:(s.heap.push Nl).get? s.heap.objs.size=some Nl:=Kt s.heap rfl
 let e2:((s.heap.push Nl).push (Nk C s.heap.objs.size)).get? (s.heap.objs.size+1)=some (Nk C s.heap.objs.size):=by
  have:=Kt (s.heap.push Nl) (o:=Nk C s.heap.objs.size) rfl
  rwa [RC] at this
 let e3:(s.heap.push Nl).Ns s.heap.objs.size (fun _=>none):=⟨Nl, #[],_,e1,rfl,(fun e he=>BH he cr),fun _=>rfl⟩;let I1:=I.laid (a:=s.heap.objs.size) (o:=.own (s.heap.objs.size+1)) (h':=s.heap.push Nl) (t':=s.toks) (fun b u q=>DI _ q) (BW _) ⟨_,e1⟩;refine I1.laid (a:=s.heap.objs.size+1) (o:=.ins C s.heap.objs.size []) (t':=s.toks) (fun b u q=>DI _ q) (tm (RC _ _)) ?_;let ne:s.heap.objs.size≠s.heap.objs.size+1:=JK (NZ _);show ⟨by rw [ak ne,aj],JS _,ne,e2,fun _=>none,(Heap.Ns1.of_empty e3).at fun o q=>DI _ q,fun _=>True.intro,fun y hy=>BH rfl hy⟩
def afN {Q:γ}(hb:Sd e f env (CB e env)=CB e env)
  (h:AV (BC prog w) A (CB e env) (fun o tD=>AV (BC prog w) A (getAttr o f true) Q E tD) E s):AV (BC prog w) A (CB (.Attribute e f pos) env) Q E s:=
 Attribute_any_ h (by rw [arm_eval_Attribute,hb])
end
inductive TM (K:Frag)(f:Str)(Q:VK)(x:V)(H1:Hp):Prop
|mk (a C dx fs v:_)(_:x=.ref a)(_:H1 a=some (.ins C dx fs))(_:xR K C)(_:gS K C f)(_:fs.lookup f=some v)(_:Q v H1)
def agB (K:Frag)(ta:TE)(f:Str):TE:=fun Y H Q=>ta Y H fun x H1=>TM K f Q x H1
inductive TN (K:Frag)(f:Str)(D:Ends)(Y:St)(y:V)(x:V)(H2:Hp):Prop
|mk (a C dx fs:_)(_:x=.ref a)(_:H2 a=some (.ins C dx fs))(_:xR K C)(_:gS K C f)(_:fs.length<1000)(_:D.nx Y (upd H2 a (.ins C dx (fB f y fs))))
def agC (K:Frag)(ta tv:TE)(f:Str):TS:=fun D Y H=>tv Y H fun y H1=>ta Y H1 fun x H2=>TN K f D Y y x H2
section
variable {X:Cx}{o e value:Expr}{f:Str}{pos pos' vm:Pos}{ta tv:TE}
def de (he:PE X e ta)(hb:Sd e f X.env (CB e X.env)=CB e X.env):PE X (.Attribute e f pos) (agB X.K ta f):=by
 intro pX s Y H Q I h;refine afN hb (cU (he pX s Y H _ I h) fun u s1 ⟨x,H1,I1,rx,a,C,dx,fs,v,ex,ea,c,n,l,q⟩=>?_);subst ex;obtain rfl:u=Value.ref a:=rx;exact lead I1 ea c n l fun u' s2 I2 ru=>⟨v,H1,I2,ru,q⟩
def vn (ha:PE X o ta)(hv:PE X value tv)(hs:QJ value (some (.Attribute o f pos')) pos.line X.env=pure false):PS X (.Assign [.Attribute o f pos'] value pos) (agC X.K ta tv f):=by
 intro pX s Y H D I h;refine plainObj_wpAny_Assign_Attribute (cU (hv pX s Y H _ I h) fun u s1 ⟨y,H1,I1,ry,q⟩=>cU (ha pX s1 Y H1 _ I1 q) fun ov s2 ⟨x,H2,I2,rx,a,C,dx,fs,ex,ea,c,n,l,q2⟩=>?_) hs;subst ex;obtain rfl:ov=Value.ref a:=rx;exact aaf I2 ea c n l ry fun s3 I3=>⟨Y,_,I3,q2⟩
end
section
variable {X:Cx}{pX:η}{Y:St}{H:Hp}{s:BR}{A:JD}{E:γ}{Q:γ}{c:Value}{b:Bool}
inductive ou (K:Frag)(H:Hp):V->Value->Prop where
 | cL:ou K H .cL (.type "NoneType")
 | bl (x:Bool):ou K H (.bl x) (.type "bool")
 | int (i:Int):ou K H (.int i) (.type "int")
 | str (x:Str):ou K H (.str x) (.type "str")
 | Vn (x:UInt64):ou K H (.Vn x) (.type "float")
 | lst {a:AO} {xs:ε} (e:H a=some (.lst xs)):ou K H (.ref a) (.type "list")
 | gP {a:AO} {o:Obj} {xs:ε} (e:H a=some (.gP o (.lst xs))):ou K H (.ref a) (.type "list")
 | tup {a:AO} {xs:ε} (e:H a=some (.tup xs)):ou K H (.ref a) (.type "tuple")
 | dK {a:AO} {AN:δ} (e:H a=some (.dK AN)):ou K H (.ref a) (.type "dict")
 | dT {a:AO} {AN:Θ} (e:H a=some (.dT AN)):ou K H (.ref a) (.type "dict")
 | ins {a C dx:AO} {fs:List (Str×V)} (e:H a=some (.ins C dx fs)) (cl:xR K C) (ha:JY K (.ref C) "__class__"=some (some (.builtin "object.__class__")))
   (hn:PySem.W.specialIn K (.builtin "object.__class__") "__get__"=some (some (.builtin "getset_descriptor.__get__"))) (htk:PySem.W.takesIn K (.builtin "object.__class__")=some true)
   (hm:PySem.W.mroIn K C (.type "object")=some true):ou K H (.ref a) (.ref C)
def acM (I:Inv X pX Y H s)(rx:RelV x u)(ty:ou X.K H x t)(e:NU X.K t c=some b)(h:∀tk,Q (.bool b) {s with toks:=tk}):
  AV (BC X.prog X.w) A (call (.builtin "isinstance") [u,c]) Q E s:=by
 cases ty with
 | cL=>cases (show u=Value.none from rx);exact OY PySem.W.kitx_none I.lh True.intro e (fun z=>nomatch z) h
 | bl y=>cases (show u=Value.bool y from rx);exact OY PySem.W.kitx_bool I.lh True.intro e (fun z=>nomatch z) h
 | int i=>obtain ⟨t,q⟩:=(show ∃t,u=Value.int i t from rx);cases q;exact OY PySem.W.kitx_int I.lh True.intro e (fun z=>nomatch z) h
 | str y=>obtain ⟨t,q⟩:=(show ∃t,u=Value.str y t from rx);cases q;exact OY PySem.W.kitx_str I.lh True.intro e (fun z=>nomatch z) h
 | Vn y=>obtain ⟨t,q⟩:=(show ∃t,u=Value.float y t from rx);cases q;exact OY PySem.W.kitx_float I.lh True.intro e (fun z=>nomatch z) h
 | @lst a xs ea=>
  cases (show u=Value.ref a from rx);obtain ⟨_,_,n,_,h1⟩:=(show df X.prog X.w H s.heap a (.lst xs) from I.bY a _ ea);exact OY PySem.W.kitx_list I.lh ⟨_,h1,rfl⟩ e (fun z=>nomatch z) h
 | @gP a ob xs ea=>
  cases (show u=Value.ref a from rx);obtain ⟨_,_,_,n,_,h1⟩:=(show df X.prog X.w H s.heap a (.gP ob (.lst xs)) from I.bY a _ ea);exact OY PySem.W.kitx_list I.lh ⟨_,h1,rfl⟩ e (fun z=>nomatch z) h
 | @tup a xs ea=>
  cases (show u=Value.ref a from rx);obtain ⟨_,_,_,p⟩:=(show df X.prog X.w H s.heap a (.tup xs) from I.bY a _ ea);obtain ⟨o,h1,h2,_⟩:=p;exact OY PySem.W.kitx_tuple I.lh ⟨o,h1,h2⟩ e (fun z=>nomatch z) h
 | @dK a AN ea=>
  cases (show u=Value.ref a from rx);obtain ⟨_,_,vs,_,p⟩:=(show df X.prog X.w H s.heap a (.dK AN) from I.bY a _ ea);obtain ⟨o,es,ep,h1,h2,_⟩:=p;exact OY PySem.W.kitx_dict I.lh ⟨o,h1,h2.1⟩ e (fun z=>nomatch z) h
 | @dT a AN ea=>
  cases (show u=Value.ref a from rx);obtain ⟨_,_,xs,_,o,es,ep,h1,h2,_⟩:=(show df X.prog X.w H s.heap a (.dT AN) from I.bY a _ ea);exact OY PySem.W.kitx_dict I.lh ⟨o,h1,h2.1⟩ e (fun z=>nomatch z) h
 | @ins a C dx fs ea cl ha hn htk hm=>
  cases (show u=Value.ref a from rx);obtain ⟨mA,O,_⟩:=qF I.bY ea;obtain ⟨od,J,_⟩:=O.look;exact OY (PySem.W.kitx_own (cl.get _) cl.hd ha hn htk hm) I.lh J e (fun z=>nomatch z) h
end
structure cG (k:Nat)(A:JD):Prop where
 hd:A.handled=none
 dp:A.depth+3*k+5<yC
 un:A.units+16*k+200<LY
def cG.mono (r:cG k A)(h:j<=k):cG j A:=⟨r.hd,by have:=r.dp;omega,by have:=r.un;omega⟩
theorem cG.deeper (r:cG (k+1) A)(env:Env):cG k (A.deeper env):=
 ⟨r.hd,by have:=r.dp;show A.depth+1+3*k+5<_;omega,by have:=r.un;show A.units+3+16*k+200<_;omega⟩
def acy {A:JD}{us:ς}{kw:Χ}:(A.under (.builtin "type.__call__" ⟨.ref C::us,kw⟩)).depth=A.depth+1:=by
 first|rfl|simp [Around.under,Code.weight,Code.isCreation,Code.isGuard,Code.isCaller,Code.frames,Code.isFrame,guardIds]
def aal {A:JD}{us:ς}{kw:Χ}:(A.under (.builtin "type.__call__" ⟨.ref C::us,kw⟩)).units=A.units+1:=by
 first|rfl|simp [Around.under,Code.cUnits,Code.frames,Code.isFrame]
def cG.make (r:cG (k+1) A)(C:AO)(us:ς)(kw:Χ):cG k (A.under (.builtin "type.__call__" ⟨.ref C::us,kw⟩)):=
 ⟨r.hd,by have:=r.dp;rw [acy];omega,by have:=r.un;rw [aal];omega⟩
theorem cG.depth (r:cG k A):A.depth<yC:=by have:=r.dp;omega
theorem cG.units (r:cG k A):A.units+64<LY:=by have:=r.un;omega
def eG:TA:=fun _ H Q=>Q [] H
def pI (ta:TE)(tr:TA):TA:=fun Y H Q=>ta Y H fun x H1=>tr Y H1 fun xs H2=>Q (x::xs) H2
section
variable {X:Cx}{e:Expr}{es:Δ}{te:TE}{t:TA}{pos:Pos}
def iA:PA X [] eG:=fun _ _ _ _ H Q I h=>EW ⟨[],H,I,.nil,h⟩
def af6 (ha:PE X e te)(hr:PA X es t)(hs:CZ (e::es) X.env=(false,CB e X.env)::CZ es X.env:=by rfl):PA X (e::es) (pI te t):=by
 intro pos pX s Y H Q I h;rw [hs];show AV _ _ (spliced ((false,CB e X.env)::Ku pos (CZ es X.env))) _ _ s;refine ZP (cU (ha pX s Y H _ I h) fun u s1 ⟨x,H1,I1,r1,q1⟩=>?_);exact cU (hr pos pX s1 Y H1 _ I1 q1) fun us s2 ⟨xs,H2,I2,r2,q2⟩=>⟨x::xs,H2,I2,.cons r1 r2,q2⟩
def agD (t:TA):TE:=fun Y H Q=>t Y H fun xs H1=>xs.length<=BL/\∀p,H1 p=none->Q (.ref p) (upd H1 p (.tup xs))
def agE (t:TA):TE:=fun Y H Q=>t Y H fun xs H1=>xs.length<=BL/\∀p,H1 p=none->Q (.ref p) (upd H1 p (.lst xs))
def aZ (h:PA X es t):PE X (.Tuple es x1 pos) (agD t):=by
 intro pX s Y H Q I hq;refine wpAny_Tuple_spliced (cU (h pos pX s Y H _ I hq) fun us s1 ⟨xs,H1,I1,r,z,q⟩=>⟨by rwa [<-r.length],?_⟩);let hf:H1 s1.heap.objs.size=none:=I1.bY.fresh (BW _);show ⟨.ref s1.heap.objs.size,upd H1 s1.heap.objs.size (.tup xs),I1.laid (t':=s1.toks) (fun b u e=>DI _ e) (BW _) ?_,rfl,q _ hf⟩;show ⟨z,us,r,⟨_,Kt _ rfl,rfl,_,rfl⟩⟩
def bW (h:PA X es t):PE X (.List es pos) (agE t):=by
 intro pX s Y H Q I hq;refine wpAny_List_spliced (cU (h pos pX s Y H _ I hq) fun us s1 ⟨xs,H1,I1,r,z,q⟩=>⟨by rwa [<-r.length],?_⟩);let hf:H1 s1.heap.objs.size=none:=I1.bY.fresh (BW _);show ⟨.ref s1.heap.objs.size,upd H1 s1.heap.objs.size (.lst xs),I1.laid (t':=s1.toks) (fun b u e=>DI _ e) (BW _) ?_,rfl,q _ hf⟩;show ⟨z,us,0,r,Kt _ rfl⟩
end
abbrev Sp:=List V->Hp->VK->XK->Prop
abbrev mi:=List Env->Hp->BR->XK->Value->BR->Prop
structure AX (P:DN)(w:World)(K:Frag)(mg:ν)(qf:Heap)(A:JD)(qw:List Env)(s:BR)(H:Hp):Prop where
 frames:A.frames=some qw
 mod:Mod K mg qf
 bs:∀b o,qf.get? b=some o->s.heap.get? b=some o/\H b=none
 QL:qf.objs.size<=s.heap.objs.size
 qh:s.heap.FunFrames qf qw
 Vq:∀b∈ET qw,H b=none
 bY:kN P w H s.heap
 bare:Q4 s.gens
def CE (qw:List Env)(P:DN)(w:World)(H:Hp)(s:BR)(Q:VK)(u:Value)(s':BR):Prop:=
 ∃v H',s'.os=s.os/\Q4 s'.gens/\Un (ET qw) [] H H' s.heap s'.heap/\kN P w H' s'.heap/\RelV v u/\Q v H'
def CR (CX:mi)(qw:List Env)(P:DN)(w:World)(H:Hp)(s:BR)(Q:VK)(E:XK)(r:Result)(s':BR):Prop:=
 match r with
 | .ok (.ret u)=>CE qw P w H s Q u s'
 | .ok _=>False
 | .error e=>CX qw H s E e s'
structure dm (P:DN)(w:World)(K:Frag)(mg:ν)(qf:Heap)(CX:mi)(k:Nat)(f:AO)(fd:FuncData)(ps:τ)(sp:Sp):Prop where
 len:∀vs H Q E,sp vs H Q E->vs.length=ps.length
 run:∀(A:JD)(qw:List Env)(s:BR)(H:Hp)(args:Args)(us:ς)(vs:ε)(Q:VK)(E:XK),cG k A->AX P w K mg qf A qw s H->BindsTo s fd args (ps.zip us)->Vals vs us->sp vs H Q E->
  N6 (BC P w) A (.call (.ref f) args) (CR CX qw P w H s Q E) s
theorem dm.mono {K:Frag}(F:dm P w K mg qf CX j f fd ps sp)(h:j<=k):
  dm P w K mg qf CX k f fd ps sp:=⟨F.len,fun A qw s H args us vs Q E hr=>F.run A qw s H args us vs Q E (hr.mono h)⟩
def dm.imp {K:Frag}(F:dm P w K mg qf CX k f fd ps sp)
  (h:∀vs H Q E,sp' vs H Q E->sp vs H Q E):dm P w K mg qf CX k f fd ps sp':=
 ⟨fun vs H Q E q=>F.len vs H Q E (h _ _ _ _ q),fun A qw s H args us vs Q E hr he hb hv hs=>F.run A qw s H args us vs Q E hr he hb hv (h _ _ _ _ hs)⟩
def AX.make {K:Frag}(e:AX P w K mg qf A qw s H)(C:AO)(us:ς)(kw:Χ):
  AX P w K mg qf (A.under (.builtin "type.__call__" ⟨.ref C::us,kw⟩)) qw s H:=⟨by first|exact e.frames|(simpa [Around.under,Code.envs,Code.isFrame,pushEnvs] using e.frames),e.mod,e.bs,e.QL,e.qh,e.Vq,e.bY,e.bare⟩
section
variable {X:Cx}{pX:η}{Y:St}{H:Hp}{s s':BR}
def Inv.σ8 (I:Inv X pX Y H s):AX X.prog X.w X.K X.mg X.qf X.A X.stack s H:=
 ⟨I.ok.frames,I.ok.mod,I.bs,BX I.ok.QL I.sz,I.stack,I.EU,I.bY,I.bare⟩
def Inv.after (I:Inv X pX Y H s)(h:CE X.stack X.prog X.w H s Q u s'):EP X pX Y Q u s':=by
 obtain ⟨v,H',os,bare,un,bY,r,q⟩:=h;obtain ⟨hh,g,d,t,os'⟩:=s';obtain rfl:os'=s.os:=os;show ⟨v,H',I.call (h':=hh) (g':=g) (d':=d) (t':=t) (ch:=[]) un bY bare (fun b z=>BH z cr),r,q⟩
end
def EZ (sp:Sp)(vg:ε)(E:XK)(t:TA):TE:=fun Y H Q=>t Y H fun vs H1=>sp (vs++vg) H1 Q E
def TQ (C:AO)(sp:Sp)(vg:ε)(E:XK)(t:TA):TE:=fun Y H Q=>t Y H fun vs H1=>∀x dx,H1 x=none->H1 dx=none->dx≠x->
 sp (.ref x::(vs++vg)) (upd (upd H1 dx (.own x)) x (.ins C dx [])) (fun v H2=>v=.cL/\Q (.ref x) H2) E
def Binds (K:Frag)(fd:FuncData)(ps:τ)(ds:ς):Prop:=
 ∀(s:BR)(us:ς),K.In s.heap->(us++ds).length=ps.length->BindsTo s fd ⟨us,[]⟩ (ps.zip (us++ds))
def Binds.all {K:Frag}(h:∀us:List Value,us.length=ps.length->bindArgs fd ⟨us,[]⟩=pure (ps.zip us)):Binds K fd ps []:=fun s us _ hl=>by
 rw [V_] at hl ⊢;exact .of_eq (h us hl)
def Passes (CX:mi)(X:Cx)(E:XK):Prop:=∀(pX:η)(Y:St)(H:Hp)(s:BR)(e:Value)(s':BR),Inv X pX Y H s->CX X.stack H s E e s' ->X.xe e s'
section
variable {X:Cx}{CX:mi}{k:Nat}{f C:AO}{fd:FuncData}{ps:τ}{sp:Sp}{vg:ε}{ds:ς}{E:XK}{x m:Str}{p pos apos:Pos}{e o:Expr}{es:Δ}{ta:TE}{t:TA}
def vo {Y:St}{us:ς}{vs:ε}(F:dm X.prog X.w X.K X.mg X.qf CX k f fd ps sp)(hr:cG k X.A)(hb:Binds X.K fd ps ds)(hd:Vals vg ds)(hx:Passes CX X E)
  (I:Inv X pX Y H s) (r:Vals vs us) (h:sp (vs++vg) H Q E):AV (BC X.prog X.w) X.A (call (.ref f) us) (EP X pX Y Q) X.xe s:=by
 let r2:Vals (vs++vg) (us++ds):=r.append hd;let hl:(us++ds).length=ps.length:=by rw [<-r2.length];exact F.len _ _ _ _ h
 refine wpAny_call (codeAny_mono (F.run X.A X.stack s H ⟨us,[]⟩ (us++ds) (vs++vg) Q E hr I.σ8 (hb s us I.lh hl) r2 h) fun r s' hq=>?_);cases r with
 | error e=>exact hx pX Y H s e s' I hq
 | ok fl=>
  cases fl with
  | ret u=>exact I.after hq
  | next=>exact False.elim hq
  | brk=>exact False.elim hq
  | cont=>exact False.elim hq
def af0 (F:dm X.prog X.w X.K X.mg X.qf CX k f fd ps sp)(hr:cG k X.A)(hg:Gl X x)(hm:X.mg x=some (.ref f))(hk:keepIn X.K (.ref f)=true)(hb:Binds X.K fd ps ds)(hd:Vals vg ds)(hx:Passes CX X E)
  (ha:PA X (e::es) t) (xS:(x==("__debug__":Str))=false:=by decide) (he:CZ (e::es) X.env=(false,CB e X.env)::CZ es X.env:=by rfl) (uE:(Ku pos (CZ es X.env)).any (·.1)=false:=by rfl):
  PE X (.Call (.Name x p) (e::es) [] pos) (EZ sp vg E t):=by
 intro pX s Y H Q I h;refine Vy (mq I hg hm ?_ xS);refine EY (h₀:=X.qf) I.ok.mod.Yj hk (cU (ha pos pX s Y H _ I h) fun us s1 ⟨vs,H1,I1,r,q⟩=>⟨I1.lh,?_⟩) he uE;exact vo F hr hb hd hx I1 r q
structure Mk (K:Frag)(C f:AO):Prop where
 makes:Rj K C=true
 init:JY K (.ref C) "__init__"=some (some (.ref f))
 fn:ZG K (.ref f)=true
 kp:keepIn K (.ref C)=true
def xT {Y:St}{us:ς}{vs:ε}(M:Mk X.K C f)(F:dm X.prog X.w X.K X.mg X.qf CX k f fd ps sp)(hr:cG (k+1) X.A)(hb:Binds X.K fd ps ds)(hd:Vals vg ds)
  (hx:Passes CX X E) (I:Inv X pX Y H s) (r:Vals vs us)
  (h:∀x dx,H x=none->H dx=none->dx≠x->sp (.ref x::(vs++vg)) (upd (upd H dx (.own x)) x (.ins C dx [])) (fun v H2=>v=.cL/\Q (.ref x) H2) E):
  AV (BC X.prog X.w) X.A (call (.ref C) us) (EP X pX Y Q) X.xe s:=by
 let hq:=h (s.heap.objs.size+1) s.heap.objs.size (I.bY.fresh (Xm _)) (I.bY.fresh (BW _)) (JK (NZ _));let I2:=Inv.made (C:=C) I;let r2:Vals (V.ref (s.heap.objs.size+1)::(vs++vg)) (Value.ref (s.heap.objs.size+1)::(us++ds)):=.cons rfl (r.append hd)
 let hl:(Value.ref (s.heap.objs.size+1)::us++ds).length=ps.length:=by
  let e:=r2.length;rw [F.len _ _ _ _ hq] at e;exact e.symm
 refine wpAny_call (adE (f:=f) I.lh M.makes M.init (beq_iff_eq.mp M.fn) (codeAny_mono (F.run _ X.stack _ _ ⟨Value.ref (s.heap.objs.size+1)::us,[]⟩ (Value.ref (s.heap.objs.size+1)::(us++ds)) _ _ E (hr.make C us [])
  (I2.σ8.make C us []) (hb _ (Value.ref (s.heap.objs.size+1)::us) I2.lh hl) r2 hq) fun r s' qi =>?_))
 cases r with
 | error e=>exact hx pX Y _ _ e s' I2 qi
 | ok fl=>
  cases fl with
  | ret u=>
   obtain ⟨v,H',I3,rv,ev,q3⟩:=I2.after qi;subst ev;show ⟨rv,⟨V.ref (s.heap.objs.size+1),H',I3,rfl,q3⟩⟩
  | next=>exact False.elim qi
  | brk=>exact False.elim qi
  | cont=>exact False.elim qi
def adG (M:Mk X.K C f)(F:dm X.prog X.w X.K X.mg X.qf CX k f fd ps sp)(hr:cG (k+1) X.A)(hg:Gl X x)(hm:X.mg x=some (.ref C))(hb:Binds X.K fd ps ds)(hd:Vals vg ds)(hx:Passes CX X E)
  (ha:PA X (e::es) t) (xS:(x==("__debug__":Str))=false:=by decide) (he:CZ (e::es) X.env=(false,CB e X.env)::CZ es X.env:=by rfl) (uE:(Ku pos (CZ es X.env)).any (·.1)=false:=by rfl):
  PE X (.Call (.Name x p) (e::es) [] pos) (TQ C sp vg E t):=by
 intro pX s Y H Q I h;refine Vy (mq I hg hm ?_ xS);refine EY (h₀:=X.qf) I.ok.mod.Yj M.kp (cU (ha pos pX s Y H _ I h) fun us s1 ⟨vs,H1,I1,r,q⟩=>⟨I1.lh,?_⟩) he uE;exact xT M F hr hb hd hx I1 r q
def acU (M:Mk X.K C f)(F:dm X.prog X.w X.K X.mg X.qf CX k f fd ps sp)(hr:cG (k+1) X.A)(hg:Gl X x)(hm:X.mg x=some (.ref C))(hb:Binds X.K fd ps ds)(hd:Vals vg ds)(hx:Passes CX X E)
  (xS:(x==("__debug__":Str))=false:=by decide):PE X (.Call (.Name x p) [] [] pos) (TQ C sp vg E eG):=by
 intro pX s Y H Q I h;refine Vy (mq I hg hm ?_ xS);exact PySem.W.callWith_K0 I.lh M.kp (xT (us:=[]) M F hr hb hd hx I .nil h)
end
structure aC (N P:τ)(sc:Scope):Prop where
 kind:sc.kind=.function
 co:sc.isCoroutine=false
 gen:sc.isGenerator=false
 nd:N.Nodup
 pre:N.take P.length=P
 par:∀x∈P,sc.names.lookup x=some .local\/sc.names.lookup x=some .cell
 VD:∀y∈sc.names,y.2≠.free
theorem uF {Ni:Str->Option NameKind}:∀{binds:Χ} {m:ν},(∀v,(x,v)∉binds)->bindL Ni binds m x=m x
 | [],_,_=>rfl
 | (n,v)::r,m,h=>by
  unfold bindL;rw [uF fun w hw=>h w (DM _ hw)];split
  ·have:x≠n:=by rintro rfl;exact h v CU
   simp [this]
  ·rfl
theorem uG {Ni:Str->Option NameKind}:∀{binds:Χ} {m:ν},(∀v,(x,v)∉binds)->bindC Ni binds m x=m x
 | [],_,_=>rfl
 | (n,v)::r,m,h=>by
  unfold bindC;rw [uG fun w hw=>h w (DM _ hw)];split
  ·rfl
  ·have:x≠n:=by rintro rfl;exact h v CU
   simp [this]
theorem uH {Ni:Str->Option NameKind}:∀{P:τ} {vs:ς} {i:Nat} {m:ν},P.Nodup->P[i]?=some x->vs[i]?=some v->Ni x=some .local->
  bindL Ni (P.zip vs) m x=some v
 | [],_,_,_,_,h,_,_=>by simp at h
 | _::_,[],_,_,_,_,h,_=>by simp at h
 | p::P,w::vs,0,m,nd,h1,h2,hk=>by
  simp at h1 h2;subst h1;subst h2;show bindL Ni ((p,w)::P.zip vs) m p=_;unfold bindL;rw [uF fun v hv=>(KC.mp nd).1 (ain hv).1,tu hk];simp
 | p::P,w::vs,i+1,m,nd,h1,h2,hk=>by
  show bindL Ni ((p,w)::P.zip vs) m x=_;unfold bindL;exact uH (i:=i) (KC.mp nd).2 (by simpa using h1) (by simpa using h2) hk
theorem uI {Ni:Str->Option NameKind}:∀{P:τ} {vs:ς} {i:Nat} {m:ν},P.Nodup->P[i]?=some x->vs[i]?=some v->Ni x≠some .local->
  bindC Ni (P.zip vs) m x=some v
 | [],_,_,_,_,h,_,_=>by simp at h
 | _::_,[],_,_,_,_,h,_=>by simp at h
 | p::P,w::vs,0,m,nd,h1,h2,hk=>by
  simp at h1 h2;subst h1;subst h2;show bindC Ni ((p,w)::P.zip vs) m p=_;unfold bindC;rw [uG fun v hv=>(KC.mp nd).1 (ain hv).1,qA hk];simp
 | p::P,w::vs,i+1,m,nd,h1,h2,hk=>by
  show bindC Ni ((p,w)::P.zip vs) m x=_;unfold bindC;exact uI (i:=i) (KC.mp nd).2 (by simpa using h1) (by simpa using h2) hk
def start (N:τ)(vs:ε):St:=vs.map some++DQ (N.length-vs.length) none
def mz (CX:mi)(P:DN)(w:World)(K:Frag)(mg:ν)(qf:Heap)(N:τ)(qual:Str)(scope:Scope)(f:AO)(cd:Value)(A:JD)(qw:List Env)(s:BR)(H:Hp)(E:XK):Cx where
 prog:=P
 w:=w
 K:=K
 mg:=mg
 qf:=qf
 A:=A.deeper (NS qual scope s.heap.objs.size f cd)
 N:=N
 uc:=s
 H₀:=H
 env:=NS qual scope s.heap.objs.size f cd
 qw:=qw
 stack:=NS qual scope s.heap.objs.size f cd::qw
 ex:=[]
 calm:=true
 fn:=fun _=>true
 pn:=[]
 xe:=fun e s'=>AV (BC P w) (A.deeper (NS qual scope s.heap.objs.size f cd)) (leaving (NS qual scope s.heap.objs.size f cd) e) (fun _ σ9 =>CX qw H s E e σ9) (fun e' σ9 =>CX qw H s E e' σ9) s'
def xU {sc:Scope}(h:sc.names.lookup x=some .cell):∃c,(cellsFrom n sc.names []).lookup x=some c:=by
 let q:=PySem.W.cellsFrom_some sc.names n [] (.inl h);exact ah5.mp q
def aa_ {K:Frag}{us:ς}{vs:ε}
  (S:aC N ps scope) (hd:A.handled=none) (e0:AX P w K mg qf A qw s H) (hl:vs.length=ps.length) (r:Vals vs us)
  (x:InCallC s s.heap.objs.size (bindL (NS qual scope s.heap.objs.size f cd).kindOf (ps.zip us) fun _=>none) (cellsFrom (s.heap.objs.size+1) scope.names []) (bindC (NS qual scope s.heap.objs.size f cd).kindOf (ps.zip us) fun _=>none) s1):
  Inv (mz CX P w K mg qf N qual scope f cd A qw s H E) [] (start N vs) H s1:=by
 let uE:ps.length<=N.length:=by have:=ud O3 S.pre;rw [JT] at this;omega
 obtain ⟨h1,tk,rfl,hk⟩:=x.done;let Y_:∀b:AO,b∉(mz CX P w K mg qf N qual scope f cd A qw s H E).ex:=fun b z=>BH (show b∈([]:List AO) from z) cr
 show ⟨⟨e0.mod,S.kind,rfl,rfl,BW _,fun y z c h1 h2=>?_,fun y hy=>?_,fun y c _ h=>?_,fun _=>hd,Around.frames_deeper e0.frames,.inr ⟨rfl,rfl⟩,fun b z=>BH z (Y_ b),e0.bs,e0.QL,fun b _ _=>Y_ b,fun b z=>BH z (Y_ b),e0.qh,e0.Vq⟩,
  rfl,e0.bare,Un.kept hk,⟨_,x.toInCall.ns,fun i y v h1 h2 h3=>?_⟩,fun y c h=>⟨_,x.cell y c h⟩,e0.bY.fresh (BW _),fun y c h=>?_,fun p hp=>BH (show p∈([]:List (AO×Obj)) from hp) cr,e0.bY.kept hk,?_⟩
 ·exact name_of_addr x.apart (ZJ h1) (ZJ h2)
 ·let hy:scope.names.lookup y=some .cell\/scope.names.lookup y=some .free:=hy
  rcases hy with hy|hy
  ·exact xU hy
  ·exact BH rfl (S.VD _ (ZJ hy))
 ·exact Oj (x.above y c (ZJ h))
 ·let hi:i<vs.length:=by
   unfold start at h2;by_cases hi:i<vs.length
   ·exact hi
   ·rw [JZ (by simpa using hi)] at h2
    rw [Vk] at h2;split at h2<;>cases h2
  let ha:vs[i]?=some v:=by
   unfold start at h2;rw [JU (by simpa using hi),AY] at h2;cases e:vs[i]? with
   | none=>erw [e] at h2
   | some a=>erw [e] at h2;rfl
  obtain ⟨u,hu,rv⟩:=r.get ha
  let hp:ps[i]?=some y:=by
   rwa [<-S.pre,vt (jw hl hi)]
  let ndP:ps.Nodup:=by rw [<-S.pre];exact S.nd.sublist (List.take_sublist _ _)
  show ⟨u,rv,?_⟩
  rcases S.par y (Wp hp) with k|k
  ·exact .inl ⟨k,uH ndP hp hu k⟩
  ·obtain ⟨c,e⟩:=xU (n:=s.heap.objs.size+1) k
   refine .inr ⟨.inl k,c,e,?_⟩;let q:=x.cell y c e;rw [uI ndP hp hu (by show scope.names.lookup y≠_;rw [k];decide)] at q;exact q
 ·exact e0.bY.fresh (Oj (x.above y c (ZJ h)))
 ·unfold start
  show _=N.length;rw [CL,AU,Vm];omega
def FC {K:Frag}{dV kV doc pm cD ct oc:Value}{an od:Μ}
  {tH:Ξ}   (lk:K.lookup f=some ⟨oc,od,.func (fnOf name qual params body scope dV kV doc pm an cD ct),tH⟩) (tO:codeIn K cD qual=true) (S:aC N ps scope)
  (len:∀vs H Q E,sp vs H Q E->vs.length=ps.length)
  (gT:∀(A:JD)(qw:List Env)(s:BR)(H:Hp)(vs:ε)(Q:VK)(E:XK),cG k (A.deeper (NS qual scope s.heap.objs.size f cD))->sp vs H Q E->
   ∃t,vf (mz CX P w K mg qf N qual scope f cD A qw s H E) body t/\t {nx:=fun _ H'=>Q .cL H',rt:=Q} (start N vs) H):
  dm P w K mg qf CX (k+1) f (fnOf name qual params body scope dV kV doc pm an cD ct) ps sp:=by
 show ⟨len,fun A qw s H args us vs Q E hr e0 hb r rq=>?_⟩;let hl:=len _ _ _ _ rq;let KX:K.In s.heap:=e0.mod.Yj.keeps fun b o e=>(e0.bs b o e).1;let lim:s.heap.NoLimit:=e0.mod.nolimit.keeps fun b o e=>(e0.bs b o e).1
 have σ':∀y∈ps.zip us,scope.names.lookup y.1=some .local\/(scope.names.lookup y.1=some .cell/\((cellsFrom (s.heap.objs.size+1) scope.names []).lookup y.1).isSome=true):=fun ⟨n,v⟩ hy=>by
  rcases S.par n (ain hy).1 with q|q
  ·exact .inl q
  ·exact .inr ⟨q,PySem.W.cellsFrom_some _ _ _ (.inl q)⟩
 refine codeAny_call_function hr.depth (KX _ _ lk) rfl S.co S.gen rfl (PySem.W.codeRec_of KX tO) (hb _ _ _ _ ?_);refine wpAny_newFunctionEnv_cells S.kind σ' fun env he s1 x=>?_;subst he;show ⟨lim.keeps x.toInCall.keep,codeAny_func ?_⟩;obtain ⟨t,ht,hq⟩:=gT A qw s H vs Q E (hr.deeper _) rq;let I:Inv (mz CX P w K mg qf N qual scope f cD A qw s H E) [] (start N vs) H s1:=aa_ S hr.hd e0 hl r x;refine Kw (ht [] s1 (start N vs) H _ I hq) (fun fl s' hs=>?_) fun e s' hs=>hs
 let fin:∀{Y' :St} {H':Hp} {v:V} {u:Value},Inv (mz CX P w K mg qf N qual scope f cD A qw s H E) [] Y' H' s' ->RelV v u->Q v H' ->CE qw P w H s Q u s':=
  fun {Y' H' v u} J rv q=>⟨v,H',J.os,J.bare,J.qf,J.bY,rv,q⟩
 cases fl with
 | ret u=>
  obtain ⟨v,Y',H',J,rv,q⟩:=hs;exact fin J rv q
 | next=>
  obtain ⟨Y',H',J,q⟩:=hs;exact fin (v:=V.cL) (u:=Value.none) J rfl q
 | brk=>
  obtain ⟨_,_,_,q⟩:=hs;exact False.elim q
 | cont=>
  obtain ⟨_,_,_,q⟩:=hs;exact False.elim q
section
variable {X:Cx}{x:Str}{p pos:Pos}{e:Expr}{es:Δ}{t:TA}{id T:String}{r:List V->Hp->VK->Prop}
def tCB (r:List V->Hp->VK->Prop)(t:TA):TE:=fun Y H Q=>t Y H fun vs H1=>r vs H1 Q
def aD (hc:fu X (.builtin id) r)(hg:Gl X x)(hm:X.mg x=none)(hv:JX x=some (.builtin id))(ha:PA X (e::es) t)(hn:x≠ "__name__":=by decide)(xS:(x==("__debug__":Str))=false:=by decide)
  (he:CZ (e::es) X.env=(false,CB e X.env)::CZ es X.env:=by rfl) (uE:(Ku pos (CZ es X.env)).any (·.1)=false:=by rfl):PE X (.Call (.Name x p) (e::es) [] pos) (tCB r t):=by
 intro pX s Y H Q I h;refine Vy (jD I hg hm hv ?_ hn xS);exact PyProof.Rows.callWith_builtin1 (cU (ha pos pX s Y H _ I h) fun us s1 ⟨vs,H1,I1,r1,q1⟩=>hc pX s1 Y H1 vs us Q I1 r1 q1) he uE
def b9 (hc:fu X (.type T) r)(hg:Gl X x)(hm:X.mg x=none)(hv:JX x=some (.type T))(ha:PA X (e::es) t)(hn:x≠ "__name__":=by decide)(xS:(x==("__debug__":Str))=false:=by decide)
  (he:CZ (e::es) X.env=(false,CB e X.env)::CZ es X.env:=by rfl) (uE:(Ku pos (CZ es X.env)).any (·.1)=false:=by rfl):PE X (.Call (.Name x p) (e::es) [] pos) (tCB r t):=by
 intro pX s Y H Q I h;refine Vy (jD I hg hm hv ?_ hn xS);exact WN (cU (ha pos pX s Y H _ I h) fun us s1 ⟨vs,H1,I1,r1,q1⟩=>hc pX s1 Y H1 vs us Q I1 r1 q1) he uE
end
end L2
namespace HT
open PySem PyProof.Rows
section
variable {prog:DN}{w:World}{A:JD}{E:γ}{s:BR}
def QZ {vs ws:ς}{Q:γ}(ht:IsTup s.heap t vs.toArray)(hb:IsTup s.heap b ws.toArray)(hv:vs≠[])
  (h1:ws=[]->Q (.ref t) s) (h2:ws≠[]->Q (.ref s.heap.objs.size) {s with heap:=s.heap.push {cls:=.type "tuple",data:=.seq (vs++ws).toArray}})
  (hsz:vs.length+ws.length<=BL):AV (BC prog w) A (NR .Add (.ref t) (.ref b)) Q E s:=by
 obtain ⟨⟨cls,dd,data,sl⟩,ho,hc,n,hd⟩:=id ht;obtain ⟨⟨azp,Za,data2,sl2⟩,ho2,VE,n2,hd2⟩:=id hb;simp only at hc hd VE hd2;subst hc hd VE hd2;let e:vs.toArray++ws.toArray=(vs++ws).toArray:=by simp
 by_cases hw:ws=[]
 ·exact concat_meets ⟨_,ho,rfl⟩ ⟨_,ho2,rfl⟩ noFill_tuple_add seq_tuple_add PySem.F.slot_tuple_add PySem.F.entry_tuple_add (PySem.F.args_tuple_add_2 _ _)
   (tuple_addW1 t b vs.toArray ws.toArray n n2 dd Za sl sl2 (by simpa using hv) (by simp [hw])) ⟨ho,ho2,h1 hw⟩
 ·refine concat_meets ⟨_,ho,rfl⟩ ⟨_,ho2,rfl⟩ noFill_tuple_add seq_tuple_add PySem.F.slot_tuple_add PySem.F.entry_tuple_add (PySem.F.args_tuple_add_2 _ _)
   (tuple_addW2 t b vs.toArray ws.toArray n n2 dd Za sl sl2 (by simpa using hv) (by simpa using hw) (by rwa [JN,JN])) ⟨ho,ho2,?_⟩
  rw [e];exact h2 hw
def fm (n d:Nat):Option Int->Nat
 | none=>d
 | some v=>if v<0 then (v+(n:Int)).toNat else min v.toNat n
def xV (n d:Nat):fm n d none=d:=rfl
def j9 (n d k:Nat):fm n d (some (k:Int))=min k n:=by
 show (if (k:Int)<0 then ((k:Int)+(n:Int)).toNat else min (k:Int).toNat n)=min k n;rw [qA bv,ai3]
def ahq (n d:Nat)(hd:d<=n)(o:Ρ):fm n d o<=n:=by
 cases o with
 | none=>exact hd
 | some v=>
  show (if v<0 then (v+(n:Int)).toNat else min v.toNat n)<=n;by_cases hv:v<0
  ·rw [tu hv];omega
  ·rw [qA hv];exact Nat.min_le_right _ _
def ac7 (v:Int)(n d:Nat):(if v<0 then max (v+(n:Int)) 0 else min v (n:Int))=((fm n d (some v):Nat):Int):=by
 show (if v<0 then max (v+(n:Int)) 0 else min v (n:Int))=(((if v<0 then (v+(n:Int)).toNat else min v.toNat n):Nat):Int);by_cases hv:v<0
 ·simp only [tu hv];omega
 ·simp only [qA hv];omega
def aak (lo hi:Ρ)(n:Nat):Builtin.Slice.sliceAdjust lo hi 1 (n:Int)=(((fm n 0 lo:Nat):Int),((fm n n hi:Nat):Int)):=by
 let h1:¬ ((1:Int)<0):=bv
 unfold Builtin.Slice.sliceAdjust;simp only [h1,if_false];refine OO ?_ ?_
 ·cases lo with
  | none=>rfl
  | some v=>exact ac7 v n 0
 ·cases hi with
  | none=>rfl
  | some v=>exact ac7 v n n
def acr (i j:Nat):yl (i:Int) (j:Int) 1=j-i:=by
 unfold yl;let h1:(1:Int) > 0:=bv
 simp only [h1,if_true,Int.ediv_one];split<;>omega
def rA {o:Ρ}(p:IsPart v o)(h:Q o s):AV (BC prog w) A (Builtin.Slice.slicePartIndex v) Q E s:=by
 cases p with
 | none=>exact slicePart_none h
 | int i t=>exact slicePart_int h
def aic {lo hi:Ρ}{Q:Int×Int×Nat->BR->Prop}(hs:s.heap.IsSliceOf sl vl vu .none)(pl:IsPart vl lo)(pu:IsPart vu hi)
  (h:Q (((fm n 0 lo:Nat):Int),1,fm n n hi-fm n 0 lo) s):AV (BC prog w) A (Builtin.Slice.sliceApplied (.ref sl) (pure (n:Int))) Q E s:=by
 obtain ⟨os,Zc,hcs,Zd⟩:=id hs;unfold Builtin.Slice.sliceApplied Builtin.Slice.sliceFields;refine AZ (AZ (RA Zc Zd (x:=vl) rfl (AZ (RA Zc Zd (x:=vu) rfl (AZ (RA Zc Zd (x:=.none) rfl (CK ?_)))))));refine AZ (slicePart_none ?_);show AV _ _ (if ((1:Int)==0)=true then _ else _) _ _ s;rw [qA ce];refine AZ (rA pl (AZ (rA pu (AZ (CK ?_)))));show AV _ _ (match Builtin.Slice.sliceAdjust lo hi 1 (n:Int) with|(lo,hi)=>pure (lo,(1:Int),yl lo hi 1)) _ _ s;rw [aak lo hi n];show AV _ _ (pure (((fm n 0 lo:Nat):Int),(1:Int),yl ((fm n 0 lo:Nat):Int) ((fm n n hi:Nat):Int) 1)) _ _ s;rw [acr];exact CK h
def acS (xs:Ο)(i k:Nat):((JA k).filterMap fun (m:Nat)=>xs[((i:Int)+(m:Int)*1).toNat]?).toArray=((xs.toList.drop i).take k).toArray:=by
 let e:(fun (m:Nat)=>xs[((i:Int)+(m:Int)*1).toNat]?)=fun m=>xs[i+m]? :=by
  funext m;have:((i:Int)+(m:Int)*1).toNat=i+m:=bv
  rw [this]
 rw [e];have:=pick_run xs i k;rw [List.filterMap_map] at this;let e2:((fun x=>xs[x]?) ∘ fun x=>i+x)=fun m=>xs[i+m]? :=rfl;rw [e2] at this;rw [this]
def mB {items:Ο}{lo hi:Ρ}{Q:γ}(ht:IsTup s.heap t items)(hs:s.heap.IsSliceOf sl vl vu .none)(pl:IsPart vl lo)(pu:IsPart vu hi)
  (hw:¬ (fm items.size 0 lo=0/\fm items.size items.size hi=items.size))
  (h:Q (.ref s.heap.objs.size) {s with heap:=s.heap.push {cls:=.type "tuple",data:=.seq ((items.toList.drop (fm items.size 0 lo)).take (fm items.size items.size hi-fm items.size 0 lo)).toArray}})
  (hsz:items.size<=BL):AV (BC prog w) A (getItem (.ref t) (.ref sl)) Q E s:=by
 let FE:sizeOk (.seq ((items.toList.drop (fm items.size 0 lo)).take (fm items.size items.size hi-fm items.size 0 lo)).toArray):=by
  show ((items.toList.drop (fm items.size 0 lo)).take (fm items.size items.size hi-fm items.size 0 lo)).toArray.size<=BL;rw [JN,JT,Rw,ahJ];omega
 let hj:fm items.size items.size hi<=items.size:=ahq _ _ (BW _) hi;obtain ⟨os,Zc,hcs,Zd⟩:=id hs;let hTs:s.TypeIs (.ref sl) "slice":=⟨os,Zc,hcs⟩;unfold getItem;try with_reducible refine Og ?_
 first|refine AZ (CK ?_)|skip
 refine AZ (wpAny_sequenceKey ht.typeIs ce ?_)
 refine AZ (wpAny_callSpecial?_slot (name:=L9 "__getitem__") ht.typeIs PyProof.Rows.slot_tuple_getitem
  (zC PyProof.Rows.slot_tuple_getitem ht.typeIs entry_tuple_getitem ?_ (args_tuple_getitem _ _)))
 show AV _ _ (Builtin.Tuple.tupleItemsOf (.ref t) >>=_) _ _ s;refine AZ (tupleItemsOf_ ht ?_);refine AZ (ZF hTs ?_);rw [tu ce];refine AZ (aic hs pl pu ?_)
 let Q0:¬ ((((fm items.size 0 lo:Nat):Int)==0 && (1:Int)==1 && (fm items.size items.size hi-fm items.size 0 lo)==items.size)=true):=by
  intro q;rw [Ri,Ri] at q;let q1:((fm items.size 0 lo:Nat):Int)=0:=eq_of_beq q.1.1;let q2:fm items.size items.size hi-fm items.size 0 lo=items.size:=eq_of_beq q.2;exact hw ⟨bv,bv⟩
 show AV _ _ (if (((fm items.size 0 lo:Nat):Int)==0 && (1:Int)==1 && (fm items.size items.size hi-fm items.size 0 lo)==items.size)=true then _ else _) _ _ s;rw [qA Q0,acS]
 first
  | exact AZ (m:=yX _) (Vu (CK ⟨_,rfl,CK h⟩) FE)
  | exact AZ (m:=yX _) (Vu (AZ (CK (CK ⟨_,rfl,CK h⟩))) FE)
  | exact AZ (AZ (m:=yX _) (Vu (CK (CK ⟨_,rfl,CK h⟩)) FE))
  | exact AZ (AZ (m:=yX _) (Vu (CK ⟨_,rfl,CK h⟩) FE))
end
end HT
namespace L2
open PySem PySem.Spec PyProof.Rows
abbrev TO:=St->Hp->(Option Int->Hp->Prop)->Prop
def PO (X:Cx)(e:Option Expr)(t:TO):Prop:=
 ∀(pX:η)(s:BR)(Y:St)(H:Hp)(Q:Option Int->Hp->Prop),Inv X pX Y H s->t Y H Q->
  AV (BC X.prog X.w) X.A (evalPart e X.env) (fun u s'=>∃o H',Inv X pX Y H' s'/\IsPart u o/\Q o H') X.xe s
def adp:TO:=fun _ H Q=>Q none H
inductive Nn (Q:(Option Int->Hp->Prop))(x:V)(H1:Hp):Prop
|mk (i:_)(_:x=.int i)(_:Q (some i) H1)
def zaW (t:TE):TO:=fun Y H Q=>t Y H fun x H1=>Nn Q x H1
section
variable {X:Cx}{e:Expr}{te:TE}{lo hi:Option Expr}{tl th:TO}{pos p2:Pos}
def ie:PO X none adp:=by
 intro pX s Y H Q I h;rw [evalPart_none];exact CK ⟨none,H,I,.none,h⟩
def dh (h:PE X e te):PO X (some e) (zaW te):=by
 intro pX s Y H Q I hw;rw [evalPart_some];refine cU (h pX s Y H _ I hw) fun u s1 ⟨x,H1,I1,r1,q1⟩=>?_;obtain ⟨i,rfl,q⟩:=q1;obtain ⟨t,rfl⟩:=r1;show ⟨some i,H1,I1,.int i t,q⟩
def Zf (X:Cx)(r:V->Option Int->Option Int->Hp->VK->Prop):Prop:=
 ∀(pX:η)(s:BR)(Y:St)(H:Hp)(x:V)(v vl vu:Value)(lo hi:Ρ)(sl:AO)(Q:VK),Inv X pX Y H s->RelV x v->s.heap.IsSliceOf sl vl vu .none->IsPart vl lo->IsPart vu hi->r x lo hi H Q->
  ∃T id,typeLookup (.type T) "__getitem__"=pure (some (.builtin id))/\s.TypeIs v T/\AV (BC X.prog X.w) X.A (getItem v (.ref sl)) (EP X pX Y Q) X.xe s
def tSl (r:V->Option Int->Option Int->Hp->VK->Prop)(te:TE)(tl th:TO):TE:=fun Y H Q=>te Y H fun x H1=>tl Y H1 fun l H2=>th Y H2 fun u H3=>r x l u H3 Q
def dB (hr:Zf X r)(he:PE X e te)(hl:PO X lo tl)(hu:PO X hi th):PE X (.Subscript e (.Slice lo hi none p2) pos) (tSl r te tl th):=by
 intro pX s Y H Q I h;refine Subscript_ (cU (he pX s Y H _ I h) fun v s1 ⟨x,H1,I1,r1,q1⟩=>?_);refine wpAny_Slice (cU (hl pX s1 Y H1 _ I1 q1) fun vl s2 ⟨l,H2,I2,pl,q2⟩=>cU (hu pX s2 Y H2 _ I2 q2) fun vu s3 ⟨u,H3,I3,pu,q3⟩=>?_);rw [evalPart_none];refine CK ?_;let I4:Inv X pX Y H3 {s3 with heap:=s3.heap.push {cls:=.type "slice",data:=.fields #[vl,vu,.none]}}:=I3.kept (t':=s3.toks) fun b ob q=>DI _ q;obtain ⟨T,id,hT,ht,hg⟩:=hr pX {s3 with heap:=s3.heap.push {cls:=.type "slice",data:=.fields #[vl,vu,.none]}} Y H3 x v vl vu l u s3.heap.objs.size Q I4 r1 (Heap.IsSliceOf.new ..) pl pu q3;show AV (BC X.prog X.w) X.A (subscriptTail e (.Slice lo hi none p2) v (.ref s3.heap.objs.size)) (EP X pX Y Q) X.xe {s3 with heap:=s3.heap.push {cls:=.type "slice",data:=.fields #[vl,vu,.none]}};exact tail_any (ops:=[.ref s3.heap.objs.size,v]) ht hT hg (by with_unfolding_all rfl)
def eV (xs:ε)(lo hi:Ρ):List V:=(xs.drop (HT.fm xs.length 0 lo)).take (HT.fm xs.length xs.length hi-HT.fm xs.length 0 lo)
def pJ (xs:ε)(lo hi:Ρ):(eV xs lo hi).length<=xs.length:=by
 unfold eV;rw [JT,Rw];omega
inductive VG (K:Frag)(x:V)(lo:Ρ)(hi:Ρ)(H:Hp)(Q:VK):Prop
|mk (a xs:_)(_:x=.ref a)(_:bL K H a xs)(_:¬ (HT.fm xs.length 0 lo=0/\HT.fm xs.length xs.length hi=xs.length))(_:∀p,H p=none->Q (.ref p) (upd H p (.tup (eV xs lo hi))))
def A_:Zf X (VG X.K):=by
 intro pX s Y H x v vl vu lo hi sl Q I rx hs pl pu h;obtain ⟨a,xs,rfl,hx,hw,q⟩:=h;cases rx;obtain ⟨AP,r,ht,hz⟩:=I.tuple hx;let hlen:AP.toArray.size=xs.length:=by rw [JN];exact r.length.symm
 show ⟨"tuple",_,PyProof.Rows.slot_tuple_getitem.lookup,ht.typeIs,HT.mB ht hs pl pu (by rwa [hlen]) ?_ (by rwa [hlen])⟩;rw [hlen];show ⟨.ref s.heap.objs.size,_,I.laid (t':=s.toks) (o:=.tup (eV xs lo hi)) (fun b ob q=>DI _ q) (BW _) ?_,rfl,q _ (I.bY.fresh (BW _))⟩;show ⟨BX (pJ xs lo hi) hz,_,(r.drop (HT.fm xs.length 0 lo)).take (HT.fm xs.length xs.length hi-HT.fm xs.length 0 lo),IsTup.new _ _⟩
inductive TR (K:Frag)(x:V)(y:V)(H:Hp)(Q:VK):Prop
|mk (a b xs ys:_)(_:x=.ref a)(_:y=.ref b)(_:bL K H a xs)(_:bL K H b ys)(_:xs≠[])(_:xs.length+ys.length<=BL)(_:(ys=[]->Q (.ref a) H))(_:(ys≠[]->∀p,H p=none->Q (.ref p) (upd H p (.tup (xs++ys)))))
def Vals.vp {xs:ε}{us:ς}(r:Vals xs us):us=[] ↔ xs=[]:=by
 cases r with
 | nil=>simp
 | cons _ _=>simp
def adN:kD X (NR .Add) (TR X.K):=by
 intro pX s Y H x y v u Q I rx ry h;obtain ⟨a,b,xs,ys,rfl,rfl,ha,hb,hx,hz,q1,q2⟩:=h;cases rx;cases ry;obtain ⟨AP,r1,p1,_⟩:=I.tuple ha;obtain ⟨dY,r2,p2,_⟩:=I.tuple hb;refine HT.QZ p1 p2 (fun z=>hx (r1.vp.mp z)) (fun z=>⟨.ref a,H,I,rfl,q1 (r2.vp.mp z)⟩) (fun z=>?_) (by rwa [<-r1.length,<-r2.length]);show ⟨.ref s.heap.objs.size,_,I.laid (t':=s.toks) (o:=.tup (xs++ys)) (fun b ob q=>DI _ q) (BW _) ?_,rfl,q2 (fun w=>z (r2.vp.mpr w)) _ (I.bY.fresh (BW _))⟩;show ⟨by rwa [CL],_,r1.append r2,IsTup.new _ _⟩
end
def BA (n:Nat)(i:Int):Option Nat:=if 0<=i then (if i<n then some i.toNat else none) else if -(n:Int)<=i then some (i+n).toNat else none
def ib {Z:Type}(xs:List Z)(i:Int):Option Z:=(BA xs.length i).bind fun j=>xs[j]?
def FF (h:BA n i=some j):seqIndex? i n=some j/\j<n/\ -(n:Int)<=i/\i<n:=by
 unfold BA at h;by_cases h0:0<=i
 ·rw [tu h0] at h
  by_cases h1:i<n
  ·rw [tu h1] at h
   let e:i.toNat=j:=C_ h;show ⟨by rw [seqIndex_of h0 h1,e],bv,bv,h1⟩
  ·erw [qA h1] at h
 ·rw [qA h0] at h
  by_cases h1: -(n:Int)<=i
  ·rw [tu h1] at h
   let e:(i+n).toNat=j:=C_ h;show ⟨by rw [seqIndex_neg bv h1,e],bv,h1,bv⟩
  ·erw [qA h1] at h
def vq {v:Z}(h:ib xs i=some v):∃j,seqIndex? i xs.length=some j/\xs[j]?=some v/\j<xs.length/\ -(xs.length:Int)<=i/\i<xs.length:=by
 unfold ib at h;cases e:BA xs.length i with
 | none=>erw [e] at h
 | some j=>
  rw [e] at h;obtain ⟨h1,h2,h3,h4⟩:=FF e;show ⟨j,h1,h,h2,h3,h4⟩
def bK {j:Nat}{v:Z}(h:xs[j]?=some v):ib xs (j:Int)=some v:=by
 let hj:j<xs.length:=(ir.mp h).1
 let e:BA xs.length (j:Int)=some j:=by
  unfold BA;rw [tu gV,tu bv];simp
 unfold ib;rwa [e]
def ahF (xs:List Z)(v:Z):ib (xs++[v]) (-1)=some v:=by
 let hl:(xs++[v]).length=xs.length+1:=by simp
 let e:BA (xs++[v]).length (-1)=some xs.length:=by
  unfold BA;rw [hl,qA ce,tu bv];congr 1;omega
 unfold ib;rw [e];show (xs++[v])[xs.length]?=some v;simp
def FG (b:Expr):Prop:=∀o i,subscripted b false o i=operate [o,i] (getItem o i)
def TU (X:Cx)(r:R2):Prop:=
 ∀(value slice:Expr)(pX:η)(s:BR)(Y:St)(H:Hp)(x y:V)(v u:Value)(Q:VK),Inv X pX Y H s->RelV x v->RelV y u->r x y H Q->
  subscripted slice false v u=operate [v,u] (getItem v u)->AV (BC X.prog X.w) X.A (subscriptTail value slice v u) (EP X pX Y Q) X.xe s
def MtR (X:Cx)(id:String)(r:Ω):Prop:=
 ∀(pX:η)(s:BR)(Y:St)(H:Hp)(x:V)(xs:ε)(v:Value)(us:ς)(Q:VK),Inv X pX Y H s->RelV x v->Vals xs us->r x xs H Q->
  AV (BC X.prog X.w) X.A (call (.builtin id) (v::us)) (EP X pX Y Q) X.xe s
section
variable {X:Cx}{a b:Expr}{ta tb:TE}{pos:Pos}
def Nq (hr:TU X r)(ha:PE X a ta)(hb:PE X b tb)(hs:FG b):PE X (.Subscript a b pos) (QS r ta tb):=by
 intro pX s Y H Q I h;exact Subscript_ (VA ha hb I h fun v u s2 x y H2 I2 rx ry q=>hr a b pX s2 Y H2 x y v u Q I2 rx ry q (hs _ _))
inductive Q6 (K:Frag)(x:V)(y:V)(H:Hp)(Q:VK):Prop
|mk (p xs i v:_)(_:x=.ref p)(_:y=.int i)(_:aV K H p xs)(_:ib xs i=some v)(_:Q v H)
inductive Nr (K:Frag)(x:V)(y:V)(H:Hp)(Q:VK):Prop
|mk (p xs i v:_)(_:x=.ref p)(_:y=.int i)(_:bL K H p xs)(_:ib xs i=some v)(_:Q v H)
inductive Zg (x:V)(y:V)(H:Hp)(Q:VK):Prop
|mk (z i c:_)(_:x=.str z)(_:y=.int i)(_:z.length<=BL)(_:ib z.cps.toList i=some c)(_:Q (.str ⟨#[c]⟩) H)
def aU:TU X (Q6 X.K):=by
 intro value slice pX s Y H x y v u Q I rx ry h hs;obtain ⟨p,xs,i,z,rfl,rfl,hq,he,q⟩:=h;cases rx;obtain ⟨t,rfl⟩:=ry;obtain ⟨AP,r,pl,hz⟩:=I.list hq;obtain ⟨j,h1,h2,h3,h4,h5⟩:=vq he;obtain ⟨w,ew,qE⟩:=r.get h2;let hl:=r.length;let hn:=rn;let fin:EP X pX Y Q w s:=⟨z,H,I,qE,q⟩;by_cases h0:0<=i
 ·let hj:i.toNat=j:=by
   rw [seqIndex_of h0 h5] at h1;exact C_ h1
  exact item_listR pl.isList h0 bv (by rw [hj];simpa using ew) fin hs
 ·let hj:(i+(AP.toArray.size:Int)).toNat=j:=by
   rw [seqIndex_neg bv h4] at h1;rw [JN,<-hl];exact C_ h1
  exact subscriptTail_builtinR (x:=w) pl.isList.typeIs slot_list_getitem.lookup
   (wpAny_getItem_list_neg (Q:=fun r s'=>r=w/\EP X pX Y Q r s') pl.isList bv (by rw [JN]<;>omega) bv (by rw [hj];simpa using ew) ⟨rfl,fin⟩) hs
def lC:TU X (Nr X.K):=by
 intro value slice pX s Y H x y v u Q I rx ry h hs;obtain ⟨p,xs,i,z,rfl,rfl,hq,he,q⟩:=h;cases rx;obtain ⟨t,rfl⟩:=ry;obtain ⟨AP,r,pl,hz⟩:=I.tuple hq;obtain ⟨j,h1,h2,h3,h4,h5⟩:=vq he;obtain ⟨w,ew,qE⟩:=r.get h2;let hl:=r.length;let hn:=rn;let fin:EP X pX Y Q w s:=⟨z,H,I,qE,q⟩
 exact subscriptTail_builtinR (x:=w) pl.typeIs slot_tuple_getitem.lookup
  (getItem_tuple (j:=j) (Q:=fun r s'=>r=w/\EP X pX Y Q r s') pl bv bv (by rwa [JN,<-hl]) (by simpa using ew) ⟨rfl,fin⟩) hs
def ahD:TU X Zg:=by
 intro value slice pX s Y H x y v u Q I rx ry h hs;obtain ⟨z,i,c,rfl,rfl,hz,he,q⟩:=h;obtain ⟨t,rfl⟩:=rx;obtain ⟨t',rfl⟩:=ry;obtain ⟨j,h1,h2,h3,h4,h5⟩:=vq he;let hl:z.cps.toList.length=z.length:=by simp [Str.length]
 rw [hl] at h1 h4 h5;let hn:=rn
 exact tail_any (typeIs_str s z t) slot_str_getitem.lookup (getItem_str (c:=c) (by
  let e1:decide (i < -(2^63:Int))=false:=NV bv;let e2:decide (i≥2^63)=false:=NV bv
  rw [e1,e2,aiJ]) (by rw [h1];simpa using h2) ⟨.str ⟨#[c]⟩,H,I.tok _,⟨_,rfl⟩,q⟩) hs
def acD (AP:ς)(n j:Nat)(u:Value):Q3 (·.setIfInBounds j u) {cls:=.type "list",data:=.seq AP.toArray n}={cls:=.type "list",data:=.seq (AP.set j u).toArray n}:=by
 simp [Q3]
theorem Inv.lst {pX:η}{Y:St}{H:Hp}{s:BR}{p:AO}{xs:ε}(I:Inv X pX Y H s)(h:H p=some (.lst xs)):
  ∃(AP:ς)(n:Nat),Vals xs AP/\s.heap.get? p=some {cls:=.type "list",data:=.seq AP.toArray n}/\xs.length<=BL:=by
 obtain ⟨z,AP,n,r,e⟩:=I.bY p _ h;show ⟨AP,n,r,e,z⟩
def Inv.VI {Y:St}{xs ys:ε}{AP uh:ς}(I:Inv X pX Y H s)(h:H p=some (.lst xs))
  (ho:s.heap.get? p=some {cls:=.type "list",data:=.seq AP.toArray n}) (hf:f {cls:=.type "list",data:=.seq AP.toArray n}={cls:=.type "list",data:=.seq uh.toArray n'}) (r:Vals ys uh) (hz:ys.length<=BL) (t:Nat):
  Inv X pX Y (upd H p (.lst ys)) {s with heap:=s.heap.update p f,toks:=t}:=by
 let e:(s.heap.update p f).get? p=some {cls:=.type "list",data:=.seq uh.toArray n'}:=by
  rw [FA f ho (by rw [hf]<;>rfl),hf]
 refine I.write (x:=p) (e:=p) (by rw [h];trivial) (.inl rfl) (fun b u hb q=>(RD _ _ (CA hb)).trans q) ⟨_,e⟩ ?_;show ⟨hz,uh,n',r,e⟩
inductive TV (o:V)(i:V)(v:V)(H:Hp)(Q:(Hp->Prop)):Prop
|mk (p xs k j:_)(_:o=.ref p)(_:i=.int k)(_:H p=some (.lst xs))(_:BA xs.length k=some j)(_:Q (upd H p (.lst (xs.set j v))))
def set_list:σ2 X TV:=by
 intro pX s Y H o i v ov iv u Q I ro ri rv h;obtain ⟨p,xs,k,j,rfl,rfl,hp,hj,q⟩:=h;cases ro;obtain ⟨t,rfl⟩:=ri;obtain ⟨AP,n,r,ho,hz⟩:=I.lst hp;obtain ⟨h1,h2,h3,h4⟩:=FF hj;let hl:=r.length;let hn:=rn
 let I':Inv X pX Y (upd H p (.lst (xs.set j v))) {s with heap:=s.heap.update p (Q3 (·.setIfInBounds j u))}:=
  I.VI hp ho (acD AP n j u) (r.set rv j) (by rwa [aiq]) s.toks
 by_cases h0:0<=k
 ·let hk:k.toNat=j:=by
   rw [seqIndex_of h0 h4] at h1;exact C_ h1
  exact PySem.W.ki_setAt ho h0 bv (by rwa [JN,<-hl]) (by rw [hk];show ⟨_,I',q⟩)
 ·let hk:(k+(AP.toArray.size:Int)).toNat=j:=by
   rw [seqIndex_neg bv h3] at h1;rw [JN,<-hl];exact C_ h1
  exact PySem.W.ki_setBack ho bv (by rwa [JN,<-hl]) bv (by rw [hk];show ⟨_,I',q⟩)
def agd (lo hi:Ρ)(n:Nat):(Sk lo hi none n).1=((HT.fm n 0 lo:Nat):Int)/\(Sk lo hi none n).2.1=((HT.fm n n hi:Nat):Int)/\(Sk lo hi none n).2.2=1:=by
 show ⟨?_,?_,rfl⟩
 ·cases lo with
  | none=>simp [Sk,HT.fm]
  | some i=>
   simp only [Sk,HT.fm,aoY,show (1:Int) > 0 by decide,if_true];by_cases h:i<0
   ·simp only [h,if_true]<;>omega
   ·simp only [h,if_false]<;>omega
 ·cases hi with
  | none=>simp [Sk,HT.fm]
  | some i=>
   simp only [Sk,HT.fm,aoY,show (1:Int) > 0 by decide,if_true];by_cases h:i<0
   ·simp only [h,if_true]<;>omega
   ·simp only [h,if_false]<;>omega
def ahx (AP:ς)(lo hi:Ρ):slicePick AP.toArray lo hi none=((AP.drop (HT.fm AP.length 0 lo)).take (HT.fm AP.length AP.length hi-HT.fm AP.length 0 lo)).toArray:=by
 obtain ⟨h1,h2,h3⟩:=agd lo hi AP.toArray.size;unfold slicePick;rw [h1,h2,h3];simp only [sliceRange_one,pick_run,JN]<;>rfl
inductive Zh (K:Frag)(x:V)(lo:Ρ)(hi:Ρ)(H:Hp)(Q:VK):Prop
|mk (a xs:_)(_:x=.ref a)(_:aV K H a xs)(_:∀p,H p=none->Q (.ref p) (upd H p (.lst (eV xs lo hi))))
def ig:Zf X (Zh X.K):=by
 intro pX s Y H x v vl vu lo hi sl Q I rx hs pl pu h;obtain ⟨a,xs,rfl,hx,q⟩:=h;cases rx;obtain ⟨AP,r,ht,hz⟩:=I.list hx;let hlen:=r.length;show ⟨"list",_,slot_list_getitem.lookup,ht.isList.typeIs,wpAny_getItem_list_slice ht.isList hs pl pu .none cr ?_ (by rw [JN]<;>omega)⟩;rw [ahx,<-hlen];show ⟨.ref s.heap.objs.size,_,I.laid (t':=s.toks) (o:=.lst (eV xs lo hi)) (fun b ob q=>DI _ q) (BW _) ?_,rfl,q _ (I.bY.fresh (BW _))⟩;show ⟨BX (pJ xs lo hi) hz,_,0,(r.drop (HT.fm xs.length 0 lo)).take (HT.fm xs.length xs.length hi-HT.fm xs.length 0 lo),Kt _ rfl⟩
def jH:V->Bool
 | .cL=>true
 | .bl _=>true
 | .int _=>true
 | .str _=>true
 | _=>false
def jI:V->V->Bool
 | .cL,.cL=>true
 | .bl a,.bl b=>a==b
 | .bl a,.int b=>(if a then 1 else 0)==b
 | .int a,.bl b=>a==(if b then 1 else 0)
 | .int a,.int b=>a==b
 | .str a,.str b=>a==b
 | _,_=>false
def Nt (ry:RelV y u)(rx:RelV x v)(fy:jH y=true)(fx:jH x=true):SeqAt.EqAt A s u v (jI y x):=by
 cases y with
 | cL=>
  cases ry;cases x with
  | cL=>cases rx;exact SeqAt.EqAt.same _
  | bl b=>cases rx;exact SeqAt.EqAt.none_bool b
  | int b=>obtain ⟨t,rfl⟩:=rx;exact SeqAt.EqAt.none_int b t
  | str b=>obtain ⟨t,rfl⟩:=rx;exact SeqAt.EqAt.none_str b t
  | _=>exact BH (show false=true from fx) JP
 | bl a=>
  cases ry;cases x with
  | cL=>cases rx;exact SeqAt.EqAt.bool_none a
  | bl b=>cases rx;exact SeqAt.EqAt.bool_bool a b
  | int b=>obtain ⟨t,rfl⟩:=rx;exact SeqAt.EqAt.bool_int a b t
  | str b=>obtain ⟨t,rfl⟩:=rx;exact SeqAt.EqAt.bool_str a b t
  | _=>exact BH (show false=true from fx) JP
 | int a=>
  obtain ⟨t',rfl⟩:=ry;cases x with
  | cL=>cases rx;exact SeqAt.EqAt.int_none a t'
  | bl b=>cases rx;exact SeqAt.EqAt.int_bool a t' b
  | int b=>obtain ⟨t,rfl⟩:=rx;exact SeqAt.EqAt.int_int a t' b t
  | str b=>obtain ⟨t,rfl⟩:=rx;exact SeqAt.EqAt.int_str a t' b t
  | _=>exact BH (show false=true from fx) JP
 | str a=>
  obtain ⟨t',rfl⟩:=ry;cases x with
  | cL=>cases rx;exact SeqAt.EqAt.str_none a t'
  | bl b=>cases rx;exact SeqAt.EqAt.str_bool a t' b
  | int b=>obtain ⟨t,rfl⟩:=rx;exact SeqAt.EqAt.str_int a t' b t
  | str b=>obtain ⟨t,rfl⟩:=rx;exact SeqAt.EqAt.str_str a t' b t
  | _=>exact BH (show false=true from fx) JP
 | _=>exact BH (show false=true from fy) JP
def BD (x:V)(u:Value):Bool:=match u with
 | .none=>jI .cL x
 | .bool b=>jI (.bl b) x
 | .int i _=>jI (.int i) x
 | .str z _=>jI (.str z) x
 | _=>false
def Nu (r:RelV y u)(f:jH y=true):BD x u=jI y x:=by
 cases y with
 | cL=>cases r;rfl
 | bl b=>cases r;rfl
 | int i=>obtain ⟨t,rfl⟩:=r;rfl
 | str z=>obtain ⟨t,rfl⟩:=r;rfl
 | _=>exact BH (show false=true from f) JP
theorem mC :∀{xs:ε} {us:ς},Vals xs us->xs.all jH=true->us.any (BD x)=xs.any fun y=>jI y x
 | _,_,.nil,_=>rfl
 | y::xs,u::us,.cons r t,f=>by
  rw [YW,Ri] at f;rw [Rv,Rv,Nu r f.1,mC t f.2]
theorem jJ (rx:RelV x v)(fx:jH x=true):∀{xs:ε} {us:ς},Vals xs us->xs.all jH=true->∀u∈us,SeqAt.EqAt A s u v (BD x u)
 | _,_,.nil,_=>fun u hu=>by cases hu
 | y::xs,u::us,.cons r t,f=>fun u' hu=>by
  rw [YW,Ri] at f
  rcases JC.mp hu with rfl|hu
  ·rw [Nu r f.1];exact Nt r rx f.1 fx
  ·exact jJ rx fx t f.2 u' hu
def Q7 (x:V)(xs:ε):Bool:=xs.any fun y=>jI y x
inductive rIn (K:Frag)(neg:Bool)(x:V)(y:V)(H:Hp)(Q:VK):Prop
|mk (p xs:_)(_:y=.ref p)(_:(aV K H p xs\/bL K H p xs))(_:jH x=true)(_:xs.all jH=true)(_:Q (.bl (if neg then !Q7 x xs else Q7 x xs)) H)
def oz:kD X (Mb .In) (rIn X.K false):=by
 intro pX s Y H x y v u Q I rx ry h;obtain ⟨p,xs,rfl,hq,fx,fs,q⟩:=h;cases ry
 rcases hq with hq|hq
 ·obtain ⟨AP,r,pl,hz⟩:=I.list hq
  refine SeqAt.in_listAt (BD x) pl.isList (fun w hw=>jJ rx fx r fs w (by simpa using hw)) ⟨.bl _,H,I,rfl,?_⟩;rwa [show AP.toArray.any (BD x)=AP.any (BD x) by simp,mC r fs]
 ·obtain ⟨AP,r,pl,hz⟩:=I.tuple hq
  refine SeqAt.in_tupleAt (BD x) pl (fun w hw=>jJ rx fx r fs w (by simpa using hw)) ⟨.bl _,H,I,rfl,?_⟩;rwa [show AP.toArray.any (BD x)=AP.any (BD x) by simp,mC r fs]
def mD:kD X (Mb .NotIn) (rIn X.K true):=by
 intro pX s Y H x y v u Q I rx ry h;obtain ⟨p,xs,rfl,hq,fx,fs,q⟩:=h;cases ry
 rcases hq with hq|hq
 ·obtain ⟨AP,r,pl,hz⟩:=I.list hq
  refine SeqAt.notIn_listAt (BD x) pl.isList (fun w hw=>jJ rx fx r fs w (by simpa using hw)) ⟨.bl _,H,I,rfl,?_⟩;rwa [show AP.toArray.any (BD x)=AP.any (BD x) by simp,mC r fs]
 ·obtain ⟨AP,r,pl,hz⟩:=I.tuple hq
  refine SeqAt.notIn_tupleAt (BD x) pl (fun w hw=>jJ rx fx r fs w (by simpa using hw)) ⟨.bl _,H,I,rfl,?_⟩;rwa [show AP.toArray.any (BD x)=AP.any (BD x) by simp,mC r fs]
def av:fu X (.builtin "len") (fun xs H Q=>∃p ys,xs=[.ref p]/\(aV X.K H p ys\/bL X.K H p ys)/\Q (.int ys.length) H):=by
 intro pX s Y H xs us Q I r h;obtain ⟨p,ys,rfl,hq,q⟩:=h;obtain ⟨u,rfl,rx⟩:=vals1 r;cases rx;let hn:=rn
 rcases hq with hq|hq
 ·obtain ⟨AP,r',pl,hz⟩:=I.list hq
  let hlen:=r'.length;exact Calls.call_len_list pl.isList (by simp only [JN]<;>omega) ⟨.int ys.length,H,I.tok _,⟨s.toks+1,by rw [JN,hlen]⟩,q⟩
 ·obtain ⟨AP,r',pl,hz⟩:=I.tuple hq
  let hlen:=r'.length;exact len_tuple pl (by simp only [JN]<;>omega) ⟨.int ys.length,H,I.tok _,⟨s.toks+1,by rw [JN,hlen]⟩,q⟩
def tyV (K:Frag)(T:String)(x:V)(H:Hp):Prop:=match x with
 | .str _=>T="str"
 | .int _=>T="int"
 | .ref p=>(T="list"/\∃xs,aV K H p xs)\/(T="tuple"/\∃o,K.lookup p=some o/\o.cls=.type "tuple"/\o.dict=none)\/
   (T="dict"/\((∃AN,H p=some (.dK AN))\/∃AN,H p=some (.dT AN)))\/(T="set"/\∃S n,H p=some (.set S n))
 | _=>False
def Nv {Y:St}(I:Inv X pX Y H s)(r:RelV x v)(ty:tyV X.K T x H):
  s.TypeIs v T/\∀a,v=.ref a->∃ob,s.heap.get? a=some ob/\ob.dict=none:=by
 cases x with
 | str z=>
  obtain ⟨t,rfl⟩:=r;cases (show T="str" from ty);show ⟨typeIs_str s z t,fun _ e=>nomatch e⟩
 | int i=>
  obtain ⟨t,rfl⟩:=r;cases (show T="int" from ty);show ⟨typeIs_int s i t,fun _ e=>nomatch e⟩
 | ref p=>
  cases r
  rcases ty with ⟨rfl,xs,hq⟩|⟨rfl,o,hk,hc,hd⟩|⟨rfl,hk⟩|⟨rfl,S,n,hk⟩
  ·obtain ⟨AP,_,pl,_⟩:=I.list hq
   show ⟨pl.isList.typeIs,fun a e=>?_⟩;cases e;obtain ⟨o,n,e,c,hd,_⟩:=pl;show ⟨o,e,hd⟩
  ·show ⟨⟨o,I.lh p o hk,hc⟩,fun a e=>?_⟩
   cases e;show ⟨o,I.lh _ o hk,hd⟩
  ·let z:∃o,s.heap.get? p=some o/\o.ExactDict:=by
    rcases hk with ⟨AN,hk⟩|⟨AN,hk⟩
    ·obtain ⟨_,_,_,_,o,_,_,e,ex,_⟩:=I.bY p _ hk
     show ⟨o,e,ex⟩
    ·obtain ⟨_,_,_,_,o,_,_,e,ex,_⟩:=I.bY p _ hk
     show ⟨o,e,ex⟩
   obtain ⟨o,e,ex⟩:=z;show ⟨⟨o,e,ex.1⟩,fun a e2=>?_⟩;cases e2;show ⟨o,e,ex.2.1⟩
  ·obtain ⟨o,_,_,_,e,ex,_⟩:=I.bY p _ hk
   show ⟨⟨o,e,ex.1⟩,fun a e2=>?_⟩;cases e2;show ⟨o,e,ex.2.1⟩
 | _=>exact False.elim ty
def tBM (K:Frag)(T:String)(r:Ω)(to:TE)(t:TA):TE:=fun Y H Q=>to Y H fun x H1=>tyV K T x H1/\t Y H1 fun xs H2=>r x xs H2 Q
variable {o e:Expr}{es:Δ}{to:TE}{t:TA}{name:Str}{apos fC:Pos}{T id:String}{r:Ω}
def jq (pa:PlainAttrs T)(slot:Slot T name id)(hty:typeOf (.builtin id)=pure (.type "method_descriptor"))(hm:MtR X id r)(ho:PE X o to)(ha:PA X (e::es) t)
  (xW:Sd o name X.env (CB o X.env)=CB o X.env:=by rfl)
  (agG:((Ku fC (CZ (e::es) X.env)).all (fun x=> !x.1) && (backToKw fC (Sj [] X.env)).all (fun x=>x.1.isSome)
   && decide ((e::es).length+([]:List Keyword).length+(if ([]:List Keyword).isEmpty then 0 else 1)<30))=true:=by rfl)
  (xX:(apos.endLine==fC.line)=true:=by rfl) (hs:CZ (e::es) X.env=(false,CB e X.env)::CZ es X.env:=by rfl) (VJ:(Ku fC (CZ es X.env)).any (·.1)=false:=by rfl):
  PE X (.Call (.Attribute o name apos) (e::es) [] fC) (tBM X.K T r to t):=by
 intro pX s Y H Q I h;refine wpAny_Call_method_late xW agG xX rfl (cU (ho pX s Y H _ I h) fun v s1 ⟨x,H1,I1,r1,ty,q1⟩=>?_);obtain ⟨h1,h2⟩:=Nv I1 r1 ty;show ⟨T,id,pa,slot,hty,h1,h2,?_⟩;let hA:=ha fC pX s1 Y H1 _ I1 q1;rw [hs] at hA ⊢;refine ZK (by show (false || (Ku fC (CZ es X.env)).any (·.1))=false;rw [VJ]<;>rfl) (Calls.evalArgs_plain ?_);exact cU hA fun us s2 ⟨vs,H2,I2,r2,q2⟩=>hm pX s2 Y H2 x vs v us Q I2 r1 r2 q2
end
def MtM (X:Cx)(id:String)(r:Ω):Prop:=
 ∀(pX:η)(s:BR)(Y:St)(H:Hp)(x:V)(xs:ε)(v:Value)(us:ς)(Q:VK),Inv X pX Y H s->RelV x v->Vals xs us->r x xs H Q->
  AV (BC X.prog X.w) X.A (call (.builtin id) (v::us)) (EP X pX Y Q) X.xe s
def Vals.one:∀{x:V} {us:ς},Vals [x] us->∃u,us=[u]/\RelV x u
 | _,_,.cons r .nil=>⟨_,rfl,r⟩
theorem Vals.eraseIdx:∀{xs:ε} {us:ς} (i:Nat),Vals xs us->Vals (xs.eraseIdx i) (us.eraseIdx i)
 | _,_,_,.nil=>.nil
 | _,_,0,.cons _ t=>t
 | _,_,i+1,.cons r t=>.cons r (Vals.eraseIdx i t)
theorem Vals.rep {xs:ε}{us:ς}(h:Vals xs us):∀k:Nat,Vals (DQ k xs).flatten (DQ k us).flatten
 | 0=>.nil
 | k+1=>by
  rw [Rx,Rx,tW,tW];exact Vals.append h (Vals.rep h k)
theorem uJ {Z:Type}:∀(l:List Z)(i:Nat),(l.eraseIdx i).length<=l.length
 | [],_=>BW _
 | _::_,0=>Xm _
 | _::r,i+1=>Nat.succ_le_succ (uJ r i)
theorem foldl_rep (AP:ς):∀(k:Nat)(acc:ς),
  apa (fun x1 x2=>x1++x2) acc.toArray (DQ k AP.toArray)=(acc++(DQ k AP).flatten).toArray
 | 0,acc=>by simp
 | k+1,acc=>by
  let e:acc.toArray++AP.toArray=(acc++AP).toArray:=by simp
  let e2:(acc++AP)++(DQ k AP).flatten=acc++(DQ (k+1) AP).flatten:=by
   rw [Rx,tW,QW]
  rw [<-e2,<-foldl_rep AP k (acc++AP),<-e,Rx,List.foldl_cons]
section
variable {X:Cx}{pX:η}{Y:St}{H:Hp}{s:BR}{l b:AO}{xs ys zs:ε}
def Inv.Q8 {AP uh:ς}(I:Inv X pX Y H s)(hH:H l=some (.lst xs))
  (e:s.heap.get? l=some {cls:=.type "list",data:=.seq AP.toArray n}) (hf:f AP.toArray=uh.toArray) (hv:Vals ys uh) (hz:ys.length<=BL):
  Inv X pX Y (upd H l (.lst ys)) {s with heap:=s.heap.update l (Q3 f),toks:=t'}:=by
 let q:=PySem.IsL.update e f;rw [hf] at q;refine I.write (x:=l) (e:=l) (by rw [hH];exact trivial) (.inl rfl) (fun b' u hb hu=>(RD s.heap (Q3 f) (CA hb)).trans hu) ⟨_,q⟩ ?_;show ⟨hz,uh,_,hv,q⟩
def Inv.VL {AP:ς}(I:Inv X pX Y H s)(hv:Vals ys AP)(hz:ys.length<=BL):
  Inv X pX Y (upd H s.heap.objs.size (.lst ys)) {s with heap:=s.heap.push {cls:=.type "list",data:=.seq AP.toArray},toks:=t'}:=
 I.laid (fun _ _ q=>DI _ q) (BW _) ⟨hz,AP,0,hv,Kt _ rfl⟩
theorem Inv.fresh (I:Inv X pX Y H s):H s.heap.objs.size=none:=I.bY.fresh (BW _)
def Inv.lD (I:Inv X pX Y H s)(hH:H l=some (.lst xs)):xs.length<=BL/\∃(AP:ς)(n:Nat),Vals xs AP/\xs.length=AP.length/\s.heap.get? l=some {cls:=.type "list",data:=.seq AP.toArray n}:=by
 obtain ⟨z,AP,n,r,e⟩:=I.bY l _ hH;show ⟨z,AP,n,r,r.length,e⟩
def rB (h:n<=BL):WH n=false:=by
 unfold WH;exact NV bv
end
section
variable {X:Cx}
inductive FH (x:V)(vs:ε)(H:Hp)(Q:VK):Prop
|mk (l xs y:_)(_:x=.ref l)(_:vs=[y])(_:H l=some (.lst xs))(_:xs.length<BL)(_:Q .cL (upd H l (.lst (xs++[y]))))
def e_:MtM X "list.append" FH:=by
 intro pX s Y H x vs v us Q I rx rv h;obtain ⟨l,xs,y,rfl,rfl,hH,hz,q⟩:=h;cases rx;obtain ⟨u,rfl,ru⟩:=rv.one;obtain ⟨z,AP,n,r,hl,e⟩:=I.lD hH;refine Rm F.slot_list_append ⟨_,e,rfl⟩ F.entry_list_append (F.args_list_append_2 _ _) (PySem.list_append l AP.toArray n u (by rw [JN];omega)) ⟨e,?_⟩;show ⟨.cL,_,I.Q8 (uh:=AP++[u]) hH e cr (r.append (.cons ru .nil)) ?_,rfl,q⟩;rw [CL,NP];exact nR hz
inductive FI (x:V)(vs:ε)(H:Hp)(Q:VK):Prop
|mk (l b xs zs:_)(_:x=.ref l)(_:vs=[.ref b])(_:H l=some (.lst xs))(_:H b=some (.lst zs))(_:xs.length+zs.length<=BL)(_:Q .cL (upd H l (.lst (xs++zs))))
def afC:MtM X "list.extend" FI:=by
 intro pX s Y H x vs v us Q I rx rv h;obtain ⟨l,b,xs,zs,rfl,rfl,hH,hB,hz,q⟩:=h;cases rx;obtain ⟨u,rfl,ru⟩:=rv.one;cases ru;obtain ⟨z,AP,n,r,hl,e⟩:=I.lD hH;obtain ⟨z2,dY,n2,r2,AD,e2⟩:=I.lD hB;let hsz:AP.toArray.size+dY.toArray.size<=BL:=by rw [JN,JN];omega
 let xY:¬ (!AP.toArray.isEmpty && WH (AP.toArray.size+dY.toArray.size))=true:=by
  rw [rB hsz,Wx];exact JP
 refine Rm F.slot_list_extend ⟨_,e,rfl⟩ F.entry_list_extend (F.args_list_extend_2 _ _)
  (AutoSeq1.list_extend_list_list_0 l AP.toArray n b dY.toArray n2 xY (by rw [JN];omega) bv) ⟨e,e2,?_⟩
 show ⟨.cL,_,I.Q8 (uh:=AP++dY) hH e cr (r.append r2) ?_,rfl,q⟩;rw [CL];omega
def ahC:V->List V->Hp->VK->Prop:=fun x vs H Q=>∃l xs i k y,x=.ref l/\vs=[.int i]/\H l=some (.lst xs)/\ -(2^63)<=i/\i<2^63/\seqIndex? i xs.length=some k/\xs[k]?=some y/\Q y (upd H l (.lst (xs.eraseIdx k)))
def xZ:MtM X "list.pop" ahC:=by
 intro pX s Y H x vs v us Q I rx rv h;obtain ⟨l,xs,i,k,y,rfl,rfl,hH,h1,h2,hk,hy,q⟩:=h;cases rx;obtain ⟨u,rfl,ru⟩:=rv.one;obtain ⟨t,rfl⟩:=ru;obtain ⟨z,AP,n,r,hl,e⟩:=I.lD hH;obtain ⟨w,hw,qE⟩:=r.get hy
 refine Rm F.slot_list_pop ⟨_,e,rfl⟩ F.entry_list_pop (F.args_list_pop_2 _ _)
  (MeetsSeq.list_pop_at l AP.toArray n i t k w (fitsIndex_both h1 h2) (by rwa [JN,<-hl]) (by rwa [<-Array.getElem?_toList]) (by rw [JN];omega)) ⟨e,?_⟩
 show ⟨y,_,I.Q8 (uh:=AP.eraseIdx k) hH e ?_ (r.eraseIdx k) ?_,qE,q⟩
 ·show AP.toArray.eraseIdxIfInBounds k=(AP.eraseIdx k).toArray
  rw [List.eraseIdxIfInBounds_toArray]
 ·have:=uJ xs k
  omega
inductive Zi (x:V)(y:V)(H:Hp)(Q:VK):Prop
|mk (l b xs zs:_)(_:x=.ref l)(_:y=.ref b)(_:H l=some (.lst xs))(_:H b=some (.lst zs))(_:xs.length+zs.length<=BL)(_:∀p,H p=none->Q (.ref p) (upd H p (.lst (xs++zs))))
def i8:kD X (NR .Add) Zi:=by
 intro pX s Y H x y v u Q I rx ry h;obtain ⟨l,b,xs,zs,rfl,rfl,hH,hB,hz,q⟩:=h;cases rx;cases ry;obtain ⟨z,AP,n,r,hl,e⟩:=I.lD hH;obtain ⟨z2,dY,n2,r2,AD,e2⟩:=I.lD hB;refine PySem.P.add_list e e2 ?_ (by rw [JN,JN];omega);let ea:AP.toArray++dY.toArray=(AP++dY).toArray:=by simp
 rw [ea];show ⟨.ref _,_,I.VL (t':=s.toks) (r.append r2) (by rw [CL];omega),rfl,q _ I.fresh⟩
inductive Zj (x:V)(y:V)(H:Hp)(Q:VK):Prop
|mk (l k xs:_)(_:x=.ref l)(_:y=.int k)(_:H l=some (.lst xs))(_: -(2^63)<=k)(_:k<2^63)(_:xs.length*k.toNat<=BL)(_:∀p,H p=none->Q (.ref p) (upd H p (.lst (DQ k.toNat xs).flatten)))
def len_rep {Z:Type}(xs:List Z)(k:Nat):(DQ k xs).flatten.length=k*xs.length:=by
 induction k with
 | zero=>simp
 | succ k ih=>rw [Rx,tW,CL,ih,Nat.succ_mul,qj]
def BE:kD X (NR .Mult) Zj:=by
 intro pX s Y H x y v u Q I rx ry h;obtain ⟨l,k,xs,rfl,rfl,hH,h1,h2,hz,q⟩:=h;cases rx;obtain ⟨t,rfl⟩:=ry;obtain ⟨z,AP,n,r,hl,e⟩:=I.lD hH;let hlen:AP.toArray.size*k.toNat<=BL:=by rwa [JN,<-hl]
 let agI:¬ AP.toArray.size*k.toNat > (2^63-1) / 8:=by
  have:(BL:Nat)<=(2^63-1) / 8:=ce
  omega
 let agJ:¬ (!Builtin.List.listFitsIndex k)=true:=by
  rw [fitsIndex_both h1 h2];exact JP
 let xY:¬ WH (AP.toArray.size*k.toNat)=true:=by
  rw [rB hlen];exact JP
 let agK:apa (fun x1 x2=>x1++x2) #[] (DQ (if AP.toArray.isEmpty=true then 0 else k.toNat) AP.toArray)=(DQ k.toNat AP).flatten.toArray:=by
  let f0:∀m:Nat,apa (fun x1 x2=>x1++x2) #[] (DQ m AP.toArray)=(DQ m AP).flatten.toArray:=fun m=>by
   have:=foldl_rep AP m [];rwa [Xl] at this
  rw [f0];cases AP with
  | nil=>simp
  | cons a r'=>rw [qA cr]
 refine wpAny_binaryOp_repeat_ref (T:="list") (U:="int") ce ⟨_,e,rfl⟩ (fun s'=>typeIs_int s' k t) noFill_list_mul F.fills_int_mul F.slot_int_rmul repeat_list F.slot_int_index.lookup
  (Rm F.slot_int_rmul (typeIs_int s k t) F.entry_int_rmul (F.args_int_rmul_2 _ _) (int___rmul___int_list k t l AP.toArray n)
   ⟨e,rfl,⟨_,e,rfl⟩,Rm F.slot_list_mul ⟨_,e,rfl⟩ F.entry_list_mul (F.args_list_mul_2 _ _) (AutoListH.list___mul___list_int_3 l AP.toArray n k t agJ agI xY) ⟨e,?_⟩⟩)
 rw [agK];show ⟨.ref _,_,I.VL (t':=s.toks) (r.rep k.toNat) (by rwa [len_rep,σ0]),rfl,q _ I.fresh⟩
end
end L2
namespace Att
open PySem PySem.W PySem.Calls PyProof.Rows
def aia :∀(ns:ο)(vs:ς),WellAll P h vs (ns.map WData.int)->IntsAre vs ns:=by
 intro ns
 induction ns with
 | nil=>
  intro vs w;erw [Mi] at w;exact .nil
 | cons n ns ih=>
  intro vs w;rw [BS] at w;cases w with
  | cons a b=>
   cases a;exact .cons _ _ (ih _ b)
def JG {l:OpenLaw}(hn:l.most=some n){vals:ς}
  (Q9:l.row.toRowW.claim.pre args=true) (hwl:WellAll P h vals args):
  ∃a vs ns,vals=[Value.ref a]/\args=[WData.list (ns.map WData.int)]/\h.get? a=some {cls:=.type "list",data:=.seq vs.toArray}/\IntsAre vs ns/\ns.length<=n:=by
 let hsh:WShape.hasAll [] args [.list .int]=true:=(pre_splitW Q9).1;let hc:l.pre.holds [] {args:=args}=true:=(pre_splitW Q9).2;obtain ⟨d,r,rfl,h1,h2⟩:=hasAllW_cons hsh;obtain rfl:=hasAllW_nil h2;obtain ⟨xs,rfl,h3⟩:=hasW_list h1;obtain ⟨ns,rfl⟩:=items_int h3
 let hlen:ns.length<=n:=by
  unfold OpenLaw.pre at hc
  let h4:(WTm.not (.lt (.lit (.int (n:Int))) (.len (.arg 0)))).holds [] {args:=[.list (ns.map .int)]}=true:=by
   let h4:=(holds_andW hc).1;rwa [hn] at h4
  let h5:=condW_of h4 (w_not (w_lt w_lit (w_len_list (w_arg rfl))));rw [AU] at h5;refine ah7 fun q=>?_;let q':(n:Int)<((ns.length:Nat):Int):=bv
  first
   | (rw [JO q'] at h5;exact BH h5 ce)
   | (simp at h5;omega)
 cases hwl with
 | cons w1 w2=>
  cases w2;cases w1 with
  | list ho Nw=>show ⟨_,_,ns,rfl,rfl,ho,aia ns _ Nw,hlen⟩
def JH (l:OpenLaw)(args:List WData):l.row.toRowW.claim.post args (.bool true) args=true:=
 postW_of (r:=l.row.toRowW) (X:=(true==true))
  (show WShape.has [] (.bool true) .bool=true by first|rfl|decide|simp [WShape.has,WShape.arms,WShape.armsAll])
  (show (WTm.eq .res (.lit (.bool true))).value [] {args:=args,res:=some (.bool true),after:=args}=some (.bool (true==true)) from w_eq_bool (w_res rfl) w_lit) rfl
end Att
namespace L2
open PySem PySem.Spec PyProof.Rows
theorem uK:∀{vs:ς} {ns:ο},IntsAre vs ns->Vals (ns.map V.int) vs
 | _,_,.nil=>.nil
 | _,_,.cons n t h=>.cons ⟨t,rfl⟩ (uK h)
def Zk (H:Hp):Prop:=∀b,H b=none\/∃o xs,H b=some (.gP o (.lst xs))
def afv {K:Frag}{mg mb:ν}{vs:ς}{ns:ο}
  (KX:K.In tD.heap) (hns:tD.heap.Ns DG mg) (hb:tD.heap.Ns Vs mb) (hbb:∀x:Str,x≠ "__name__"->mb x=JX x) (agM:tD.heap.NoLimit) (Q_:tD.heap.NoSeer) (hg:tD.gens= #[])
  (ha:tD.heap.get? a=some {cls:=.type "list",data:=.seq vs.toArray}) (hi:IntsAre vs ns) (hl:ns.length<=BL) (hr:cG k callerA)
  (F:∀qf:Heap,K.In qf->qf.Ns DG mg->dm P w K mg qf CX k fa fd [x] sp) (Zl:∀(s:BR)(u:Value),BindsTo s fd ⟨[u],[]⟩ [(x,u)])
  (rq:∀H:Hp,Zk H->aV K H a (ns.map V.int)->sp [.ref a] H (fun v _=>v=.bl true) fun _ _ _=>False)
  (hCX:∀H e s',CX [] H tD (fun _ _ _=>False) e s' ->False):
  N6 (BC P w) callerA (.call (.ref fa) ⟨[.ref a],[]⟩) (fun r s'=>r=.ok (.ret (.bool true))/\OldK tD.heap s'.heap/\s'.os=tD.os/\Q4 s'.gens) tD:=by
 let rv:=uK hi;let agN:=hi.length
 let core:∀H:Hp,Zk H->aV K H a (ns.map V.int)->kN P w H tD.heap->(∀b,H b≠none->b=a)->(H a≠none->K.lookup a=none)->
   N6 (BC P w) callerA (.call (.ref fa) ⟨[.ref a],[]⟩) (fun r s'=>r=.ok (.ret (.bool true))/\OldK tD.heap s'.heap/\s'.os=tD.os/\Q4 s'.gens) tD:=by
  intro H hO hS bY hA hK;let vv:∀{b:AO} {o:Obj},tD.heap.get? b=some o->H b=none->(vk tD.heap H).get? b=some o:=fun e n=>acj e n
  let Y_:∀{b:AO} {o:Obj} {es:Array DictEntry} {ep:Nat},tD.heap.get? b=some o->o.data=.dict es ep->H b=none:=fun {b o es ep} e d=>by
   cases q:H b with
   | none=>rfl
   | some u=>
    let e':b=a:=hA b (by rw [q];simp);subst e';erw [ha] at e;let d':Data.seq vs.toArray _=Data.dict es ep:=d;cases d'
  let TX:∀{b:AO} {m:ν},tD.heap.Ns b m->(vk tD.heap H).Ns b m:=fun {b m} ⟨o,es,ep,e,d,r⟩=>⟨o,es,ep,vv e (Y_ e d),d,r⟩
  let hKb:K.In (vk tD.heap H):=fun b o e=>vv (KX b o e) (by
   cases q:H b with
   | none=>rfl
   | some u=>
    let e':b=a:=hA b (by rw [q];simp);subst e'
    rw [hK (by rw [q];simp)] at e;cases e)
  let hM:Mod K mg (vk tD.heap H):=⟨hKb,TX hns,⟨mb,TX hb,hbb⟩,let ⟨mc,h1,h2⟩:=agM;⟨mc,TX h1,h2⟩,
   ⟨let ⟨mc,h1,h2⟩:=Q_.statics;⟨mc,TX h1,h2⟩,let ⟨mc,h1,h2⟩:=Q_.mods;⟨mc,TX h1,h2⟩,let ⟨mc,h1,h2⟩:=Q_.imp;⟨mc,TX h1,h2⟩,
    let ⟨mg',bm,ob,h1,h2,h3,h4,h5⟩:=Q_.main;⟨mg',bm,ob,TX h1,h2,vv h3 (by
     cases q:H bm with
     | none=>rfl
     | some u=>
      let e':bm=a:=hA bm (by rw [q];simp);subst e';erw [ha] at h3;let h4':Value.type "list"=Value.type "module":=h4;injection h4' with e9
      exact BH e9 ce),h4,h5⟩⟩⟩
  let e0:AX P w K mg (vk tD.heap H) callerA [] tD H:=⟨rfl,hM,fun b o e=>adA e,tm (abq _ _),trivial,fun b hb=>BH (show b∈([]:List AO) from hb) cr,bY,.of_eq hg⟩;refine codeAny_mono ((F _ hKb (TX hns)).run callerA [] tD H ⟨[.ref a],[]⟩ [.ref a] [.ref a] _ _ hr e0 (Zl tD (.ref a)) (.cons rfl .nil) (rq H hO hS)) fun r s' h=>?_;cases r with
  | error e=>exact (hCX H e s' h).elim
  | ok fl=>
   cases fl with
   | next=>exact False.elim h
   | brk=>exact False.elim h
   | cont=>exact False.elim h
   | ret u=>
    obtain ⟨v,H',os,bare,un,agO,r',q⟩:=h;let q':v=.bl true:=q;subst q';obtain rfl:u=Value.bool true:=r';show ⟨rfl,OldK.of_keep fun b o e=>?_,os,bare⟩;cases q:H b with
    | none=>exact un.keep b o e q (by intro z;exact BH (show b∈([]:List AO) from z) cr) cr
    | some u=>
     rcases hO b with z|⟨ob,xs,z⟩
     ·erw [q] at z
     ·let z2:=un.tN b ob _ z
      obtain ⟨e1,_⟩:=bY b _ z;obtain ⟨e2,_⟩:=agO b _ z2;erw [e] at e1;exact e2
 cases hk:K.lookup a with
 | some o=>
  let e:=KX a o hk;erw [ha] at e;refine core (fun _=>none) (fun _=>.inl rfl) (.inr ⟨_,vs.toArray,_,hk,rfl,rfl,rfl,by rwa [JN,agN],by simpa using rv⟩) (fun b u z=>by have z':(none:Option HO)=some u:=z;cases z') (fun b z=>BH rfl z) fun z=>BH rfl z
 | none=>
  refine core (fun b=>if b=a then some (.gP {cls:=.type "list",data:=.seq vs.toArray} (.lst (ns.map V.int))) else none) (fun b=>?_) (.inl (.inr ⟨{cls:=.type "list",data:=.seq vs.toArray},tu rfl⟩)) (fun b u z=>?_) (fun b z=>?_) fun _=>hk
  ·by_cases hb:b=a
   ·exact .inr ⟨_,_,tu hb⟩
   ·exact .inl (qA hb)
  ·by_cases hb:b=a
   ·let z':=(tu hb).symm.trans z
    cases z';subst hb;show ⟨ha,by rwa [AU],vs,_,rv,ha⟩
   ·let z':=(qA hb).symm.trans z
    cases z'
  ·by_cases hb:b=a
   ·exact hb
   ·exact BH (qA hb) z
abbrev KOf {K:Frag}{h:Heap}(_:K.In h):Frag:=K
def inClass (s:Stmt)(j:Nat):Stmt:=match s with
 | .ClassDef _ _ _ body _ _ _ _ _ _ _=>body.getD j (.Pass ⟨0,0,0,0⟩)
 | _=>.Pass ⟨0,0,0,0⟩
def aw (s:Stmt):Arguments:=match s with
 | .FunctionDef _ a _ _ _ _ _ _ _ _=>a
 | _=>{posonlyargs:=[],args:=[],vararg:=none,kwonlyargs:=[],kw_defaults:=[],kwarg:=none,defaults:=[]}
def au (s:Stmt):List Stmt:=match s with
 | .FunctionDef _ _ b _ _ _ _ _ _ _=>b
 | _=>[]
def ae (s:Stmt):Scope:=match s with
 | .FunctionDef _ _ _ _ _ _ sc _ _ _=>sc
 | _=>{kind:=.function,names:=[],isGenerator:=false,isCoroutine:=false}
abbrev E0:XK:=fun _ _ _=>False
structure qk (K:Frag)(x qual:Str)(st:Stmt)(f:AO)(fd:FuncData):Prop where
 ex:∃(oc:Value)(od:Μ)(kV doc pm:Value)(an:Μ)(cD ct:Value)(tH:Ξ),
  fd=fnOf x qual (aw st) (au st) (ae st) .none kV doc pm an cD ct/\K.lookup f=some ⟨oc,od,.func fd,tH⟩/\codeIn K cD qual=true
 kp:keepIn K (.ref f)=true
section
variable {P:DN}{w:World}{K:Frag}{mg:ν}{qf:Heap}
def qk.binds {st:Stmt}(F:qk K x qual st f fd)
  (h:∀(kV doc pm:Value)(an:Μ)(cD ct:Value)(us:ς),us.length=ps.length->bindArgs (fnOf x qual (aw st) (au st) (ae st) .none kV doc pm an cD ct) ⟨us,[]⟩=pure (ps.zip us)):Binds K fd ps []:=by
 obtain ⟨oc,od,kV,doc,pm,an,cD,ct,tH,rfl,lk,tO⟩:=F.ex;exact .all (h kV doc pm an cD ct)
def dJ {st:Stmt}{od an:Μ}{tH:Ξ}{kV doc pm cD ct:Value}(l:K.lookup f=some ⟨oc,od,.func (fnOf x qual (aw st) (au st) (ae st) .none kV doc pm an cD ct),tH⟩)
  (c:codeIn K cD qual=true) (k:keepIn K (.ref f)=true):qk K x qual st f (fnOf x qual (aw st) (au st) (ae st) .none kV doc pm an cD ct):=⟨⟨oc,od,kV,doc,pm,an,cD,ct,tH,rfl,l,c⟩,k⟩
end
def cf (hr:cG k A):A.units+1<LY:=IY (Nat.add_le_add_left (by decide:1<=64) _) hr.units
section
variable {X:Cx}
def pv (i:Nat){pos:Pos}(hN:X.N[i]?=some x:=by rfl)(hv:Vis X.env.scope x:=by first|exact Np rfl|exact Oq (Np rfl)|exact Oq (Oq rfl))(hd:(x==("__debug__":Str))=false:=by decide)
  (tO:(x==("__classdict__":Str))=false:=by decide):PE X (.Name x pos) (QO i):=aej hN hv hd tO
end
def VN {A B:Prop}(h:B):if false=true then A else B:=by
 rwa [qA JP]
def agP {A B:Prop}(h:A):if true=true then A else B:=by
 rwa [tu rfl]
def bf {c A B:Prop}[Decidable c](h1:c->A)(h2:¬ c->B):if c then A else B:=by
 by_cases h:c
 ·rw [tu h]
  exact h1 h
 ·rw [qA h]
  exact h2 h
def NA {c A B:Prop}[Decidable c](hc:c)(h:B):if (!decide c)=true then A else B:=by
 rw [JO hc];exact VN h
def aq (H H':Hp):Prop:=∀b o,H b=some o->H' b=some o
def aq.refl (H:Hp):aq H H:=fun _ _ h=>h
def aq.trans (a:aq H H1)(b:aq H1 H2):aq H H2:=fun c o h=>b c o (a c o h)
def aq.free (e:aq H H')(h:H' l=apE):H l=apE:=by
 cases q:H l with
 | none=>rfl
 | some o=>
  erw [e l o q] at h
def aq.seq {K:Frag}(e:aq H H')(h:aV K H a xs):aV K H' a xs:=by
 rcases h with (h|⟨o,h⟩)|h
 ·exact .inl (.inl (e _ _ h))
 ·exact .inl (.inr ⟨o,e _ _ h⟩)
 ·exact .inr h
end L2
namespace Ty
def gz (t b:Int):Int:=(JF t b:Nat)
def sg (t b:Int):Int:=if b<0 then -gz t b else gz t b
def low (t b:Int):Int×Int:=(t.fdiv (sg t b),b.fdiv (sg t b))
def x6 (a b:Int):JF b (a.fmod b)=JF a b:=by
 rw [ai5,Int.gcd_sub_mul_left_right,Int.gcd_comm]
def uL {a b:Int}(h:b≠0):(a.fmod b).natAbs<b.natAbs:=by
 rcases tV b 0 with q|q|q
 ·let h1:(-a).fmod (-b)= -(a.fmod b):=by
   rw [ai5,ai5,Int.neg_fdiv_neg,Int.neg_mul];omega
  let h2:=vB (-a) (show 0 < -b by omega);let h3:=ahQ (-a) (show 0 < -b by omega);omega
 ·exact BH q h
 ·let h2:=vB a q
  let h3:=ahQ a q;omega
def vw (h:b≠0):0<gz t b:=by
 have:=ao4.mpr (Oq h:t≠0\/b≠0);show (0:Int)<((JF t b:Nat):Int);omega
def zaQ (h:b≠0):(gz t b).natAbs<=b.natAbs:=by
 let h1:JF t b ∣ b.natAbs:=vx.mpr (VT t b);let h2:=Nat.le_of_dvd bv h1;show ((JF t b:Nat):Int).natAbs<=_;omega
def rC (h:b≠0):sg t b≠0:=by
 have:=vw (t:=t) h;unfold sg;split<;>omega
def agj :(sg t b).natAbs=(gz t b).natAbs:=by
 unfold sg;split
 ·exact aiz _
 ·rfl
def aex (t b:Int):sg t b ∣ t:=by
 unfold sg gz;split
 ·exact Int.neg_dvd.mpr (VQ t b)
 ·exact VQ t b
def agS (t b:Int):sg t b ∣ b:=by
 unfold sg gz;split
 ·exact Int.neg_dvd.mpr (VT t b)
 ·exact VT t b
def c9 {a g:Int}(h:g≠0)(d:g ∣ a):a=g*a.fdiv g:=by
 obtain ⟨c,hc⟩:=d;have:=agT h hc;rwa [this]
def qG (h:b≠0):t=sg t b*(low t b).1:=c9 (rC h) (aex t b)
def mE (h:b≠0):b=sg t b*(low t b).2:=c9 (rC h) (agS t b)
def mF (h:b≠0):0<(low t b).2:=by
 let e:=mE (t:=t) h;let g:=vw (t:=t) h
 rcases tV (low t b).2 0 with q|q|q
 ·exfalso
  by_cases c:b<0
  ·let s:sg t b= -gz t b:=by unfold sg;rw [tu c]
   rw [s] at e;have:=Int.mul_pos_of_neg_of_neg (show -gz t b<0 by omega) q;omega
  ·let s:sg t b=gz t b:=by unfold sg;rw [qA c]
   rw [s] at e;have:=ahX g q;omega
 ·exfalso
  rw [q,VF] at e;exact h e
 ·exact q
def abo (h:b≠0):(low t b).1*b=t*(low t b).2:=by
 let e1:=qG (t:=t) h;let e2:=mE (t:=t) h
 calc (low t b).1*b=(low t b).1*(sg t b*(low t b).2):=by rw [<-e2]
  _=sg t b*(low t b).1*(low t b).2:=by rw [<-YO,QT (low t b).1]
  _=t*(low t b).2:=by rw [<-e1]
def qH (h:b≠0):JF (low t b).1 (low t b).2=1:=by
 let e1:=qG (t:=t) h;let e2:=mE (t:=t) h
 let k:JF t b=(sg t b).natAbs*JF (low t b).1 (low t b).2:=by
  let q:=aoZ (sg t b) (low t b).1 (low t b).2;rwa [<-e1,<-e2] at q
 let g:(sg t b).natAbs=JF t b:=by
  rw [agj];rfl
 let p:=ao4.mpr (Oq h:t≠0\/b≠0);rw [g] at k;let k':JF t b*1=JF t b*JF (low t b).1 (low t b).2:=by rwa [Nat.mul_one]
 exact (Nat.eq_of_mul_eq_mul_left p k').symm
def eK {g a:Int}(h:g≠0):a.natAbs<=(g*a).natAbs:=by
 rw [QX];have:1<=g.natAbs:=bv
 have:=NG a.natAbs this;omega
def rD (h:b≠0):(low t b).1.natAbs<=t.natAbs:=by
 let e:=qG (t:=t) h;have:=eK (g:=sg t b) (a:=(low t b).1) (rC h);rwa [<-e] at this
def rE (h:b≠0):(low t b).2.natAbs<=b.natAbs:=by
 let e:=mE (t:=t) h;have:=eK (g:=sg t b) (a:=(low t b).2) (rC h);rwa [<-e] at this
def NC (hg:g≠0)(ht:t=g*x)(hb:b=g*y)(hy:0<y)(h1:JF x y=1):low t b=(x,y):=by
 let AE:b≠0:=by
  rw [hb];exact ao5 hg (ms hy)
 let gg:JF t b=g.natAbs:=by
  rw [ht,hb,aoZ,h1,Nat.mul_one]
 let s:sg t b=g:=by
  unfold sg gz;rw [gg];by_cases c:g<0
  ·have:b<0:=by rw [hb];exact Int.mul_neg_of_neg_of_pos c hy
   rw [tu this];omega
  ·have:¬ b<0:=by
    have:=Int.mul_nonneg (show 0<=g by omega) (show 0<=y by omega);omega
   rw [qA this];omega
 unfold low;rw [s];rw [agT hg ht,agT hg hb]
def rF (hy:0<y)(h:JF x y=1):low x y=(x,y):=NC (g:=1) ce bv bv hy h
def uM (hk:k≠0)(h:b≠0):low (k*t) (k*b)=low t b:=by
 refine NC (g:=k*sg t b) (ao5 hk (rC h)) ?_ ?_ (mF h) (qH h)
 ·rw [YO]
  exact ud (k*·) (qG h)
 ·rw [YO]
  exact ud (k*·) (mE h)
def ahw (hb:b≠0)(hc:c≠0)(h:t*c=u*b):low t b=low u c:=by
 rw [<-uM (t:=t) (b:=b) hc hb,<-uM (t:=u) (b:=c) hb hc];rw [QT c t,h,QT u b,QT c b]
end Ty
set_option maxHeartbeats 4000000
namespace Ty
open PySem PySem.Spec PyProof.Rows L2
open Builtin.Int (intBits)
section
variable {X:Cx}
def uN (i j:Int):Prop:=intBits i<=33554432/\intBits j<=33554432
def di:kD X (NR .Mult) (rI uN fun i j=>.int (i*j)):=
 opI fun _ _ _ _ _ _ _ hc q=>mul_int q (IntMulOk.of_le hc.1 hc.2 ce)
def zaP (i j:Int):Prop:=j≠0/\intBits j<=9000
def agQ (h:intBits j<=9000):Builtin.divisionGoesByPylong i j=false:=by
 refine PyProof.noPylong_of_log2 ?_;let h1:=intBits_le_iff.mp h;by_cases h0:j.natAbs=0
 ·rw [h0]
  decide+kernel
 ·exact (Nat.log2_lt h0).mpr h1
def x9:kD X (NR .FloorDiv) (rI zaP fun i j=>.int (i.fdiv j)):=
 opI fun _ _ _ _ _ _ _ hc q=>floordiv_int hc.1 q (.inl (agQ hc.2))
end
inductive Da where
 | v (x:V)
 | t (ds:List Da)
 | l (ds:List Da)
mutual
def Is (K:Frag)(H:Hp):Da->V->Prop
 | .v x,u=>u=x/\jH x=true
 | .t ds,u=>∃p xs,u=.ref p/\bL K H p xs/\iE K H ds xs
 | .l ds,u=>∃p xs,u=.ref p/\aV K H p xs/\iE K H ds xs
def iE (K:Frag)(H:Hp):List Da->List V->Prop
 | [],[]=>True
 | d::ds,x::xs=>Is K H d x/\iE K H ds xs
 | _,_=>False
end
mutual
def jK:Da->Da->Bool
 | .v x,.v y=>jI x y
 | .t ds,.t es=>dC ds es
 | .l ds,.l es=>dC ds es
 | _,_=>false
def dC:List Da->List Da->Bool
 | [],[]=>true
 | d::ds,e::es=>jK d e && dC ds es
 | _,_=>false
end
mutual
def alike:Da->Da->Bool
 | .v _,.v _=>true
 | .t ds,.t es=>dO ds es
 | .l ds,.l es=>dO ds es
 | _,_=>false
def dO:List Da->List Da->Bool
 | d::ds,e::es=>alike d e && dO ds es
 | _,_=>true
end
mutual
def dep:Da->Nat
 | .v _=>0
 | .t ds=>i9 ds+1
 | .l ds=>i9 ds+1
def i9:List Da->Nat
 | []=>0
 | d::ds=>max (dep d) (i9 ds)
end
theorem iE.length {K:Frag}:∀{ds:List Da} {xs:ε},iE K H ds xs->ds.length=xs.length
 | [],[],_=>rfl
 | _::_,_::_,h=>ud (·+1) (iE.length (by unfold iE at h;exact h.2))
 | [],_::_,h=>by unfold iE at h;exact h.elim
 | _::_,[],h=>by unfold iE at h;exact h.elim
def jL (ds es:List Da)(j:Nat):Bool:=match ds[j]?,es[j]? with
 | some d,some e=>jK d e
 | _,_=>true
theorem dP:∀ds es:List Da,dC ds es=((JA (min ds.length es.length)).all (jL ds es) && ds.length==es.length)
 | [],[]=>rfl
 | [],_::_=>by simp [dC]
 | _::_,[]=>by simp [dC]
 | d::ds,e::es=>by
  let ih:=dP ds es;let r:min (d::ds).length (e::es).length=min ds.length es.length+1:=by simp [Nat.succ_min_succ]
  rw [r,ahu,YW,ai6];let b0:jL (d::ds) (e::es) 0=jK d e:=rfl
  let b1:(jL (d::ds) (e::es) ∘ Nat.succ)=jL ds es:=by
   funext j;rfl
  let l1:((d::ds).length==(e::es).length)=(ds.length==es.length):=by simp
  rw [b0,b1,l1,Bool.and_assoc,<-ih];rfl
section
variable {X:Cx}{pX:η}{Y:L2.St}{H:Hp}{s:BR}
def afm (h:jH x=true):jI x x=true:=by
 cases x<;>first|rfl|(simp [jI];done)|(cases h;done)
mutual
theorem vy (I:Inv X pX Y H s):∀(d e:Da)(x:V),Is X.K H d x->Is X.K H e x->alike d e=true->jK d e=true
 | .v a,.v b,x,h1,h2,_=>by
  unfold Is at h1 h2;obtain ⟨rfl,f⟩:=h1;obtain ⟨rfl,_⟩:=h2;unfold jK;exact afm f
 | .t ds,.t es,x,h1,h2,a=>by
  unfold Is at h1 h2;obtain ⟨p,xs,rfl,q1,k1⟩:=h1;obtain ⟨p',ys,e',q2,k2⟩:=h2;cases e';cases I.iF q1 q2;unfold jK;unfold alike at a;exact rG I ds es xs k1 k2 a
 | .l ds,.l es,x,h1,h2,a=>by
  unfold Is at h1 h2;obtain ⟨p,xs,rfl,q1,k1⟩:=h1;obtain ⟨p',ys,e',q2,k2⟩:=h2;cases e';cases I.jE q1 q2;unfold jK;unfold alike at a;exact rG I ds es xs k1 k2 a
 | .v _,.t _,_,_,_,a=>by unfold alike at a;cases a
 | .v _,.l _,_,_,_,a=>by unfold alike at a;cases a
 | .t _,.v _,_,_,_,a=>by unfold alike at a;cases a
 | .t _,.l _,_,_,_,a=>by unfold alike at a;cases a
 | .l _,.v _,_,_,_,a=>by unfold alike at a;cases a
 | .l _,.t _,_,_,_,a=>by unfold alike at a;cases a
theorem rG (I:Inv X pX Y H s):∀(ds es:List Da)(xs:ε),iE X.K H ds xs->iE X.K H es xs->dO ds es=true->dC ds es=true
 | [],[],_,_,_,_=>by unfold dC;rfl
 | d::ds,e::es,x::xs,h1,h2,a=>by
  unfold iE at h1 h2;unfold dO at a;rw [Ri] at a;unfold dC;rw [vy I d e x h1.1 h2.1 a.1,rG I ds es xs h1.2 h2.2 a.2];rfl
 | [],_::_,[],_,h2,_=>by unfold iE at h2;exact h2.elim
 | [],_::_,_::_,h1,_,_=>by unfold iE at h1;exact h1.elim
 | _::_,[],[],h1,_,_=>by unfold iE at h1;exact h1.elim
 | _::_,[],_::_,_,h2,_=>by unfold iE at h2;exact h2.elim
 | _::_,_::_,[],h1,_,_=>by unfold iE at h1;exact h1.elim
end
def in1_units (A:JD):A.in1.units=A.units+1:=rfl
mutual
theorem FJ (I:Inv X pX Y H s):∀(d e:Da)(x y:V)(u w:Value)(A:JD),Is X.K H d x->Is X.K H e y->alike d e=true->RelV x u->RelV y w->A.units+dep d<LY->SeqAt.EqAt A s u w (jK d e)
 | .v a,.v b,x,y,u,w,A,h1,h2,_,r1,r2,_=>by
  unfold Is at h1 h2;obtain ⟨rfl,f1⟩:=h1;obtain ⟨rfl,f2⟩:=h2;unfold jK;exact Nt r1 r2 f1 f2
 | .t ds,.t es,x,y,u,w,A,h1,h2,a,r1,r2,hu=>by
  have eI :=h1;let h2':=h2;unfold Is at h1 h2;obtain ⟨p,xs,rfl,q1,k1⟩:=h1;obtain ⟨p',ys,rfl,q2,k2⟩:=h2;cases r1;cases r2;by_cases e:p=p'
  ·subst e
   rw [vy I _ _ _ eI h2' a];exact .same _
  ·refine .of_refs e ?_
   obtain ⟨AP,v1,t1,_⟩:=I.tuple q1;obtain ⟨dY,v2,t2,_⟩:=I.tuple q2;unfold jK;rw [dP,k1.length,k2.length,v1.length,v2.length]
   let z:=SeqAt.RcAt.tuples (A:=A) (e:=jL ds es) t1 t2 (by unfold dep at hu;omega) fun j g1 g2=>by
    unfold dep at hu;unfold alike at a;exact gU I ds es xs ys AP dY A.in1 k1 k2 a v1 v2 (by rw [in1_units];omega) j (by simpa using g1) (by simpa using g2)
   simpa using z
 | .l ds,.l es,x,y,u,w,A,h1,h2,a,r1,r2,hu=>by
  have eI :=h1;let h2':=h2;unfold Is at h1 h2;obtain ⟨p,xs,rfl,q1,k1⟩:=h1;obtain ⟨p',ys,rfl,q2,k2⟩:=h2;cases r1;cases r2;by_cases e:p=p'
  ·subst e
   rw [vy I _ _ _ eI h2' a];exact .same _
  ·refine .of_refs e ?_
   obtain ⟨AP,v1,t1,_⟩:=I.list q1;obtain ⟨dY,v2,t2,_⟩:=I.list q2;unfold jK;unfold dep at hu;unfold alike at a;by_cases el:AP.length=dY.length
   ·rw [dP,k1.length,k2.length,v1.length,v2.length]
    let z:=SeqAt.RcAt.lists (A:=A) (e:=jL ds es) t1.isList t2.isList (by simpa using el) bv fun j g1 g2=>
     gU I ds es xs ys AP dY A.in1 k1 k2 a v1 v2 (by rw [in1_units];omega) j (by simpa using g1) (by simpa using g2)
    rw [el,ai7,beq_self_eq_true,aiN];rwa [JN,el] at z
   ·let ne:dC ds es=false:=by
     rw [dP,k1.length,k2.length,v1.length,v2.length,beq_eq_false_iff_ne.mpr el,Wx]
    rw [ne];exact SeqAt.RcAt.lists_lengths t1.isList t2.isList (by simpa using el) bv
 | .v _,.t _,_,_,_,_,_,_,_,a,_,_,_=>by unfold alike at a;cases a
 | .v _,.l _,_,_,_,_,_,_,_,a,_,_,_=>by unfold alike at a;cases a
 | .t _,.v _,_,_,_,_,_,_,_,a,_,_,_=>by unfold alike at a;cases a
 | .t _,.l _,_,_,_,_,_,_,_,a,_,_,_=>by unfold alike at a;cases a
 | .l _,.v _,_,_,_,_,_,_,_,a,_,_,_=>by unfold alike at a;cases a
 | .l _,.t _,_,_,_,_,_,_,_,a,_,_,_=>by unfold alike at a;cases a
theorem gU (I:Inv X pX Y H s):∀(ds es:List Da)(xs ys:ε)(us ws:ς)(A:JD),iE X.K H ds xs->iE X.K H es ys->dO ds es=true->Vals xs us->Vals ys ws->A.units+i9 ds<LY->
  ∀(j:Nat)(h1:j<us.length)(h2:j<ws.length),SeqAt.EqAt A s us[j] ws[j] (jL ds es j)
 | d::ds,e::es,xs,ys,us,ws,A,k1,k2,a,v1,v2,hu,j,h1,h2=>by
  cases xs with
  | nil=>unfold iE at k1;exact k1.elim
  | cons x xs=>
   cases ys with
   | nil=>unfold iE at k2;exact k2.elim
   | cons y ys=>
    cases v1 with
    | cons r1 v1=>
     cases v2 with
     | cons r2 v2=>
      unfold iE at k1 k2;unfold dO at a;rw [Ri] at a;unfold i9 at hu;cases j with
      | zero=>exact FJ I d e x y _ _ A k1.1 k2.1 a.1 r1 r2 bv
      | succ j=>exact gU I ds es xs ys _ _ A k1.2 k2.2 a.2 v1 v2 bv j (by simpa using h1) (by simpa using h2)
 | [],_,xs,_,us,_,_,k1,_,_,v1,_,_,_,h1,_=>by
  cases xs with
  | nil=>
   cases v1;exact BH h1 (QY _)
  | cons x xs=>unfold iE at k1;exact k1.elim
 | _::_,[],_,ys,_,ws,_,_,k2,_,_,v2,_,_,_,h2=>by
  cases ys with
  | nil=>
   cases v2;exact BH h2 (QY _)
  | cons y ys=>unfold iE at k2;exact k2.elim
end
end
section
variable {X:Cx}
inductive TY (K:Frag)(x:V)(y:V)(H:Hp)(Q:VK):Prop
|mk (ds es:_)(_:((Is K H (.t ds) x/\Is K H (.t es) y)\/(Is K H (.l ds) x/\Is K H (.l es) y)))(_:dO ds es=true)(_:i9 ds<=60)(_:Q (.bl (dC ds es)) H)
inductive FK (K:Frag)(x:V)(y:V)(H:Hp)(Q:VK):Prop
|mk (ds es:_)(_:((Is K H (.t ds) x/\Is K H (.t es) y)\/(Is K H (.l ds) x/\Is K H (.l es) y)))(_:dO ds es=true)(_:i9 ds<=60)(_:Q (.bl (!dC ds es)) H)
def qI (hu:X.A.units+64<LY):kD X (Mb .Eq) (TY X.K):=by
 intro pX s Y H x y v u Q I rx ry h;obtain ⟨ds,es,h,a,hd,q⟩:=h
 rcases h with ⟨h1,h2⟩|⟨h1,h2⟩
 ·unfold Is at h1 h2
  obtain ⟨p,xs,rfl,q1,k1⟩:=h1;obtain ⟨p',ys,rfl,q2,k2⟩:=h2;cases rx;cases ry;obtain ⟨AP,v1,t1,_⟩:=I.tuple q1;obtain ⟨dY,v2,t2,_⟩:=I.tuple q2
  let z:=SeqAt.RcAt.tuples (A:=X.A) (e:=jL ds es) t1 t2 bv fun j g1 g2=>
   gU I ds es xs ys AP dY X.A.in1 k1 k2 a v1 v2 (by rw [in1_units];omega) j (by simpa using g1) (by simpa using g2)
  refine z X.prog X.w X.xe _ ⟨.bl _,H,I,rfl,?_⟩;let e:=dP ds es;rw [k1.length,k2.length,v1.length,v2.length] at e;simpa [e] using q
 ·unfold Is at h1 h2
  obtain ⟨p,xs,rfl,q1,k1⟩:=h1;obtain ⟨p',ys,rfl,q2,k2⟩:=h2;cases rx;cases ry;obtain ⟨AP,v1,t1,_⟩:=I.list q1;obtain ⟨dY,v2,t2,_⟩:=I.list q2;let e:=dP ds es;rw [k1.length,k2.length,v1.length,v2.length] at e;by_cases el:AP.length=dY.length
  ·let z:=SeqAt.RcAt.lists (A:=X.A) (e:=jL ds es) t1.isList t2.isList (by simpa using el) bv fun j g1 g2=>
    gU I ds es xs ys AP dY X.A.in1 k1 k2 a v1 v2 (by rw [in1_units];omega) j (by simpa using g1) (by simpa using g2)
   refine z X.prog X.w X.xe _ ⟨.bl _,H,I,rfl,?_⟩;rw [el,ai7,beq_self_eq_true,aiN] at e;simpa [e,el] using q
  ·let ne:dC ds es=false:=by rw [e,beq_eq_false_iff_ne.mpr el,Wx]
   rw [ne] at q;exact SeqAt.RcAt.lists_lengths t1.isList t2.isList (by simpa using el) bv X.prog X.w X.xe _ ⟨.bl _,H,I,rfl,q⟩
def qJ (hu:X.A.units+64<LY):kD X (Mb .NotEq) (FK X.K):=by
 intro pX s Y H x y v u Q I rx ry h;obtain ⟨ds,es,h,a,hd,q⟩:=h
 rcases h with ⟨h1,h2⟩|⟨h1,h2⟩
 ·unfold Is at h1 h2
  obtain ⟨p,xs,rfl,q1,k1⟩:=h1;obtain ⟨p',ys,rfl,q2,k2⟩:=h2;cases rx;cases ry;obtain ⟨AP,v1,t1,_⟩:=I.tuple q1;obtain ⟨dY,v2,t2,_⟩:=I.tuple q2
  let z:=SeqAt.RcNeAt.tuples (A:=X.A) (e:=jL ds es) t1 t2 bv fun j g1 g2=>
   gU I ds es xs ys AP dY X.A.in1 k1 k2 a v1 v2 (by rw [in1_units];omega) j (by simpa using g1) (by simpa using g2)
  refine z X.prog X.w X.xe _ ⟨.bl _,H,I,rfl,?_⟩;let e:=dP ds es;rw [k1.length,k2.length,v1.length,v2.length] at e;simpa [e] using q
 ·unfold Is at h1 h2
  obtain ⟨p,xs,rfl,q1,k1⟩:=h1;obtain ⟨p',ys,rfl,q2,k2⟩:=h2;cases rx;cases ry;obtain ⟨AP,v1,t1,_⟩:=I.list q1;obtain ⟨dY,v2,t2,_⟩:=I.list q2;let e:=dP ds es;rw [k1.length,k2.length,v1.length,v2.length] at e;by_cases el:AP.length=dY.length
  ·let z:=SeqAt.RcNeAt.lists (A:=X.A) (e:=jL ds es) t1.isList t2.isList (by simpa using el) bv fun j g1 g2=>
    gU I ds es xs ys AP dY X.A.in1 k1 k2 a v1 v2 (by rw [in1_units];omega) j (by simpa using g1) (by simpa using g2)
   refine z X.prog X.w X.xe _ ⟨.bl _,H,I,rfl,?_⟩;rw [el,ai7,beq_self_eq_true,aiN] at e;simpa [e,el] using q
  ·let ne:dC ds es=false:=by rw [e,beq_eq_false_iff_ne.mpr el,Wx]
   rw [ne] at q;exact SeqAt.RcNeAt.lists_lengths t1.isList t2.isList (by simpa using el) bv X.prog X.w X.xe _ ⟨.bl _,H,I,rfl,q⟩
def VP:V->Value
 | .ty n=>.type n
 | .ref a=>.ref a
 | _=>.none
def TZ:V->Bool
 | .ty _=>true
 | .ref _=>true
 | _=>false
def FL (h:TZ c=true)(r:RelV c u):u=VP c:=by
 cases c<;>first|exact r|(cases h;done)
inductive Zo (K:Frag)(xs:ε)(H:Hp)(Q:VK):Prop
|mk (x c t b:_)(_:xs=[x,c])(_:TZ c=true)(_:ou K H x t)(_:NU K t (VP c)=some b)(_:Q (.bl b) H)
def gc:fu X (.builtin "isinstance") (Zo X.K):=by
 intro pX s Y H xs us Q I r h;obtain ⟨x,c,t,b,rfl,hc,ty,e,q⟩:=h;obtain ⟨u,w,rfl,r1,r2⟩:=vals2 r;obtain rfl:=FL hc r2;exact acM I r1 ty e fun tk=>⟨.bl b,H,I.tok tk,rfl,q⟩
end
section
variable {K:Frag}
def afl (h:((Value.type a==Value.type b)=true->v=true)/\((Value.type a==Value.type b)=false->PySem.W.kitMeta b=true/\(fastBuiltinMro a).map (·.contains (Value.type b))=some v)):NU K (.type a) (.type b)=some v:=by
 unfold NU;by_cases e:(Value.type a==Value.type b)=true
 ·rw [tu e,h.1 e]
 ·rw [qA e]
  obtain ⟨h1,h2⟩:=h.2 (by simpa using e);unfold PySem.W.kitCls;dsimp only;rwa [tu h1]
end
def bM:JX "len"=some (.builtin "len"):=by decide+kernel
def T1:JX "abs"=some (.builtin "abs"):=by decide+kernel
def cH:JX "isinstance"=some (.builtin "isinstance"):=by decide+kernel
def T2:JX "all"=some (.builtin "all"):=by decide+kernel
def NH:JX "int"=some (.type "int"):=by decide+kernel
def agh:JX "bool"=some (.type "bool"):=by decide+kernel
def NI:JX "str"=some (.type "str"):=by decide+kernel
def gs:JX "list"=some (.type "list"):=by decide+kernel
def vA:JX "tuple"=some (.type "tuple"):=by decide+kernel
def BF:JX "dict"=some (.type "dict"):=by decide+kernel
def mG {pos:Pos}(hg:Gl X x)(hm:X.mg x=none)(hv:JX x=some (.type n))(hn:x≠ "__name__":=by decide)(hd:(x==("__debug__":Str))=false:=by decide):PE X (.Name x pos) (tC (.ty n)):=zay (v:=.ty n) hg hm hv rfl hn hd
def VR (_ j:Int):Prop:=j≠0
def nz (h:j≠0):VR i j:=h
def gG :kD X (NR .Mod) (rI VR fun i j=>.int (i.fmod j)):=agb
def FN :i9 [.v a,.v b]<=60:=by simp [i9,dep]
end Ty
namespace TyAtt
open PySem PySem.W PySem.Calls PyProof.Rows
open Builtin.Int (intBits)
def abP {ns:ο}(h:(WData.list (ns.map WData.int)).layable=true)(hn:n∈ns):intBits n<=1048576:=by
 obtain ⟨_,_,hw⟩:=layableW_iff.mp h
 let a:∀(l:ο),n∈l->intBits n<=WData.weightAll (l.map WData.int):=by
  intro l
  induction l with
  | nil=>intro q;cases q
  | cons y r ih=>
   intro q;rw [BS];unfold WData.weightAll
   rcases JC.mp q with z|z
   ·subst z
    have:intBits n<=WData.weight (.int n):=by
     unfold WData.weight;exact BW _
    omega
   ·have:=ih z
    omega
 let b:=a ns hn;unfold WData.weight at hw;omega
def x_ {l:OpenLaw}{loose:τ}
  (hn:l.most=some n) (hdf:d.params.defaults=[])
  (call:∀(w:World)(uc tD:BR)(mg mb:ν)(fa:AO)(o:Obj)(pm cd doc:Value)(a:AO)(vs:ς)(ns:ο),
   Ground q loose [] XP w uc mg mb tD.heap->YP w tD.heap->
   tD.heap.get? fa=some o->o.data=.func (docDef d.name d.params d.body d.scope pm cd doc)->tD.heap.CodeRec cd d.name->mg d.name=some (.ref fa)->
   tD.heap.get? a=some {cls:=.type "list",data:=.seq vs.toArray}->IntsAre vs ns->ns.length<=n->(∀i∈ns,intBits i<=1048576)->tD.gens= #[]->
   N6 (BC l.prog w) callerA (.call (.ref fa) ⟨[.ref a],[]⟩) (fun r s'=>r=.ok (.ret (.bool true))/\OldK tD.heap s'.heap/\s'.os=tD.os/\Q4 s'.gens) tD):
  WalkO q loose XP YP l.row.toRowW d [] (fun f vs=>PySem.call f vs):=by
 intro w uc tD mg mb G σ fa o pm cd doc dV kV ho hd tO hD Zp hg args vals as Q9 hlay hrd hwl hlo;obtain rfl:dV=.none:=Dflts.none hD hdf;obtain rfl:kV=.none:=Dflts.noKw hD;obtain ⟨a,vs,ns,rfl,rfl,VS,hints,hlen⟩:=Att.JG hn Q9 hwl;let hb:∀i∈ns,intBits i<=1048576:=fun i hi=>abP (layW_cons hlay).1 hi;refine enter_call (codeAny_mono (call w uc tD mg mb fa o pm cd doc a vs ns G σ ho (fd_plain hd) tO Zp VS hints hlen hb hg) fun r s' hq=>?_);obtain ⟨rfl,h2,h3,h4⟩:=hq;show ⟨.inl ⟨.bool true,.bool true,[],rfl,fun _=>rfl,.bool true,Att.JH l _,fun _=>⟨List.Pairwise.nil,fun _ hm=>(nomatch hm)⟩⟩,h2,h3,h4⟩
end TyAtt
namespace Ty
open PySem PySem.Spec PyProof.Rows L2
open Builtin.Int (intBits)
structure Fn (P:DN)(w:World)(K:Frag)(mg:ν)(qf:Heap)(CX:mi)(k:Nat)(x:Str)(ps:τ)(sp:Sp):Prop where
 ex:∃(f:AO)(fd:FuncData),dm P w K mg qf CX k f fd ps sp/\Binds K fd ps []/\mg x=some (.ref f)/\keepIn K (.ref f)=true
structure Def (K:Frag)(mg:ν)(x:Str)(st:Stmt)(ps:τ):Prop where
 ex:∃(f:AO)(dV oc:Value)(od:Μ)(kV doc pm:Value)(an:Μ)(cD ct:Value)(tH:Ξ),
  K.lookup f=some ⟨oc,od,.func (fnOf x x (aw st) (au st) (ae st) dV kV doc pm an cD ct),tH⟩/\codeIn K cD x=true/\keepIn K (.ref f)=true/\
  Binds K (fnOf x x (aw st) (au st) (ae st) dV kV doc pm an cD ct) ps []/\mg x=some (.ref f)
def Def.of {K:Frag}{st:Stmt}(F:qk K x x st f fd)(b:Binds K fd ps [])(m:mg x=some (.ref f)):Def K mg x st ps:=by
 obtain ⟨oc,od,kV,doc,pm,an,cD,ct,tH,rfl,lk,tO⟩:=F.ex;show ⟨f,.none,oc,od,kV,doc,pm,an,cD,ct,tH,lk,tO,F.kp,b,m⟩
section
variable {P:DN}{w:World}{K:Frag}{mg:ν}{qf:Heap}{CX:mi}
def Def.ok {st:Stmt}(D:Def K mg x st ps)(S:aC N ps (ae st))(len:∀vs H Q E,sp vs H Q E->vs.length=ps.length)
  (gT:∀(f:AO)(cD:Value)(A:JD)(qw:List Env)(s:BR)(H:Hp)(vs:ε)(Q:VK)(E:XK),cG k (A.deeper (NS x (ae st) s.heap.objs.size f cD))->sp vs H Q E->
   ∃t,vf (mz CX P w K mg qf N x (ae st) f cD A qw s H E).xC (au st) t/\t {nx:=fun _ H'=>Q .cL H',rt:=Q} (start N vs) H):Fn P w K mg qf CX (k+1) x ps sp:=by
 obtain ⟨f,dV,oc,od,kV,doc,pm,an,cD,ct,tH,lk,tO,kp,b,m⟩:=D.ex;show ⟨f,_,FC lk tO S len fun A qw s H vs Q E hr rq=>?_,b,m,kp⟩;obtain ⟨t,h,q⟩:=gT f cD A qw s H vs Q E hr rq;show ⟨t,h.xC,q⟩
def _root_.L2.qk.okG {st:Stmt}(F:qk K x x st f fd)(S:aC N ps (ae st))(len:∀vs H Q E,sp vs H Q E->vs.length=ps.length)
  (gT:∀(cD:Value)(A:JD)(qw:List Env)(s:BR)(H:Hp)(vs:ε)(Q:VK)(E:XK),cG k (A.deeper (NS x (ae st) s.heap.objs.size f cD))->sp vs H Q E->
   ∃t,vf (mz CX P w K mg qf N x (ae st) f cD A qw s H E).xC (au st) t/\t {nx:=fun _ H'=>Q .cL H',rt:=Q} (start N vs) H):dm P w K mg qf CX (k+1) f fd ps sp:=by
 obtain ⟨oc,od,kV,doc,pm,an,cD,ct,tH,rfl,lk,tO⟩:=F.ex;refine FC lk tO S len fun A qw s H vs Q E hr rq=>?_;obtain ⟨t,h,q⟩:=gT cD A qw s H vs Q E hr rq;show ⟨t,h.xC,q⟩
def ya (CX:mi):Prop:=∀qw H s e s',CX qw H s E0 e s' ->False
def rH {X:Cx}(h:ya CX):Passes CX X.xC E0:=fun _ _ _ _ _ _ _ q=>(h _ _ _ _ _ q).elim
section
variable {X:Cx}{k:Nat}{ps:τ}{sp:Sp}{E:XK}{x:Str}{p pos:Pos}{e:Expr}{es:Δ}{t:TA}
def rJ (F:Fn X.prog X.w X.K X.mg X.qf CX k x ps sp)(hr:cG k X.A)(hx:Passes CX X E)(ha:PA X (e::es) t)(hg:Gl X x:=by rfl)(xS:(x==("__debug__":Str))=false:=by decide)
  (he:CZ (e::es) X.env=(false,CB e X.env)::CZ es X.env:=by rfl) (uE:(Ku pos (CZ es X.env)).any (·.1)=false:=by rfl):PE X (.Call (.Name x p) (e::es) [] pos) (EZ sp [] E t):=by
 obtain ⟨f,fd,G,b,m,kp⟩:=F.ex;exact af0 G hr hg m kp b .nil hx ha xS he uE
end
end
def NJ (K:Frag):Sp:=fun vs H Q _=>∃(a:AO)(ns:ο),vs=[.ref a]/\aV K H a (ns.map V.int)/\ns.length<=63/\(∀i∈ns,intBits i<=1048576)/\∀H',Q (.bl true) H'
def walk {l:PySem.W.OpenLaw}{loose:τ}{K:Params->Frag}{CX:World->mi}
  (hn:l.most=some 63) (hdf:d.params.defaults=[]) (hi:importsNone q=true) (hr:cG k callerA)
  (hY:∀(w:World)(h:Heap),YP w h->(K w.params).In h) (hm:∀w,ya (CX w))
  (F:∀(w:World)(mg:ν)(fa:AO)(h:Heap),(K w.params).In h->h.Ns DG mg->mg d.name=some (.ref fa)->
   ∃fd:FuncData,(∀(s:BR)(u:Value),BindsTo s fd ⟨[u],[]⟩ [(x,u)])/\
    ∀qf:Heap,(K w.params).In qf->qf.Ns DG mg->dm l.prog w (K w.params) mg qf (CX w) k fa fd [x] (NJ (K w.params))):
  PySem.W.WalkO q loose XP YP l.row.toRowW d [] (fun f vs=>PySem.call f vs):=by
 refine TyAtt.x_ hn hdf fun w uc tD mg mb fa o pm cd doc a vs ns G σ ho hd tO Zp VS hints hlen hb hg=>?_;let KX:=hY w _ σ;obtain ⟨fd,hbd,hF⟩:=F w mg fa _ KX G.T.g Zp;exact afv KX G.T.g G.T.b G.T.builtins G.T.nolimit (G.T.seer hi) hg VS hints (BX hlen ce) hr hF hbd (fun H hO hS=>⟨a,ns,rfl,hS,hlen,hb,fun _=>rfl⟩) fun H e s'=>hm w [] H tD e s'
end Ty
namespace Ty
open PySem PySem.Spec PyProof.Rows L2
def DictAt (h:Heap)(a:AO)(dx:Μ):Prop:=∃o,h.get? a=some o/\o.dict=dx
def aY (P:DN)(w:World):mi:=fun qw H s E e s'=>∃(a:AO)(cls a0:Value)(dx:Μ)(H':Hp)(B:Heap),
 e=.ref a/\Heap.FlyingW B qw a cls a0 s'.heap/\DictAt s'.heap a dx/\Un (ET qw) [] H H' s.heap s'.heap/\kN P w H' s'.heap/\s'.os=s.os/\Q4 s'.gens/\
 (∀b o,s.heap.get? b=some o->b∉ET qw->∃o',B.get? b=some o')/\(∀b u,H' b=some u->∃o,B.get? b=some o)/\E cls dx H'
def aY.yd :ya (aY P w):=fun _ _ _ _ _ h=>by obtain ⟨_,_,_,_,_,_,_,_,_,_,_,_,_,_,_,z⟩:=h;exact z
section
variable {P:DN}{w:World}{K:Frag}{mg:ν}{qf:Heap}{N:τ}{qual:Str}{scope:Scope}{f:AO}{cD:Value}{A:JD}{qw:List Env}{s0:BR}{H0:Hp}{E:XK}
abbrev xk (P:DN)(w:World)(K:Frag)(mg:ν)(qf:Heap)(N:τ)(qual:Str)(scope:Scope)(f:AO)(cD:Value)(A:JD)(qw:List Env)(s0:BR)(H0:Hp)(E:XK):Cx:=mz (aY P w) P w K mg qf N qual scope f cD A qw s0 H0 E
end
section
variable {X:Cx}{pX:η}{Y:L2.St}{H H':Hp}{s:BR}
def XP (X:Cx)(pX:η)(Y:L2.St)(E:XK)(e:Value)(s':BR):Prop:=∃H s,Inv X pX Y H s/\aY X.prog X.w X.stack H s E e s'
end
set_option maxHeartbeats 1000000
section
variable {prog:DN}{w:World}{A:JD}{R:Τ}{s:BR}
def ago {ifs:Δ}(I:Nat->BR->Prop)
  (turn:∀n s,I n s->AV (BC prog w) A (pyNext it) (fun r tD=>match r with
   | none=>R (.ok .next) tD
   | some v=>AV (BC prog w) A (xJ target it v) (fun _ s₁' =>AV (BC prog w) A (assign target env v) (fun _ uq=>
     AV (BC prog w) A (forIn ifs true fun c r=>if r=true then do let ok <- isTrue c env (CB c env);pure (ForInStep.yield ok) else pure (ForInStep.yield r)) (fun ok s₃=>
      if ok=true then AV (BC prog w) A (CB elt env) (fun x s₄=>
       AV (BC prog w) A (call (.builtin "list.append") [acc,x]) (fun _ s₅=>∃m,m<n/\I m s₅) (fun _ _=>False) s₄) (fun _ _=>False) s₃
      else ∃m,m<n/\I m s₃) (fun _ _=>False) uq) (fun _ _=>False) s₁') (fun _ _=>False) tD) (fun _ _=>False) s)
  (n:Nat) (h:I n s):
  N6 (BC prog w) A (.compLoop (.ListComp elt [⟨target,iter,ifs,0⟩] scope pos) 0 it acc env) R s:=by
 refine codeAny_loop rfl I (fun n s hI=>?_) n h;show AV _ A ((compTurn (.ListComp elt [⟨target,iter,ifs,0⟩] scope pos) 0 it acc env).onRaise (fun x=>do noteFrame x env;theTreesLotGoes x)) _ _ s;refine wpAny_noted ?_;rw [compTurn_list];refine AZ (wpAny_standAt (AZ (Kw (turn n s hI) (fun r tD um=>?_) fun _ _ h'=>h'.elim)));cases r with
 | none=>exact CK um
 | some v=>
  refine AZ (Kw um (fun _ s₁' h₁' =>?_) fun _ _ h'=>h'.elim);refine AZ (Kw h₁' (fun _ uq xj=>AZ (Kw xj (fun ok s₃ h₃=>?_) fun _ _ h'=>h'.elim)) fun _ _ h'=>h'.elim);cases ok with
  | false=>exact CK ⟨rfl,h₃⟩
  | true=>
   exact AZ (AZ (Kw h₃ (fun x s₄ h₄=>AZ (Kw h₄ (fun _ s₅ h₅=>CK (CK ⟨rfl,h₅⟩)) fun _ _ h'=>h'.elim)) fun _ _ h'=>h'.elim))
end
def bu (env:Env)(fr:τ):List (Str×AO):=fr.filterMap fun n=>(env.cells.lookup n).map fun c=>(n,c)
theorem lookup_mem {Z:Type}{c:Z}:∀{l:List (Str×Z)},l.lookup x=some c->(x,c)∈l
 | [],h=>by simp at h
 | (y,d)::r,h=>by
  rw [α7] at h;cases e:x==y with
  | true=>
   rw [e] at h;let e1:x=y:=by simpa using e
   cases h;rw [e1];exact CU
  | false=>
   rw [e] at h;exact DM _ (lookup_mem h)
def acn (h:(x,c)∈bu env fr):env.cells.lookup x=some c:=by
 obtain ⟨n,_,e⟩:=ahP.mp h;cases q:env.cells.lookup n with
 | none=>erw [q] at e
 | some d=>
  rw [q] at e;let e':(n,d)=(x,c):=C_ e;cases e';exact q
def gJ (h:(bu env fr).lookup x=some c):env.cells.lookup x=some c:=acn (lookup_mem h)
theorem oA (q:env.cells.lookup x=some c):∀{fr:τ},x∈fr->(bu env fr).lookup x=some c
 | [],h=>nomatch h
 | y::r,h=>by
  unfold bu;rw [wD];by_cases e:x=y
  ·subst e
   rw [q];simp
  ·let hr:x∈r:=by
    rcases JC.mp h with z|z
    ·exact BH z e
    ·exact z
   let ih:=oA q hr;cases z:env.cells.lookup y with
   | none=>exact ih
   | some d=>
    show OV x ((y,d)::_)=_;rw [α7];let ne:(x==y)=false:=by simpa using e
    rwa [ne]
def gu (env:Env):List Str->Prop
 | []=>True
 | y::r=>(env.kindOf y=some .cell\/env.kindOf y=some .free)/\gu env r
theorem gu.at :∀{fr:τ},gu env fr->x∈fr->env.kindOf x=some .cell\/env.kindOf x=some .free
 | [],_,h=>nomatch h
 | y::r,a,h=>by
  rcases JC.mp h with z|z
  ·rw [z]
   exact a.1
  ·exact gu.at a.2 z
section
variable {X:Cx}
def vC (X:Cx)(NB:τ)(scope:Scope)(fn:Str->Bool)(cl:List (Str×AO))(C:AO)(s:BR)(H:Hp)(fp:Β):Cx:=
 {prog:=X.prog,w:=X.w,K:=X.K,mg:=X.mg,qf:=X.qf,A:=X.A,N:=NB,uc:=s,H₀:=H,env:=compEnvC scope cl C X.env,qw:=X.stack,stack:=X.stack,ex:=fp,fn:=fn,calm:=X.calm,pn:=[],xe:=fun _ _=>False}
abbrev qK (X:Cx)(NB:τ)(scope:Scope)(cl:List (Str×AO))(C:AO)(s:BR)(H:Hp)(fp:Β):Cx:=vC X NB scope (fun _=>false) cl C s H fp
structure NK (X:Cx)(scope:Scope)(ow:AO->List (Str×AO))(fn:Str->Bool)(fr:τ)(tw:Ζ):Prop where
 JL:closureFor scope X.env=pure (bu X.env fr)
 kind:scope.kind=.function
 names:∀y∈scope.names,y.2=.local->scope.names.lookup y.1=some .local
 free:∀y∈scope.names,y.2=.free->y.1∈fr
 tw:tw.map (fun i=>X.N[i]?)=fr.map some
 out:gu X.env fr
 Zq:gu (compEnvC scope [] 0 X.env) fr
 new:∀{s:BR} {Q:Env->BR->Prop} {E:γ},(∀h',h'.Ns s.heap.objs.size (fun _=>none)->(∀b o,s.heap.get? b=some o->h'.get? b=some o)->(∀x c,(ow s.heap.objs.size).lookup x=some c->h'.IsCell c none)->
   Q (newEnv scope s.heap.objs.size X.env.globals (ow s.heap.objs.size++bu X.env fr) X.env.qual none .none (some X.env) Vs) {s with heap:=h',toks:=s.toks+([]:List (Str×Value)).length})->
  AV (BC X.prog X.w) X.A (yA scope X.env.globals (bu X.env fr) [] X.env.qual none .none (some X.env)) Q E s
 ge:∀C x c,(ow C).lookup x=some c->C<c
 one:∀C x z c,(ow C).lookup x=some c->(ow C).lookup z=some c->x=z
 fn1:∀C x,fn x=true->(ow C).lookup x≠none
 only:∀z∈scope.names,z.2=.cell->fn z.1=true
 ny:∀C,∀x∈fr,(ow C).lookup x=none
def uO {o cl:List (Str×AO)}(h:(o++cl).lookup x=some c):o.lookup x=some c\/(o.lookup x=none/\cl.lookup x=some c):=by
 rw [ahR] at h;cases e:o.lookup x with
 | none=>rw [e] at h;exact .inr ⟨rfl,h⟩
 | some d=>rw [e] at h;exact .inl h
structure vD (X:Cx)(scope:Scope)(fr:τ)(tw:Ζ):Prop where
 JL:closureFor scope X.env=pure (bu X.env fr)
 cell:∀y∈scope.names,y.2≠.cell
 kind:scope.kind=.function
 names:∀y∈scope.names,y.2=.local->scope.names.lookup y.1=some .local
 free:∀y∈scope.names,y.2=.free->y.1∈fr
 tw:tw.map (fun i=>X.N[i]?)=fr.map some
 out:gu X.env fr
 Zq:gu (compEnvC scope [] 0 X.env) fr
def PF (X:Cx)(ifs:Δ)(t:TT):Prop:=
 ∀(pX:η)(s:BR)(Y:L2.St)(H:Hp)(Q:Bool->Hp->Prop),Inv X pX Y H s->t Y H Q->
  AV (BC X.prog X.w) X.A (forIn ifs true fun c r=>if r=true then do let ok <- isTrue c X.env (CB c X.env);pure (ForInStep.yield ok) else pure (ForInStep.yield r)) (TP X pX Y Q) X.xe s
def kF:TT:=fun _ H Q=>Q true H
def rK:PF X [] kF:=fun _ _ _ H _ I h=>wpAny_tests_nil ⟨H,I,h⟩
def aga (h:PT X c t):PF X [c] t:=fun pX s Y H Q I q=>wpAny_tests_one (h pX s Y H Q I q)
def sB (k:Nat)(tw:Ζ)(Y:L2.St):L2.St:=DQ k none++tw.map fun i=>(Y[i]?).getD none
def oB (D:AO)(g:TG)(tt:TT)(te:TE)(J:It)(Y0:L2.St)(H1:Hp)(Q:VK):Prop:=∃W:Nat->Nat->L2.St->List V->Hp->Prop,
 (∃m,W 0 m Y0 [] (upd H1 D (.lst [])))/\∀i m Y2 ys H2,W i m Y2 ys H2->(J.stop i H2/\Q (.ref D) H2)\/(J.go i H2/\∀x H3,J.M_ i H2 x H3->g x Y2 H3 fun Y4 H4=>tt Y4 H4 fun b H5=>
  if b=true then te Y4 H5 fun v H6=>H6 D=some (.lst ys)/\ys.length<BL/\∃m',m'<m/\W (i+1) m' Y4 (ys++[v]) (upd H6 D (.lst (ys++[v]))) else ∃m',m'<m/\W (i+1) m' Y4 ys H5)
def mH (k:Nat)(tw:Ζ)(wi:TI)(g:TG)(tt:TT)(te:TE):TE:=fun Y H Q=>wi Y H fun J H1=>∀D,H1 D=none->oB D g tt te J (sB k tw Y) H1 Q
def agL (h:(sB k tw Y)[i]?=some (some v)):k<=i/\∃j,tw[i-k]?=some j/\Y[j]?=some (some v):=by
 unfold sB at h;by_cases c:i<k
 ·rw [JU (by simpa using c),Vk,tu c] at h
  cases h
 ·rw [JZ (by simpa using ah7 c),Vm,AY] at h
  show ⟨ah7 c,?_⟩;cases e:tw[i-k]? with
  | none=>erw [e] at h
  | some j=>
   rw [e] at h;show ⟨j,rfl,?_⟩;let h':(Y[j]?).getD none=some v:=C_ h;cases z:Y[j]? with
   | none=>erw [z] at h'
   | some o=>
    rw [z] at h';exact ud some h'
def rL {Y:L2.St}
    {RR:Value->AO->Result->BR->Prop} {E:γ} (hc:X.calm=true) (B:NK X scope ow fn fr tw)
  (hg:∀C s H fp,PG (vC X (tn++fr) scope fn (ow C++bu X.env fr) C s H fp) target g) (ht:∀C s H fp,PF (vC X (tn++fr) scope fn (ow C++bu X.env fr) C s H fp) ifs tt) (he:∀C s H fp,PE (vC X (tn++fr) scope fn (ow C++bu X.env fr) C s H fp) elt te)
  (I2:Inv X pX Y H2 s2) (T:Turn X.prog X.w X.K target J fp it T3) (oa:T3 0 s2.heap) (f2:∀b∈fp,oi X pX H2 b) (q:∀D,H2 D=none->oB D g tt te J (sB tn.length tw Y) H2 Q)
  (fin:∀D C H' s' m,Inv X pX Y H' s' ->s'.heap.Ns C m->oi X pX H' C->Q (.ref D) H' ->RR (.ref D) C (.ok .next) s'):
  AV (BC X.prog X.w) X.A (newList []) (fun acc s₃=>AV (BC X.prog X.w) X.A (yA scope X.env.globals (bu X.env fr) [] X.env.qual none .none (some X.env)) (fun Zr s₄=>
   N6 (BC X.prog X.w) X.A (.compStart (.ListComp elt [⟨target,iter,ifs,0⟩] scope pos) 0 (.ref it) acc {Zr with scope:=relabel scope X.env}) (RR acc Zr.locals) s₄) E s₃) E s2:=by
 refine Vu (B.new (fun um VW hk₁ hc₁=>?_));let I3:Inv X pX Y (upd H2 s2.heap.objs.size (.lst [])) {s2 with heap:=s2.heap.push {cls:=.type "list",data:=.seq ([]:List Value).toArray}}:=I2.VL (t':=s2.toks) (AP:=[]) .nil (JS _);obtain ⟨W,⟨m0,w0⟩,turn⟩:=q s2.heap.objs.size (I2.bY.fresh (BW _));generalize hH3:upd H2 s2.heap.objs.size (.lst [])=H3 at I3 w0
 let f3:∀b∈fp,oi X pX H3 b:=fun b hb=>by
  obtain ⟨a0,a1⟩:=f2 b hb;show ⟨?_,a1⟩;obtain ⟨o,e,_⟩:=T.obj _ _ oa b hb;rwa [<-hH3,ak (JK (DE e))]
 generalize hD:s2.heap.objs.size=D at*;generalize hs3:({s2 with heap:=s2.heap.push {cls:=.type "list",data:=.seq ([]:List Value).toArray}}:BR)=s3 at*;let e3:s3.heap=s2.heap.push {cls:=.type "list",data:=.seq ([]:List Value).toArray}:=by rw [<-hs3]
 let P_:T3 0 s3.heap:=T.keep _ _ _ oa fun b _ o e=>by rw [e3];exact DI _ e
 let kept:∀b o,s3.heap.get? b=some o->um.get? b=some o:=fun b o e=>hk₁ b o e;generalize hC:s3.heap.objs.size=C at*;let Zs:s3.heap.objs.size<=C:=tm hC;let I4:Inv X pX Y H3 {s3 with heap:=um,toks:=s3.toks+([]:List (Str×Value)).length}:=I3.kept kept
 let fpC:∀b∈fp,b≠C:=fun b hb z=>by
  obtain ⟨o,e,_⟩:=T.obj _ _ P_ b hb;exact BH z (JK (JQ (DE e) Zs))
 let nst:∀b∈fp,b∉ET X.stack:=fun b hb z=>(JC.mp (I3.AK b z)).elim (f3 b hb).2.1 (f3 b hb).2.2.1
 let old:∀x c,(bu X.env fr).lookup x=some c->c<C:=fun x c e=>by
  obtain ⟨v,ic⟩:=I3.cell x c (gJ e);rw [<-hC];exact ic.lt
 let agW:∀x z c,(ow C++bu X.env fr).lookup x=some c->(ow C++bu X.env fr).lookup z=some c->x=z:=fun x z c e1 e2=>by
  rcases uO e1 with b1|⟨_,b1⟩<;>rcases uO e2 with b2|⟨_,b2⟩
  ·exact B.one _ _ _ _ b1 b2
  ·exact BH (old z c b2) (Nat.lt_asymm (B.ge _ _ _ b1))
  ·exact BH (old x c b1) (Nat.lt_asymm (B.ge _ _ _ b2))
  ·exact I3.ok.inj x z c (gJ b1) (gJ b2)
 let agX:∀x c,fn x=true->(ow C++bu X.env fr).lookup x=some c->s3.heap.objs.size<=c:=fun x c hx e=>by
  rcases uO e with b1|⟨a1,b1⟩
  ·exact BX (tm hC) (Oj (B.ge _ _ _ b1))
  ·exact BH a1 (B.fn1 C x hx)
 let nfp:∀b∈fp,∀x c,(ow C++bu X.env fr).lookup x=some c->c≠b:=fun b hb x c e=>by
  rcases uO e with b1|⟨a1,b1⟩
  ·obtain ⟨o,eo,_⟩:=T.obj _ _ P_ b hb
   have:=DE eo;rw [hC] at this;exact CA (JK (oy this (B.ge _ _ _ b1)))
  ·exact (f3 b hb).2.2.2.2.1 x c (gJ b1)
 let Zt:∀{x:Str} {c:AO},x∈fr->(bu X.env fr).lookup x=some c->(ow C++bu X.env fr).lookup x=some c:=fun {x c} hx e=>by
  rwa [ahR,B.ny C x hx]
 let okB:(vC X (tn++fr) scope fn (ow C++bu X.env fr) C s3 H3 fp).Ok:=by
  show ⟨I3.ok.mod,B.kind,I3.ok.glob,I3.ok.blt,Zs,agW,fun x hx=>?_,agX,I3.ok.hd,I3.ok.frames,.inl rfl,
   fun b hb=>⟨fpC b hb,fun x c e=>nfp b hb x c e⟩,I3.bs,BX I3.ok.QL I3.sz,fun b o e hb=>?_,nst,I3.stack,I3.EU⟩
  ·let hm:∃k,(x,k)∈scope.names/\k≠.local/\(k=.cell\/k=.free):=by
    have:∃k',(relabel scope X.env).names.lookup x=some k'/\(k'=.cell\/k'=.free):=by
     rcases hx with z|z
     ·show ⟨_,z,.inl rfl⟩
     ·show ⟨_,z,.inr rfl⟩
    obtain ⟨k',e',h'⟩:=this;obtain ⟨⟨n,k⟩,hn,en⟩:=AW.mp (lookup_mem e');dsimp only at en;by_cases cc:(k==NameKind.free && X.env.scope.kind==.function && X.env.kindOf n==some .cell)=true
    ·rw [tu cc] at en
     cases en
     let kf:k=.free:=by
      rw [Ri,Ri] at cc;simpa using cc.1.1
     show ⟨k,hn,(by intro z;erw [kf] at z),.inr kf⟩
    ·rw [qA cc] at en
     cases en;show ⟨k',hn,fun z'=>by rcases h' with y|y<;>(erw [y] at z'),h'⟩
   obtain ⟨k,hk,_,h2⟩:=hm
   rcases h2 with z|z
   ·cases e:(ow C).lookup x with
    | none=>exact BH e (B.fn1 C x (B.only _ hk z))
    | some c=>show ⟨c,by show OV x (ow C++_)=_;rw [ahR,e];rfl⟩
   ·let hf:=B.free _ hk z
    obtain ⟨c,ec⟩:=I3.ok.has x (B.out.at hf);show ⟨c,Zt hf (oA ec hf)⟩
  ·obtain ⟨_,_,_,h1,_⟩:=f3 b hb
   rcases h1 with z|z
   ·exact I3.ok.M6 b o e z
   ·exact OS _ (JQ (JQ (DE e) I3.ok.QL) z)
 let IB:Inv (vC X (tn++fr) scope fn (ow C++bu X.env fr) C s3 H3 fp) [] (sB tn.length tw Y) H3 {s3 with heap:=um,toks:=s3.toks+([]:List (Str×Value)).length}:=by
  show ⟨okB,rfl,I3.bare,Un.kept kept,⟨_,VW,fun i x v e1 e2 _=>?_⟩,fun x c e=>(uO e).elim (fun z=>⟨none,hc₁ x c z⟩) (fun z=>I4.cell x c (gJ z.2)),?_,fun x c e=>(uO e).elim (fun z=>I3.bY.fresh (BX Zs (Oj (B.ge _ _ _ z)))) (fun z=>I3.jB x c (gJ z.2)),fun p hp=>(nomatch hp),I3.bY.kept kept,?_⟩
  ·obtain ⟨hk,j,ej,es⟩:=agL e2
   have NL :fr[i-tn.length]?=some x:=by
    let z:(tn++fr)[i]?=some x:=e1;rwa [JZ hk] at z
   let hx:x∈fr:=Wp NL
   let eN:X.N[j]?=some x:=by
    let z:=ud (fun l:List (Option Str)=>l[i-tn.length]?) B.tw;simp only [AY,ej,NL,VZ] at z;exact C_ z
   let ko:=B.out.at hx;obtain ⟨m,hn,hl⟩:=I4.loc;obtain ⟨u,r,lk⟩:=hl j x v eN es (by rcases ko with z|z;exact .inr (.inl z);exact .inr (.inr z));show ⟨u,r,?_⟩
   rcases lk with ⟨k1,_⟩|⟨_,c,ec,ic⟩
   ·rcases ko with z|z<;>(erw [z] at k1)
   ·exact .inr ⟨B.Zq.at hx,c,Zt hx (oA ec hx),ic⟩
  ·exact I3.bY.fresh Zs
  ·have:=ud O3 B.tw
   simp only [AU] at this;show (sB tn.length tw Y).length=(tn++fr).length;unfold sB;simp [this]
 let NM:∀{H':Hp},(∀b∈fp,H' b=none)->∀b∈fp,oi (vC X (tn++fr) scope fn (ow C++bu X.env fr) C s3 H3 fp) [] H' b:=fun hn b hb=>
  ⟨hn b hb,fpC b hb,nst b hb,.inl hb,nfp b hb,fun p hp=>(nomatch hp)⟩
 let st4:T3 0 um:=T.keep _ _ _ P_ fun b _ o e=>kept b o e
 let loop:N6 (BC X.prog X.w) X.A (.compLoop (.ListComp elt [⟨target,iter,ifs,0⟩] scope pos) 0 (.ref it) (.ref D) (compEnvC scope (ow C++bu X.env fr) C X.env)) (RR (.ref D) C) {s3 with heap:=um,toks:=s3.toks+([]:List (Str×Value)).length}:=by
  refine ago (fun n s'=>∃i Y' ys H',Inv (vC X (tn++fr) scope fn (ow C++bu X.env fr) C s3 H3 fp) [] Y' H' s'/\T3 i s'.heap/\(∀b∈fp,H' b=none)/\W i n Y' ys H') ?_ m0 ⟨0,_,[],H3,IB,st4,fun b hb=>(f3 b hb).1,w0⟩;rintro n s5 ⟨i,Y5,ys,H5,I5,MT,Yl,w5⟩
  rcases turn i n Y5 ys H5 w5 with ⟨stop,qn⟩|⟨go,step⟩
  ·refine Kw (T.done (vC X (tn++fr) scope fn (ow C++bu X.env fr) C s3 H3 fp) rfl rfl rfl hc i [] s5 Y5 H5 (fun _ _=>False) I5 (NM Yl) MT stop) (fun r s6 ⟨hr,I6⟩=>?_) fun _ _ z=>z
   subst hr;obtain ⟨m,hn,_⟩:=I6.loc;let J6:Inv X pX Y H5 s6:=I3.YV (ch:=fp) I6.os I6.qf I6.bY I6.bare fun b hb=>⟨(f3 b hb).2.2.2.1,(f3 b hb).2.1,(f3 b hb).2.2.2.2.1,(f3 b hb).2.2.2.2.2⟩;exact fin D C H5 s6 m J6 hn (I3.rj Zs I6.free) qn
  ·refine Kw (T.item (vC X (tn++fr) scope fn (ow C++bu X.env fr) C s3 H3 fp) rfl rfl rfl hc i [] s5 Y5 H5 (fun _ _=>False) I5 (NM Yl) MT go) (fun r s6 ⟨u,hr,h6⟩=>?_) fun _ _ z=>z
   subst hr;refine Kw h6 (fun _ s7 ⟨x,H7,I7,r7,y7,JM,fr7⟩=>?_) fun _ _ z=>z;let I7':=I7.pinned (NM fr7) (T.obj _ _ JM)
   let held:∀{Y' :L2.St} {H':Hp} {s':BR},Inv (vC X (tn++fr) scope fn (ow C++bu X.env fr) C s3 H3 fp) ([]++rl fp s7.heap) Y' H' s' ->T3 (i+1) s'.heap/\∀b∈fp,H' b=none:=fun {Y' H' s'} I'=>by
    show ⟨T.keep _ _ _ JM fun b hb o e=>(I'.pin (b,o) (Ma _ (Ma _ (i6 hb e)))).1,fun b hb=>?_⟩;obtain ⟨o,e,d⟩:=T.obj _ _ JM b hb;exact (I'.pin (b,o) (Ma _ (Ma _ (i6 hb e)))).2.1
   refine Kw (hg C s3 H3 fp _ s7 Y5 H7 x u _ I7' r7 (step x H7 y7)) (fun _ s8 ⟨Y8,H8,I8,q8⟩=>?_) fun _ _ z=>z;refine Kw (ht C s3 H3 fp _ s8 Y8 H8 _ I8 q8) (fun ok s9 ⟨H9,I9,q9⟩=>?_) fun _ _ z=>z;cases ok with
   | false=>
    rw [qA JP] at q9;obtain ⟨m',hm,w9⟩:=q9;rw [qA JP];obtain ⟨a,b⟩:=held I9;show ⟨m',hm,i+1,Y8,ys,H9,I9.jG,a,b,w9⟩
   | true=>
    rw [tu rfl] at q9;rw [tu rfl];refine Kw (he C s3 H3 fp _ s9 Y8 H9 _ I9 q9) (fun v AF ⟨y9,VX,I10,r10,hDD,hl,m',hm,w10⟩=>?_) fun _ _ z=>z;refine Kw (e_ (X:=vC X (tn++fr) scope fn (ow C++bu X.env fr) C s3 H3 fp) _ AF Y8 VX (.ref D) [y9] (.ref D) [v] (fun _ H'=>W (i+1) m' Y8 (ys++[y9]) H') I10 rfl (.cons r10 .nil) ⟨D,ys,y9,rfl,rfl,hDD,hl,w10⟩) (fun _ NO ⟨z,Ym,I11,_,q11⟩=>?_) fun _ _ z=>z;obtain ⟨a,b⟩:=held I11;show ⟨m',hm,i+1,Y8,ys++[y9],Ym,I11.jG,a,b,q11⟩
 exact codeAny_compStart_list loop (T.self X.A 0 _ _ _ st4 loop)
def ae_ (hc:X.calm=true)(B:NK X scope ow fn fr tw)(hi:PI X target iter wi)
  (hg:∀C s H fp,PG (vC X (tn++fr) scope fn (ow C++bu X.env fr) C s H fp) target g) (ht:∀C s H fp,PF (vC X (tn++fr) scope fn (ow C++bu X.env fr) C s H fp) ifs tt) (he:∀C s H fp,PE (vC X (tn++fr) scope fn (ow C++bu X.env fr) C s H fp) elt te)
  (hs:∀x,QK iter X.env x=pure x:=by intro _;rfl):PE X (.ListComp elt [⟨target,iter,ifs,0⟩] scope pos) (mH tn.length tw wi g tt te):=by
 intro pX s Y H Q I h;rw [eval_ListComp];refine wpAny_comprehension_free (use:=none) rfl hs B.JL B.kind B.names (cU (hi pX s Y H _ I h) fun v s1 h1=>cU h1 fun itv s2 h2=>?_);obtain ⟨it,fp,T3,J,H2,rfl,I2,T,oa,f2,q⟩:=h2;refine rL (Q:=Q) (RR:=fun acc C=>compPost (BC X.prog X.w) X.A X.xe none (EP X pX Y Q) acc C) hc B hg ht he I2 T oa f2 q ?_;intro D C H' s' m I' hn fc qq;obtain ⟨g0,g1,g2,g3,g4,g5⟩:=fc;show ⟨m,hn,fun h' T4 =>⟨.ref D,H',I'.turned (t':=s'.toks) (fun b o hb e=>(T4.2 b hb).trans e) g0 g1 g3 g4 g5,rfl,qq⟩⟩
def ye {oC:Pos}(hN:X.N.Nodup)(Ra:X.N[i]?=some y)(hx:Loc X.env.scope y)
  (hc:X.calm=true) (B:NK X scope ow fn fr tw) (hi:PI X target iter wi)
  (hg:∀C s H fp,PG (vC X (tn++fr) scope fn (ow C++bu X.env fr) C s H fp) target g) (ht:∀C s H fp,PF (vC X (tn++fr) scope fn (ow C++bu X.env fr) C s H fp) ifs tt) (he:∀C s H fp,PE (vC X (tn++fr) scope fn (ow C++bu X.env fr) C s H fp) elt te)
  (vE:QJ (.ListComp elt [⟨target,iter,ifs,0⟩] scope pos) (some (.Name y py)) oC.line X.env=pure true:=by rfl)
  (hs:∀x,QK iter X.env x=pure x:=by intro _;rfl) (hf:X.fn y=true\/X.env.scope.names.lookup y=some .local:=by first|exact .inl rfl|exact .inr rfl|assumption):
  PS X (.Assign [.Name y py] (.ListComp elt [⟨target,iter,ifs,0⟩] scope pos) oC) (xO (mH tn.length tw wi g tt te) (cX i)):=by
 intro pX s Y H D I h;rw [exec_Assign_Name_used _ _ _ _ vE];refine AZ (wpAny_standAt (AZ ?_));show AV _ X.A (do let _ <- comprehension (.ListComp elt [⟨target,iter,ifs,0⟩] scope pos) scope X.env _ (newList []) false (CB iter X.env) (some (assign (.Name y py) X.env))) _ _ s
 refine AZ (Kw (wpAny_comprehension_free (use:=some (assign (.Name y py) X.env)) (Q:=fun _ s'=>SP X pX D .next s') rfl hs B.JL B.kind B.names
  (cU (hi pX s Y H _ I h) fun v s1 h1=>cU h1 fun itv s2 h2=>?_)) (fun _ s' hq=>CK (CK hq)) fun _ _ e=>e)
 obtain ⟨it,fp,T3,J,H2,rfl,I2,T,oa,f2,q⟩:=h2;refine rL (Q:=fun v H1=>cX i v Y H1 D.nx) (RR:=fun acc C=>compPost (BC X.prog X.w) X.A X.xe (some (assign (.Name y py) X.env)) (fun _ s'=>SP X pX D .next s') acc C) hc B hg ht he I2 T oa f2 q ?_;intro DD C H' s' m I' hn fc qq;obtain ⟨g0,g1,g2,g3,g4,g5⟩:=fc;show AV _ X.A (assign (.Name y py) X.env (.ref DD)) _ _ _;refine wpAny_assign_Name (uw I' hN Ra hx (v:=.ref DD) (u:=.ref DD) rfl (fun σ9 I'' ⟨a,sb,ha⟩=>?_) hf)
 let hCa:C≠a:=by
  rcases ha with z|z
  ·rw [z]
   exact g1
  ·exact fun e=>g4 y a z e.symm
 show ⟨m,hn.sameBut sb hCa,fun h' T4 =>⟨_,H',I''.turned (t':=σ9.toks) (fun b o hb e=>(T4.2 b hb).trans e) g0 g1 g3 g4 g5,qq⟩⟩
def vD.g {tw:Ζ}(B:vD X scope fr tw):NK X scope (fun _=>[]) (fun _=>false) fr tw:=
 ⟨B.JL,B.kind,B.names,B.free,B.tw,B.out,B.Zq,fun hQ=>wpAny_newFunctionEnv B.cell (by intro y hy;simp at hy) (fun um VW agY=>hQ um VW (fun b o e=>(agY.2 b (JK (DE e))).trans (DI _ e)) fun _ _ z=>(nomatch z)) B.kind,
  fun _ _ _ z=>(nomatch z),fun _ _ _ _ z=>(nomatch z),fun _ _ z=>(nomatch z),fun z hz e=>BH e (B.cell z hz),fun _ _ _=>rfl⟩
def FO (hc:X.calm=true)(B:vD X scope fr tw)(hi:PI X target iter wi)
  (hg:∀C s H fp,PG (qK X (tn++fr) scope (bu X.env fr) C s H fp) target g) (ht:∀C s H fp,PF (qK X (tn++fr) scope (bu X.env fr) C s H fp) ifs tt) (he:∀C s H fp,PE (qK X (tn++fr) scope (bu X.env fr) C s H fp) elt te)
  (hs:∀x,QK iter X.env x=pure x:=by intro _;rfl):PE X (.ListComp elt [⟨target,iter,ifs,0⟩] scope pos) (mH tn.length tw wi g tt te):=
 ae_ hc B.g hi hg ht he hs
def FP {oC:Pos}(hN:X.N.Nodup)(Ra:X.N[i]?=some y)(hx:Loc X.env.scope y)
  (hc:X.calm=true) (B:vD X scope fr tw) (hi:PI X target iter wi)
  (hg:∀C s H fp,PG (qK X (tn++fr) scope (bu X.env fr) C s H fp) target g) (ht:∀C s H fp,PF (qK X (tn++fr) scope (bu X.env fr) C s H fp) ifs tt) (he:∀C s H fp,PE (qK X (tn++fr) scope (bu X.env fr) C s H fp) elt te)
  (vE:QJ (.ListComp elt [⟨target,iter,ifs,0⟩] scope pos) (some (.Name y py)) oC.line X.env=pure true:=by rfl)
  (hs:∀x,QK iter X.env x=pure x:=by intro _;rfl) (hf:X.fn y=true\/X.env.scope.names.lookup y=some .local:=by first|exact .inl rfl|exact .inr rfl|assumption):
  PS X (.Assign [.Name y py] (.ListComp elt [⟨target,iter,ifs,0⟩] scope pos) oC) (xO (mH tn.length tw wi g tt te) (cX i)):=
 ye hN Ra hx hc B.g hi hg ht he vE hs hf
end
section
variable {D:AO}{te:TE}{tG:L2.St}{H1:Hp}{Q:VK}
def BG (n:Nat)(xs:Nat->V)(Pv:Nat->List V->Hp->Prop)(h0:Pv 0 [] (upd H1 D (.lst [])))
  (go:∀i ys H,i<n->Pv i ys H->J.go i H/\∀x H',J.M_ i H x H' ->H'=H/\x=xs i) (stop:∀ys H,Pv n ys H->J.stop n H)
  (hs:∀i ys H (R:VK),i<n->Pv i ys H->H D=some (.lst ys)->(∀v H6,H6 D=some (.lst ys)->ys.length<BL->Pv (i+1) (ys++[v]) (upd H6 D (.lst (ys++[v])))->R v H6)->te (some (xs i)::tG) H R)
  (hd:∀ys H,Pv n ys H->H D=some (.lst ys)->Q (.ref D) H):oB D (cX 0) kF te J (none::tG) H1 Q:=by
 show ⟨fun i m Y ys H=>m=n-i/\i<=n/\(∃o,Y=o::tG)/\Pv i ys H/\H D=some (.lst ys),⟨n,by simp,JS _,⟨none,rfl⟩,h0,aj⟩,?_⟩;rintro i m Y ys H ⟨rfl,hi,⟨o,rfl⟩,p,hD⟩;by_cases oj:i<n
 ·obtain ⟨g1,g2⟩:=go i ys H oj p
  refine .inr ⟨g1,fun x H' y=>?_⟩;obtain ⟨e1,e2⟩:=g2 x H' y;subst e1 e2;unfold cX kF;dsimp only;rw [tu rfl];exact hs i ys _ _ oj p hD fun v H6 a b c=>⟨a,b,n-(i+1),ga oj,rfl,nR oj,⟨_,rfl⟩,c,aj⟩
 ·let e:i=n:=ol hi oj
  subst e;exact .inl ⟨stop ys H p,hd ys H p hD⟩
end
structure Yn (K:Frag)(C:AO):Prop where
 makes:Rj K C=true
 init:JY K (.ref C) "__init__"=some (some (.builtin "object.__init__"))
 kp:keepIn K (.ref C)=true
def Zu (C:AO):TE:=fun _ H Q=>∀x dx,H x=none->H dx=none->dx≠x->Q (.ref x) (upd (upd H dx (.own x)) x (.ins C dx []))
section
variable {X:Cx}
def afA {Y:L2.St}(M:Yn X.K C)(I:Inv X pX Y H s)(h:Zu C Y H Q):AV (BC X.prog X.w) X.A (call (.ref C) []) (EP X pX Y Q) X.xe s:=by
 let hq:=h (s.heap.objs.size+1) s.heap.objs.size (I.bY.fresh (Xm _)) (I.bY.fresh (BW _)) (JK (NZ _));let I2:=Inv.made (C:=C) I;have σ:=PySem.W.makes_of (M:=BC X.prog X.w) I.lh M.makes;refine wpAny_call (zai I.lh M.makes M.init (fun self=>PySem.W.Looks.of_pure (PySem.W.oi_bind self)) ?_)
 let ho:((s.heap.push Nl).push (Nk C s.heap.objs.size)).get? (s.heap.objs.size+1)=some (Nk C s.heap.objs.size):=by
  have:=Kt (s.heap.push Nl) (o:=Nk C s.heap.objs.size) rfl
  rwa [RC] at this
 let t1:PySem.W.Looks (BC X.prog X.w) ((s.heap.push Nl).push (Nk C s.heap.objs.size)) (typeOf (.ref (s.heap.objs.size+1))) (.ref C):=(PySem.W.Looks.ld ho).andThen .now
 let t2:PySem.W.Looks (BC X.prog X.w) ((s.heap.push Nl).push (Nk C s.heap.objs.size)) (isInstance (.ref (s.heap.objs.size+1)) (.type "object")) true:=
  t1.andThen (σ.top.keeps fun b o e=>DI _ (DI _ e))
 refine codeAny_call_builtin PySem.W.oi_plain PySem.W.entry_oi (@PySem.W.check_slot (BC X.prog X.w) _ _ _ "object.__init__" "object" "__init__" (.ref (s.heap.objs.size+1)) [] [] _ PySem.W.oi_kind PySem.W.oi_split t2 (PySem.W.oi_args (.ref (s.heap.objs.size+1))) ?_);rw [PySem.W.oi_run];exact CK (And.intro rfl ⟨V.ref (s.heap.objs.size+1),_,I2,rfl,hq⟩)
def NQ (M:Yn X.K C)(hg:Gl X x)(hm:X.mg x=some (.ref C))(xS:(x==("__debug__":Str))=false:=by decide):PE X (.Call (.Name x p) [] [] pos) (Zu C):=by
 intro pX s Y H Q I h;refine Vy (mq I hg hm ?_ xS);exact PySem.W.callWith_K0 I.lh M.kp (afA M I h)
end
structure bH (P:DN)(w:World)(K:Frag)(mg:ν)(qf:Heap)(CX:mi)(k:Nat)(C:AO)(m:Str)(ps:τ)(sp:Sp):Prop where
 ex:∃(f:AO)(fd:FuncData),xR K C/\Meth K C m f/\dm P w K mg qf CX k f fd ps sp/\Binds K fd ps []
theorem bH.mono {K:Frag}(M:bH P w K mg qf CX j C m ps sp)(h:j<=k):bH P w K mg qf CX k C m ps sp:=by
 obtain ⟨f,fd,a,b,c,d⟩:=M.ex;show ⟨f,fd,a,b,c.mono h,d⟩
section
variable {X:Cx}{CX:mi}{k:Nat}{E:XK}{m:Str}{pos apos:Pos}{e o:Expr}{es:Δ}{ta:TE}{t:TA}
inductive T5 (P:DN)(w:World)(K:Frag)(mg:ν)(qf:Heap)(CX:mi)(k:Nat)(m:Str)(E:XK)(t:TA)(Y:L2.St)(Q:VK)(x:V)(H1:Hp):Prop
|mk (a C dx fs ps sp:_)(_:x=.ref a)(_:H1 a=some (.ins C dx fs))(_:fs.lookup m=none)(_:bH P w K mg qf CX k C m ps sp)(_:t Y H1 fun vs H2=>sp (x::vs) H2 Q E)
def VY (P:DN)(w:World)(K:Frag)(mg:ν)(qf:Heap)(CX:mi)(k:Nat)(m:Str)(E:XK)(ta:TE)(t:TA):TE:=fun Y H Q=>ta Y H fun x H1=>T5 P w K mg qf CX k m E t Y Q x H1
def dy (he:PE X o ta)(hr:cG k X.A)(hx:Passes CX X E)
  (ht:CB (.Call (.Attribute o m apos) [] [] pos) X.env=(do
   let ov <- CB o X.env
   standAt apos.atName
   let (f,first) <- R7 [ov] (getMethod ov m pl)
   callWith pos f first (Ku pos (CZ [] X.env)) (backToKw pos (Sj [] X.env))):=by rfl):
  PE X (.Call (.Attribute o m apos) [] [] pos) (VY X.prog X.w X.K X.mg X.qf CX k m E ta eG):=by
 intro pX s Y H Q I h;refine PySem.W.methodCall_KW (pl:=pl) (cU (he pX s Y H _ I h) fun u s1 ⟨x,H1,I1,rx,a,C,dx,fs,ps,sp,ex,ea,l,M,q⟩=>?_) ht;subst ex;obtain rfl:u=Value.ref a:=rx;obtain ⟨f,fd,c,hm,F,hb⟩:=M.ex;refine lj I1 ea c hm l ?_;exact PySem.W.callWith_K0 (first:=[.ref a]) I1.lh hm.kp (vo (us:=[.ref a]) (vs:=[.ref a]) (vg:=[]) F hr hb .nil hx I1 (.cons rfl .nil) q)
def cT {pl:Sem Bool}(he:PE X o ta)(hr:cG k X.A)(hx:Passes CX X E)(ha:PA X (e::es) t)
  (M8:CZ (e::es) X.env=(false,CB e X.env)::CZ es X.env:=by rfl) (uE:(Ku pos (CZ es X.env)).any (·.1)=false:=by rfl)
  (ht:CB (.Call (.Attribute o m apos) (e::es) [] pos) X.env=(do
   let ov <- CB o X.env
   standAt apos.atName
   let (f,first) <- R7 [ov] (getMethod ov m pl)
   callWith pos f first (Ku pos (CZ (e::es) X.env)) (backToKw pos (Sj [] X.env))):=by rfl):
  PE X (.Call (.Attribute o m apos) (e::es) [] pos) (VY X.prog X.w X.K X.mg X.qf CX k m E ta t):=by
 intro pX s Y H Q I h;refine PySem.W.methodCall_KW (pl:=pl) (cU (he pX s Y H _ I h) fun u s1 ⟨x,H1,I1,rx,a,C,dx,fs,ps,sp,ex,ea,l,M,q⟩=>?_) ht;subst ex;obtain rfl:u=Value.ref a:=rx;obtain ⟨f,fd,c,hm,F,hb⟩:=M.ex;refine lj I1 ea c hm l ?_;refine EY (first:=[.ref a]) (h₀:=X.qf) I.ok.mod.Yj hm.kp (cU (ha pos pX s1 Y H1 _ I1 q) fun us s2 ⟨vs,H2,I2,r,q2⟩=>⟨I2.lh,?_⟩) M8 uE;refine vo (us:=.ref a::us) (vs:=.ref a::vs) (vg:=[]) F hr hb .nil hx I2 (.cons rfl r) ?_;rwa [V_]
end
def T6 (h:ya CX)(e:X.xe=fun _ _=>False):Passes CX X E0:=fun _ _ _ _ _ _ _ q=>(h _ _ _ _ _ q).elim
section
variable {X:Cx}
inductive Zv (x:V)(lo:Ρ)(hi:Ρ)(H:Hp)(Q:VK):Prop
|mk (z:_)(_:x=.str z)(_:z.length<=BL)(_:Q (.str (Txt.slice z lo hi)) H)
def agH:Zf X Zv:=by
 intro pX s Y H x v vl vu lo hi sl Q I rx hs pl pu h;obtain ⟨z,rfl,hz,q⟩:=h;obtain ⟨t,rfl⟩:=rx;show ⟨"str",_,F.slot_str_getitem.lookup,typeIs_str _ _ _,?_⟩;cases pl<;>cases pu
 ·exact yR (l:=none) (u:=none) (st:=none) hs rfl (xI ⟨BX (Txt.slice_le z _ _) hz,fun t' k=>⟨.str _,H,I.tok k,⟨t',rfl⟩,q⟩⟩)
 ·rename_i j uj
  exact yR (l:=none) (u:=some (j,uj)) (st:=none) hs rfl (xI ⟨BX (Txt.slice_le z _ _) hz,fun t' k=>⟨.str _,H,I.tok k,⟨t',rfl⟩,q⟩⟩)
 ·rename_i i ui
  exact yR (l:=some (i,ui)) (u:=none) (st:=none) hs rfl (xI ⟨BX (Txt.slice_le z _ _) hz,fun t' k=>⟨.str _,H,I.tok k,⟨t',rfl⟩,q⟩⟩)
 ·rename_i i ui j uj
  exact yR (l:=some (i,ui)) (u:=some (j,uj)) (st:=none) hs rfl (xI ⟨BX (Txt.slice_le z _ _) hz,fun t' k=>⟨.str _,H,I.tok k,⟨t',rfl⟩,q⟩⟩)
inductive T7 (x:V)(y:V)(H:Hp)(Q:VK):Prop
|mk (z n:_)(_:x=.str z)(_:y=.int n)(_:MulOk z n)(_:Q (.str (Txt.mul z n)) H)
def vF:kD X (NR .Mult) T7:=by
 intro pX s Y H x y v u Q I rx ry h;obtain ⟨z,n,rfl,rfl,ok,q⟩:=h;obtain ⟨t,rfl⟩:=rx;obtain ⟨t',rfl⟩:=ry;exact SB.mul ok fun t' k=>⟨.str _,H,I.tok k,⟨t',rfl⟩,q⟩
def all_range (bs:List Bool):(JA bs.length).all (fun i=>(bs[i]?).getD true)=bs.all id:=by
 induction bs with
 | nil=>rfl
 | cons b r ih=>
  rw [L7,ahu,YW,ai6,YW,<-ih];rfl
inductive Zw (K:Frag)(xs:ε)(H:Hp)(Q:VK):Prop
|mk (p:AO)(bs:List Bool)(_:xs=[.ref p])(_:aV K H p (bs.map V.bl))(_:Q (.bl (bs.all id)) H)
def uP (hc:X.calm=true):fu X (.builtin "all") (Zw X.K):=by
 intro pX s Y H xs us Q I r h;obtain ⟨p,bs,rfl,hq,q⟩:=h;obtain ⟨u,rfl,r1⟩:=vals1 r;cases r1;obtain ⟨AP,rv,pl,hz⟩:=I.list hq;refine call_all_walk (EX pl.isList ?_);let xD:p≠s.heap.objs.size:=by obtain ⟨o,ho,_⟩:=pl.isList;exact JK (DE ho)
 let I1:Inv X pX Y H {s with heap:=s.heap.push {cls:=.type "list_iterator",data:=.fields #[.ref p,.int 0 0]}}:=I.kept (t':=s.toks) fun b o e=>DI _ e;obtain ⟨f0,f1,f2,f3,f4,f5⟩:=I.rj (H':=H) (BW s.heap.objs.size) (I.bY.fresh (BW _));let hl:AP.length=bs.length:=by rw [<-rv.length,AU]
 show ⟨s.heap.objs.size,_,_,_,_,_,fun i=>(bs[i]?).getD true,rfl,Walks.list (A:=X.A.in1) (I.ok.hd hc) s.heap.objs.size p xD AP.toArray,⟨⟨_,Kt _ rfl,rfl,rfl⟩,pl.isList.at fun o e=>DI _ e⟩,?_,fun h' tk kk=>?_⟩
 ·intro i v s' Q' E' hv qi
  have Qa :AP[i]?=some v:=by simpa using hv
  let hi:i<bs.length:=by rw [<-hl];exact (ir.mp Qa).1
  let eb:(bs.map V.bl)[i]?=some (.bl bs[i]):=by rw [AY,gE hi];rfl
  obtain ⟨u,eu,ru⟩:=rv.get eb;erw [Qa] at eu;cases ru;dsimp only at qi;rw [gE hi] at qi;exact Vx qi
 ·show ⟨.bl (bs.all id),H,I1.turned (t':=tk) (it:=s.heap.objs.size) (fun b o hb e=>kk b o (by simpa using hb) e) f0 f1 f3 f4 f5,?_,q⟩
  show _=_;rw [<-all_range bs,JN,hl]
end
end Ty
set_option maxHeartbeats 1000000
set_option maxHeartbeats 4000000
namespace Ty
open PySem PySem.Spec PyProof.Rows L2 PySem.NumText
def dg (m:Nat):List Nat:=(Nat.toDigits 10 m).map Char.toNat
def tx (n:Int):Str:=L9 (toString n)
def zaK:Str:=L9 "/"
def nt (q:Int×Int):Str:=if q.2=1 then tx q.1 else tx q.1++zaK++tx q.2
def isStar:Expr->Bool
 | .Starred .. =>true
 | _=>false
def abS {es:Δ}(h:isStar e=false):CZ (e::es) env=(false,CB e env)::CZ es env:=by
 cases e<;>first|rfl|(cases h;done)
def jr (ha:PE X e te)(hr:PA X es t)(h:isStar e=false:=by rfl):PA X (e::es) (pI te t):=af6 ha hr (abS h)
end Ty
namespace Ty
open PySem PySem.Spec PyProof.Rows L2
section
variable {D:AO}{te:TE}{tG:L2.St}{H1:Hp}{Q:VK}
def bo (D:AO)(H H':Hp):Prop:=∀b o,b≠D->H b=some o->H' b=some o
def bo.of (s:aq H H'):bo D H H':=fun b o _ e=>s b o e
theorem bo.upd :bo D H (upd H D o):=fun b o' n e=>by rwa [ak n]
def yf (n:Nat)(xs:Nat->V)(Rel:Ψ)(nD:H1 D=none)(hn:n<BL)
  (go:∀i H,i<n->aq H1 H->J.go i H/\∀x H',J.M_ i H x H' ->H'=H/\x=xs i) (stop:∀H,aq H1 H->J.stop n H)
  (hR:∀i v H H' ys,H D=some (.lst ys)->bo D H H' ->Rel i v H->Rel i v H')
  (he:∀i H (R:VK),i<n->aq H1 H->(∀v H6,aq H H6->Rel i v H6->R v H6)->te (some (xs i)::tG) H R)
  (hd:∀ys H,ys.length=n->(∀i v,ys[i]?=some v->Rel i v H)->aq H1 H->H D=some (.lst ys)->Q (.ref D) H):
  oB D (cX 0) kF te J (none::tG) H1 Q:=by
 refine BG n xs (fun i ys H=>ys.length=i/\(∀i v,ys[i]?=some v->Rel i v H)/\aq H1 H) ⟨rfl,fun i v e=>by simp at e,fun b o e=>by rwa [ak (ao e nD)]⟩ ?_ ?_ ?_ ?_
 ·rintro i ys H hi ⟨_,_,s⟩
  exact go i H hi s
 ·rintro ys H ⟨_,_,s⟩
  exact stop H s
 ·rintro i ys H R hi ⟨l,r,s⟩ hD k
  refine he i H R hi s fun v H6 s6 rv=>k v H6 (s6 _ _ hD) bv ⟨by simp [l],fun j u e=>?_,fun b o e=>?_⟩
  ·by_cases c:j<ys.length
   ·rw [JU c] at e
    let ru:=hR j u H H6 ys hD (bo.of s6) (r j u e);exact hR j u H6 _ ys (s6 _ _ hD) bo.upd ru
   ·rw [JZ (ii c)] at e
    let ej:j=i:=by
     by_cases z:j-ys.length=0
     ·omega
     ·rw [IW (by simp;exact gt z)] at e
      cases e
    subst ej
    have:v=u:=by
     rw [show j-ys.length=0 by omega] at e;exact C_ e
    subst this;exact hR j v H6 _ ys (s6 _ _ hD) bo.upd rv
  ·rw [ak (ao e nD)]
   exact s6 _ _ (s _ _ e)
 ·rintro ys H ⟨l,r,s⟩ hD
  exact hd ys H l r s hD
def cE {K:Frag}(Rel:Ψ)(nD:H1 D=none)(hn:xs.length<BL)(hS:∀H,aq H1 H->aV K H a xs)
  (hR:∀i v H H' ys,H D=some (.lst ys)->bo D H H' ->Rel i v H->Rel i v H')
  (he:∀i x H (R:VK),xs[i]?=some x->aq H1 H->(∀v H6,aq H H6->Rel i v H6->R v H6)->te (some x::tG) H R)
  (hd:∀ys H,ys.length=xs.length->(∀i v,ys[i]?=some v->Rel i v H)->aq H1 H->H D=some (.lst ys)->Q (.ref D) H):
  oB D (cX 0) kF te (QQ K a) (none::tG) H1 Q:=by
 refine yf xs.length (fun i=>(xs[i]?).getD .cL) Rel nD hn (fun i H hi s=>⟨⟨xs,xs[i],hS H s,gE hi⟩,fun x H' y=>⟨y.1,?_⟩⟩) (fun H s=>⟨xs,hS H s,BW _⟩) hR (fun i H R hi s k=>?_) hd
 ·rw [y.2 xs (hS H s)];rfl
 ·let e:xs[i]?=some xs[i]:=gE hi
  let k':=he i _ H R e s k;rw [<-(show (xs[i]?).getD .cL=xs[i] by rw [e];rfl)] at k';exact k'
def acA {lo:Int}(Rel:Ψ)(nD:H1 D=none)(hn:n<BL)
  (hR:∀i v H H' ys,H D=some (.lst ys)->bo D H H' ->Rel i v H->Rel i v H')
  (he:∀(i:Nat) H (R:VK),i<n->aq H1 H->(∀v H6,aq H H6->Rel i v H6->R v H6)->te (some (.int (lo+i))::tG) H R)
  (hd:∀ys H,ys.length=n->(∀i v,ys[i]?=some v->Rel i v H)->aq H1 H->H D=some (.lst ys)->Q (.ref D) H):
  oB D (cX 0) kF te (TC lo n) (none::tG) H1 Q:=
 yf n (fun i=>.int (lo+i)) Rel nD hn (fun i H hi s=>⟨hi,fun x H' y=>y⟩) (fun H s=>BW n) hR he hd
end
section
variable {X:Cx}{pX:η}{Y:L2.St}{H:Hp}{s:BR}{h':Heap}
def Inv.qL {fp:Β}(I:Inv X pX Y H s)(k:∀b o,b∉fp->s.heap.get? b=some o->h'.get? b=some o)(hf:∀b∈fp,oi X pX H b):Inv X pX Y H {s with heap:=h',toks:=t'}:=by
 let Tv:∀b u,H b=some u->b∉fp:=fun b u e z=>by erw [(hf b z).1] at e
 refine I.step (g':=s.gens) (d':=s.drawn) (ch:=fp) (fun b hb=>?_) (fun b o _ _ hc e _=>k b o hc e) (fun b o _ _ hc e _=>⟨o.slots,k b o hc e⟩) (fun _ _ _ _ n=>n)
  (fun b o hc e=>⟨o,k b o hc e⟩) (fun _ _ e=>e) (fun _ _ _ e=>e) (fun b ps e=>⟨#[],by rw [e];simp⟩) (fun m hm=>?_) (fun b u e=>?_) I.bare
 ·obtain ⟨f0,f1,f2,f3,f4,f5⟩:=hf b hb
  show ⟨f3,f1,f4,f5⟩
 ·obtain ⟨o,es,ep,ho,r⟩:=hm
  show ⟨o,es,ep,k _ o (fun z=>(hf _ z).2.1 rfl) ho,r⟩
 ·refine (I.bY b u e).vh (fun c v hc q=>k c v ?_ q) (fun _ q=>q) fun _ _ q=>q
  rcases hc with z|z
  ·rw [z];exact Tv b u e
  ·exact Tv c _ z
def Inv.vG {fp:Β}{T:AO}{xs:ε}{AP:ς}(I:Inv X pX Y H s)(k:∀b o,b∉fp->s.heap.get? b=some o->h'.get? b=some o)(hf:∀b∈fp,oi X pX H b)(hT:s.heap.objs.size<=T)
  (hz:xs.length<=BL) (rv:Vals xs AP) (ht:IsTup h' T AP.toArray):Inv X pX Y (upd H T (.tup xs)) {s with heap:=h',toks:=t'}:=by
 let hn:=I.bY.fresh hT;let Tv:∀b u,H b=some u->b∉fp:=fun b u e z=>by erw [(hf b z).1] at e
 let ne:∀b o,s.heap.get? b=some o->b≠T:=fun b o e=>JK (JQ (DE e) hT)
 refine I.step (g':=s.gens) (d':=s.drawn) (ch:=fp) (fun b hb=>?_) (fun b o _ _ hc e _=>k b o hc e) (fun b o _ _ hc e _=>⟨o.slots,k b o hc e⟩) (fun b o _ e n=>by rwa [ak (ne b o e)])
  (fun b o hc e=>⟨o,k b o hc e⟩) (fun b ys e=>by rwa [ak (ao e hn)]) (fun b o u e=>by rwa [ak (ao e hn)]) (fun b ps e=>⟨#[],by rw [ak (ao e hn),e];simp⟩) (fun m hm=>?_) (fun b u e=>?_) I.bare
 ·obtain ⟨f0,f1,f2,f3,f4,f5⟩:=hf b hb
  show ⟨f3,f1,f4,f5⟩
 ·obtain ⟨o,es,ep,ho,r⟩:=hm
  show ⟨o,es,ep,k _ o (fun z=>(hf _ z).2.1 rfl) ho,r⟩
 ·by_cases hb:b=T
  ·subst hb
   erw [aj] at e;show ⟨hz,AP,rv,ht⟩
  ·rw [ak hb] at e
   refine (I.bY b u e).vh (fun c v hc q=>k c v ?_ q) (fun c q=>by rwa [ak (ao q hn)]) fun c ys q=>by rwa [ak (ao q hn)]
   rcases hc with z|z
   ·rw [z];exact Tv b u e
   ·exact Tv c _ z
end
def Itz (K:Frag)(a b:AO):It:=
 ⟨fun i H=>∃xs ys x y,aV K H a xs/\aV K H b ys/\xs[i]?=some x/\ys[i]?=some y,
  fun i H v H'=>∃p x y,(∀xs,aV K H a xs->xs[i]?=some x)/\(∀ys,aV K H b ys->ys[i]?=some y)/\v=.ref p/\H p=none/\H'=upd H p (.tup [x,y]),
  fun i H=>∃xs ys,aV K H a xs/\aV K H b ys/\(xs.length<=i\/ys.length<=i)⟩
def adb {K:Frag}{es:Δ}(a b z TI TO i1 i2:AO)(D:ZipApart z TI TO i1 i2 a b):
  Turn P w K (.Tuple es k pos) (Itz K a b) [z,TI,TO,i1,i2] z (fun i h=>IsZip h z TI TO .none/\IsPair h TI (.ref i1) (.ref i2)/\(∃x y,IsPair h TO x y)/\h.IsListIter i1 a i/\h.IsListIter i2 b i) where
 mem:=by simp
 obj:=fun i h st c hc=>by
  obtain ⟨hz,lE,⟨x,y,uQ⟩,⟨o1,e1,c1,d1⟩,⟨o2,e2,c2,d2⟩⟩:=st;have xB :c=z\/c=TI\/c=TO\/c=i1\/c=i2:=by simpa using hc
  rcases xB with e|e|e|e|e<;>subst e
  ·show ⟨_,hz,fun v z=>by cases z⟩
  ·show ⟨_,lE,fun v z=>by cases z⟩
  ·show ⟨_,uQ,fun v z=>by cases z⟩
  ·show ⟨_,e1,fun v z=>by erw [d1] at z⟩
  ·show ⟨_,e2,fun v z=>by erw [d2] at z⟩
 keep:=fun i h h' st k=>by
  obtain ⟨hz,lE,⟨x,y,uQ⟩,h1,h2⟩:=st;show ⟨k z cr _ hz,k TI cr _ lE,⟨x,y,k TO cr _ uQ⟩,h1.at fun o e=>k i1 cr o e,h2.at fun o e=>k i2 cr o e⟩
 item:=by
  intro X hP hw hK hc i pX s Y H E I hf st hg;subst hP hw hK;obtain ⟨hz,lE,⟨x0,y0,uQ⟩,h1,h2⟩:=st;obtain ⟨xs,ys,x,y,qx,qy,ex,ey⟩:=hg;obtain ⟨AP,rv,p,_⟩:=I.list qx;obtain ⟨Zy,qE,p',_⟩:=I.list qy;obtain ⟨u,hu,ru⟩:=rv.get ex;obtain ⟨v,hv,rv'⟩:=qE.get ey;refine wpAny_pyNext_zip_item D hz lE uQ h1 h2 p.isList p'.isList (x:=u) (y:=v) (by simpa using hu) (by simpa using hv) fun h' a1 a2 a3 a4 a5 a6 a7=>?_;show ⟨_,rfl,wpAny_letOwnedTupleGo_zip (s:={s with heap:=h'}) a1 fun Qd b1 sb=>?_⟩;let nz:∀c,c≠z->∀o,h'.get? c=some o->Qd.get? c=some o:=fun c hc o e=>(sb.2 c hc).trans e
  let kk:∀b o,b∉[z,TI,TO,i1,i2]->s.heap.get? b=some o->Qd.get? b=some o:=fun b o hb e=>by
   have ip :b≠z/\b≠TI/\b≠TO/\b≠i1/\b≠i2:=by simpa using hb
   exact nz b ip.1 o (a7 b o ip.1 ip.2.2.1 ip.2.2.2.1 ip.2.2.2.2 e)
  let sz:∀c o,s.heap.get? c=some o->s.heap.objs.size≠c:=fun c o e=>σ4 (DE e);let tz:s.heap.objs.size≠z:=sz _ _ hz;let hn:=I.bY.fresh (BW s.heap.objs.size)
  let I2:Inv X pX Y (upd H s.heap.objs.size (.tup [x,y])) {s with heap:=Qd,toks:=s.toks}:=
   Inv.vG I kk hf (BW _) (by show 2<=BL;decide) (AP:=[u,v]) (.cons ru (.cons rv' .nil)) ⟨_,nz _ tz _ a5,rfl,_,rfl⟩
  show ⟨.ref s.heap.objs.size,_,I2,rfl,⟨s.heap.objs.size,x,y,fun xs' q=>by rwa [I.jE q qx],fun ys' q=>by rwa [I.jE q qy],rfl,hn,rfl⟩,⟨b1,nz _ D.TIz _ (a7 _ _ D.TIz D.TITO D.TIi1 D.TIi2 lE),⟨_,_,nz _ D.TOz _ a2⟩,a3.at fun o e=>nz _ D.i1z o e,a4.at fun o e=>nz _ D.i2z o e⟩,fun b hb=>?_⟩
  let ob:∃o,s.heap.get? b=some o:=by
   obtain ⟨o1,e1,_⟩:=h1;obtain ⟨o2,e2,_⟩:=h2;have xB :b=z\/b=TI\/b=TO\/b=i1\/b=i2:=by simpa using hb
   rcases xB with e|e|e|e|e<;>subst e
   ·show ⟨_,hz⟩
   ·show ⟨_,lE⟩
   ·show ⟨_,uQ⟩
   ·show ⟨_,e1⟩
   ·show ⟨_,e2⟩
  obtain ⟨o,e⟩:=ob;rw [ak (CA (sz _ _ e))];exact (hf b hb).1
 done:=by
  intro X hP hw hK hc i pX s Y H E I hf st hg;subst hP hw hK;obtain ⟨hz,lE,⟨x0,y0,uQ⟩,h1,h2⟩:=st;obtain ⟨xs,ys,qx,qy,ee⟩:=hg;obtain ⟨AP,rv,p,_⟩:=I.list qx;obtain ⟨Zy,qE,p',_⟩:=I.list qy;let l1:=rv.length;let l2:=qE.length;refine wpAny_pyNext_zip_end (I.ok.hd hc) D hz lE uQ h1 h2 p.isList p'.isList ?_ fun h' kk=>⟨rfl,Inv.qL I (fun b o hb e=>?_) hf⟩
  ·rcases ee with e|e
   ·exact .inl (by simp;omega)
   ·exact .inr (by simp;omega)
  ·have ip :b≠z/\b≠TI/\b≠TO/\b≠i1/\b≠i2:=by simpa using hb
   exact kk b o ip.1 ip.2.2.1 ip.2.2.2.1 ip.2.2.2.2 e
 self:=fun _ _ _ _ _ st h=>wpAny_pyIter_zip st.1 h
def boot_zip:JX "zip"=some (.type "zip"):=by decide+kernel
section
variable {X:Cx}
inductive T8 (K:Frag)(R:(It->Hp->Prop))(vs:ε)(H1:Hp):Prop
|mk (a b:_)(_:vs=[.ref a,.ref b])(_:(∃xs,aV K H1 a xs))(_:(∃ys,aV K H1 b ys))(_:R (Itz K a b) H1)
def agZ (K:Frag)(ta:TA):TI:=fun Y H R=>ta Y H fun vs H1=>T8 K R vs H1
def BI {p pos:Pos}{es:Δ}{k:Nat}{vm:Pos}(hg:Gl X "zip")(hm:X.mg "zip"=none)(ha:PA X [e1,e2] ta)(hs:CZ [e1,e2] X.env=[(false,CB e1 X.env),(false,CB e2 X.env)]:=by rfl)(Qc:CZ [e2] X.env=[(false,CB e2 X.env)]:=by rfl):
  PI X (.Tuple es k vm) (.Call (.Name "zip" p) [e1,e2] [] pos) (agZ X.K ta):=by
 intro pX s Y H R I h;refine Call_ (jD I hg hm boot_zip (WN (cU (ha pos pX s Y H _ I h) fun us s1 ⟨vs,H1,I1,r1,q1⟩=>?_) (by rw [hs,Qc]) (by rw [Qc];rfl)));obtain ⟨a,b,e,⟨xs,hx⟩,⟨ys,hy⟩,q⟩:=q1;subst e;cases r1 with
 | cons r rr=>
  cases rr with
  | cons r' rr=>
   cases rr;cases r;cases r';obtain ⟨AP,rv,pl,_⟩:=I1.list hx;obtain ⟨Zy,qE,pl',_⟩:=I1.list hy;let lt1:a<s1.heap.objs.size:=by obtain ⟨o,ho,_⟩:=pl.isList;exact DE ho
   let lt2:b<s1.heap.objs.size:=by obtain ⟨o,ho,_⟩:=pl'.isList;exact DE ho
   refine call_zip_2 pl.isList pl'.isList fun h' hz lE uQ V0 Zz hsz hk=>wpAny_pyIter_zip (s:={s1 with heap:=h'}) hz ?_;show ⟨s1.heap.objs.size+4,[s1.heap.objs.size+4,s1.heap.objs.size+2,s1.heap.objs.size+3,s1.heap.objs.size,s1.heap.objs.size+1],_,_,H1,rfl,I1.kept (t':=s1.toks) hk,adb a b _ _ _ _ _ ?_,⟨hz,lE,⟨_,_,uQ⟩,V0,Zz⟩,fun c hc=>?_,q⟩
   ·constructor<;>(intro z;simp only [AO] at*;omega)
   ·have xB :s1.heap.objs.size<=c:=by
     have:c=s1.heap.objs.size+4\/c=s1.heap.objs.size+2\/c=s1.heap.objs.size+3\/c=s1.heap.objs.size\/c=s1.heap.objs.size+1:=by simpa using hc
     simp only [AO] at*;omega
    exact I1.rj xB (I1.bY.fresh xB)
theorem pK (ns:ο)(val:Nat->Int)(hv:∀i (h:i<ns.length),val i=ns[i]):∀j,j<=ns.length->preSum val j=(ns.take j).sum
 | 0,_=>by simp [preSum]
 | j+1,h=>by
  rw [preSum,pK ns val hv j (nZ h),hv j bv,List.take_succ_eq_append_getElem bv,air];simp
inductive ZA (K:Frag)(xs:ε)(H:Hp)(Q:VK):Prop
|mk (p:AO)(ns:ο)(_:xs=[.ref p])(_:aV K H p (ns.map V.int))(_:Q (.int ns.sum) H)
def adC (hc:X.calm=true):fu X (.builtin "sum") (ZA X.K):=by
 intro pX s Y H xs us Q I r h;obtain ⟨p,ns,rfl,hq,q⟩:=h;obtain ⟨u,rfl,r1⟩:=vals1 r;cases r1;obtain ⟨AP,rv,pl,hz⟩:=I.list hq;let hlen:=rv.length;rw [AU] at hlen;refine call_sum_walkG (EX pl.isList ?_);let xD:p≠s.heap.objs.size:=by obtain ⟨o,ho,_⟩:=pl.isList;exact JK (DE ho)
 show ⟨s.heap.objs.size,_,_,AP.toArray.size,_,_,fun i=>ns.getD i 0,rfl,Walks.list (by exact I.ok.hd hc) s.heap.objs.size p xD AP.toArray,⟨⟨_,Kt _ rfl,rfl,rfl⟩,pl.isList.at fun o e=>DI _ e⟩,fun b hb=>?_,fun i v hv=>?_,fun h' tk t' hk=>?_⟩
 ·have ip :b=s.heap.objs.size\/b=p:=by simpa using hb
  rw [RC]
  rcases ip with e|e
  ·rw [e];exact NZ _
  ·rw [e]
   obtain ⟨o,ho,_⟩:=pl.isList;exact Sa (DE ho)
 ·have Qa :AP[i]?=some v:=by simpa using hv
  let hi:i<AP.length:=(ir.mp Qa).1;have MU :i<ns.length:=jp hlen hi
  obtain ⟨u',hu,ru⟩:=rv.get (i:=i) (x:=.int ns[i]) (by rw [AY,gE MU];rfl);erw [Qa] at hu;obtain ⟨t,e⟩:=ru;show ⟨t,by rw [e];show Value.int ns[i] t=Value.int (ns.getD i 0) t;rw [JE,gE MU];rfl⟩
 ·let e:preSum (fun i=>ns.getD i 0) AP.toArray.size=ns.sum:=by
   rw [pK ns _ (fun i h=>by rw [JE,gE h];rfl) _ (by simp;omega),Vj (by simp;omega)]
  rw [e]
  let I2:Inv X pX Y H {s with heap:=h',toks:=tk}:=I.kept (t':=tk) fun b o eb=>hk b o (fun z=>by
   let z':b=s.heap.objs.size:=by simpa using z
   rw [z'] at eb
   exact BH (DE eb) (OS _)) (DI _ eb)
  show ⟨.int ns.sum,H,I2,⟨_,rfl⟩,q⟩
def boot_sum:JX "sum"=some (.builtin "sum"):=by decide+kernel
inductive NT (K:Frag)(xs:ε)(H:Hp)(Q:VK):Prop
|mk (p:AO)(ys:ε)(_:xs=[.ref p])(_:aV K H p ys)(_:∀l,H l=none->Q (.ref l) (upd H l (.lst ys)))
def rM:fu X (.type "list") (NT X.K):=by
 intro pX s Y H xs us Q I r h;obtain ⟨p,ys,rfl,hq,q⟩:=h;obtain ⟨u,rfl,r1⟩:=vals1 r;cases r1;obtain ⟨AP,rv,⟨o,n,e,c,d1,d⟩,hz⟩:=I.list hq;let hlen:=rv.length;refine call_list_seq p (.inl rfl) e c d (fun h' c' hk hl=>?_) (by simp;omega);let hn:=I.bY.fresh (BW s.heap.objs.size);let I2:Inv X pX Y (upd H s.heap.objs.size (.lst ys)) {s with heap:=h',toks:=s.toks}:=I.laid (t':=s.toks) hk (BW _) ⟨hz,AP,c',rv,hl⟩;show ⟨.ref _,_,I2,rfl,q _ hn⟩
end
section
variable {X:Cx}{K:Frag}
def cR (h:X.K=K):TU X (Nr K):=by subst h;exact lC
def yg (h:X.K=K):TU X (Q6 K):=by subst h;exact aU
def ahp (h:X.K=K):fu X (.builtin "len") (fun xs H Q=>∃p ys,xs=[.ref p]/\(aV K H p ys\/bL K H p ys)/\Q (.int ys.length) H):=by subst h;exact av
def vH {k:Nat}{pos:Pos}(hK:X.K=K)(hc:X.calm=true)(h:σ1 X es t)
  (hn:(Ro es X.env).length=n:=by rfl) (M8:(Ro es X.env).findIdx? (·.1)=none:=by rfl):PG X (.Tuple es k pos) (M7 K n t):=by subst hK;exact eU hc h hn M8
end
section
variable {D:AO}{te:TE}{tG:L2.St}{H1:Hp}{Q:VK}
def yh {K:Frag}(Rel:Ψ)(nD:H1 D=none)(hn:xs.length<BL)(hl:ys.length=xs.length)(hX:∀H,aq H1 H->aV K H a xs)(hY:∀H,aq H1 H->aV K H b ys)
  (hR:∀i v H H' ys,H D=some (.lst ys)->bo D H H' ->Rel i v H->Rel i v H')
  (he:∀i x y H (R:VK),xs[i]?=some x->ys[i]?=some y->aq H1 H->(∀v H6,aq H H6->Rel i v H6->R v H6)->te (some x::some y::tG) H R)
  (hd:∀zs H,zs.length=xs.length->(∀i v,zs[i]?=some v->Rel i v H)->aq H1 H->H D=some (.lst zs)->Q (.ref D) H):
  oB D (M7 K 2 (xN (cX 0) (xN (cX 1) Vw))) kF te (Itz K a b) (none::none::tG) H1 Q:=by
 show ⟨fun i m Y zs H=>m=xs.length-i/\i<=xs.length/\(∃o o',Y=o::o'::tG)/\(zs.length=i/\(∀i v,zs[i]?=some v->Rel i v H)/\aq H1 H)/\H D=some (.lst zs),⟨xs.length,by simp,JS _,⟨none,none,rfl⟩,⟨rfl,fun i v e=>by simp at e,fun b o e=>by rwa [ak (ao e nD)]⟩,aj⟩,?_⟩;rintro i m Y zs H ⟨rfl,hi,⟨o,o',rfl⟩,⟨l,r,s⟩,hD⟩;by_cases oj:i<xs.length
 ·let e1:xs[i]?=some xs[i]:=gE oj
  let e2:ys[i]?=some (ys[i]'(jp hl oj)):=gE (jp hl oj);refine .inr ⟨⟨xs,ys,_,_,hX H s,hY H s,e1,e2⟩,fun v H' y=>?_⟩;obtain ⟨p,x,y,q1,q2,rfl,np,rfl⟩:=y;let e1:=q1 xs (hX H s);let e2:=q2 ys (hY H s);let sp:aq H (upd H p (.tup [x,y])):=fun b o e=>by rwa [ak (ao e np)]
  show ⟨p,_,rfl,bL.of aj,rfl,_,_,rfl,_,_,rfl,rfl,?_⟩;unfold kF;dsimp only;rw [tu rfl];refine he i x y _ _ e1 e2 (fun b o e=>sp _ _ (s _ _ e)) fun v H6 s6 rv=>⟨s6 _ _ (sp _ _ hD),bv,xs.length-(i+1),ga oj,rfl,nR oj,⟨_,_,rfl⟩,⟨by simp [l],fun j u e=>?_,fun b o e=>?_⟩,aj⟩
  ·by_cases c:j<zs.length
   ·rw [JU c] at e
    let ru:=hR j u H H6 zs hD (bo.of fun b o q=>s6 _ _ (sp _ _ q)) (r j u e);exact hR j u H6 _ zs (s6 _ _ (sp _ _ hD)) bo.upd ru
   ·rw [JZ (ii c)] at e
    let ej:j=i:=by
     by_cases z:j-zs.length=0
     ·omega
     ·rw [IW (by simp;exact gt z)] at e
      cases e
    subst ej
    have:v=u:=by
     rw [show j-zs.length=0 by omega] at e;exact C_ e
    subst this;exact hR j v H6 _ zs (s6 _ _ (sp _ _ hD)) bo.upd rv
  ·rw [ak (ao e nD)]
   exact s6 _ _ (sp _ _ (s _ _ e))
 ·let e:i=xs.length:=ol hi oj
  subst e;exact .inl ⟨⟨xs,ys,hX H s,hY H s,.inl (BW _)⟩,hd zs H l r s hD⟩
end
open Builtin.Int (intBits)
def af8:JX "sum"=some (.builtin "sum"):=boot_sum
def vl (q:Int×Int):Rat:=(q.1:Rat) / (q.2:Rat)
structure Sm (T B:Nat)(q:Int×Int):Prop where
 pos:0<q.2
 low:JF q.1 q.2=1
 top:q.1.natAbs<=2^T
 bot:q.2.natAbs<=2^B
def c_ {b:Int}(h:b≠0):(b:Rat)≠0:=by simpa using h
def vI (h:b≠0):vl (low t b)=(t:Rat) / (b:Rat):=by
 let c:=abo (t:=t) h;let p:=mF (t:=t) h;let h1:=c_ h;let h2:=c_ (b:=(low t b).2) (ms p);let c':((low t b).1:Rat)*b=t*(low t b).2:=by exact_mod_cast c
 unfold vl;grind
def adq {t b u c:Int}(hb:b≠0)(hc:c≠0)(h:(t:Rat) / b=(u:Rat) / c):t*c=u*b:=by
 let h1:=c_ hb;let h2:=c_ hc;have:(t:Rat)*c=u*b:=by grind
 exact_mod_cast this
def zat (hq:0<q.2)(hr:0<r.2)(gq:JF q.1 q.2=1)(gr:JF r.1 r.2=1)(h:vl q=vl r):q=r:=by
 let c:=adq (t:=q.1) (b:=q.2) (u:=r.1) (c:=r.2) (ms hq) (ms hr) h;let e:=ahw (t:=q.1) (b:=q.2) (u:=r.1) (c:=r.2) (ms hq) (ms hr) c;rw [rF hq gq,rF hr gr] at e;exact OO (ud Wr e) (ud Ww e)
def acJ {b d:Int}(hd:d≠0)(h:d ∣ b):((b.fdiv d:Int):Rat)=(b:Rat) / d:=by
 let e:=c9 hd h;let h1:=c_ hd;have:(b:Rat)=d*(b.fdiv d:Int):=by exact_mod_cast e
 grind
def i_ (xs ys:π):Rat:=(Nc (fun a b=>vl a*vl b) xs ys).sum
def aca {xs ys:π}:i_ (x::xs) (y::ys)=vl x*vl y+i_ xs ys:=by simp [i_]
def js (ts:ο)(qs:π)(b:Int):Prop:=ts.length=qs.length/\∀(i:Nat)(t:Int)(q:Int×Int),ts[i]?=some t->qs[i]?=some q->(t:Rat)=vl q*b
def js.tail {ts:ο}{qs:π}(h:js (t::ts) (q::qs) b):js ts qs b:=⟨by simpa using h.1,fun i t' q' e1 e2=>h.2 (i+1) t' q' (by simpa using e1) (by simpa using e2)⟩
def vJ {a b:Int}(h1:a.natAbs<=2^m)(h2:b.natAbs<=2^n):(a*b).natAbs<=2^(m+n):=by
 rw [QX,VH];exact OT h1 h2
def zao {a b:Int}(h1:a.natAbs<=2^m)(h2:b.natAbs<=2^m):(a+b).natAbs<=2^(m+1):=by
 have:=α8 a b;rw [V9];omega
def rN {a:Int}(h:a.natAbs<=2^m)(hm:m<=n):a.natAbs<=2^n:=BX h (Me ce hm)
def j_ (h:a.natAbs<=2^m)(hm:m<n):intBits a<=n:=intBits_le_iff.mpr (IY h (Nat.pow_lt_pow_right ce hm))
def qM (h1:a.natAbs<=2^m)(h2:b.natAbs<=2^n)(hm:m<30000000)(hn:n<30000000):uN a b:=⟨BX (j_ h1 hm) ce,BX (j_ h2 hn) ce⟩
def Sm.up (h:Sm T B q)(hT:T<=T')(hB:B<=B'):Sm T' B' q:=⟨h.pos,h.low,rN h.top hT,rN h.bot hB⟩
def acW {b d:Int}(hb:0<b)(hd:0<d):0<b.fdiv (gz b d)*d/\b ∣ b.fdiv (gz b d)*d/\d ∣ b.fdiv (gz b d)*d/\(b.fdiv (gz b d)*d).natAbs<=b.natAbs*d.natAbs:=by
 let gp:=vw (t:=b) (b:=d) (ms hd);let g1:gz b d ∣ b:=VQ ..;let g2:gz b d ∣ d:=VT ..;let e1:=c9 (g:=gz b d) (ms gp) g1;let e2:=c9 (g:=gz b d) (ms gp) g2;generalize gz b d=g at*
 let p1:0<b.fdiv g:=by
  rcases tV (b.fdiv g) 0 with z|z|z
  ·exfalso
   have:=ahX gp z;omega
  ·rw [z] at e1;omega
  ·exact z
 show ⟨RT p1 hd,⟨d.fdiv g,?_⟩,⟨b.fdiv g,QT ..⟩,?_⟩
 ·have:b.fdiv g*d=b.fdiv g*(g*d.fdiv g):=by rw [<-e2]
  rw [this];let h3:b*d.fdiv g=g*b.fdiv g*d.fdiv g:=by rw [<-e1]
  rw [h3];rw [<-YO,QT (b.fdiv g) g]
 ·rw [QX]
  exact NG _ (by
   have:=eK (g:=g) (a:=b.fdiv g) (ms gp);rw [<-e1] at this
   exact this)
def ab_ {b:Int}(hq:0<q.2)(h:q.2 ∣ b):((q.1*b.fdiv q.2:Int):Rat)=vl q*b:=by
 let e:=acJ (b:=b) (d:=q.2) (ms hq) h;have:((q.1*b.fdiv q.2:Int):Rat)=q.1*((b.fdiv q.2:Int):Rat):=by push_cast;rfl
 rw [this,e];unfold vl;grind
def iG {b d:Int}(hd:d≠0)(h:d ∣ b):(b.fdiv d).natAbs<=b.natAbs:=by
 have:=eK (g:=d) (a:=b.fdiv d) hd;rwa [<-c9 hd h] at this
section
variable {D:AO}{te:TE}{tG:L2.St}{H1:Hp}{Q:VK}
def zaD (n:Nat)(xs:Nat->V)(Rel:Ψ)(nD:H1 D=none)(hn:n<BL)
  (go:∀i H,i<n->aq H1 H->J.go i H/\∀x H',J.M_ i H x H' ->H'=H/\x=xs i) (stop:∀H,aq H1 H->J.stop n H)
  (hR:∀i v H H' ys,H D=some (.lst ys)->bo D H H' ->Rel i v H->Rel i v H')
  (he:∀i H (R:VK),i<n->aq H1 H->(∃ys,H D=some (.lst ys))->(∀v H6,aq H H6->Rel i v H6->R v H6)->te (some (xs i)::tG) H R)
  (hd:∀ys H,ys.length=n->(∀i v,ys[i]?=some v->Rel i v H)->aq H1 H->H D=some (.lst ys)->Q (.ref D) H):
  oB D (cX 0) kF te J (none::tG) H1 Q:=by
 refine BG n xs (fun i ys H=>ys.length=i/\(∀i v,ys[i]?=some v->Rel i v H)/\aq H1 H) ⟨rfl,fun i v e=>by simp at e,fun b o e=>by rwa [ak (ao e nD)]⟩ ?_ ?_ ?_ ?_
 ·rintro i ys H hi ⟨_,_,s⟩
  exact go i H hi s
 ·rintro ys H ⟨_,_,s⟩
  exact stop H s
 ·rintro i ys H R hi ⟨l,r,s⟩ hD k
  refine he i H R hi s ⟨_,hD⟩ fun v H6 s6 rv=>k v H6 (s6 _ _ hD) bv ⟨by simp [l],fun j u e=>?_,fun b o e=>?_⟩
  ·by_cases c:j<ys.length
   ·rw [JU c] at e
    let ru:=hR j u H H6 ys hD (bo.of s6) (r j u e);exact hR j u H6 _ ys (s6 _ _ hD) bo.upd ru
   ·rw [JZ (ii c)] at e
    let ej:j=i:=by
     by_cases z:j-ys.length=0
     ·omega
     ·rw [IW (by simp;exact gt z)] at e
      cases e
    subst ej
    have:v=u:=by
     rw [show j-ys.length=0 by omega] at e;exact C_ e
    subst this;exact hR j v H6 _ ys (s6 _ _ hD) bo.upd rv
  ·rw [ak (ao e nD)]
   exact s6 _ _ (s _ _ e)
 ·rintro ys H ⟨l,r,s⟩ hD
  exact hd ys H l r s hD
def lG {K:Frag}(Rel:Ψ)(nD:H1 D=none)(hn:xs.length<BL)(hS:∀H,aq H1 H->aV K H a xs)
  (hR:∀i v H H' ys,H D=some (.lst ys)->bo D H H' ->Rel i v H->Rel i v H')
  (he:∀i x H (R:VK),xs[i]?=some x->aq H1 H->(∃ys,H D=some (.lst ys))->(∀v H6,aq H H6->Rel i v H6->R v H6)->te (some x::tG) H R)
  (hd:∀ys H,ys.length=xs.length->(∀i v,ys[i]?=some v->Rel i v H)->aq H1 H->H D=some (.lst ys)->Q (.ref D) H):
  oB D (cX 0) kF te (QQ K a) (none::tG) H1 Q:=by
 refine zaD xs.length (fun i=>(xs[i]?).getD .cL) Rel nD hn (fun i H hi s=>⟨⟨xs,xs[i],hS H s,gE hi⟩,fun x H' y=>⟨y.1,?_⟩⟩) (fun H s=>⟨xs,hS H s,BW _⟩) hR (fun i H R hi s dd k=>?_) hd
 ·rw [y.2 xs (hS H s)];rfl
 ·let e:xs[i]?=some xs[i]:=gE hi
  let k':=he i _ H R e s dd k;rw [<-(show (xs[i]?).getD .cL=xs[i] by rw [e];rfl)] at k';exact k'
end
def af9 {E:γ}{s:BR}
  (hc:∀n acc,cellsFrom n scope.names acc=(y,n)::acc) (hp:∀h,pushCells h scope.names=h.push {cls:=.type "cell",data:=.cell none})
  (hQ:∀h',h'.Ns s.heap.objs.size (fun _=>none)->(∀b o,s.heap.get? b=some o->h'.get? b=some o)->h'.IsCell (s.heap.objs.size+1) none->
   Q (newEnv scope s.heap.objs.size globals ((y,s.heap.objs.size+1)::cl) qual none .none (some qw) Vs) {s with heap:=h',toks:=s.toks+([]:List (Str×Value)).length}):
  AV M A (yA scope globals cl [] qual none .none (some qw)) Q E s:=by
 simp only [yA,aiO,if_true];refine AZ (wpAny_alloc ?_);refine AZ (wpAny_layCells _ (fun name kind cells=>by cases hkc:kind==NameKind.cell<;>simp [hkc]) _ _ _ _ ?_);rw [show ({s with heap:=s.heap.push {cls:=.type "dict",data:=.dict #[]}}:BR).heap.objs.size=s.heap.objs.size+1 from RC ..,hc,hp];rw [aiA];refine AZ (CK (CK ?_));refine hQ _ ((Heap.Ns.new s.heap (.type "dict")).keeps fun b o e=>DI _ e) (fun b o e=>DI _ (DI _ e)) ?_;have:=Kt (s.heap.push {cls:=.type "dict",data:=.dict #[]}) (o:={cls:=.type "cell",data:=.cell none}) rfl;rw [RC] at this;show ⟨_,this,rfl⟩
section
variable {X:Cx}
def acT {K:Frag}(h:X.K=K)(hl:PE X l tl):PI X tg l (TF K tl):=by subst h;exact bw hl
abbrev V3 (X:Cx)(NB:τ)(scope:Scope)(y:Str)(cl:List (Str×AO))(C:AO)(s:BR)(H:Hp)(fp:Β):Cx:=vC X NB scope (fun x=>x==y) ((y,C+1)::cl) C s H fp
structure V4 (X:Cx)(scope:Scope)(y:Str)(fr:τ)(tw:Ζ):Prop where
 JL:closureFor scope X.env=pure (bu X.env fr)
 kind:scope.kind=.function
 names:∀y∈scope.names,y.2=.local->scope.names.lookup y.1=some .local
 free:∀y∈scope.names,y.2=.free->y.1∈fr
 tw:tw.map (fun i=>X.N[i]?)=fr.map some
 out:gu X.env fr
 Zq:gu (compEnvC scope [] 0 X.env) fr
 V5:∀n acc,cellsFrom n scope.names acc=(y,n)::acc
 ZD:∀h,pushCells h scope.names=h.push {cls:=.type "cell",data:=.cell none}
 only:∀z∈scope.names,z.2=.cell->z.1=y
 ny:y∉fr
def Rf {y x:Str}{C c:AO}(h:OV x [(y,C)]=some c):x=y/\c=C:=by
 rw [α7] at h;cases e:x==y with
 | true=>
  rw [e] at h;show ⟨by simpa using e,(C_ h).symm⟩
 | false=>erw [e] at h
def V4.g {tw:Ζ}(B:V4 X scope y fr tw):NK X scope (fun C=>[(y,C+1)]) (fun x=>x==y) fr tw:=
 ⟨B.JL,B.kind,B.names,B.free,B.tw,B.out,B.Zq,fun hQ=>af9 B.V5 B.ZD fun h' a b c=>hQ h' a b fun x d e=>by rwa [(Rf e).2],
  fun C x c e=>by rw [(Rf e).2];exact NZ _,fun C x z c e1 e2=>(Rf e1).1.trans (Rf e2).1.symm,fun C x h e=>(by erw [α7,h] at e),fun z hz e=>by simpa using B.only z hz e,
  fun C x hx=>by rw [α7,show (x==y)=false by simpa using fun z:x=y=>B.ny (by rwa [<-z])];rfl⟩
end
end Ty
namespace L2
open PySem PySem.Spec PyProof.Rows
section
variable {κ:Type}[DecidableEq κ]
def cv (AN:List (κ×V))(k:κ):Option V:=(AN.find? fun kv=>decide (kv.1=k)).map (·.2)
def putK (AN:List (κ×V))(k:κ)(v:V):List (κ×V):=
 if (AN.any fun kv=>decide (kv.1=k))=true then AN.map (fun kv=>if kv.1=k then (kv.1,v) else kv) else AN++[(k,v)]
def fD (AN:List (κ×V))(k:κ):List (κ×V):=AN.filter fun kv=>decide (kv.1≠k)
def ck {k:κ}(e:p.1=k):cv (p::r) k=some p.2:=by simp [cv,VU,e]
def bR {k:κ}(e:¬ p.1=k):cv (p::r) k=cv r k:=by simp [cv,VU,e]
theorem iH (k:κ):∀AN:List (κ×V),(AN.any fun kv=>decide (kv.1=k))=(cv AN k).isSome
 | []=>rfl
 | p::r=>by
  rw [Rv];by_cases e:p.1=k
  ·simp only [ck e,JO e,Bool.true_or,aiO]
  ·rw [bR e,NV e,Bool.false_or];exact iH k r
theorem yj (k j:κ)(y:V):∀AN:List (κ×V),cv (AN.map fun kv=>if kv.1=k then (kv.1,y) else kv) j=(cv AN j).map fun x=>if j=k then y else x
 | []=>rfl
 | p::r=>by
  let ih:=yj k j y r;rw [BS];by_cases h:p.1=k
  ·rw [tu h]
   by_cases e:p.1=j
   ·rw [ck (p:=(p.1,y)) e,ck e,VZ,tu (e.symm.trans h)]
   ·rw [bR (p:=(p.1,y)) e,bR e,ih]
  ·rw [qA h]
   by_cases e:p.1=j
   ·rw [ck (p:=p) e,ck e,VZ,qA (fun z=>h (e.trans z))]
   ·rw [bR (p:=p) e,bR e,ih]
theorem ka (k j:κ)(y:V):∀AN:List (κ×V),cv AN k=none->cv (AN++[(k,y)]) j=if j=k then some y else cv AN j
 | [],_=>by
  by_cases e:k=j
  ·rw [tu e.symm];exact ck (p:=(k,y)) e
  ·rw [qA (fun z=>e z.symm)];exact bR (p:=(k,y)) e
 | p::r,hn=>by
  rw [α'];let hk:¬ p.1=k:=fun z=>by erw [ck z] at hn
  rw [bR hk] at hn;let ih:=ka k j y r hn;by_cases e:p.1=j
  ·rw [ck e,ck e,qA (fun z=>hk (e.trans z))]
  ·rw [bR e,bR e,ih]
def yk (AN:List (κ×V))(k j:κ)(y:V):cv (putK AN k y) j=if j=k then some y else cv AN j:=by
 unfold putK;by_cases a:(AN.any fun kv=>decide (kv.1=k))=true
 ·rw [tu a,yj]
  rw [iH] at a;by_cases e:j=k
  ·obtain ⟨x,hx⟩:=ah5.mp a
   rw [tu e,e,hx,VZ,tu rfl]
  ·rw [qA e]
   cases cv AN j with
   | none=>rfl
   | some x=>rw [VZ,qA e]
 ·rw [qA a]
  refine ka k j y AN ?_;rw [iH] at a;cases q:cv AN k with
  | none=>rfl
  | some x=>rw [q] at a;exact (a rfl).elim
def jM (AN:List (κ×V))(k:κ)(v:V):(putK AN k v).length<=AN.length+1:=by
 unfold putK;split
 ·rw [AU];omega
 ·rw [CL,L7,ait];omega
def dq {k:κ}(v:V)(h:cv AN k=none):putK AN k v=AN++[(k,v)]:=by
 unfold putK;rw [iH,h];exact qA ce
def iZ.iI {o:Ε}(r:iZ o u):o.isSome=u.isSome:=by
 cases o with
 | none=>cases u with
  | none=>rfl
  | some _=>exact (show False from r).elim
 | some _=>cases u with
  | none=>exact (show False from r).elim
  | some _=>rfl
theorem iZ.getD {o:Ε}(r:iZ o u)(rd:RelV d d'):RelV (o.getD d) (u.getD d'):=by
 cases o with
 | none=>cases u with
  | none=>exact rd
  | some _=>exact (show False from r).elim
 | some _=>cases u with
  | none=>exact (show False from r).elim
  | some _=>exact r
def KV.val (r:KV AN vs)(k:κ):iZ (cv AN k) (valueAt vs k):=by
 unfold KV at r
 induction r with
 | nil=>exact True.intro
 | @cons p q ps qs h t ih=>
  obtain ⟨h1,h2⟩:=h;by_cases e:p.1=k
  ·let e':q.1=k:=h1.symm.trans e
   let b:valueAt (q::qs) k=some q.2:=by simp [valueAt,VU,e']
   rwa [ck e,b]
  ·let e':¬ q.1=k:=fun z=>e (h1.trans z)
   let b:valueAt (q::qs) k=valueAt qs k:=by simp [valueAt,VU,e']
   rwa [bR e,b]
theorem KV.any (r:KV AN vs)(k:κ):(AN.any fun kv=>decide (kv.1=k))=vs.any fun kv=>decide (kv.1=k):=by
 unfold KV at r
 induction r with
 | nil=>rfl
 | cons h t ih=>rw [Rv,Rv,ih,h.1]
def KV.V6 (r:KV AN vs)(k:κ)(ry:RelV y u):
  KV (AN.map fun kv=>if kv.1=k then (kv.1,y) else kv) (vs.map fun kv=>if kv.1=k then (kv.1,u) else kv):=by
 unfold KV at r ⊢
 induction r with
 | nil=>exact .nil
 | @cons p q ps qs h t ih=>
  rw [BS,BS];refine .cons ?_ ih;obtain ⟨h1,h2⟩:=h;by_cases e:p.1=k
  ·rw [tu e,tu (h1.symm.trans e)];show ⟨h1,ry⟩
  ·rw [qA e,qA (fun z=>e (h1.trans z))];show ⟨h1,h2⟩
def KV.put (r:KV AN vs)(k:κ)(ry:RelV y u):KV (putK AN k y) (stored vs k u):=by
 unfold putK stored;rw [r.any k];by_cases e:(vs.any fun kv=>decide (kv.1=k))=true
 ·rw [tu e,tu e];exact r.V6 k ry
 ·rw [qA e,qA e];exact Vz r ⟨rfl,ry⟩
def KV.drop (r:KV AN vs)(k:κ):KV (fD AN k) (without vs k):=by
 unfold KV at r ⊢;unfold fD without
 induction r with
 | nil=>exact .nil
 | @cons p q ps qs h t ih=>
  obtain ⟨h1,h2⟩:=h;rw [Rh,Rh];by_cases e:p.1=k
  ·let a:¬ decide (p.1≠k)=true:=by simp [e]
   let b:¬ decide (q.1≠k)=true:=by simp [h1.symm.trans e]
   rwa [qA a,qA b]
  ·let e':¬ q.1=k:=fun z=>e (h1.trans z)
   let a:decide (p.1≠k)=true:=by simp [e]
   let b:decide (q.1≠k)=true:=by simp [e']
   rw [tu a,tu b];exact .cons ⟨h1,h2⟩ ih
theorem KV.length {vs:List (κ×Value)}(r:KV AN vs):AN.length=vs.length:=CV r
def zab (AN:List (κ×V))(k:κ):(fD AN k).length<=AN.length:=SE _ _
end
def mI (r:RelV (kV k) u):(bQ P w).is k u=true:=by
 cases k with
 | inl i=>obtain ⟨t,e⟩:=(show ∃t,u=Value.int i t from r);subst e;exact aev P w i t
 | inr x=>obtain ⟨t,e⟩:=(show ∃t,u=Value.str x t from r);subst e;exact aep P w x t
theorem uR :∀{ks:List Key} {us:ς},Vals (ks.map kV) us->ItemsAre (bQ P w) ks us
 | [],_,r=>by erw [Mi] at r;exact .nil
 | k::ks,_,r=>by
  rw [BS] at r;cases r with
  | cons h t=>exact .cons (mI h) (uR t)
abbrev KT (H:Hp):List (List Key×V)->List (List Key×AO×Value)->Prop:=Paired fun p q=>p.1=q.1/\H q.2.1=some (.tup (p.1.map kV))/\RelV p.2 q.2.2
def KT.val {AN:Θ}{xs:Υ}(r:KT H AN xs)(k:List Key):iZ (cv AN k) ((atKey xs k).map (·.2)):=by
 induction r with
 | nil=>exact True.intro
 | @cons p q ps qs h t ih=>
  obtain ⟨h1,_,h2⟩:=h;by_cases e:p.1=k
  ·let e':q.1=k:=h1.symm.trans e
   let b:atKey (q::qs) k=some q.2:=by simp [atKey,VU,e']
   rwa [ck e,b]
  ·let e':¬ q.1=k:=fun z=>e (h1.trans z)
   let b:atKey (q::qs) k=atKey qs k:=by simp [atKey,VU,e']
   rwa [bR e,b]
def KT.V6 {AN:Θ}{xs:Υ}(r:KT H AN xs)(k:List Key)(ry:RelV y u):
  KT H (AN.map fun kv=>if kv.1=k then (kv.1,y) else kv) (xs.map (putAt k u)):=by
 induction r with
 | nil=>exact .nil
 | @cons p q ps qs h t ih=>
  rw [BS,BS];refine .cons ?_ ih;obtain ⟨h1,h2,h3⟩:=h;unfold putAt;by_cases e:p.1=k
  ·rw [tu e,tu (h1.symm.trans e)];show ⟨h1,h2,ry⟩
  ·rw [qA e,qA (fun z=>e (h1.trans z))];show ⟨h1,h2,h3⟩
def KT.put {AN:Θ}{xs:Υ}(r:KT H AN xs)(k:List Key)(hb:H b=some (.tup (k.map kV)))(ry:RelV y u):
  KT H (putK AN k y) (storedH xs k b u):=by
 let e:(AN.any fun kv=>decide (kv.1=k))=(atKey xs k).isSome:=by
  rw [iH,(r.val k).iI,ah2]
 unfold putK storedH;rw [e];by_cases q:(atKey xs k).isSome=true
 ·rw [tu q,tu q];exact r.V6 k ry
 ·rw [qA q,qA q];exact Vz r ⟨rfl,hb,ry⟩
def KT.keeps {AN:Θ}{xs:Υ}(r:KT H AN xs)(ht:∀b ys,H b=some (.tup ys)->H' b=some (.tup ys)):KT H' AN xs:=
 Paired.bP r fun _ _ z=>⟨z.1,ht _ _ z.2.1,z.2.2⟩
section
variable {P:DN}{w:World}{H:Hp}{h:Heap}{a:AO}
def T9 (ok:kN P w H h)(e:Rd H a u):df P w H h a u:=e.ok ok
def kO (ok:kN P w H h)(e:Rd H a (.dK AN)):AN.length<=BL/\(a==Mf)=false/\∃vs,KV AN vs/\h.DictOf (bQ P w) a vs:=
 show df P w H h a (.dK AN) from T9 ok e
def uS (ok:kN P w H h)(e:H a=some (.dK AN)):AN.length<=BL/\(a==Mf)=false/\∃vs,KV AN vs/\h.DictOf (bQ P w) a vs:=kO ok (.inl e)
def oE (ok:kN P w H h)(e:H a=some (.tup (ks.map kV))):(tupleKind (bQ P w)).is h ks a:=by
 obtain ⟨_,AP,r,o,h1,h2,n,h3⟩:=(show df P w H h a (.tup (ks.map kV)) from ok a _ e);show ⟨o,AP.toArray,n,h1,h2,h3,by simpa using uR r⟩
def pM (ok:kN P w H h)(e:Rd H a (.dT AN)):AN.length<=BL/\(a==Mf)=false/\
  ∃xs,KT H AN xs/\h.DictOfH (tupleKind (bQ P w)) a xs:=by
 obtain ⟨z,y,xs,r,o,es,ep,h1,h2,h3,h4,h5⟩:=(show df P w H h a (.dT AN) from T9 ok e);show ⟨z,y,xs,r,o,es,ep,h1,h2,h3,h4,fun x hx=>?_,h5⟩
 let all:∀{l:Θ} {m:Υ},KT H l m->∀x∈m,(tupleKind (bQ P w)).is h x.1 x.2.1:=by
  intro l m q
  induction q with
  | nil=>intro x hx;exact nomatch hx
  | @cons p q ps qs hq t ih=>
   intro x hx
   rcases JC.mp hx with e|hx
   ·subst e
    exact oE ok (by rw [<-hq.1];exact hq.2.1)
   ·exact ih x hx
 exact all r x hx
def af' (ok:kN P w H h)(e:H a=some (.dT AN)):AN.length<=BL/\(a==Mf)=false/\
  ∃xs,KT H AN xs/\h.DictOfH (tupleKind (bQ P w)) a xs:=pM ok (.inl e)
end
def dZ (H:Hp)(a:AO)(y:V)(r:Ε):Prop:=
 (∃AN k,Rd H a (.dK AN)/\y=kV k/\r=cv AN k)\/∃AN k b,Rd H a (.dT AN)/\y=.ref b/\H b=some (.tup (k.map kV))/\r=cv AN k
def jx (H:Hp)(a:AO)(y v:V)(H':Hp):Prop:=
 (∃AN k,H a=some (.dK AN)/\y=kV k/\AN.length<BL/\H'=upd H a (.dK (putK AN k v)))\/
 ∃AN k b,H a=some (.dT AN)/\y=.ref b/\H b=some (.tup (k.map kV))/\AN.length<BL/\H'=upd H a (.dT (putK AN k v))
theorem dZ.k {AN:δ}{k:Key}(e:H a=some (.dK AN)):dZ H a (kV k) (cv AN k):=.inl ⟨AN,k,.inl e,rfl,rfl⟩
theorem jx.k {AN:δ}{k:Key}(e:H a=some (.dK AN))(hl:AN.length<BL):jx H a (kV k) v (upd H a (.dK (putK AN k v))):=.inl ⟨AN,k,e,rfl,hl,rfl⟩
def jx.t {AN:Θ}{k:List Key}(e:H a=some (.dT AN))(eb:H b=some (.tup (k.map kV)))(hl:AN.length<BL):
  jx H a (.ref b) v (upd H a (.dT (putK AN k v))):=.inr ⟨AN,k,b,e,rfl,eb,hl,rfl⟩
section
variable {X:Cx}{pX:η}{Y:St}{H:Hp}{s:BR}{a:AO}{y v:V}{u r:Value}{o:Ε}{A:JD}{E:γ}
def Inv.big (I:Inv X pX Y H s):Mf<s.heap.objs.size:=by
 let h:DG<s.heap.objs.size:=(I.mod.glob.keeps I.bk).lt;exact oy ce h
def afo {Q:γ}(hu:A.units+1<LY)(I:Inv X pX Y H s)(g:dZ H a y (some v))(ry:RelV y u)(h:∀w' s',Inv X pX Y H s' ->RelV v w' ->Q w' s'):
  AV (BC X.prog X.w) A (getItem (.ref a) u) Q E s:=by
 rcases g with ⟨AN,k,e,ey,l⟩|⟨AN,k,b,e,ey,eb,l⟩
 ·subst ey
  obtain ⟨z,hd,vs,rel,dd⟩:=kO I.bY e;obtain ⟨w',hw,qE⟩:=iZ.some_of (v:=v) (o:=valueAt vs k) (by rw [l];exact rel.val k);exact wpAny_getItem_of (mI ry) dd.mapOf hw (h w' _ (I.tok _) qE)
 ·subst ey
  cases (show u=Value.ref b from ry);obtain ⟨z,hd,xs,rel,dd⟩:=pM I.bY e;obtain ⟨w',hw,qE⟩:=iZ.some_of (v:=v) (o:=(atKey xs k).map (·.2)) (by rw [l];exact rel.val k);obtain ⟨p,hp,Rg⟩:=JI.mp hw;refine wpAny_getItem_heap (ZN hu) (oE I.bY eb) dd hp ?_;rw [Rg];exact h w' _ (I.tok _) qE
def ag0 {Q:γ}(hu:A.units+1<LY)(I:Inv X pX Y H s)(g:dZ H a y o)(ry:RelV y u)(h:∀s',Inv X pX Y H s' ->Q (.bool o.isSome) s'):
  AV (BC X.prog X.w) A (Mb .In u (.ref a)) Q E s:=by
 rcases g with ⟨AN,k,e,ey,l⟩|⟨AN,k,b,e,ey,eb,l⟩
 ·subst ey
  obtain ⟨z,hd,vs,rel,dd⟩:=kO I.bY e;refine wpAny_in_of (mI ry) hd dd.mapOf ?_;rw [<-(rel.val k).iI,<-l];exact h _ (I.tok _)
 ·subst ey
  cases (show u=Value.ref b from ry);obtain ⟨z,hd,xs,rel,dd⟩:=pM I.bY e;refine wpAny_in_heap (ZN hu) (oE I.bY eb) hd dd ?_;let q:=(rel.val k).iI;rw [ah2] at q;rw [<-q,<-l];exact h _ (I.tok _)
def af3 {Q:γ}(hu:A.units+1<LY)(I:Inv X pX Y H s)(g:dZ H a y o)(ry:RelV y u)(h:∀s',Inv X pX Y H s' ->Q (.bool (!o.isSome)) s'):
  AV (BC X.prog X.w) A (Mb .NotIn u (.ref a)) Q E s:=by
 rcases g with ⟨AN,k,e,ey,l⟩|⟨AN,k,b,e,ey,eb,l⟩
 ·subst ey
  obtain ⟨z,hd,vs,rel,dd⟩:=kO I.bY e;refine wpAny_notIn_of (mI ry) hd dd.mapOf ?_;rw [<-(rel.val k).iI,<-l];exact h _ (I.tok _)
 ·subst ey
  cases (show u=Value.ref b from ry);obtain ⟨z,hd,xs,rel,dd⟩:=pM I.bY e;refine wpAny_notIn_heap (ZN hu) (oE I.bY eb) hd dd ?_;let q:=(rel.val k).iI;rw [ah2] at q;rw [<-q,<-l];exact h _ (I.tok _)
def mJ (I:Inv X pX Y H s)(mu:YQ (H a))(hs:ZI a s.heap h')(he:∃q,h'.get? a=some q)(new:df X.prog X.w (upd H a ob) h' a ob):
  Inv X pX Y (upd H a ob) {s with heap:=h',toks:=t'}:=
 I.write (x:=a) (e:=a) mu (.inl rfl) (fun b q hb z=>(hs.2 b hb).trans z) he new
def vK {AN:δ}(z:AN.length<=BL)(hd:(a==Mf)=false)(rel:KV AN vs)(dd:h'.DictOf (bQ P w) a vs):
  df P w H' h' a (.dK AN):=⟨z,hd,vs,rel,dd⟩
def aci (hu:A.units+1<LY)(I:Inv X pX Y H s)(g:jx H a y v H')(ry:RelV y u)(rv:RelV v r)(h:∀s',Inv X pX Y H' s' ->Q () s'):
  AV (BC X.prog X.w) A (setItem (.ref a) u r) Q E s:=by
 rcases g with ⟨AN,k,e,ey,l,eH⟩|⟨AN,k,b,e,ey,eb,l,eH⟩
 ·subst ey eH
  obtain ⟨z,hd,vs,rel,dd⟩:=uS I.bY e;let hz:vs.length<=BL:=by rwa [<-rel.length]
  let hl:(putK AN k v).length<=BL:=by have:=jM AN k v;omega
  refine wpAny_setItem_pairs (hsz:=hz) (mI ry) dd fun h' Qe hs=>h _ ?_;let he:∃q,h'.get? a=some q:=let ⟨q,_,_,hq,_⟩:=Qe;⟨q,hq⟩;exact mJ I (by rw [e];exact True.intro) hs he (vK hl hd (rel.put k rv) Qe)
 ·subst ey eH
  cases (show u=Value.ref b from ry);obtain ⟨z,hd,xs,rel,dd⟩:=af' I.bY e;let hz:xs.length<=BL:=by rwa [<-CV rel]
  let hl:(putK AN k v).length<=BL:=by have:=jM AN k v;omega
  refine wpAny_setItem_heap (hsz:=hz) (ZN hu) (oE I.bY eb) dd fun h' Qe hs=>h _ ?_;obtain ⟨q,es,ep,hq,h2,h3,h4,_,h5⟩:=Qe;refine mJ I (by rw [e];exact True.intro) hs ⟨q,hq⟩ ⟨hl,hd,_,(rel.put k eb rv).keeps fun c ys ec=>?_,q,es,ep,hq,h2,h3,h4,h5⟩;rwa [ak (ahB ec e (fun z=>nomatch z))]
end
section
variable {X:Cx}{pX:η}{Y:St}{H:Hp}{s:BR}{a:AO}{AN:δ}{k:Key}{u:Value}{A:JD}{E:γ}
def aet {more:ς}{Q:γ}(I:Inv X pX Y H s)(e:H a=some (.dK AN))(ry:RelV (kV k) u)(l:cv AN k=some v)(hm:more=[]\/∃x,more=[x])
  (h:∀w' s',Inv X pX Y (upd H a (.dK (fD AN k))) s' ->RelV v w' ->Q w' s'):AV (BC X.prog X.w) A (call (.builtin "dict.pop") (.ref a::u::more)) Q E s:=by
 obtain ⟨z,hd,vs,rel,dd⟩:=uS I.bY e;obtain ⟨w',hw,qE⟩:=iZ.some_of (v:=v) (o:=valueAt vs k) (by rw [<-l];exact rel.val k)
 let hp:(keyPart u).isSome=true:=by
  cases k with
  | inl i=>obtain ⟨t,q⟩:=(show ∃t,u=Value.int i t from ry);subst q;rfl
  | inr x=>obtain ⟨t,q⟩:=(show ∃t,u=Value.str x t from ry);subst q;rfl
 let ha:argsOk "dict.pop" ⟨.ref a::u::more,[]⟩:=by
  rcases hm with q|⟨x,q⟩
  ·subst q;exact PySem.F.args_dict_pop_2 _ _
  ·subst q;exact PySem.F.args_dict_pop_3 _ _ _
 refine W7 PySem.F.slot_dict_pop dd.typeIs PySem.F.entry_dict_pop ha (meets_dict_pop_there (bQ X.prog X.w) a (mI ry) more hm hp)
  ⟨vs,w',dd,by rwa [<-rel.length],hw,fun h' Qe hs=>h w' _ ?_ qE⟩
 let he:∃q,h'.get? a=some q:=let ⟨q,_,_,hq,_⟩:=Qe;⟨q,hq⟩;exact mJ I (by rw [e];exact True.intro) hs he (vK (BX (zab AN k) z) hd (rel.drop k) Qe)
def aer {Q:γ}(I:Inv X pX Y H s)(e:Rd H a (.dK AN))(h:∀t s',Inv X pX Y H s' ->Q (.int AN.length t) s'):AV (BC X.prog X.w) A (call (.builtin "len") [.ref a]) Q E s:=by
 obtain ⟨z,hd,vs,rel,dd⟩:=kO I.bY e;refine call_len_dict hd dd (by rw [<-rel.length];rw [Ws] at z;omega) ?_;rw [<-rel.length];exact h _ _ (I.tok _)
end
def ZH (i:Expr):Prop:=∀ov iv,subscripted i false ov iv=operate [ov,iv] (getItem ov iv)
def af2 {E:γ}{T id:String}{Q:γ}
  (hl:typeLookup (.type T) "__getitem__"=pure (some (.builtin id))) (hs:ZH slice)
  (h:AV (BC prog w) A (CB value env) (fun o tD=>AV (BC prog w) A (CB slice env) (fun i uq=>uq.TypeIs o T/\AV (BC prog w) A (getItem o i) Q E uq) E tD) E s):
  AV (BC prog w) A (CB (.Subscript value slice pos) env) Q E s:=by
 refine Subscript_ (Kw h (fun o tD um=>Kw um (fun i uq xj=>?_) fun _ _ x=>x) fun _ _ x=>x);obtain ⟨hT,xj⟩:=xj;unfold subscriptTail;refine AZ ?_;rw [getitemInPython_of_ne hT.not_modules];refine AZ (wpAny_specialOf hT hl ?_)
 let fin:AV (BC prog w) A (subscripted slice false o i) (fun r s₃=>AV (BC prog w) A (letTemporaryGo value o r >>=fun _=>pure r) Q E s₃) E uq:=by
  rw [hs o i];exact wpAny_operating (Kw xj (fun r s₃ h₃=>AZ (wpAny_letTemporaryGo (CK h₃))) fun _ _ x=>x)
 first
  | exact CK (AZ fin)
  | exact AZ (CK (AZ fin))
  | exact AZ fin
def ado {Y:St}(I:Inv X pX Y H s)(g:dZ H a y o):s.TypeIs (.ref a) "dict":=by
 rcases g with ⟨AN,k,e,_,_⟩|⟨AN,k,b,e,_,_,_⟩
 ·obtain ⟨_,_,vs,_,dd⟩:=kO I.bY e
  exact dd.typeIs
 ·obtain ⟨_,_,xs,_,dd⟩:=pM I.bY e
  exact dd.typeIs
inductive NX (Q:VK)(x:V)(y:V)(H2:Hp):Prop
|mk (a v:_)(_:x=.ref a)(_:dZ H2 a y (some v))(_:Q v H2)
def ael (td ty:TE):TE:=fun Y H Q=>td Y H fun x H1=>ty Y H1 fun y H2=>NX Q x y H2
inductive T_ (Q:VK)(y:V)(x:V)(H2:Hp):Prop
|mk (a o:_)(_:x=.ref a)(_:dZ H2 a y o)(_:Q (.bl o.isSome) H2)
def ag1 (ty td:TE):TE:=fun Y H Q=>ty Y H fun y H1=>td Y H1 fun x H2=>T_ Q y x H2
inductive ym (Q:VK)(y:V)(x:V)(H2:Hp):Prop
|mk (a o:_)(_:x=.ref a)(_:dZ H2 a y o)(_:Q (.bl (!o.isSome)) H2)
def ade (ty td:TE):TE:=fun Y H Q=>ty Y H fun y H1=>td Y H1 fun x H2=>ym Q y x H2
inductive NY (D:Ends)(Y:L2.St)(v:V)(x:V)(y:V)(H3:Hp):Prop
|mk (a H4:_)(_:x=.ref a)(_:jx H3 a y v H4)(_:D.nx Y H4)
def adw (td ty tv:TE):TS:=fun D Y H=>tv Y H fun v H1=>td Y H1 fun x H2=>ty Y H2 fun y H3=>NY D Y v x y H3
section
variable {X:Cx}{o i e value:Expr}{pos pos' vm:Pos}{td ty tv:TE}
def cS (hu:X.A.units+1<LY)(ho:PE X o td)(hi:PE X i ty)(hs:ZH i):PE X (.Subscript o i pos) (ael td ty):=by
 intro pX s Y H Q I h;refine af2 PySem.F.slot_dict_getitem.lookup hs (cU (ho pX s Y H _ I h) fun u s1 ⟨x,H1,I1,rx,q1⟩=>cU (hi pX s1 Y H1 _ I1 q1) fun iv s2 ⟨y,H2,I2,ry,a,v,ex,g,q2⟩=>?_);subst ex;obtain rfl:u=Value.ref a:=rx;show ⟨ado I2 g,afo hu I2 g ry fun w' s3 I3 qE =>⟨v,H2,I3,qE,q2⟩⟩
def BJ (hu:X.A.units+1<LY)(hi:PE X i ty)(ho:PE X o td):PC X .In i o (ag1 ty td):=by
 intro pX s Y H Q I h;refine cU (hi pX s Y H _ I h) fun iv s1 ⟨y,H1,I1,ry,q1⟩=>cU (ho pX s1 Y H1 _ I1 q1) fun u s2 ⟨x,H2,I2,rx,a,ov,ex,g,q2⟩=>?_;subst ex;obtain rfl:u=Value.ref a:=rx;exact ag0 hu I2 g ry fun s3 I3=>⟨.bl ov.isSome,H2,I3,rfl,q2⟩
def kb (hu:X.A.units+1<LY)(hi:PE X i ty)(ho:PE X o td):PC X .NotIn i o (ade ty td):=by
 intro pX s Y H Q I h;refine cU (hi pX s Y H _ I h) fun iv s1 ⟨y,H1,I1,ry,q1⟩=>cU (ho pX s1 Y H1 _ I1 q1) fun u s2 ⟨x,H2,I2,rx,a,ov,ex,g,q2⟩=>?_;subst ex;obtain rfl:u=Value.ref a:=rx;exact af3 hu I2 g ry fun s3 I3=>⟨.bl (!ov.isSome),H2,I3,rfl,q2⟩
def fE (hu:X.A.units+1<LY)(ho:PE X o td)(hi:PE X i ty)(hv:PE X value tv)(hs:QJ value (some (.Subscript o i pos')) pos.line X.env=pure false):
  PS X (.Assign [.Subscript o i pos'] value pos) (adw td ty tv):=by
 intro pX s Y H D I h;refine wpAny_Assign_Subscript (cU (hv pX s Y H _ I h) fun r s1 ⟨v,H1,I1,rv,q1⟩=>cU (ho pX s1 Y H1 _ I1 q1) fun u s2 ⟨x,H2,I2,rx,q2⟩=>cU (hi pX s2 Y H2 _ I2 q2) fun iv s3 ⟨y,H3,I3,ry,a,H4,ex,g,q3⟩=>?_) hs;subst ex;obtain rfl:u=Value.ref a:=rx;exact aci hu I3 g ry rv fun s4 I4=>⟨Y,H4,I4,q3⟩
end
def yn (h:Heap)(hb:Mf<h.objs.size):df P w H (h.push {cls:=.type "dict",data:=.dict #[]}) h.objs.size (.dK []):=
 ⟨JS _,beq_eq_false_iff_ne.mpr (CA (JK hb)),[],.nil,Heap.DictOf.new h⟩
def aft (h:Heap)(hb:Mf<h.objs.size):df P w H (h.push {cls:=.type "dict",data:=.dict #[]}) h.objs.size (.dT []):=
 ⟨JS _,beq_eq_false_iff_ne.mpr (CA (JK hb)),[],.nil,_, #[],0,Kt _ rfl,⟨rfl,rfl,rfl⟩,rfl,rfl,tf⟩
def zaR:TE:=fun _ H Q=>∀p,H p=none->Q (.ref p) (upd H p (.dK []))
def zaN:TE:=fun _ H Q=>∀p,H p=none->Q (.ref p) (upd H p (.dT []))
section
variable {X:Cx}{pos:Pos}
def fF:PE X (.Dict [] [] pos) zaR:=fun pX s Y H Q I h=>
 wpAny_Dict_empty ⟨.ref s.heap.objs.size,_,I.laid (a:=s.heap.objs.size) (o:=.dK []) (t':=s.toks) (fun _ _ q=>DI _ q) (BW _) (yn s.heap I.big),rfl,h _ (I.bY.fresh (BW _))⟩
def afq:PE X (.Dict [] [] pos) zaN:=fun pX s Y H Q I h=>
 wpAny_Dict_empty ⟨.ref s.heap.objs.size,_,I.laid (a:=s.heap.objs.size) (o:=.dT []) (t':=s.toks) (fun _ _ q=>DI _ q) (BW _) (aft s.heap I.big),rfl,h _ (I.bY.fresh (BW _))⟩
end
def BK:List (TE×TE)->St->Hp->(List (V×V)->Hp->Prop)->Prop
 | [],_,H,Q=>Q [] H
 | (tk,tv)::r,Y,H,Q=>tk Y H fun x H1=>tv Y H1 fun y H2=>BK r Y H2 fun ps H3=>Q ((x,y)::ps) H3
abbrev VV:List (V×V)->List (Value×Value)->Prop:=Paired fun p q=>RelV p.1 q.1/\RelV p.2 q.2
def PPs (X:Cx)(pos:Pos)(keys:List (Option Expr))(values:Δ)(Rl:List (TE×TE)):Prop:=
 ∀(pX:η)(s:BR)(Y:St)(H:Hp)(Q:List (V×V)->Hp->Prop),Inv X pX Y H s->BK Rl Y H Q->
  AV (BC X.prog X.w) X.A (evalPairs (pairTrees keys values X.env pos)) (fun vs s'=>∃ps H',Inv X pX Y H' s'/\VV ps vs/\Q ps H') X.xe s
def FQ :PPs X pos [] [] []:=fun pX s Y H Q I h=>pairTrees_nil_walk ⟨[],H,I,.nil,h⟩
def rO (hk:PE X k tk)(hv:PE X v tv)(hr:PPs X pos ks vs Rl):
  PPs X pos (some k::ks) (v::vs) ((tk,tv)::Rl):=fun pX s Y H Q I h=>
 pairTrees_cons_walk (cU (hk pX s Y H _ I h) fun u s1 ⟨x,H1,I1,rx,q1⟩=>cU (hv pX s1 Y H1 _ I1 q1) fun w2 s2 ⟨y,H2,I2,ry,q2⟩=>
  cU (hr pX s2 Y H2 _ I2 q2) fun ws s3 ⟨ps,H3,I3,rel,q3⟩=>⟨(x,y)::ps,H3,I3,.cons ⟨rx,ry⟩ rel,q3⟩)
def cM (AN more:δ):List (Key×V):=more.foldl (fun acc kv=>putK acc kv.1 kv.2) AN
def KV.merge:∀{more:δ} {rs:List (Key×Value)} {AN:δ} {vs:List (Key×Value)},KV more rs->KV AN vs->KV (cM AN more) (merged vs rs):=by
 intro more rs AN vs r;unfold KV at r
 induction r generalizing AN vs with
 | nil=>intro q;exact q
 | @cons p q ps qs h t ih=>
  intro r0
  let e:KV (putK AN p.1 p.2) (stored vs q.1 q.2):=by
   have:=r0.put p.1 h.2;rw [<-h.1];exact this
  exact ih e
theorem iB:∀(more AN:δ),(cM AN more).length<=AN.length+more.length
 | [],AN=>by show AN.length<=AN.length+0;omega
 | p::r,AN=>by
  let h1:=iB r (putK AN p.1 p.2);let h2:=jM AN p.1 p.2;show (cM (putK AN p.1 p.2) r).length<=_;rw [L7];omega
theorem rP :∀{AN:δ} {ws:List (Value×Value)},VV (AN.map fun kv=>(kV kv.1,kv.2)) ws->∃rs,Carries (bQ P w) ws rs/\KV AN rs
 | [],_,r=>by erw [Mi] at r;show ⟨[],True.intro,.nil⟩
 | p::AN,_,r=>by
  rw [BS] at r;cases r with
  | @cons a b as bs h t=>
   obtain ⟨rs,c,q⟩:=rP (P:=P) (w:=w) t;obtain ⟨b1,b2⟩:=b;show ⟨(p.1,b2)::rs,⟨mI h.1,rfl,c⟩,.cons ⟨rfl,h.2⟩ q⟩
def adh (Rl:List (TE×TE)):TE:=fun Y H Q=>∀p,H p=none->BK Rl Y (upd H p (.dK [])) fun ps H2=>H2 p=some (.dK [])/\∃AN:List (Key×V),ps=AN.map (fun kv=>(kV kv.1,kv.2))/\AN.length<=15/\Q (.ref p) (upd H2 p (.dK (cM [] AN)))
def FR (h:PPs X pos keys values Rl)(Nw:keys.all (·.isSome)=true)(hl:keys.length=values.length)(h0:keys≠[])
  (h15:keys.length<=15):PE X (.Dict keys values pos) (adh Rl):=by
 intro pX s Y H Q I q;let hn:=I.bY.fresh (BW s.heap.objs.size);let I1:=I.laid (a:=s.heap.objs.size) (o:=.dK []) (h':=s.heap.push {cls:=.type "dict",data:=.dict #[]}) (t':=s.toks) (fun _ _ q=>DI _ q) (BW _) (yn s.heap I.big);refine wpAny_Dict_walk (knd:=bQ X.prog X.w) Nw hl h0 h15 (cU (h pX _ Y _ _ I1 (q _ hn)) fun ws s2 ⟨ps,H2,I2,rel,e,AN,ep,lk,q2⟩=>?_);subst ep;obtain ⟨rs,c,rk⟩:=rP (P:=X.prog) (w:=X.w) rel;obtain ⟨z,hd,vs0,r0,dd⟩:=uS I2.bY e;cases r0;show ⟨rs,c,dd,fun h' Qe hs=>⟨.ref s.heap.objs.size,_,?_,rfl,q2⟩⟩
 let hz:(cM [] AN).length<=BL:=by
  let h1:=iB AN [];rw [ait] at h1;rw [Ws];omega
 let he:∃q,h'.get? s.heap.objs.size=some q:=let ⟨q,_,_,hq,_⟩:=Qe;⟨q,hq⟩;exact mJ I2 (by rw [e];exact True.intro) hs he (vK hz hd (rk.merge .nil) Qe)
structure M1 (X:Cx)(o:Expr)(m:Str)(apos:Pos)(e:Expr)(fC:Pos):Prop where
 qf:Sd o m X.env (CB o X.env)=CB o X.env
 few:((Ku fC (CZ [e] X.env)).all (fun x=> !x.1) && (backToKw fC (Sj [] X.env)).all (fun x=>x.1.isSome)
  && decide (([e]:List Expr).length+([]:List Keyword).length+(if ([]:List Keyword).isEmpty then 0 else 1)<30))=true
 line:(apos.endLine==fC.line)=true
 trees:Ku fC (CZ [e] X.env)=[(false,CB e X.env)]
structure M2 (X:Cx)(o:Expr)(m:Str)(apos:Pos)(e f:Expr)(fC:Pos):Prop where
 qf:Sd o m X.env (CB o X.env)=CB o X.env
 few:((Ku fC (CZ [e,f] X.env)).all (fun x=> !x.1) && (backToKw fC (Sj [] X.env)).all (fun x=>x.1.isSome)
  && decide (([e,f]:List Expr).length+([]:List Keyword).length+(if ([]:List Keyword).isEmpty then 0 else 1)<30))=true
 line:(apos.endLine==fC.line)=true
 trees:Ku fC (CZ [e,f] X.env)=[(false,CB e X.env),(false,CB f X.env)]
def IsD (H:Hp)(a:AO):Prop:=(∃AN,Rd H a (.dK AN))\/∃AN,Rd H a (.dT AN)
def N1 {Y:St}(I:Inv X pX Y H s)(d:IsD H a):
  s.TypeIs (.ref a) "dict"/\(∀b,Value.ref a=.ref b->∃ob,s.heap.get? b=some ob/\ob.dict=none)/\(a==Mf)=false:=by
 rcases d with ⟨AN,e⟩|⟨AN,e⟩
 ·obtain ⟨_,hd,vs,_,dd⟩:=kO I.bY e
  show ⟨dd.typeIs,fun b q=>?_,hd⟩;cases q;obtain ⟨ob,_,_,h1,h2,_⟩:=dd;show ⟨ob,h1,h2.2.1⟩
 ·obtain ⟨_,hd,xs,_,dd⟩:=pM I.bY e
  show ⟨dd.typeIs,fun b q=>?_,hd⟩;cases q;obtain ⟨ob,_,_,h1,h2,_⟩:=dd;show ⟨ob,h1,h2.2.1⟩
section
variable {X:Cx}{pX:η}{Y:St}{H:Hp}{s:BR}{a:AO}{y d:V}{u r:Value}{o:Ε}{A:JD}{E:γ}
def ahv {Q:γ}(hu:A.units+1<LY)(I:Inv X pX Y H s)(g:dZ H a y o)(ry:RelV y u)(rd:RelV d r)(h:∀w' s',Inv X pX Y H s' ->RelV (o.getD d) w' ->Q w' s'):
  AV (BC X.prog X.w) A (call (.builtin "dict.get") [.ref a,u,r]) Q E s:=by
 rcases g with ⟨AN,k,e,ey,l⟩|⟨AN,k,b,e,ey,eb,l⟩
 ·subst ey
  obtain ⟨z,hd,vs,rel,dd⟩:=kO I.bY e;refine W7 PySem.F.slot_dict_get dd.typeIs PySem.F.entry_dict_get (PySem.F.args_dict_get_3 _ _ _) (meets_dict_get_default (bQ X.prog X.w) a (mI ry) hd r) ⟨_,dd.mapOf,h _ _ (I.tok _) ?_⟩;rw [l];exact (rel.val k).getD rd
 ·subst ey
  cases (show u=Value.ref b from ry);obtain ⟨z,hd,xs,rel,dd⟩:=pM I.bY e;refine W7 PySem.F.slot_dict_get dd.typeIs PySem.F.entry_dict_get (PySem.F.args_dict_get_3 _ _ _) (meetsH_dict_get_default (tupleKind (bQ X.prog X.w)) a b hd r) ⟨ZN hu,k,xs,oE I.bY eb,dd,h _ _ (I.tok _) ?_⟩;rw [l];exact (rel.val k).getD rd
end
def agF (td ty tx:TE):TE:=fun Y H Q=>td Y H fun x H1=>∃a,x=.ref a/\IsD H1 a/\ty Y H1 fun y H2=>tx Y H2 fun z H3=>∃o,dZ H3 a y o/\Q (o.getD z) H3
def zaw (td ty:TE):TE:=fun Y H Q=>td Y H fun x H1=>∃a,x=.ref a/\IsD H1 a/\ty Y H1 fun y H2=>∃AN k v,H2 a=some (.dK AN)/\y=kV k/\cv AN k=some v/\Q v (upd H2 a (.dK (fD AN k)))
section
variable {X:Cx}{o e f:Expr}{apos fC:Pos}{td ty tx:TE}
def yo (hu:X.A.units+1<LY)(ho:PE X o td)(he:PE X e ty)(hf:PE X f tx)(m:M2 X o "get" apos e f fC):PE X (.Call (.Attribute o "get" apos) [e,f] [] fC) (agF td ty tx):=by
 intro pX s Y H Q I h;refine wpAny_Call_method m.qf m.few m.line PySem.F.plainAttrs_dict PySem.F.slot_dict_get PySem.F.type_dict_get (cU (ho pX s Y H _ I h) fun u s1 ⟨x,H1,I1,rx,a,ex,d,q1⟩=>?_);subst ex;obtain rfl:u=Value.ref a:=rx;obtain ⟨t1,t2,_⟩:=N1 I1 d;show ⟨t1,t2,?_⟩;rw [m.trees]
 refine ZK rfl (Calls.evalArgs_plain (ZP (cU (he pX s1 Y H1 _ I1 q1) fun iv s2 ⟨y,H2,I2,ry,q2⟩=>
  ZP (cU (hf pX s2 Y H2 _ I2 q2) fun fv s3 ⟨z,H3,I3,rz,ov,g,q3⟩=>EW ?_))))
 exact ahv hu I3 g ry rz fun w' s4 I4 qE =>⟨_,H3,I4,qE,q3⟩
def rQ (ho:PE X o td)(he:PE X e ty)(m:M1 X o "pop" apos e fC):PE X (.Call (.Attribute o "pop" apos) [e] [] fC) (zaw td ty):=by
 intro pX s Y H Q I h;refine wpAny_Call_method m.qf m.few m.line PySem.F.plainAttrs_dict PySem.F.slot_dict_pop PySem.F.type_dict_pop (cU (ho pX s Y H _ I h) fun u s1 ⟨x,H1,I1,rx,a,ex,d,q1⟩=>?_);subst ex;obtain rfl:u=Value.ref a:=rx;obtain ⟨t1,t2,_⟩:=N1 I1 d;show ⟨t1,t2,?_⟩;rw [m.trees];refine ZK rfl (Calls.evalArgs_plain (ZP (cU (he pX s1 Y H1 _ I1 q1) fun iv s2 ⟨y,H2,I2,ry,AN,k,v,ea,ey,l,q2⟩=>EW ?_)));subst ey;exact aet I2 ea ry l (.inl rfl) fun w' s3 I3 qE =>⟨v,_,I3,qE,q2⟩
end
end L2
namespace Ty
open PySem PySem.Spec PyProof.Rows L2
section
variable {X:Cx}
def adI {Y:L2.St}(I:Inv X pX Y H s):s.heap.NoSeer:=I.ok.mod.seer.keeps I.bk
def cG.py (r:cG k A)(h:32<=k):A.depth+Builtin.pylongFrames<yC:=by
 have:=r.dp;have:Builtin.pylongFrames=100:=rfl;omega
def gW (ht:X.prog.given.tree=none)(hd:X.A.depth+Builtin.pylongFrames<yC)(M8:X.stack=env::l)(h1:env.scope.isGenerator=false)(h2:env.scope.isCoroutine=false)(h3:env.builtins=Vs)(h4:env.globals=DG):
  kD X (NR .FloorDiv) (rI VR fun i j=>.int (i.fdiv j)):=by
 intro pX s Y H x y v u Q I rx ry h;obtain ⟨i,j,rfl,rfl,hc,q⟩:=h;obtain ⟨t,rfl⟩:=rx;obtain ⟨t',rfl⟩:=ry;exact floordiv_int hc ⟨.int _,H,I.tok _,⟨_,rfl⟩,q⟩ (.inr (PylongRoom.of I.nolimit hd (SeerAt.of (adI I) ht (by rw [I.ok.frames,M8]) h1 h2 h3 h4)))
end
section
variable {prog:DN}{w:World}{A:JD}{E:γ}{s:BR}{KK:Type}[DecidableEq KK]{knd:KeyKind prog w KK}
def abu (hm:s.heap.DictOf knd d AN)(h:Q false s):AV (BC prog w) A (Builtin.List.listLengthHint (.ref d)) Q E s:=by
 unfold Builtin.List.listLengthHint;refine AZ (wpAny_specialOf (name:=L9 "__len__") hm.typeIs F.slot_dict_len.lookup ?_);generalize hid:("dict.__len__":String)=id0
 wp_delta
 rw [show splitId id0=some ("dict","__len__") from by subst hid;decide+kernel];subst hid;refine AZ (wpAny_isInstance (T:="dict") (b:=true) hm.typeIs (by rw [isSubtype_type];kernel_rfl) ?_);refine wpAny_ite_split (fun hab=>BH hab ce) (fun _=>?_);refine wpAny_ite_split (fun _=>?_) (fun hab=>BH (by decide+kernel) hab);refine AZ (ZF (T:="dict") hm.typeIs ?_);exact CK h
def adj {R:Τ}(hh:A.handled=none)(hd:(d==Mf)=false)(hm:s.heap.DictAt knd d AN ep)(hlen:AN.length<=BL)(S:AO)(res:Value)(c₀:Nat)(hS:s.heap.get? S=some {cls:=.type "list",data:=.seq #[] c₀})
  (hR:∀h' tk jN c',(∀b o,b≠S->s.heap.get? b=some o->h'.get? b=some o)->h'.get? S=some {cls:=.type "list",dict:=none,data:=.seq jN c',slots:= #[]}->
   ItemsOf (fun i v=>∃k x,AN[i]?=some (k,x)/\knd.is k v=true) jN AN.length->R (.ok (.ret res)) {s with heap:=h',toks:=tk}):
  AV (BC prog w) A.in1 (yq (.ref S) (.ref d) res)
   (fun fin s'=>match fin with | .done f=>R (.ok f) s' | .again c'=>c'.quiet=true/\N6 (BC prog w) A c' R s') (fun e s'=>R (.error e) s') s:=by
 obtain ⟨od,es,Yo,tO,iJ,hk0,hp0,hn0⟩:=id hm;let hT:s.TypeIs (.ref d) "dict":=hm.dictOf.typeIs
 let Yp:S≠d:=fun e=>by
  rw [e] at hS;erw [hS] at Yo;cases iJ
 let hdI:d≠s.heap.objs.size:=JK (DE Yo);let hSI:S≠s.heap.objs.size:=JK (DE hS)
 let hSf:S∉[s.heap.objs.size,d]:=fun hm=>by
  rcases JC.mp hm with z|z
  ·exact hSI z
  ·exact Yp (IZ.mp z)
 let W:=(Walks.dictKeys (knd:=knd) (A:=A.in1) hh s.heap.objs.size d hdI AN ep).toS;unfold yq;refine AZ (ZF (T:="dict") hT ?_);let h1:Builtin.List.listSameRef (.ref S) (.ref d)=false:=by simp [Builtin.List.listSameRef,Yp]
 let h2:(Value.type "dict"==Value.type "list")=false:=ce
 let h3:(Value.type "dict"==Value.type "tuple")=false:=ce
 simp only [h1,h2,h3,aiJ,t_,if_false];refine AZ (wpAny_pyIter_dict hd hm ?_);let N2:(s.heap.push {cls:=.type "dict_keyiterator",data:=.fields #[.ref d,.int 0 0,.int AN.length 0,.int ep 0]}).DictAt knd d AN ep:=hm.at' fun o e=>DI _ e;refine AZ (Og (abu (knd:=knd) N2.dictOf ?_));let ZL:=DI {cls:=.type "dict_keyiterator",data:=.fields #[.ref d,.int 0 0,.int AN.length 0,.int ep 0]} hS;let it₁:(s.heap.push {cls:=.type "dict_keyiterator",data:=.fields #[.ref d,.int 0 0,.int AN.length 0,.int ep 0]}).IsKeyIter s.heap.objs.size d 0 AN.length ep:=⟨_,Kt _ rfl,rfl,rfl⟩
 let key:∀(h:Heap)(c₁ tk:Nat),h.IsKeyIter s.heap.objs.size d 0 AN.length ep->h.DictAt knd d AN ep->(∀b o,b≠S->s.heap.get? b=some o->h.get? b=some o)->
   h.get? S=some {cls:=.type "list",data:=.seq #[] c₁}->N6 (BC prog w) A (.builtin "list.extend.loop" ⟨[.ref S,.ref s.heap.objs.size,res],[]⟩) R {s with heap:=h,toks:=tk}:=by
  intro h c₁ tk hit hdm hk ZL;refine codeAny_extend_loopS W hlen S hSf res AN.length 0 _ #[] c₁ rfl (JS _) ⟨hit,hdm⟩ ZL (ItemsOf.nil _) fun s' jN c' hm' Wa yr=>?_;rw [Moved.eq_with hm'];refine hR s'.heap s'.toks jN c' (fun b o hb e=>hm'.heap b o (fun JV=>?_) (hk b o hb e)) Wa yr
  rcases JC.mp JV with e'|JV
  ·exact hb e'
  ·exact BH (DE e) (by rw [IZ.mp JV];exact OS _)
 refine wpAny_ite_split (fun _=>?_) (fun _=>CK ⟨plainId_quiet F.plain_extend_loop _,key _ c₀ _ it₁ N2 (fun b o _ e=>DI _ e) ZL⟩);refine AZ (wpAny_rule ?_);refine AZ ?_;show AV _ _ (updateSeq S (·.push .none) >>=fun _=>updateSeq S (·.pop)) _ _ _;refine AZ (x8 ZL rfl ?_);let hS₂:=FA (Q3 (·.push Value.none)) ZL rfl;refine x8 (hz:=by seq_fits) hS₂ rfl ?_;let hS₃:=FA (Q3 (·.pop)) hS₂ rfl;refine CK ⟨plainId_quiet F.plain_extend_loop _,key _ _ _ (it₁.at fun o e=>?_) (N2.at' fun o e=>?_) (fun b o hb e=>?_) hS₃⟩
 ·exact (RD _ _ hSI).trans ((RD _ _ hSI).trans e)
 ·exact (RD _ _ Yp).trans ((RD _ _ Yp).trans e)
 ·exact (RD _ _ (CA hb)).trans ((RD _ _ (CA hb)).trans (DI _ e))
def aiG {R:Τ}(hh:A.handled=none)(hd:(d==Mf)=false)(hm:s.heap.DictAt knd d AN ep)(hlen:AN.length<=BL)(S:AO)(hS:s.heap.get? S=some {cls:=.type "list",data:=.seq #[]})
  (hR:∀h' tk jN c',(∀b o,b≠S->s.heap.get? b=some o->h'.get? b=some o)->h'.get? S=some {cls:=.type "list",dict:=none,data:=.seq jN c',slots:= #[]}->
   ItemsOf (fun i v=>∃k x,AN[i]?=some (k,x)/\knd.is k v=true) jN AN.length->R (.ok (.ret .none)) {s with heap:=h',toks:=tk}):
  AV (BC prog w) A.in1 (Builtin.«list.__init__» ⟨[.ref S,.ref d],[]⟩)
   (fun fin s'=>match fin with | .done f=>R (.ok f) s' | .again c'=>c'.quiet=true/\N6 (BC prog w) A c' R s') (fun e s'=>R (.error e) s') s:=by
 obtain ⟨od,es,Yo,tO,iJ,hk0,hp0,hn0⟩:=id hm
 let Yp:S≠d:=fun e=>by
  rw [e] at hS;erw [hS] at Yo;cases iJ
 show AV _ _ (do let old <- Builtin.List.listItems (.ref S);Builtin.List.listUpdate (.ref S) (fun _=> #[]);letGo old.toList.reverse;yq (.ref S) (.ref d) .none) _ _ s;refine AZ ?_;unfold Builtin.List.listItems;refine AZ (yG hS rfl (CK ?_));show AV _ _ (updateSeq S (fun _=> #[]) >>=fun _=>letGo (#[]:Array Value).toList.reverse >>=fun _=>yq (.ref S) (.ref d) .none) _ _ s;refine AZ (x8 hS rfl ?_);let hS₂:=FA (Q3 (fun _=>(#[]:Array Value))) hS rfl
 let oth:∀b o,b≠S->s.heap.get? b=some o->(s.heap.update S (Q3 (fun _=>(#[]:Array Value)))).get? b=some o:=
  fun b o hb e=>(RD _ _ (CA hb)).trans e
 refine AZ (wpAny_letGo ?_);refine adj hh hd (hm.at' fun o e=>oth d o (CA Yp) e) hlen S .none _ hS₂ fun h' tk jN c' hk Wa yr=>?_;exact hR h' tk jN c' (fun b o hb e=>hk b o hb (oth b o hb e)) Wa yr
def ahz {Q:γ}(hh:A.handled=none)(hd:(d==Mf)=false)(hm:s.heap.DictAt knd d AN ep)(hlen:AN.length<=BL)
  (hQ:∀h' tk jN c',(∀b o,s.heap.get? b=some o->h'.get? b=some o)->
   h'.get? s.heap.objs.size=some {cls:=.type "list",dict:=none,data:=.seq jN c',slots:= #[]}->ItemsOf (fun i v=>∃k x,AN[i]?=some (k,x)/\knd.is k v=true) jN AN.length->Q (.ref s.heap.objs.size) {s with heap:=h',toks:=tk}):
  AV (BC prog w) A (call (.type "list") [.ref d]) Q E s:=by
 refine callType_codes (Q₁:=fun obj tD=>obj=.ref s.heap.objs.size/\tD={s with heap:=s.heap.push {cls:=.type "list",data:=.seq #[]}}) F.called_list (F.typeCall_list_1 _) F.entry_list_init
  (code_list_new _ ⟨rfl,rfl⟩) fun obj tD um=>?_
 obtain ⟨rfl,rfl⟩:=um;let hS:(s.heap.push {cls:=.type "list",data:=.seq #[]}).get? s.heap.objs.size=some {cls:=.type "list",data:=.seq #[]}:=Kt _ rfl;show ⟨⟨_,hS,rfl⟩,F.args_list_init_2 _ _,aiG (A:=A.in1) hh hd (hm.at' fun o e=>DI _ e) hlen _ hS fun h' tk jN c' hk Wa yr=>?_⟩;show ⟨rfl,hQ h' tk jN c' (fun b o e=>hk b o (JK (DE e)) (DI _ e)) Wa yr⟩
end
theorem aA :∀{ug:List Z} {uf:List β} {i:Nat} {a:Z},Paired F ug uf->ug[i]?=some a->∃b,uf[i]?=some b/\F a b
 | _,_,_,_,.nil,h=>by simp at h
 | _,_,0,_,.cons r _,h=>by
  cases h;show ⟨_,rfl,r⟩
 | _,_,i+1,_,.cons _ t,h=>by
  obtain ⟨b,e,f⟩:=aA (i:=i) t (by simpa using h);show ⟨b,by simpa using e,f⟩
theorem cV :∀{ug:List Z} {uf:List β},ug.length=uf.length->(∀(i:Nat)(a:Z)(b:β),ug[i]?=some a->uf[i]?=some b->F a b)->Paired F ug uf
 | [],[],_,_=>.nil
 | a::ug,b::uf,h,f=>.cons (f 0 a b rfl rfl) (cV (by simpa using h) fun i a b e1 e2=>f (i+1) a b (by simpa using e1) (by simpa using e2))
 | [],_::_,h,_=>by simp at h
 | _::_,[],h,_=>by simp at h
def FT (h:(bQ P w).is k u=true):RelV (kV k) u:=by
 rcases cI h with ⟨i,t,rfl,rfl⟩|⟨x,t,rfl,rfl⟩
 ·show ⟨t,rfl⟩
 ·show ⟨t,rfl⟩
section
variable {X:Cx}
inductive N3 (xs:ε)(H:Hp)(Q:VK):Prop
|mk (p:AO)(AN:δ)(_:xs=[.ref p])(_:Rd H p (.dK AN))(_:∀l,H l=none->Q (.ref l) (upd H l (.lst (AN.map fun kv=>kV kv.1))))
def fT (hc:X.calm=true):fu X (.type "list") N3:=by
 intro pX s Y H xs us Q I r h;obtain ⟨p,AN,rfl,hq,q⟩:=h;obtain ⟨u,rfl,r1⟩:=vals1 r;cases r1;obtain ⟨z,hd,vs,rel,o,es,ep,ho,hx,iJ,hk,hp,hn⟩:=kO I.bY hq;let hl:=rel.length;refine ahz (knd:=bQ X.prog X.w) (I.ok.hd hc) hd ⟨o,es,ho,hx,iJ,hk,hp,hn⟩ bv fun h' tk jN c' kk hS yr=>?_;let hn':=I.bY.fresh (BW s.heap.objs.size)
 let rv:Vals (AN.map fun kv=>kV kv.1) jN.toList:=cV (by have:=yr.1;simp;omega) fun i a b e1 e2=>by
  rw [AY] at e1;obtain ⟨kv,ek,rfl⟩:=JI.mp e1;obtain ⟨q',eq,e3,_⟩:=aA rel ek;obtain ⟨k,x,e4,e5⟩:=yr.2 i b (by simpa using e2);erw [eq] at e4;rw [e3];exact FT e5
 let I2:Inv X pX Y (upd H s.heap.objs.size (.lst (AN.map fun kv=>kV kv.1))) {s with heap:=h',toks:=tk}:=I.laid (t':=tk) kk (BW _) ⟨by rwa [AU],jN.toList,c',rv,by simpa using hS⟩;show ⟨.ref _,_,I2,rfl,q _ hn'⟩
def Inv.freeze {Y:L2.St}(I:Inv X pX Y H s)(e:H d=some (.dK AN))(ho:s.heap.get? d=some o):Inv X pX Y (upd H d (.gP o (.dK AN))) s:=by
 let nx:∀b u,H b=some u->b≠d->upd H d (.gP o (.dK AN)) b=some u:=fun b u q n=>by rwa [ak n]
 refine I.step (g':=s.gens) (t':=s.toks) (d':=s.drawn) (ch:=[]) (fun _ z=>nomatch z) (fun b o _ _ _ e _=>e) (fun b o _ _ _ e _=>⟨o.slots,e⟩) (fun b o _ _ n=>by rw [ak (fun z=>by erw [z,e] at n)];exact n) (fun b o _ e=>⟨o,e⟩)
  (fun b xs q=>nx b _ q fun z=>by erw [z,e] at q) (fun b o' u q=>nx b _ q fun z=>by erw [z,e] at q) (fun b ps q=>⟨#[],by rw [nx b _ q fun z=>by erw [z,e] at q];simp⟩) (fun m hm=>hm) (fun b u q=>?_) I.bare
 by_cases hb:b=d
 ·subst hb
  erw [aj] at q;show ⟨ho,I.bY b _ e⟩
 ·rw [ak hb] at q
  exact (I.bY b u q).vh (fun _ _ _ k=>k) (fun c k=>nx c _ k fun z=>by erw [z,e] at k) fun c xs k=>nx c _ k fun z=>by erw [z,e] at k
def Yq (d:AO)(o:Obj)(AN:δ):It:=
 ⟨fun i H=>H d=some (.gP o (.dK AN))/\i<AN.length,
  fun i H v H'=>∃p k x,AN[i]?=some (k,x)/\v=.ref p/\H p=none/\H'=upd H p (.tup [kV k,x]),
  fun i H=>H d=some (.gP o (.dK AN))/\AN.length<=i⟩
def N4 (ok:kN P w H h)(e:H d=some (.gP o (.dK AN)))(he:o.data=.dict es0 ep):
  (d==Mf)=false/\∃vs,KV AN vs/\h.DictAt (bQ P w) d vs ep/\AN.length<=BL:=by
 obtain ⟨h1,z,hd,vs,rel,o',es,AA,ho,hx,iJ,hk,hp,hn⟩:=ok d _ e;erw [h1] at ho;erw [he] at iJ;show ⟨hd,vs,rel,⟨o,es0,h1,hx,he,hk,hp,hn⟩,z⟩
def zaC:entryFor table "dict_itemiterator.__iter__"=some Builtin.«dict_keyiterator.__iter__»:=
 entryFor_alias (id':="dict_keyiterator.__iter__") (by kernel_rfl) (by first|rfl|decide+kernel|(unfold String.splitOn;simp+decide [String.splitOnAux])) (by decide+kernel) (by kernel_rfl)
def acw {E:γ}{Q:γ}(st:IsItemIter s.heap it d i n ep ok ov)(h:Q (.ref it) s):AV (BC P w) A (pyIter (.ref it)) Q E s:=by
 let hT:s.TypeIs (.ref it) "dict_itemiterator":=⟨_,st,rfl⟩;refine wpAny_pyIter_slot hT F.slot_dict_itemiterator_iter (zC F.slot_dict_itemiterator_iter hT zaC ?_ (F.args_dict_itemiterator_iter_1 _));show AV _ _ (ret (.ref it)) _ _ s;exact CK ⟨_,rfl,"dict_itemiterator",_,hT,F.slot_dict_itemiterator_next.lookup,h⟩
def rT {K:Frag}{es:Δ}(d it:AO)(o:Obj)(AN:δ)(he:o.data=.dict es0 ep)(xD:it≠d):
  Turn P w K (.Tuple es k pos) (Yq d o AN) [it] it (fun i h=>∃ok ov,IsItemIter h it d i AN.length ep ok ov) where
 mem:=by simp
 obj:=fun i h st b hb=>by
  let e:b=it:=by simpa using hb
  subst e;obtain ⟨ok,ov,st⟩:=st;show ⟨_,st,fun v z=>by cases z⟩
 keep:=fun i h h' st k=>by
  obtain ⟨ok,ov,st⟩:=st;show ⟨ok,ov,k it cr _ st⟩
 item:=by
  intro X hP hw hK hc i pX s Y H E I hf st hg;subst hP hw hK;obtain ⟨ok,ov,st⟩:=st;obtain ⟨fz,hi⟩:=hg;obtain ⟨hd,vs,rel,da,_⟩:=N4 I.bY fz he;let ek:AN[i]?=some AN[i]:=gE hi;obtain ⟨⟨k',u⟩,ev,e1,ru⟩:=aA rel ek;let lv:=rel.length;rw [lv] at st;refine wpAny_pyNext_items_item st da ev fun key h' VC out tup sz kk=>?_;show ⟨_,rfl,wpAny_letOwnedTupleGo_items (s:={s with heap:=h'}) out fun Qd ag6 sb=>?_⟩;let hsz:∀c o,s.heap.get? c=some o->s.heap.objs.size≠c:=fun c o e=>σ4 (DE e);let tz:s.heap.objs.size≠it:=hsz _ _ st;let nz:∀c,c≠it->∀o,h'.get? c=some o->Qd.get? c=some o:=fun c hc o e=>(sb.2 c hc).trans e;let hn:=I.bY.fresh (BW s.heap.objs.size);have NL :AN[i].1=k':=e1
  let I2:Inv X pX Y (upd H s.heap.objs.size (.tup [kV AN[i].1,AN[i].2])) {s with heap:=Qd,toks:=s.toks}:=
   Inv.vG I (fun b o hb e=>nz b (by simpa using hb) o (kk b o (by simpa using hb) e)) hf (BW _) (by show 2<=BL;decide) (AP:=[key,u]) (.cons (by rw [NL];exact FT VC) (.cons ru .nil)) ⟨_,nz _ tz _ tup,rfl,_,rfl⟩
  show ⟨.ref s.heap.objs.size,_,I2,rfl,⟨s.heap.objs.size,AN[i].1,AN[i].2,ek,rfl,hn,rfl⟩,⟨_,_,by rwa [lv]⟩,fun b hb=>?_⟩;let eb:b=it:=by simpa using hb
  rw [ak (by rw [eb];exact CA tz)];exact (hf b hb).1
 done:=by
  intro X hP hw hK hc i pX s Y H E I hf st hg;subst hP hw hK;obtain ⟨ok,ov,st⟩:=st;obtain ⟨fz,hi⟩:=hg;obtain ⟨hd,vs,rel,da,_⟩:=N4 I.bY fz he;let lv:=rel.length;rw [lv] at st;obtain ⟨f0,f1,f2,f3,f4,f5⟩:=hf it cr;exact wpAny_pyNext_items_end (I.ok.hd hc) st da (IW bv) fun h' eb=>⟨rfl,I.turned (t':=s.toks) (fun b o hb e=>eb b o hb e) f0 f1 f3 f4 f5⟩
 self:=fun _ _ _ _ _ st h=>by
  obtain ⟨ok,ov,st⟩:=st;exact acw st h
inductive FU (R:(It->Hp->Prop))(x:V)(H1:Hp):Prop
|mk (d AN:_)(_:x=.ref d)(_:H1 d=some (.dK AN))(_:∀o,R (Yq d o AN) (upd H1 d (.gP o (.dK AN))))
def zaY (te:TE):TI:=fun Y H R=>te Y H fun x H1=>FU R x H1
def jO {apos fC:Pos}{es:Δ}{k:Nat}{vm:Pos}(ho:PE X e te)(xW:Sd e "items" X.env (CB e X.env)=CB e X.env:=by rfl)(xX:(apos.endLine==fC.line)=true:=by rfl):
  PI X (.Tuple es k vm) (.Call (.Attribute e "items" apos) [] [] fC) (zaY te):=by
 intro pX s Y H R I h;refine wpAny_Call_method0_late xW xX (cU (ho pX s Y H _ I h) fun v s1 ⟨x,H1,I1,r1,q1⟩=>?_);obtain ⟨d,AN,rfl,e,q⟩:=q1;cases r1;obtain ⟨z,hd,vs,rel,o,es1,ep,Rn,hx,iJ,hk,hp,hn⟩:=uS I1.bY e;obtain ⟨h1,h2⟩:=Nv (T:="dict") I1 (show RelV (.ref d) (.ref d) from rfl) (.inr (.inr (.inl ⟨rfl,.inl ⟨AN,e⟩⟩)));let da:s1.heap.DictAt (bQ X.prog X.w) d vs ep:=⟨o,es1,Rn,hx,iJ,hk,hp,hn⟩;let lv:=rel.length;show ⟨"dict","dict.items",F.plainAttrs_dict,zD,F.type_dict_items,h1,h2,ZK rfl (PySem.evalArgs_none ?_)⟩;refine W7 zD h1 F.entry_dict_items (F.args_dict_items_1 _) (meets_dict_items (bQ X.prog X.w) d hd) ⟨⟨vs,da.dictOf⟩,?_⟩;let I2:=Inv.freeze I1 e Rn;let da2:(s1.heap.push {cls:=.type "dict_items",data:=.fields #[.ref d]}).DictAt (bQ X.prog X.w) d vs ep:=da.at' fun o e=>DI _ e;show AV (BC X.prog X.w) X.A (pyIter (.ref s1.heap.objs.size)) _ _ _;refine wpAny_pyIter_items (s:={s1 with heap:=s1.heap.push {cls:=.type "dict_items",data:=.fields #[.ref d]}}) ⟨_,Kt _ rfl,rfl,rfl⟩ da2 ?_;let sz:(s1.heap.push {cls:=.type "dict_items",data:=.fields #[.ref d]}).objs.size=s1.heap.objs.size+1:=RC ..
 let ne:(s1.heap.push {cls:=.type "dict_items",data:=.fields #[.ref d]}).objs.size≠d:=by
  rw [sz];exact CA (JK (Sa (DE Rn)))
 let I3:Inv X pX Y (upd H1 d (.gP o (.dK AN))) {s1 with heap:=(s1.heap.push {cls:=.type "dict_items",data:=.fields #[.ref d]}).push {cls:=.type "dict_itemiterator",data:=.fields #[.none,.bool false,.ref d,.int 0 0,.int vs.length 0,.int ep 0,.none,.none]}}:=I2.kept (t':=s1.toks) fun b o e=>DI _ (DI _ e);show ⟨_,[_],_,_,_,rfl,I3,rT d _ o AN iJ ne,⟨_,_,by rw [lv];exact Kt _ rfl⟩,fun b hb=>?_,q o⟩;let eb:b=(s1.heap.push {cls:=.type "dict_items",data:=.fields #[.ref d]}).objs.size:=by simpa using hb
 let le:s1.heap.objs.size<=b:=by rw [eb,sz];exact Xm _
 exact I2.rj le (I2.bY.fresh le)
end
end Ty
namespace Ty
def ev:List Int->(Nat->Rat)->Rat
 | [],_=>0
 | a::r,z=>(a:Rat)*z 0+ev r (fun i=>z (i+1))
theorem BM:∀(l:ο)(z y:Nat->Rat),ev l (fun i=>z i+y i)=ev l z+ev l y
 | [],_,_=>by simp [ev];grind
 | a::r,z,y=>by
  simp only [ev];rw [BM r (fun i=>z (i+1)) (fun i=>y (i+1))];grind
theorem qN:∀(l:ο)(z:Nat->Rat),(∀j,((l.getD j 0:Int):Rat)*z j=0)->ev l z=0
 | [],_,_=>rfl
 | a::r,z,h=>by
  let h0:=h 0;let ih:=qN r (fun i=>z (i+1)) (fun j=>by simpa using h (j+1));simp only [ev];rw [ih];simp at h0;grind
theorem lH:∀(l:ο)(z:Nat->Rat)(p:Nat),(∀j,j≠p->((l.getD j 0:Int):Rat)*z j=0)->ev l z=((l.getD p 0:Int):Rat)*z p
 | [],_,_,_=>by simp [ev]
 | a::r,z,0,h=>by
  let ih:=qN r (fun i=>z (i+1)) (fun j=>by simpa using h (j+1) bv);simp only [ev];rw [ih];simp;grind
 | a::r,z,p+1,h=>by
  let h0:=h 0 bv;let ih:=lH r (fun i=>z (i+1)) p (fun j hj=>by simpa using h (j+1) bv);simp only [ev];rw [ih];simp at h0;simp;grind
theorem N5 :∀{new line AS:ο},new.length=line.length->AS.length=line.length->(∀j,s*new.getD j 0=t*line.getD j 0-u*AS.getD j 0)->∀z:Nat->Rat,(s:Rat)*ev new z=t*ev line z-u*ev AS z
 | [],[],[],_,_,_,z=>by simp [ev];grind
 | a::new,b::line,c::AS,h1,h2,h,z=>by
  let h0:=h 0;let ih:=N5 (by simpa using h1) (by simpa using h2) (fun j=>by simpa using h (j+1)) (fun i=>z (i+1));simp at h0;let h0':(s:Rat)*a=t*b-u*c:=by exact_mod_cast h0
  simp only [ev];grind
 | [],_::_,_,h,_,_,_=>by simp at h
 | _::_,[],_,h,_,_,_=>by simp at h
 | _,[],_::_,_,h,_,_=>by simp at h
 | _,_::_,[],_,h,_,_=>by simp at h
def fG:List Rat->List (List Int)->Nat->Rat
 | c::y,o::os,j=>c*((o.getD j 0:Int):Rat)+fG y os j
 | _,_,_=>0
theorem yt (hs:s≠0)(j:Nat):∀(os:ζ)(y1 y2:Ν),y1.length=os.length->y2.length=os.length->s*fG (Nc (fun a b=>(t*a-u*b) / s) y1 y2) os j=t*fG y1 os j-u*fG y2 os j
 | [],[],[],_,_=>by simp [fG];grind
 | o::os,a::y1,b::y2,h1,h2=>by
  let ih:=yt (t:=t) (u:=u) hs j os y1 y2 (by simpa using h1) (by simpa using h2);simp only [aid,fG];grind
 | [],_::_,_,h,_=>by simp at h
 | [],[],_::_,_,h=>by simp at h
 | _::_,[],_,h,_=>by simp at h
 | _::_,_::_,[],_,h=>by simp at h
theorem uT (j:Nat):∀(os:ζ),fG (DQ os.length 0) os j=0
 | []=>rfl
 | o::os=>by
  simp only [L7,Rx,fG];rw [uT j os];grind
def oG (os:ζ)(l:ο):Prop:=∃y:List Rat,y.length=os.length/\∀j,((l.getD j 0:Int):Rat)=fG y os j
theorem yu:∀{os:ζ} {l:ο},l∈os->oG os l
 | o::os,l,h=>by
  rcases JC.mp h with z|z
  ·subst z
   show ⟨1::DQ os.length 0,by simp,fun j=>?_⟩;simp only [fG];rw [uT];grind
  ·obtain ⟨y,hl,hy⟩:=yu z
   show ⟨0::y,by simp [hl],fun j=>?_⟩;simp only [fG];rw [<-hy j];grind
def adg (hs:s≠0)(h:∀j,s*new.getD j 0=t*line.getD j 0-u*AS.getD j 0)(h1:oG os line)(h2:oG os AS):oG os new:=by
 obtain ⟨y1,l1,e1⟩:=h1;obtain ⟨y2,l2,e2⟩:=h2;have T4 :=c_ hs;show ⟨Nc (fun a b=>((t:Rat)*a-u*b) / s) y1 y2,by simp [l1,l2],fun j=>?_⟩;let k:=yt (t:=(t:Rat)) (u:=(u:Rat)) T4 j os y1 y2 l1 l2;rw [<-e1 j,<-e2 j] at k;let h':(s:Rat)*(new.getD j 0:Int)=t*(line.getD j 0:Int)-u*(AS.getD j 0:Int):=by exact_mod_cast h j
 rw [<-h'] at k;grind
def pO (y:Ν):Nat->Rat:=fun i=>if i<y.length then y.getD i 0 else -1
theorem BN (j:Nat)(c:Int):∀(os:ζ)(y:Ν),y.length=os.length->ev (os.map (fun o=>o.getD j 0)++[c]) (pO y)=fG y os j-c
 | [],[],_=>by simp [ev,pO,fG];grind
 | o::os,a::y,h=>by
  let ih:=BN j c os y (by simpa using h)
  let ez:(fun i=>pO (a::y) (i+1))=pO y:=by
   funext i;simp [pO]
  simp only [BS,α',ev,fG];rw [ez,ih];simp [pO];grind
 | [],_::_,h=>by simp at h
 | _::_,[],h=>by simp at h
theorem rV (k:Rat)(j:Nat):∀(os:ζ)(y:Ν),fG (y.map (fun a=>a*k)) os j=fG y os j*k
 | [],_=>by cases ‹List Rat› <;> simp [fG]<;>grind
 | _::_,[]=>by simp [fG]
 | o::os,a::y=>by
  simp only [BS,fG];rw [rV k j os y];grind
structure tI (line AS new:ο)(c:Nat):Prop where
 len:new.length=line.length
 N7:new.getD c 0=0
 kQ:∃s t u:Int,s≠0/\t≠0/\∀j,s*new.getD j 0=t*line.getD j 0-u*AS.getD j 0
def tI.zero (h:tI line AS new c)(h1:line.getD j 0=0)(h2:AS.getD j 0=0):new.getD j 0=0:=by
 obtain ⟨s,t,u,hs,_,e⟩:=h.kQ;have:=e j;rw [h1,h2,VF,VF,Int.sub_self] at this
 rcases aiu.mp this with z|z
 ·exact BH z hs
 ·exact z
theorem tI.at (h:tI line AS new c)(h2:AS.getD j 0=0)(h1:line.getD j 0≠0):new.getD j 0≠0:=by
 obtain ⟨s,t,u,hs,ht,e⟩:=h.kQ;have:=e j;rw [h2] at this;intro z;rw [z,VF,VF,Int.sub_zero] at this
 rcases aiu.mp this.symm with y|y
 ·exact ht y
 ·exact h1 y
def tI.comb (h:tI line AS new c)(h1:oG os line)(h2:oG os AS):oG os new:=by
 obtain ⟨s,t,u,hs,ht,e⟩:=h.kQ;exact adg hs e h1 h2
theorem tI.ev (h:tI line AS new c)(hl:AS.length=line.length)(h2:Ty.ev AS z=0):Ty.ev new z=0 ↔ Ty.ev line z=0:=by
 obtain ⟨s,t,u,hs,ht,e⟩:=h.kQ;let k:=N5 h.len hl e z;rw [h2] at k;have T4 :=c_ hs;let ht':=c_ ht;constructor
 ·intro w
  rw [w] at k;grind
 ·intro w
  rw [w] at k;grind
end Ty
namespace Ty
open PySem PySem.Spec PyProof.Rows L2
def ZM (K:Frag)(a:AO):It:=
 ⟨fun i H=>∃xs x,aV K H a xs/\xs[i]?=some x,
  fun i H v H'=>∃p x,(∀xs,aV K H a xs->xs[i]?=some x)/\v=.ref p/\H p=none/\H'=upd H p (.tup [.int (i:Int),x]),
  fun i H=>∃xs,aV K H a xs/\xs.length<=i⟩
def ad_ {K:Frag}{es:Δ}(a e it:AO)(xD:e≠it):
  Turn P w K (.Tuple es k pos) (ZM K a) [e,it] e (fun i h=>(∃old,IsEnum h e it ((i:Nat):Int) old)/\h.IsListIter it a i) where
 mem:=by simp
 obj:=fun i h st c hc=>by
  obtain ⟨⟨old,he⟩,⟨o1,e1,c1,d1⟩⟩:=st;have xB :c=e\/c=it:=by simpa using hc
  rcases xB with z|z<;>subst z
  ·show ⟨_,he,fun v z=>by cases z⟩
  ·show ⟨_,e1,fun v z=>by erw [d1] at z⟩
 keep:=fun i h h' st k=>by
  obtain ⟨⟨old,he⟩,h1⟩:=st;show ⟨⟨old,k e cr _ he⟩,h1.at fun o e=>k it cr o e⟩
 item:=by
  intro X hP hw hK hc i pX s Y H E I hf st hg;subst hP hw hK;obtain ⟨⟨old,he⟩,h1⟩:=st;obtain ⟨xs,x,qx,ex⟩:=hg;obtain ⟨AP,rv,p,_⟩:=I.list qx;obtain ⟨u,hu,ru⟩:=rv.get ex;refine wpAny_pyNext_enum_item he h1 p.isList (x:=u) (by simpa using hu) xD fun h' a1 a2 a3 a4 a5=>?_;show ⟨_,rfl,wpAny_letOwnedTupleGo_enum (s:={s with heap:=h',toks:=s.toks+1}) a1 fun Qd b1 sb=>?_⟩;let nz:∀c,c≠e->∀o,h'.get? c=some o->Qd.get? c=some o:=fun c hc o q=>(sb.2 c hc).trans q
  let kk:∀b o,b∉[e,it]->s.heap.get? b=some o->Qd.get? b=some o:=fun b o hb q=>by
   have ip :b≠e/\b≠it:=by simpa using hb
   exact nz b ip.1 o (a5 b o ip.1 ip.2 q)
  let sz:∀c o,s.heap.get? c=some o->s.heap.objs.size≠c:=fun c o q=>σ4 (DE q);let tz:s.heap.objs.size≠e:=sz _ _ he;let hn:=I.bY.fresh (BW s.heap.objs.size)
  let I2:Inv X pX Y (upd H s.heap.objs.size (.tup [.int (i:Int),x])) {s with heap:=Qd,toks:=s.toks+1}:=
   Inv.vG I kk hf (BW _) (by show 2<=BL;decide) (AP:=[.int i s.toks,u]) (.cons ⟨_,rfl⟩ (.cons ru .nil)) ⟨_,nz _ tz _ a3,rfl,_,rfl⟩
  show ⟨.ref s.heap.objs.size,_,I2,rfl,⟨s.heap.objs.size,x,fun xs' q=>by rwa [I.jE q qx],rfl,hn,rfl⟩,⟨⟨_,by exact b1⟩,a2.at fun o q=>nz _ (CA xD) o q⟩,fun b hb=>?_⟩
  let ob:∃o,s.heap.get? b=some o:=by
   obtain ⟨o1,e1,_⟩:=h1;have xB :b=e\/b=it:=by simpa using hb
   rcases xB with z|z<;>subst z
   ·show ⟨_,he⟩
   ·show ⟨_,e1⟩
  obtain ⟨o,q⟩:=ob;rw [ak (CA (sz _ _ q))];exact (hf b hb).1
 done:=by
  intro X hP hw hK hc i pX s Y H E I hf st hg;subst hP hw hK;obtain ⟨⟨old,he⟩,h1⟩:=st;obtain ⟨xs,qx,ee⟩:=hg;obtain ⟨AP,rv,p,_⟩:=I.list qx;let l1:=rv.length;refine wpAny_pyNext_enum_end (I.ok.hd hc) he h1 p.isList (by simp;omega) fun h' kk=>⟨rfl,Inv.qL I (fun b o hb q=>?_) hf⟩;have ip :b≠e/\b≠it:=by simpa using hb
  exact kk b o ip.2 q
 self:=fun _ _ _ _ _ st h=>by
  obtain ⟨⟨old,he⟩,_⟩:=st;exact wpAny_pyIter_enum he h
def boot_enumerate:JX "enumerate"=some (.type "enumerate"):=by decide+kernel
section
variable {X:Cx}
inductive N8 (K:Frag)(R:(It->Hp->Prop))(vs:ε)(H1:Hp):Prop
|mk (a:_)(_:vs=[.ref a])(_:(∃xs,aV K H1 a xs))(_:R (ZM K a) H1)
def adD (K:Frag)(ta:TA):TI:=fun Y H R=>ta Y H fun vs H1=>N8 K R vs H1
def FV {es:Δ}(hg:Gl X "enumerate")(hm:X.mg "enumerate"=none)(ha:PA X [e1] ta)(hs:CZ [e1] X.env=[(false,CB e1 X.env)]:=by rfl):
  PI X (.Tuple es k vm) (.Call (.Name "enumerate" p) [e1] [] pos) (adD X.K ta):=by
 intro pX s Y H R I h;refine Call_ (jD I hg hm boot_enumerate (WN (cU (ha pos pX s Y H _ I h) fun us s1 ⟨vs,H1,I1,r1,q1⟩=>?_) hs rfl));obtain ⟨a,e,⟨xs,hx⟩,q⟩:=q1;subst e;cases r1 with
 | cons r rr=>
  cases rr;cases r;obtain ⟨AP,rv,pl,_⟩:=I1.list hx;refine call_enumerate_list pl.isList fun h' hE hI hsz hk=>wpAny_pyIter_enum (s:={s1 with heap:=h'}) hE ?_;show ⟨s1.heap.objs.size+1,[s1.heap.objs.size+1,s1.heap.objs.size],_,_,H1,rfl,I1.kept (t':=s1.toks) hk,ad_ a _ _ (Nat.succ_ne_self _),⟨⟨_,hE⟩,hI⟩,fun c hc=>?_,q⟩
  have xB :s1.heap.objs.size<=c:=by
   have:c=s1.heap.objs.size+1\/c=s1.heap.objs.size:=by simpa using hc
   simp only [AO] at*;omega
  exact I1.rj xB (I1.bY.fresh xB)
def any_range (bs:List Bool):(JA bs.length).any (fun i=>(bs[i]?).getD true)=bs.any id:=by
 rw [Rc,VO,VO];constructor
 ·rintro ⟨i,hi,h⟩
  have MU :i<bs.length:=JW.mp hi;rw [gE MU] at h;show ⟨bs[i],QV MU,h⟩
 ·rintro ⟨b,hb,h⟩
  obtain ⟨i,hi⟩:=IV hb;show ⟨i,JW.mpr (ir.mp hi).1,by rwa [hi]⟩
inductive Wc (K:Frag)(xs:ε)(H:Hp)(Q:VK):Prop
|mk (p:AO)(bs:List Bool)(_:xs=[.ref p])(_:aV K H p (bs.map V.bl))(_:Q (.bl (bs.any id)) H)
def uU (hc:X.calm=true):fu X (.builtin "any") (Wc X.K):=by
 intro pX s Y H xs us Q I r h;obtain ⟨p,bs,rfl,hq,q⟩:=h;obtain ⟨u,rfl,r1⟩:=vals1 r;cases r1;obtain ⟨AP,rv,pl,hz⟩:=I.list hq;refine call_any_walk (EX pl.isList ?_);let xD:p≠s.heap.objs.size:=by obtain ⟨o,ho,_⟩:=pl.isList;exact JK (DE ho)
 let I1:Inv X pX Y H {s with heap:=s.heap.push {cls:=.type "list_iterator",data:=.fields #[.ref p,.int 0 0]}}:=I.kept (t':=s.toks) fun b o e=>DI _ e;obtain ⟨f0,f1,f2,f3,f4,f5⟩:=I.rj (H':=H) (BW s.heap.objs.size) (I.bY.fresh (BW _));let hl:AP.length=bs.length:=by rw [<-rv.length,AU]
 show ⟨s.heap.objs.size,_,_,_,_,_,fun i=>(bs[i]?).getD true,rfl,Walks.list (A:=X.A.in1) (I.ok.hd hc) s.heap.objs.size p xD AP.toArray,⟨⟨_,Kt _ rfl,rfl,rfl⟩,pl.isList.at fun o e=>DI _ e⟩,?_,fun h' tk kk=>?_⟩
 ·intro i v s' Q' E' hv qi
  have Qa :AP[i]?=some v:=by simpa using hv
  let hi:i<bs.length:=by rw [<-hl];exact (ir.mp Qa).1
  let eb:(bs.map V.bl)[i]?=some (.bl bs[i]):=by rw [AY,gE hi];rfl
  obtain ⟨u,eu,ru⟩:=rv.get eb;erw [Qa] at eu;cases ru;dsimp only at qi;rw [gE hi] at qi;exact Vx qi
 ·show ⟨.bl (bs.any id),H,I1.turned (t':=tk) (it:=s.heap.objs.size) (fun b o hb e=>kk b o (by simpa using hb) e) f0 f1 f3 f4 f5,?_,q⟩
  show _=_;rw [<-any_range bs,JN,hl]
def Ua:JX "any"=some (.builtin "any"):=by decide+kernel
end
def yv {K:Frag}{g:TG}{tb:TS}{D:Ends}(Pv:Nat->L2.St->Hp->Prop)(h0:Pv 0 Y H)(hl:∀i Y H,i<=xs.length->Pv i Y H->aV K H a xs)
  (hs:∀i x Y H p,xs[i]?=some x->Pv i Y H->H p=none->g (.ref p) Y (upd H p (.tup [.int (i:Int),x])) fun Y2 H2=>tb {D with nx:=Pv (i+1),ct:=Pv (i+1),bk:=D.nx} Y2 H2) (hd:∀Y H,Pv xs.length Y H->D.nx Y H):
  ∃W:Nat->Nat->L2.St->Hp->Prop,(∃m,W 0 m Y H)/\∀i m Y H,W i m Y H->
   ((ZM K a).stop i H/\D.nx Y H)\/((ZM K a).go i H/\∃N:L2.St->Hp->Prop,(∀Y' H',N Y' H' ->∃m',m'<m/\W (i+1) m' Y' H')/\∀x H',(ZM K a).M_ i H x H' ->g x Y H' fun Y2 H2=>tb {D with nx:=N,ct:=N,bk:=D.nx} Y2 H2):=by
 show ⟨fun i m Y H=>m=xs.length-i/\i<=xs.length/\Pv i Y H,⟨xs.length,by simp,JS _,h0⟩,?_⟩;rintro i m Y H ⟨rfl,hi,p⟩;let q:=hl i Y H hi p;by_cases oj:i<xs.length
 ·let e:xs[i]?=some xs[i]:=gE oj
  refine .inr ⟨⟨xs,_,q,e⟩,Pv (i+1),fun Y' H' z=>⟨xs.length-(i+1),ga oj,rfl,nR oj,z⟩,fun x H' y=>?_⟩;obtain ⟨pp,x',y1,rfl,np,rfl⟩:=y;exact hs i x' Y H pp (y1 xs q) p np
 ·let e:i=xs.length:=ol hi oj
  subst e;exact .inl ⟨⟨xs,q,BW _⟩,hd Y H p⟩
def gK {g:TG}{tb:TS}{D:Ends}(Pv:Nat->L2.St->Hp->Prop)(h0:Pv 0 Y H)(hl:∀i Y H,i<=AN.length->Pv i Y H->H d=some (.gP o (.dK AN)))
  (hs:∀i k x Y H p,AN[i]?=some (k,x)->Pv i Y H->H p=none->g (.ref p) Y (upd H p (.tup [kV k,x])) fun Y2 H2=>tb {D with nx:=Pv (i+1),ct:=Pv (i+1),bk:=D.nx} Y2 H2) (hd:∀Y H,Pv AN.length Y H->D.nx Y H):
  ∃W:Nat->Nat->L2.St->Hp->Prop,(∃m,W 0 m Y H)/\∀i m Y H,W i m Y H->
   ((Yq d o AN).stop i H/\D.nx Y H)\/((Yq d o AN).go i H/\∃N:L2.St->Hp->Prop,(∀Y' H',N Y' H' ->∃m',m'<m/\W (i+1) m' Y' H')/\∀x H',(Yq d o AN).M_ i H x H' ->g x Y H' fun Y2 H2=>tb {D with nx:=N,ct:=N,bk:=D.nx} Y2 H2):=by
 show ⟨fun i m Y H=>m=AN.length-i/\i<=AN.length/\Pv i Y H,⟨AN.length,by simp,JS _,h0⟩,?_⟩;rintro i m Y H ⟨rfl,hi,p⟩;let q:=hl i Y H hi p;by_cases oj:i<AN.length
 ·refine .inr ⟨⟨q,oj⟩,Pv (i+1),fun Y' H' z=>⟨AN.length-(i+1),ga oj,rfl,nR oj,z⟩,fun x H' y=>?_⟩
  obtain ⟨pp,k,x',y1,rfl,np,rfl⟩:=y;exact hs i k x' Y H pp y1 p np
 ·let e:i=AN.length:=ol hi oj
  subst e;exact .inl ⟨⟨q,BW _⟩,hd Y H p⟩
open Builtin.Int (intBits)
section
variable {X:Cx}
def N9 (i j:Int):Prop:=intBits i+intBits j<=134217728
def kc:kD X (NR .Mult) (rI N9 fun i j=>.int (i*j)):=
 opI fun _ _ _ _ _ _ _ hc q=>mul_int q (IntMulOk.of_le (BW _) (BW _) hc)
def iK (h1:a.natAbs<=2^m)(h2:b.natAbs<=2^n)(h:m+n<=134000000):N9 a b:=by
 let x1:=j_ h1 (NZ m);let x2:=j_ h2 (NZ n);unfold N9;omega
inductive Ub (K:Frag)(xs:ε)(H:Hp)(Q:VK):Prop
|mk (p ys:_)(_:xs=[.ref p,.ty "tuple"])(_:bL K H p ys)(_:Q (.bl true) H)
def acO:fu X (.builtin "isinstance") (Ub X.K):=by
 intro pX s Y H xs us Q I r h;obtain ⟨p,ys,rfl,hq,q⟩:=h;obtain ⟨u,w,rfl,r1,r2⟩:=vals2 r;obtain rfl:=FL (c:=.ty "tuple") rfl r2;cases r1;obtain ⟨AP,rv,⟨o,h1,h2,_⟩,_⟩:=I.tuple hq;let e:NU X.K (.type "tuple") (VP (.ty "tuple"))=some true:=by unfold NU;rw [tu ce]
 exact OY PySem.W.kitx_tuple I.lh ⟨o,h1,h2⟩ e (fun z=>nomatch z) fun tk=>⟨.bl true,H,I.tok tk,rfl,q⟩
end
def aq.bO {K:Frag}(e:aq H H')(h:bL K H a xs):bL K H' a xs:=by
 rcases h with (h|⟨o,h⟩)|h
 ·exact .inl (.inl (e _ _ h))
 ·exact .inl (.inr ⟨o,e _ _ h⟩)
 ·exact .inr h
section
variable {D:AO}{te:TE}{tG:L2.St}{H1:Hp}{Q:VK}
def acL {K:Frag}(Rel:Ψ)(nD:H1 D=none)(hn:xs.length<BL)(hl:ys.length=xs.length)(hX:∀H,aq H1 H->aV K H a xs)(hY:∀H,aq H1 H->aV K H b ys)
  (hR:∀i v H H' ys,H D=some (.lst ys)->bo D H H' ->Rel i v H->Rel i v H')
  (he:∀i x y H (R:VK),xs[i]?=some x->ys[i]?=some y->aq H1 H->(∃ys,H D=some (.lst ys))->(∀v H6,aq H H6->Rel i v H6->R v H6)->te (some x::some y::tG) H R)
  (hd:∀zs H,zs.length=xs.length->(∀i v,zs[i]?=some v->Rel i v H)->aq H1 H->H D=some (.lst zs)->Q (.ref D) H):
  oB D (M7 K 2 (xN (cX 0) (xN (cX 1) Vw))) kF te (Itz K a b) (none::none::tG) H1 Q:=by
 show ⟨fun i m Y zs H=>m=xs.length-i/\i<=xs.length/\(∃o o',Y=o::o'::tG)/\(zs.length=i/\(∀i v,zs[i]?=some v->Rel i v H)/\aq H1 H)/\H D=some (.lst zs),⟨xs.length,by simp,JS _,⟨none,none,rfl⟩,⟨rfl,fun i v e=>by simp at e,fun b o e=>by rwa [ak (ao e nD)]⟩,aj⟩,?_⟩;rintro i m Y zs H ⟨rfl,hi,⟨o,o',rfl⟩,⟨l,r,s⟩,hD⟩;by_cases oj:i<xs.length
 ·let e1:xs[i]?=some xs[i]:=gE oj
  let e2:ys[i]?=some (ys[i]'(jp hl oj)):=gE (jp hl oj);refine .inr ⟨⟨xs,ys,_,_,hX H s,hY H s,e1,e2⟩,fun v H' y=>?_⟩;obtain ⟨p,x,y,q1,q2,rfl,np,rfl⟩:=y;let e1:=q1 xs (hX H s);let e2:=q2 ys (hY H s);let sp:aq H (upd H p (.tup [x,y])):=fun b o e=>by rwa [ak (ao e np)]
  show ⟨p,_,rfl,bL.of aj,rfl,_,_,rfl,_,_,rfl,rfl,?_⟩;unfold kF;dsimp only;rw [tu rfl];refine he i x y _ _ e1 e2 (fun b o e=>sp _ _ (s _ _ e)) ⟨zs,sp _ _ hD⟩ fun v H6 s6 rv=>⟨s6 _ _ (sp _ _ hD),bv,xs.length-(i+1),ga oj,rfl,nR oj,⟨_,_,rfl⟩,⟨by simp [l],fun j u e=>?_,fun b o e=>?_⟩,aj⟩
  ·by_cases c:j<zs.length
   ·rw [JU c] at e
    let ru:=hR j u H H6 zs hD (bo.of fun b o q=>s6 _ _ (sp _ _ q)) (r j u e);exact hR j u H6 _ zs (s6 _ _ (sp _ _ hD)) bo.upd ru
   ·rw [JZ (ii c)] at e
    let ej:j=i:=by
     by_cases z:j-zs.length=0
     ·omega
     ·rw [IW (by simp;exact gt z)] at e
      cases e
    subst ej
    have:v=u:=by
     rw [show j-zs.length=0 by omega] at e;exact C_ e
    subst this;exact hR j v H6 _ zs (s6 _ _ (sp _ _ hD)) bo.upd rv
  ·rw [ak (ao e nD)]
   exact s6 _ _ (sp _ _ (s _ _ e))
 ·let e:i=xs.length:=ol hi oj
  subst e;exact .inl ⟨⟨xs,ys,hX H s,hY H s,.inl (BW _)⟩,hd zs H l r s hD⟩
end
def og (K:Frag)(H:Hp)(v:V)(q:Int×Int):Prop:=∃p,v=.ref p/\bL K H p [.int q.1,.int q.2]
def og.qg {K:Frag}(h:og K H v q)(s:aq H H'):og K H' v q:=by
 obtain ⟨p,e,k⟩:=h;show ⟨p,e,Ty.aq.bO s k⟩
def eJ (K:Frag)(H:Hp)(us:ε)(qs:π):Prop:=us.length=qs.length/\∀(i:Nat)(u:V)(q:Int×Int),us[i]?=some u->qs[i]?=some q->og K H u q
theorem eJ.qg {K:Frag}(h:eJ K H us qs)(s:aq H H'):eJ K H' us qs:=⟨h.1,fun i u q e1 e2=>(h.2 i u q e1 e2).qg s⟩
def eJ.at {K:Frag}(h:eJ K H us qs){i:Nat}(e:us[i]?=some u):∃q,qs[i]?=some q/\og K H u q:=by
 let hi:i<us.length:=(ir.mp e).1;let hl:=h.1;let e2:qs[i]?=some (qs[i]'(oZ hi hl)):=gE (oZ hi hl);show ⟨_,e2,h.2 i u _ e e2⟩
theorem eJ.set {K:Frag}(h:eJ K H us qs)(n:og K H v q):eJ K H (us.set j v) (qs.set j q):=by
 show ⟨by simp [h.1],fun i u q' e1 e2=>?_⟩;rw [Pq] at e1 e2;by_cases c:j=i
 ·subst c
  rw [tu rfl] at e1 e2;let l:=h.1;by_cases hj:j<us.length
  ·rw [tu hj] at e1
   rw [tu (jw l hj)] at e2;cases e1;cases e2;exact n
  ·rw [qA hj] at e1
   cases e1
 ·rw [qA c] at e1 e2
  exact h.2 i u q' e1 e2
def ag9 (K:Frag)(H:Hp)(a:AO)(qs:π):Prop:=∃us,aV K H a us/\eJ K H us qs
def sumTo:Nat->(Nat->Rat)->Rat
 | 0,_=>0
 | n+1,f=>f 0+sumTo n (fun i=>f (i+1))
theorem oH:∀(n:Nat)(f g:Nat->Rat),sumTo n (fun i=>f i+g i)=sumTo n f+sumTo n g
 | 0,_,_=>by simp [sumTo];grind
 | n+1,f,g=>by
  simp only [sumTo];rw [oH n (fun i=>f (i+1)) (fun i=>g (i+1))];grind
theorem iL (c:Rat):∀(n:Nat)(f:Nat->Rat),sumTo n (fun i=>c*f i)=c*sumTo n f
 | 0,_=>by simp [sumTo]
 | n+1,f=>by
  simp only [sumTo];rw [iL c n (fun i=>f (i+1))];grind
theorem gX:∀(n:Nat)(f:Nat->Rat),(∀i,f i=0)->sumTo n f=0
 | 0,_,_=>rfl
 | n+1,f,h=>by
  simp only [sumTo];rw [h 0,gX n (fun i=>f (i+1)) (fun i=>h (i+1))];grind
theorem mK:∀(n:Nat)(l:ο)(z:Nat->Rat),l.length<=n->ev l z=sumTo n (fun j=>((l.getD j 0:Int):Rat)*z j)
 | n,[],z,_=>by
  rw [gX n _ (fun i=>by simp)];rfl
 | 0,_::_,_,h=>by simp at h
 | n+1,a::r,z,h=>by
  simp only [ev,sumTo];rw [mK n r (fun i=>z (i+1)) (by simpa using h)];simp
theorem FW (n:Nat)(z:Nat->Rat):∀(y:Ν)(os:ζ),(∀o∈os,o.length<=n)->(∀o∈os,ev o z=0)->sumTo n (fun j=>fG y os j*z j)=0
 | c::y,o::os,h1,h2=>by
  let ih:=FW n z y os (fun x hx=>h1 x (DM _ hx)) (fun x hx=>h2 x (DM _ hx));let e:=h2 o CU;rw [mK n o z (h1 o CU)] at e
  let k:(fun j=>fG (c::y) (o::os) j*z j)=fun j=>c*(((o.getD j 0:Int):Rat)*z j)+fG y os j*z j:=by
   funext j;simp only [fG];grind
  rw [k,oH,iL,e,ih];grind
 | [],os,_,_=>gX n _ (fun j=>by cases os<;>simp [fG])
 | _::_,[],_,_=>gX n _ (fun j=>by simp [fG])
def adH {os:ζ}(h:oG os l)(hl:l.length<=n)(ho:∀o∈os,o.length<=n)(hz:∀o∈os,ev o z=0):ev l z=0:=by
 obtain ⟨y,_,e⟩:=h;rw [mK n l z hl,<-FW n z y os ho hz];congr 1;funext j;rw [e j]
theorem yw:∀{ts:ο} {qs xs:π} {d:Int×Int} {b:Int},js ts (qs++[d]) b->xs.length=qs.length->ev ts (pO (xs.map vl))=(i_ qs xs-vl d)*b
 | [],qs,xs,d,b,h,_=>by have:=h.1;simp at this
 | t::ts,[],[],d,b,h,_=>by
  let e:=h.2 0 t d rfl rfl;let l:=h.1;have:ts=[]:=by simpa using l
  subst this;simp [ev,pO,i_];rw [e];grind
 | t::ts,q::qs,x::xs,d,b,h,hl=>by
  let e:=h.2 0 t q rfl rfl;let ih:=yw (ts:=ts) (qs:=qs) (xs:=xs) (d:=d) (b:=b) h.tail (by simpa using hl)
  let ez:(fun i=>pO ((x::xs).map vl) (i+1))=pO (xs.map vl):=by
   funext i;simp [pO]
  simp only [ev];rw [ez,ih,e];let e0:pO ((x::xs).map vl) 0=vl x:=by simp [pO]
  let ed:i_ (q::qs) (x::xs)=vl q*vl x+i_ qs xs:=by simp [i_]
  rw [e0,ed];grind
 | _::_,[],_::_,_,_,_,hl=>by simp at hl
 | _::_,_::_,[],_,_,_,hl=>by simp at hl
def zaV (e:H d=some o):upd H d o=H:=by
 funext b;by_cases z:b=d
 ·subst z
  rw [aj,e]
 ·rw [ak z]
section
variable {X:Cx}
def ac9 (te:TE):TI:=fun Y H R=>te Y H fun x H1=>∃d AN,x=.ref d/\Rd H1 d (.dK AN)/\∀o,R (Yq d o AN) (upd H1 d (.gP o (.dK AN)))
def abr {apos fC:Pos}{es:Δ}{k:Nat}{vm:Pos}(ho:PE X e te)(xW:Sd e "items" X.env (CB e X.env)=CB e X.env:=by rfl)(xX:(apos.endLine==fC.line)=true:=by rfl):
  PI X (.Tuple es k vm) (.Call (.Attribute e "items" apos) [] [] fC) (ac9 te):=by
 intro pX s Y H R I h;refine wpAny_Call_method0_late xW xX (cU (ho pX s Y H _ I h) fun v s1 ⟨x,H1,I1,r1,q1⟩=>?_);obtain ⟨d,AN,rfl,e,q⟩:=q1;cases r1;obtain ⟨z,hd,vs,rel,o,es1,ep,Rn,hx,iJ,hk,hp,hn⟩:=kO I1.bY e;let da:s1.heap.DictAt (bQ X.prog X.w) d vs ep:=⟨o,es1,Rn,hx,iJ,hk,hp,hn⟩;let h1:s1.TypeIs (.ref d) "dict":=da.dictOf.typeIs
 let h2:∀a,Value.ref d=.ref a->∃ob,s1.heap.get? a=some ob/\ob.dict=none:=fun a z=>by
  cases z;show ⟨o,Rn,hx.2.1⟩
 let lv:=rel.length;show ⟨"dict","dict.items",F.plainAttrs_dict,zD,F.type_dict_items,h1,h2,ZK rfl (PySem.evalArgs_none ?_)⟩;refine W7 zD h1 F.entry_dict_items (F.args_dict_items_1 _) (meets_dict_items (bQ X.prog X.w) d hd) ⟨⟨vs,da.dictOf⟩,?_⟩
 let I2:Inv X pX Y (upd H1 d (.gP o (.dK AN))) s1:=by
  rcases e with e|⟨o',e⟩
  ·exact Inv.freeze I1 e Rn
  ·let g:=(I1.bY d _ e).1
   erw [Rn] at g;rwa [zaV e]
 let da2:(s1.heap.push {cls:=.type "dict_items",data:=.fields #[.ref d]}).DictAt (bQ X.prog X.w) d vs ep:=da.at' fun o e=>DI _ e;show AV (BC X.prog X.w) X.A (pyIter (.ref s1.heap.objs.size)) _ _ _;refine wpAny_pyIter_items (s:={s1 with heap:=s1.heap.push {cls:=.type "dict_items",data:=.fields #[.ref d]}}) ⟨_,Kt _ rfl,rfl,rfl⟩ da2 ?_;let sz:(s1.heap.push {cls:=.type "dict_items",data:=.fields #[.ref d]}).objs.size=s1.heap.objs.size+1:=RC ..
 let ne:(s1.heap.push {cls:=.type "dict_items",data:=.fields #[.ref d]}).objs.size≠d:=by
  rw [sz];exact CA (JK (Sa (DE Rn)))
 let I3:Inv X pX Y (upd H1 d (.gP o (.dK AN))) {s1 with heap:=(s1.heap.push {cls:=.type "dict_items",data:=.fields #[.ref d]}).push {cls:=.type "dict_itemiterator",data:=.fields #[.none,.bool false,.ref d,.int 0 0,.int vs.length 0,.int ep 0,.none,.none]}}:=I2.kept (t':=s1.toks) fun b o e=>DI _ (DI _ e);show ⟨_,[_],_,_,_,rfl,I3,rT d _ o AN iJ ne,⟨_,_,by rw [lv];exact Kt _ rfl⟩,fun b hb=>?_,q o⟩;let eb:b=(s1.heap.push {cls:=.type "dict_items",data:=.fields #[.ref d]}).objs.size:=by simpa using hb
 let le:s1.heap.objs.size<=b:=by rw [eb,sz];exact Xm _
 exact I2.rj le (I2.bY.fresh le)
end
section
variable {X:Cx}
inductive Uc (xs:ε)(H:Hp)(Q:VK):Prop
|mk (p:AO)(AN:δ)(_:xs=[.ref p])(_:Rd H p (.dK AN))(_:Q (.int (AN.length:Int)) H)
def oI:fu X (.builtin "len") Uc:=by
 intro pX s Y H xs us Q I r h;obtain ⟨p,AN,rfl,hq,q⟩:=h;obtain ⟨u,rfl,r1⟩:=vals1 r;cases r1;exact aer I hq fun t s' I'=>⟨.int _,H,I',⟨t,rfl⟩,q⟩
end
section
variable {X:Cx}
def Inv.ZO {Y:L2.St}(I:Inv X pX Y H s)(e:H d=some (.gP o u))(n:∀o' u',X.H₀ d≠some (.gP o' u'))(nt:∀xs,u≠.tup xs):Inv X pX Y (upd H d u) s:=by
 let nx:∀b u',H b=some u' ->b≠d->upd H d u b=some u':=fun b u q n=>by rwa [ak n]
 let nn:∀b,H b=none->upd H d u b=none:=fun b q=>by rw [ak (fun z=>by erw [z,e] at q)];exact q
 show ⟨I.ok,I.os,I.bare,⟨I.qf.keep,I.qf.slot,fun b ob q z hx=>nn b (I.qf.free b ob q z hx),I.qf.there,fun b xs q=>?_,fun b ob u' q=>?_,fun b ps q=>?_⟩,I.loc,I.cell,nn _ I.free,fun x c q=>nn _ (I.jB x c q),fun p hp=>?_,?_,I.len⟩
 ·let z:=I.qf.vi b xs q
  exact nx b _ z fun y=>by erw [y,e] at z
 ·let z:=I.qf.tN b ob u' q
  exact nx b _ z fun y=>by rw [y] at q;exact n _ _ q
 ·obtain ⟨m,z⟩:=I.qf.vj b ps q
  show ⟨m,nx b _ z fun y=>by erw [y,e] at z⟩
 ·obtain ⟨a1,a2,a3⟩:=I.pin p hp
  show ⟨a1,nn _ a2,a3⟩
 ·let st:∀{b u'},df X.prog X.w H s.heap b u' ->df X.prog X.w (upd H d u) s.heap b u':=fun {b u'} k=>k.vh (fun _ _ _ z=>z) (fun c z=>nx c _ z fun y=>by erw [y,e] at z) fun c xs z=>nx c _ z fun y=>by erw [y,e] at z
  intro b u' q;by_cases hb:b=d
  ·subst hb
   erw [aj] at q;exact st (I.bY b _ e).2
  ·rw [ak hb] at q
   exact st (I.bY b u' q)
def adB (H0:Hp)(t:TS):TS:=fun D Y H=>t {D with nx:=fun Y' H'=>∃d o AN,H' d=some (.gP o (.dK AN))/\(∀o' u',H0 d≠some (.gP o' u'))/\D.nx Y' (upd H' d (.dK AN))} Y H
def qO {st:Stmt}(h:PS X st t):PS X st (adB X.H₀ t):=by
 intro pX s Y H D I q;refine Kw (h pX s Y H _ I q) (fun f s' z=>?_) fun _ _ z=>z;cases f with
 | next=>
  obtain ⟨Y',H',I',d,o,AN,e,n,k⟩:=z;show ⟨Y',_,Inv.ZO I' e n (fun _ z=>nomatch z),k⟩
 | brk=>exact z
 | cont=>exact z
 | ret u=>exact z
end
structure We (K:Frag)(x qual:Str)(st:Stmt)(f:AO)(fd:FuncData):Prop where
 ex:∃(dV oc:Value)(od:Μ)(kV doc pm:Value)(an:Μ)(cD ct:Value)(tH:Ξ),
  fd=fnOf x qual (aw st) (au st) (ae st) dV kV doc pm an cD ct/\K.lookup f=some ⟨oc,od,.func fd,tH⟩/\codeIn K cD qual=true
 kp:keepIn K (.ref f)=true
section
variable {P:DN}{w:World}{K:Frag}{mg:ν}{qf:Heap}{CX:mi}
def zaH {st:Stmt}{od an:Μ}{tH:Ξ}{kV doc pm cD ct:Value}(l:K.lookup f=some ⟨oc,od,.func (fnOf x qual (aw st) (au st) (ae st) dV kV doc pm an cD ct),tH⟩)
  (c:codeIn K cD qual=true) (k:keepIn K (.ref f)=true):We K x qual st f (fnOf x qual (aw st) (au st) (ae st) dV kV doc pm an cD ct):=⟨⟨dV,oc,od,kV,doc,pm,an,cD,ct,tH,rfl,l,c⟩,k⟩
def FX {st:Stmt}(F:qk K name qual st f fd)(S:aC N ps (ae st))(len:∀vs H Q E,sp vs H Q E->vs.length=ps.length)
  (gT:∀(cD:Value)(A:JD)(qw:List Env)(s:BR)(H:Hp)(vs:ε)(Q:VK)(E:XK),cG k (A.deeper (NS qual (ae st) s.heap.objs.size f cD))->sp vs H Q E->
   ∃t,vf (xk P w K mg qf N qual (ae st) f cD A qw s H E).xC (au st) t/\t {nx:=fun _ H'=>Q .cL H',rt:=Q} (start N vs) H):dm P w K mg qf (aY P w) (k+1) f fd ps sp:=by
 obtain ⟨oc,od,kV,doc,pm,an,cD,ct,tH,rfl,lk,tO⟩:=F.ex
 exact FC lk tO S len fun A qw s H vs Q E hr rq=>by
  obtain ⟨t,h,q⟩:=gT cD A qw s H vs Q E hr rq;show ⟨t,h.xC,q⟩
def afp {st:Stmt}(F:We K name qual st f fd)(S:aC N ps (ae st))(len:∀vs H Q E,sp vs H Q E->vs.length=ps.length)
  (gT:∀(cD:Value)(A:JD)(qw:List Env)(s:BR)(H:Hp)(vs:ε)(Q:VK)(E:XK),cG k (A.deeper (NS qual (ae st) s.heap.objs.size f cD))->sp vs H Q E->
   ∃t,vf (xk P w K mg qf N qual (ae st) f cD A qw s H E).xC (au st) t/\t {nx:=fun _ H'=>Q .cL H',rt:=Q} (start N vs) H):dm P w K mg qf (aY P w) (k+1) f fd ps sp:=by
 obtain ⟨dV,oc,od,kV,doc,pm,an,cD,ct,tH,rfl,lk,tO⟩:=F.ex
 exact FC lk tO S len fun A qw s H vs Q E hr rq=>by
  obtain ⟨t,h,q⟩:=gT cD A qw s H vs Q E hr rq;show ⟨t,h.xC,q⟩
end
structure vL (P:DN)(w:World)(K:Frag)(mg:ν)(qf:Heap)(CX:mi)(k:Nat)(C:AO)(m:Str)(ps:τ)(ds:ς)(sp:Sp):Prop where
 ex:∃(f:AO)(fd:FuncData),xR K C/\Meth K C m f/\dm P w K mg qf CX k f fd ps sp/\Binds K fd ps ds
section
variable {X:Cx}{CX:mi}{k:Nat}{E:XK}{m:Str}{pos apos:Pos}{e o:Expr}{es:Δ}{ta:TE}{t:TA}
inductive Oa (P:DN)(w:World)(K:Frag)(mg:ν)(qf:Heap)(CX:mi)(k:Nat)(m:Str)(E:XK)(t:TA)(Y:L2.St)(Q:VK)(x:V)(H1:Hp):Prop
|mk (a C dx fs ps sp:_)(_:x=.ref a)(_:H1 a=some (.ins C dx fs))(_:fs.lookup m=none)(_:vL P w K mg qf CX k C m ps [.none] sp)(_:t Y H1 fun vs H2=>sp (x::vs++[.cL]) H2 Q E)
def zav (P:DN)(w:World)(K:Frag)(mg:ν)(qf:Heap)(CX:mi)(k:Nat)(m:Str)(E:XK)(ta:TE)(t:TA):TE:=fun Y H Q=>ta Y H fun x H1=>Oa P w K mg qf CX k m E t Y Q x H1
def FY {pl:Sem Bool}(he:PE X o ta)(hr:cG k X.A)(hx:Passes CX X E)(ha:PA X (e::es) t)
  (M8:CZ (e::es) X.env=(false,CB e X.env)::CZ es X.env:=by rfl) (uE:(Ku pos (CZ es X.env)).any (·.1)=false:=by rfl)
  (ht:CB (.Call (.Attribute o m apos) (e::es) [] pos) X.env=(do
   let ov <- CB o X.env
   standAt apos.atName
   let (f,first) <- R7 [ov] (getMethod ov m pl)
   callWith pos f first (Ku pos (CZ (e::es) X.env)) (backToKw pos (Sj [] X.env))):=by rfl):
  PE X (.Call (.Attribute o m apos) (e::es) [] pos) (zav X.prog X.w X.K X.mg X.qf CX k m E ta t):=by
 intro pX s Y H Q I h;refine PySem.W.methodCall_KW (pl:=pl) (cU (he pX s Y H _ I h) fun u s1 ⟨x,H1,I1,rx,a,C,dx,fs,ps,sp,ex,ea,l,M,q⟩=>?_) ht;subst ex;obtain rfl:u=Value.ref a:=rx;obtain ⟨f,fd,c,hm,F,hb⟩:=M.ex;refine lj I1 ea c hm l ?_;refine EY (first:=[.ref a]) (h₀:=X.qf) I.ok.mod.Yj hm.kp (cU (ha pos pX s1 Y H1 _ I1 q) fun us s2 ⟨vs,H2,I2,r,q2⟩=>⟨I2.lh,?_⟩) M8 uE;exact vo (us:=.ref a::us) (vs:=.ref a::vs) (vg:=[.cL]) F hr hb (.cons rfl .nil) hx I2 (.cons rfl r) q2
end
theorem b_ {κ:Type}[DecidableEq κ]{k:κ}:∀{AN:List (κ×V)},k∉AN.map (·.1)->cv AN k=none
 | [],_=>rfl
 | p::r,h=>by
  rw [BS,JC,not_or] at h;rw [bR (fun e=>h.1 e.symm)];exact b_ h.2
theorem fU {κ:Type}[DecidableEq κ]{k:κ}:∀{AN:List (κ×V)},k∈AN.map (·.1)->∃v,cv AN k=some v
 | p::r,h=>by
  by_cases e:p.1=k
  ·show ⟨_,ck e⟩
  ·rw [bR e]
   rw [BS,JC] at h
   rcases h with h|h
   ·exact BH h.symm e
   ·exact fU h
def Ob {k n:Nat}(h:k<n):seqIndex? (k:Int) n=some k:=by
 unfold seqIndex?;simp [h];omega
structure J_ (K:Frag)(C:AO):Prop where
 cls:xR K C
 pl:gS K C "pin_places"
 wy:gS K C "pin_ways"
 br:gS K C "bar_ends"
abbrev frF (pP pW pB:AO):List (Str×V):=[("pin_places",.ref pP),("pin_ways",.ref pW),("bar_ends",.ref pB)]
abbrev Pt:=(Int×Int)×(Int×Int)
abbrev _root_.Κ:=List (Str×Pt)
abbrev fQ (p:Pt):List Da:=[.t [.v (.int p.1.1),.v (.int p.1.2)],.t [.v (.int p.2.1),.v (.int p.2.2)]]
def bq (H H':Hp):Prop:=∀b xs,Rd H b (.tup xs)->Rd H' b (.tup xs)
def bq.of (s:aq H H'):bq H H':=fun b xs e=>by
 rcases e with e|⟨o,e⟩
 ·exact .inl (s _ _ e)
 ·exact .inr ⟨o,s _ _ e⟩
def bq.trans (a:bq H H1)(b:bq H1 H2):bq H H2:=fun c xs e=>b c xs (a c xs e)
def bq.dict (e:H d=some (.dK AN)):bq H (upd H d o):=fun b xs r=>by
 rcases r with r|⟨o,r⟩
 ·exact .inl (by rw [ak (fun z=>by erw [z,e] at r)];exact r)
 ·exact .inr ⟨o,by rw [ak (fun z=>by erw [z,e] at r)];exact r⟩
def bq.list (e:H d=some (.lst xs)):bq H (upd H d o):=fun b xs r=>by
 rcases r with r|⟨o,r⟩
 ·exact .inl (by rw [ak (fun z=>by erw [z,e] at r)];exact r)
 ·exact .inr ⟨o,by rw [ak (fun z=>by erw [z,e] at r)];exact r⟩
def bq.bO {K:Frag}(s:bq H H')(q:bL K H p xs):bL K H' p xs:=by
 rcases q with q|q
 ·exact .inl (s _ _ q)
 ·exact .inr q
def og.aX {K:Frag}(h:og K H v q)(s:bq H H'):og K H' v q:=by
 obtain ⟨p,e,k⟩:=h;show ⟨p,e,s.bO k⟩
def Spot (K:Frag)(H:Hp)(v:V)(p:Pt):Prop:=∃a u1 u2,v=.ref a/\bL K H a [u1,u2]/\og K H u1 p.1/\og K H u2 p.2
theorem Spot.aX {K:Frag}(h:Spot K H v p)(s:bq H H'):Spot K H' v p:=by
 obtain ⟨a,u1,u2,e,h1,h2,h3⟩:=h;show ⟨a,u1,u2,e,s.bO h1,h2.aX s,h3.aX s⟩
def kd {K:Frag}(h:og K H v q):Is K H (.t [.v (.int q.1),.v (.int q.2)]) v:=by
 obtain ⟨p,rfl,e⟩:=h;unfold Is;show ⟨p,_,rfl,e,?_⟩;unfold iE;show ⟨by unfold Is;show ⟨rfl,rfl⟩,?_⟩;unfold iE;show ⟨by unfold Is;show ⟨rfl,rfl⟩,?_⟩;unfold iE;trivial
def Spot.is {K:Frag}(h:Spot K H v p):Is K H (.t (fQ p)) v:=by
 obtain ⟨a,u1,u2,rfl,h1,h2,h3⟩:=h;unfold Is;show ⟨a,_,rfl,h1,?_⟩;unfold iE;show ⟨kd h2,?_⟩;unfold iE;show ⟨kd h3,?_⟩;unfold iE;trivial
def yx (p q:Pt):dC (fQ p) (fQ q)=decide (p=q):=by
 let e:dC (fQ p) (fQ q)=((p.1.1==q.1.1 && (p.1.2==q.1.2 && true)) && ((p.2.1==q.2.1 && (p.2.2==q.2.2 && true)) && true)):=by
  simp only [fQ,dC,jK,jI]
 rw [e];obtain ⟨⟨a,b⟩,c,d⟩:=p;obtain ⟨⟨a',b'⟩,c',d'⟩:=q;by_cases h:a=a' <;> by_cases h1:b=b' <;> by_cases h2:c=c' <;> by_cases h3:d=d' <;> simp [h,h1,h2,h3,Prod.mk.injEq]
def pQ (p q:Pt):dO (fQ p) (fQ q)=true:=by simp [fQ,dO,alike]
def uV (p:Pt):i9 (fQ p)<=60:=by simp [fQ,i9,dep]
structure fq (K:Frag)(H:Hp)(C a dx pP pW pB:AO)(ps:Κ)(bs:Α)(kP kW kB:δ):Prop where
 obj:H a=some (.ins C dx (frF pP pW pB))
 pl:H pP=some (.dK kP)
 wy:H pW=some (.dK kW)
 br:H pB=some (.dK kB)
 ne1:pP≠pW
 ne2:pP≠pB
 ne3:pW≠pB
 rp:Paired (fun (p:Str×Pt) (kv:Key×V)=>kv.1=.inr p.1/\Spot K H kv.2 p.2) ps kP
 rb:Paired (fun (b:Str×Str×Str) (kv:Key×V)=>kv.1=.inr b.1/\∃p,kv.2=.ref p/\Rd H p (.tup [.str b.2.1,.str b.2.2])) bs kB
section
variable {K:Frag}{H H':Hp}{C a dx pP pW pB:AO}{ps:Κ}{bs:Α}{kP kW kB:δ}
theorem gd {R:(Str×Z)->(Key×V)->Prop}:∀{l:List (Str×Z)} {AN:δ},Paired (fun b kv=>kv.1=.inr b.1/\R b kv) l AN->AN.map (·.1)=l.map (fun b=>(J' b.1:Key))
 | _,_,.nil=>rfl
 | _,_,.cons h t=>by rw [BS,BS,h.1,gd t]
def fH {l:τ}:(J' x:Key)∈l.map (fun b=>(J' b:Key)) ↔ x∈l:=by
 constructor
 ·intro h
  obtain ⟨y,hy,e⟩:=AW.mp h;exact Ky e▸hy
 ·exact fun h=>AW.mpr ⟨x,h,rfl⟩
def fq.iM (R:fq K H C a dx pP pW pB ps bs kP kW kB)(s:bq H H')(h1:H' a=H a)(h2:H' pP=H pP)(h3:H' pW=H pW)(h4:H' pB=H pB):fq K H' C a dx pP pW pB ps bs kP kW kB:=
 ⟨h1.trans R.obj,h2.trans R.pl,h3.trans R.wy,h4.trans R.br,R.ne1,R.ne2,R.ne3,Paired.bP R.rp fun _ _ h=>⟨h.1,h.2.aX s⟩,Paired.bP R.rb fun _ _ h=>⟨h.1,by obtain ⟨p,e,k⟩:=h.2;show ⟨p,e,s _ _ k⟩⟩⟩
def fq.qg (R:fq K H C a dx pP pW pB ps bs kP kW kB)(s:aq H H'):fq K H' C a dx pP pW pB ps bs kP kW kB:=
 R.iM (.of s) ((s _ _ R.obj).trans R.obj.symm) ((s _ _ R.pl).trans R.pl.symm) ((s _ _ R.wy).trans R.wy.symm) ((s _ _ R.br).trans R.br.symm)
def fq.mL (R:fq K H C a dx pP pW pB ps bs kP kW kB):kB.map (·.1)=(bs.map (·.1)).map (fun b=>(J' b:Key)):=by
 rw [gd R.rb,DP];rfl
def fq.yy (R:fq K H C a dx pP pW pB ps bs kP kW kB):kP.map (·.1)=(ps.map (·.1)).map (fun b=>(J' b:Key)):=by
 rw [gd R.rp,DP];rfl
def fq.bar (R:fq K H C a dx pP pW pB ps bs kP kW kB)(x:Str):(cv kB (.inr x)).isSome=decide (x∈bs.map (·.1)):=by
 by_cases h:x∈bs.map (·.1)
 ·obtain ⟨v,e⟩:=fU (AN:=kB) (k:=.inr x) (by rw [R.mL];exact fH.mpr h)
  rw [e,JO h];rfl
 ·rw [b_ (by rw [R.mL];exact fun z=>h (fH.mp z)),NV h]
  rfl
def fq.pin (R:fq K H C a dx pP pW pB ps bs kP kW kB)(x:Str):(cv kP (.inr x)).isSome=decide (x∈ps.map (·.1)):=by
 by_cases h:x∈ps.map (·.1)
 ·obtain ⟨v,e⟩:=fU (AN:=kP) (k:=.inr x) (by rw [R.yy];exact fH.mpr h)
  rw [e,JO h];rfl
 ·rw [b_ (by rw [R.yy];exact fun z=>h (fH.mp z)),NV h]
  rfl
def fq.ab (R:fq K H C a dx pP pW pB ps bs kP kW kB):a≠pP/\a≠pW/\a≠pB:=
 ⟨fun z=>(by have h:=R.obj;erw [z,R.pl] at h),fun z=>(by have h:=R.obj;erw [z,R.wy] at h),fun z=>(by have h:=R.obj;erw [z,R.br] at h)⟩
def fq.Wf (R:fq K H C a dx pP pW pB ps bs kP kW kB)(ht:Rd H t (.tup [.str one,.str qz])):
  fq K (upd H pB (.dK (kB++[(.inr x,.ref t)]))) C a dx pP pW pB ps (bs++[(x,one,qz)]) kP kW (kB++[(.inr x,.ref t)]):=by
 let s:bq H (upd H pB (.dK (kB++[(.inr x,.ref t)]))):=.dict R.br
 show ⟨by rw [ak R.ab.2.2];exact R.obj,by rw [ak R.ne2];exact R.pl,by rw [ak R.ne3];exact R.wy,aj,R.ne1,R.ne2,R.ne3,Paired.bP R.rp fun _ _ h=>⟨h.1,h.2.aX s⟩,
  Vz (Paired.bP R.rb fun _ _ h=>⟨h.1,by obtain ⟨p,e,k⟩:=h.2;show ⟨p,e,s _ _ k⟩⟩) ⟨rfl,t,rfl,s _ _ ht⟩⟩
theorem iq {R:(Str×Z)->(Key×V)->Prop}(x:Str):∀{l:List (Str×Z)} {AN:δ},Paired (fun b kv=>kv.1=.inr b.1/\R b kv) l AN->Paired (fun b kv=>kv.1=.inr b.1/\R b kv) (l.filter fun b=>decide (b.1≠x)) (fD AN (.inr x))
 | _,_,.nil=>.nil
 | b::_,kv::_,.cons h t=>by
  unfold fD;rw [Rh,Rh];let ih:=iq x t;unfold fD at ih;by_cases e:b.1=x
  ·let e':kv.1=.inr x:=by rw [h.1,e]
   rw [qA (by simp [e]),qA (by simp [e'])];exact ih
  ·let e':¬ kv.1=.inr x:=fun z=>e (Ky (h.1.symm.trans z))
   rw [tu (by simp [e]),tu (by simp [e'])];exact .cons h ih
def fq.Rr (R:fq K H C a dx pP pW pB ps bs kP kW kB)(x:Str):
  fq K (upd H pB (.dK (fD kB (.inr x)))) C a dx pP pW pB ps (bs.filter fun b=>decide (b.1≠x)) kP kW (fD kB (.inr x)):=by
 let s:bq H (upd H pB (.dK (fD kB (.inr x)))):=.dict R.br
 show ⟨by rw [ak R.ab.2.2];exact R.obj,by rw [ak R.ne2];exact R.pl,by rw [ak R.ne3];exact R.wy,aj,R.ne1,R.ne2,R.ne3,Paired.bP R.rp fun _ _ h=>⟨h.1,h.2.aX s⟩,
  iq x (Paired.bP R.rb fun _ _ h=>⟨h.1,by obtain ⟨p,e,k⟩:=h.2;show ⟨p,e,s _ _ k⟩⟩)⟩
theorem bN :∀{l:List Z} {m:List β},Paired R l m->Paired (fun b a=>R a b) m l
 | _,_,.nil=>.nil
 | _,_,.cons h t=>.cons h (bN t)
def fq.Wg (R:fq K H C a dx pP pW pB ps bs kP kW kB)(ht:Spot K H (.ref t) p):
  fq K (upd H pP (.dK (kP++[(.inr x,.ref t)]))) C a dx pP pW pB (ps++[(x,p)]) bs (kP++[(.inr x,.ref t)]) kW kB:=by
 let s:bq H (upd H pP (.dK (kP++[(.inr x,.ref t)]))):=.dict R.pl
 show ⟨by rw [ak R.ab.1];exact R.obj,aj,by rw [ak (CA R.ne1)];exact R.wy,by rw [ak (CA R.ne2)];exact R.br,R.ne1,R.ne2,R.ne3,
  Vz (Paired.bP R.rp fun _ _ h=>⟨h.1,h.2.aX s⟩) ⟨rfl,ht.aX s⟩,Paired.bP R.rb fun _ _ h=>⟨h.1,by obtain ⟨p,e,k⟩:=h.2;show ⟨p,e,s _ _ k⟩⟩⟩
def fq.vM (R:fq K H C a dx pP pW pB ps bs kP kW kB)(mM :δ):fq K (upd H pW (.dK mM)) C a dx pP pW pB ps bs kP mM kB:=by
 let s:bq H (upd H pW (.dK mM)):=.dict R.wy
 show ⟨by rw [ak R.ab.2.1];exact R.obj,by rw [ak R.ne1];exact R.pl,aj,by rw [ak (CA R.ne3)];exact R.br,R.ne1,R.ne2,R.ne3,
  Paired.bP R.rp fun _ _ h=>⟨h.1,h.2.aX s⟩,Paired.bP R.rb fun _ _ h=>⟨h.1,by obtain ⟨p,e,k⟩:=h.2;show ⟨p,e,s _ _ k⟩⟩⟩
def afu (xs:τ):(xs.map V.str).all jH=true:=by
 rw [ai6,ao0];exact fun _ _=>rfl
theorem yz :∀(xs:τ),Q7 (.str x) (xs.map V.str)=decide (x∈xs)
 | []=>rfl
 | y::ys=>by
  let ih:=yz (x:=x) ys;unfold Q7 at ih ⊢;rw [BS,Rv,ih];by_cases e:y=x
  ·subst e
   simp [jI]
  ·let e':¬ x=y:=fun z=>e z.symm
   simp [jI,e,e']
end
open Builtin.Int (intBits)
def qr (r:Rat):Int×Int:=(r.num,(r.den:Int))
def dQ (r:Rat):0<(qr r).2:=by
 have:=r.den_pos;show (0:Int)<(r.den:Int);omega
def oJ (r:Rat):JF (qr r).1 (qr r).2=1:=by
 have:=r.reduced;show JF r.num (r.den:Int)=1;unfold JF;simpa [Nat.Coprime] using this
def gY (r:Rat):vl (qr r)=r:=by
 show (r.num:Rat) / ((r.den:Int):Rat)=r;rw [<-aje];exact aiP r
def rW (h:0<q.2)(g:JF q.1 q.2=1):q=qr (vl q):=zat h (dQ _) g (oJ _) (gY _).symm
def ja (h:b≠0):low t b=qr ((t:Rat) / (b:Rat)):=by
 rw [<-vI h];exact rW (mF h) (qH h)
def jb (h:qr a=qr b):a=b:=by
 rw [<-gY a,<-gY b,h]
def rX (i:Int):qr (i:Rat)=(i,1):=by
 let e:(i,(1:Int))=qr (vl (i,1)):=rW (by show (0:Int)<1;decide) (by show JF i 1=1;simp)
 let v:vl (i,(1:Int))=(i:Rat):=by
  unfold vl;show (i:Rat) / ((1:Int):Rat)=i;have:((1:Int):Rat)=1:=by rfl
  rw [this];grind
 rw [e,v]
def BO (r:Rat):qr (-r)=(-(qr r).1,(qr r).2):=by
 let e:((-(qr r).1,(qr r).2):Int×Int)=qr (vl (-(qr r).1,(qr r).2)):=rW (dQ r) (by
  have:=oJ r;show JF (-(qr r).1) (qr r).2=1;rw [Int.neg_gcd]
  exact this)
 let v:vl (-(qr r).1,(qr r).2)= -r:=by
  let h:=gY r;unfold vl at h ⊢;push_cast;rw [<-h];grind
 rw [e,v]
def BP :((qr r).2:Rat)≠0:=c_ (O5 (dQ r))
def zaT (a b:Rat):low ((qr a).1*(qr b).2+(qr b).1*(qr a).2) ((qr a).2*(qr b).2)=qr (a+b):=by
 let ha:=dQ a;let hb:=dQ b;rw [ja (O5 (RT ha hb))];let e1:=gY a;let e2:=gY b;let z1:=BP (r:=a);let z2:=BP (r:=b);unfold vl at e1 e2;congr 1;push_cast;grind
def Oc (a b:Rat):low ((qr a).1*(qr b).2-(qr b).1*(qr a).2) ((qr a).2*(qr b).2)=qr (a-b):=by
 let ha:=dQ a;let hb:=dQ b;rw [ja (O5 (RT ha hb))];let e1:=gY a;let e2:=gY b;let z1:=BP (r:=a);let z2:=BP (r:=b);unfold vl at e1 e2;congr 1;push_cast;grind
structure Sz (k:Nat)(r:Rat):Prop where
 top:intBits (qr r).1<=k
 bot:intBits (qr r).2<=k
def Sz.up (h:Sz k r)(kl:k<=l):Sz l r:=⟨BX h.top kl,BX h.bot kl⟩
def acH (ha:intBits a<=k)(hb:intBits b<=k):intBits (a+b)<=k+1:=by
 rw [intBits_le_iff] at ha hb ⊢;have:=α8 a b;rw [V9];omega
def ac8 (ha:intBits a<=k)(hb:intBits b<=k):intBits (a-b)<=k+1:=by
 rw [intBits_le_iff] at ha hb ⊢;have:=Int.natAbs_sub_le a b;rw [V9];omega
def Od (hb:b≠0)(h1:intBits t<=k)(h2:intBits b<=k):Sz k ((t:Rat) / (b:Rat)):=by
 rw [<-vI hb];let e:=rW (mF (t:=t) hb) (qH hb);show ⟨by rw [<-e];exact intBits_le_of_natAbs (rD hb) h1,by rw [<-e];exact intBits_le_of_natAbs (rE hb) h2⟩
def Ud (hb:b≠0)(e:low t b=qr r)(h1:intBits t<=k)(h2:intBits b<=k):Sz k r:=by
 let z:=ja (t:=t) hb;rw [z] at e;have:=jb e;rw [<-this];exact Od hb h1 h2
def Sz.add (ha:Sz k a)(hb:Sz l b):Sz (k+l+1) (a+b):=
 Ud (O5 (RT (dQ a) (dQ b))) (zaT a b) (acH (Sf ha.top hb.bot) (by rw [qj];exact Sf hb.top ha.bot)) (ajh (Sf ha.bot hb.bot))
def Sz.sub (ha:Sz k a)(hb:Sz l b):Sz (k+l+1) (a-b):=
 Ud (O5 (RT (dQ a) (dQ b))) (Oc a b) (ac8 (Sf ha.top hb.bot) (by rw [qj];exact Sf hb.top ha.bot)) (ajh (Sf ha.bot hb.bot))
def jP {i:Int}(h:i.natAbs<2^k)(hk:1<=k):Sz k (i:Rat):=by
 show ⟨?_,?_⟩
 ·rw [rX]
  exact intBits_le_iff.mpr h
 ·rw [rX]
  refine intBits_le_iff.mpr ?_;show 1<2^k;exact Nat.one_lt_two_pow bv
def gL (K:Frag)(H:Hp)(v:V)(r:Rat):Prop:=og K H v (qr r)
def f_ (K:Frag)(H:Hp)(v:V)(p:Rat×Rat):Prop:=∃a u1 u2,v=.ref a/\bL K H a [u1,u2]/\gL K H u1 p.1/\gL K H u2 p.2
section
variable {K:Frag}{H H':Hp}{v:V}{r:Rat}{p:Rat×Rat}
theorem gL.aX (h:gL K H v r)(s:bq H H'):gL K H' v r:=og.aX h s
theorem gL.qg (h:gL K H v r)(s:aq H H'):gL K H' v r:=og.qg h s
theorem f_.aX (h:f_ K H v p)(s:bq H H'):f_ K H' v p:=by
 obtain ⟨a,u1,u2,e,h1,h2,h3⟩:=h;show ⟨a,u1,u2,e,s.bO h1,h2.aX s,h3.aX s⟩
def f_.qg (h:f_ K H v p)(s:aq H H'):f_ K H' v p:=h.aX (.of s)
abbrev qP (p:Rat×Rat):Pt:=(qr p.1,qr p.2)
def f_.ZR (h:f_ K H v p):Spot K H v (qP p):=h
def jc (K:Frag)(H:Hp)(us:ε)(ps:υ):Prop:=Paired (f_ K H) us ps
theorem jc.aX (h:jc K H us ps)(s:bq H H'):jc K H' us ps:=Paired.bP h fun _ _ z=>z.aX s
def jc.qg (h:jc K H us ps)(s:aq H H'):jc K H' us ps:=h.aX (.of s)
end
section
variable {X:Cx}
def F_ {Y:L2.St}(I:Inv X pX Y H s)(h1:f_ X.K H v p)(h2:f_ X.K H v q):p=q:=by
 obtain ⟨a,u1,u2,rfl,t1,⟨b1,rfl,n1⟩,b2,rfl,n2⟩:=h1;obtain ⟨a',w1,w2,e,t2,⟨c1,rfl,m1⟩,c2,rfl,m2⟩:=h2;cases e;cases I.iF t1 t2;let e1:=I.iF n1 m1;let e2:=I.iF n2 m2;simp only [List.cons.injEq,V.int.injEq,and_true] at e1 e2;exact OO (jb (OO e1.1 e1.2)) (jb (OO e2.1 e2.2))
def zan (K:Frag)(neg:Bool):R2:=fun x y H Q=>∃p l us ps,y=.ref l/\aV K H l us/\f_ K H x p/\jc K H us ps/\Q (.bl (if neg then !decide (p∈ps) else decide (p∈ps))) H
def zak {Y:L2.St}{AP:ς}(I:Inv X pX Y H s)(hu:A.units+60<LY)(hx:f_ X.K H x p)(rx:RelV x v)(hp:jc X.K H us ps)(rv:Vals us AP):
  ∃e:Value->Bool,(∀y,y∈AP.toArray->SeqAt.EqAt A s y v (e y))/\AP.toArray.any e=decide (p∈ps):=by
 let key:∀(j:Nat)(y:Value),AP[j]?=some y->∃u q,us[j]?=some u/\ps[j]?=some q/\RelV u y/\f_ X.K H u q:=fun j y ey=>by
  obtain ⟨u,eu,ru⟩:=aA (bN rv) ey;obtain ⟨q,eq,hq⟩:=aA hp eu;show ⟨u,q,eu,eq,ru,hq⟩
 show ⟨fun y=> @decide (∃u q,RelV u y/\f_ X.K H u q/\q=p) (Rb _),fun y hy=>?_,?_⟩
 ·obtain ⟨j,hj,ey⟩:=RY.mp (by simpa using hy:y∈AP)
  obtain ⟨u,q,eu,eq,ru,hq⟩:=key j y (by rw [gE hj,ey]);let z:=FJ (A:=A) I (.t (fQ (qP q))) (.t (fQ (qP p))) u x y v hq.ZR.is hx.ZR.is (by unfold alike;exact pQ _ _) ru rx (by have:=uV (qP q);unfold dep;simp only [fQ,i9,dep] at this ⊢;omega)
  let e:jK (.t (fQ (qP q))) (.t (fQ (qP p)))= @decide (∃u q,RelV u y/\f_ X.K H u q/\q=p) (Rb _):=by
   unfold jK;rw [yx];by_cases c:q=p
   ·subst c
    rw [JO rfl]
    symm
    exact @JO _ (Rb _) ⟨u,q,ru,hq,rfl⟩
   ·rw [NV (fun z=>c (OO (jb (ud Wr z)) (jb (ud Ww z))))]
    symm
    refine @NV _ (Rb _) fun ⟨u',q',ru',qi,e'⟩=>?_;obtain ⟨a,_,_,rfl,_⟩:=id hq;obtain ⟨a',_,_,rfl,_⟩:=id qi;let r1:y=Value.ref a:=ru;let r2:y=Value.ref a':=ru';erw [r1] at r2;exact c ((F_ I hq qi).trans e')
  rwa [e] at z
 ·rw [Rc,decide_eq_true_iff]
  simp only [List.any_toArray,VO];constructor
  ·rintro ⟨y,hy,ey⟩
   obtain ⟨j,hj,ej⟩:=RY.mp hy;obtain ⟨u,q,eu,eq,ru,hq⟩:=key j y (by rw [gE hj,ej]);obtain ⟨u',q',ru',qi,e'⟩:= @Mp _ (Rb _) ey;obtain ⟨a,_,_,rfl,_⟩:=id hq;obtain ⟨a',_,_,rfl,_⟩:=id qi;let r1:y=Value.ref a:=ru;let r2:y=Value.ref a':=ru';erw [r1] at r2;rw [<-e',<-F_ I hq qi];exact Wp eq
  ·intro hm
   obtain ⟨j,hj,ej⟩:=RY.mp hm;let lu:us.length=ps.length:=CV hp;let li:us.length=AP.length:=rv.length;have Wi :j<AP.length:=bv
   show ⟨AP[j],QV Wi,?_⟩;obtain ⟨u,q,eu,eq,ru,hq⟩:=key j AP[j] (gE Wi);erw [gE hj,ej] at eq;exact @JO _ (Rb _) ⟨u,p,ru,hq,rfl⟩
def zaF (hu:X.A.units+64<LY):kD X (Mb .In) (zan X.K false):=by
 intro pX s Y H x y v u Q I rx ry h;obtain ⟨p,l,us,ps,rfl,hq,hx,hp,q⟩:=h;cases ry;obtain ⟨AP,rv,pl,hz⟩:=I.list hq;obtain ⟨e,he,ea⟩:=zak (A:=X.A.in1) I (by rw [in1_units];omega) hx rx hp rv;refine SeqAt.in_listAt e pl.isList he ⟨.bl _,H,I,rfl,?_⟩;rwa [ea]
end
def lI {R:(Str×Z)->(Key×V)->Prop}:∀{l:List (Str×Z)} {AN:δ},Paired (fun b kv=>kv.1=.inr b.1/\R b kv) l AN->(l.map (·.1)).Nodup->(x,y)∈l->∃v,cv AN (.inr x)=some v/\R (x,y) (.inr x,v):=fun {l AN} p nd m=>by
 induction p with
 | nil=>cases m
 | cons h t ih=>
  rw [BS,KC] at nd
  rcases JC.mp m with e|m
  ·subst e
   show ⟨_,ck h.1,?_⟩;let h2:=h.2;rwa [<-h.1]
  ·obtain ⟨v,e,r⟩:=ih nd.2 m
   show ⟨v,?_,r⟩;rw [bR (fun z=>?_)]
   ·exact e
   ·rw [h.1] at z
    exact nd.1 (Ky z▸AW.mpr ⟨_,m,rfl⟩)
def rY (K:Frag)(H:Hp)(pw:Λ)(kW:δ):Prop:=
 Paired (fun (p:Str×List (Rat×Rat)) (kv:Key×V)=>kv.1=.inr p.1/\∃l us,kv.2=.ref l/\H l=some (.lst us)/\jc K H us p.2) pw kW
theorem rY.qg {K:Frag}(h:rY K H pw kW)(s:aq H H'):rY K H' pw kW:=
 Paired.bP h fun _ _ z=>⟨z.1,by obtain ⟨l,us,e1,e2,e3⟩:=z.2;show ⟨l,us,e1,s _ _ e2,e3.qg s⟩⟩
theorem rY.dict {K:Frag}(h:rY K H pw kW)(e:H d=some (.dK AN)):rY K (upd H d o) pw kW:=
 Paired.bP h fun _ _ z=>⟨z.1,by
  obtain ⟨l,us,e1,e2,e3⟩:=z.2
  show ⟨l,us,e1,by rw [ak (fun q=>by erw [q,e] at e2)];exact e2,e3.aX (.dict e)⟩⟩
def rY.keys {K:Frag}(h:rY K H pw kW):kW.map (·.1)=(pw.map (·.1)).map (fun b=>(J' b:Key)):=by
 rw [gd h,DP];rfl
def fq.ends {K:Frag}(R:fq K H C a dx pP pW pB ps bs kP kW kB)(nd:(bs.map (·.1)).Nodup)(m:(x,one,qz)∈bs):
  ∃p,cv kB (.inr x)=some (.ref p)/\Rd H p (.tup [.str one,.str qz]):=by
 obtain ⟨v,e,p,ep,r⟩:=lI R.rb nd m;have AA :v=.ref p:=ep;show ⟨p,by rw [e,AA],r⟩
def fq.place {K:Frag}(R:fq K H C a dx pP pW pB ps bs kP kW kB)(nd:(ps.map (·.1)).Nodup)(m:(x,p)∈ps):
  ∃v,cv kP (.inr x)=some v/\Spot K H v p:=lI R.rp nd m
structure ar where
 nm:Str
 sp:Rat×Rat
 ws:List (Rat×Rat)
abbrev _root_.θ:=List ar
structure aI where
 nm:Str
 one:ar
 qz:ar
abbrev _root_.ρ:=List aI
inductive qQ (K:Frag)(H:Hp)(C a:AO)(pX:θ)(qe:ρ):Prop
|mk (dx pP pW pB:AO)(kP kW kB:δ)(_:fq K H C a dx pP pW pB (pX.map fun p=>(p.nm,qP p.sp)) (qe.map fun b=>(b.nm,b.one.nm,b.qz.nm)) kP kW kB)(_:rY K H (pX.map fun p=>(p.nm,p.ws)) kW)
def qQ.ex {K:Frag}(h:qQ K H C a pX qe):qQ K H C a pX qe:=h
structure bT (pX:θ)(qe:ρ):Prop where
 np:(pX.map (·.nm)).Nodup
 nb:(qe.map (·.nm)).Nodup
 ends:∀b∈qe,b.one∈pX/\b.qz∈pX/\b.one.nm≠b.qz.nm
 sz:∀p∈pX,Sz 44 p.sp.1/\Sz 44 p.sp.2/\∀w∈p.ws,Sz 22 w.1/\Sz 22 w.2
 lp:pX.length<=9
 lb:qe.length<=14
 lw:∀p∈pX,p.ws.length<=2
theorem qQ.qg {K:Frag}(h:qQ K H C a pX qe)(s:aq H H'):qQ K H' C a pX qe:=by
 obtain ⟨dx,pP,pW,pB,kP,kW,kB,R,W⟩:=h.ex;show ⟨dx,pP,pW,pB,kP,kW,kB,R.qg s,W.qg s⟩
def Wj (K:Frag)(H:Hp)(AN:δ)(F:ψ):Prop:=
 ∀nm,(cv AN (.inr nm)=none/\F nm=none)\/∃v p,cv AN (.inr nm)=some v/\F nm=some p/\f_ K H v p
section
variable {K:Frag}{H H':Hp}{AN:δ}
theorem Wj.qg (h:Wj K H AN F)(s:aq H H'):Wj K H' AN F:=fun nm=>by
 rcases h nm with h|⟨v,q,h1,h2,h3⟩
 ·exact .inl h
 ·exact .inr ⟨v,q,h1,h2,h3.qg s⟩
def Wj.ZU (h:Wj K H AN F)(n:f_ K H v q):f_ K H ((cv AN (.inr x)).getD v) ((F x).getD q):=by
 rcases h x with ⟨h1,h2⟩|⟨u,q',h1,h2,h3⟩
 ·rw [h1,h2]
  exact n
 ·rw [h1,h2]
  exact h3
end
def zaS {Z:Type}{nm:Z->Str}{l:List Z}(nd:(l.map nm).Nodup){b b':Z}(h:b∈l)(h':b' ∈l)(e:nm b=nm b'):b=b':=by
 obtain ⟨i,hi,ei⟩:=RY.mp h;obtain ⟨j,hj,ej⟩:=RY.mp h';let q1:(l.map nm)[i]?=some (nm b):=by rw [AY,gE hi,ei];rfl
 let q2:(l.map nm)[j]?=some (nm b):=by rw [AY,gE hj,ej,e];rfl
 let ij:=(tS (by rwa [AU]) nd).mp (q1.trans q2.symm);subst ij;rw [<-ei,<-ej]
def iN {Z:Type}{nm:Z->Str}{l:List Z}(nd:(l.map nm).Nodup){b b':Z}(h:l[i]?=some b)(m:b' ∈l.take i):nm b'≠nm b:=fun e=>by
 let il:=(ir.mp h).1;obtain ⟨j,hj,ej⟩:=RY.mp m;rw [aj_] at ej;rw [JT] at hj;let q1:(l.map nm)[j]?=some (nm b):=by rw [AY,gE (ox hj),ej,<-e];rfl
 let q2:(l.map nm)[i]?=some (nm b):=by rw [AY,h];rfl
 have:=(tS (by rw [AU];exact ox hj) nd).mp (q1.trans q2.symm);omega
def take_snoc {Z:Type}{l:List Z}{b:Z}(h:l[i]?=some b):l.take (i+1)=l.take i++[b]:=by rw [tR,h];rfl
def afn {xs:τ}(h:xs.Nodup):(xs.map fun x=>(J' x:Key)).Nodup:=by
 unfold apc;rw [ah3];exact List.Pairwise.imp (fun h e=>h (Ky e)) h
def oK (s:aq H H')(n:H' p=none):H p=none:=by
 cases e:H p with
 | none=>rfl
 | some o=>erw [s _ _ e] at n
abbrev gZ (h:Heap)(z TI TO:AO)(f0:Value)(fb:Bool):Prop:=
 h.get? z=some {cls:=.type "zip",dict:=none,data:=.fields #[f0,.bool fb,.bool false,.ref TI,.ref TO],slots:= #[]}
section
variable {prog:DN}{w:World}{A:JD}{E:γ}{s:BR}
def aeU (h:s.heap.get? a=some o)(q:Q (some o) s):AV (BC prog w) A (loadIfAlive a) Q E s:=fun Γ p _=>by
 show Sem.wp _ _ (.loadIfAlive a .pure) _ _ _ _;rwa [Sem.wp_loadIfAlive,h]
def yB {z TI TO T:AO}(hz:gZ s.heap z TI TO (Nj T) fb)(hT:s.heap.get? T=some o)
  (hQ:∀h',gZ h' z TI TO (Nj T) true->ZI z s.heap h' ->Q false {s with heap:=h'}):AV (BC prog w) A (FD (.ref z)) Q E s:=by
 unfold FD;refine AZ (RA hz rfl (x:=Nj T) rfl ?_);show AV _ _ (loadIfAlive ((T:Int)).toNat >>=_) _ _ _;refine AZ (aeU (o:=o) (by simpa using hT) ?_);simp only [Option.isNone_some,t_,if_false];refine AZ (RA hz rfl (x:=.bool fb) rfl ?_);cases fb with
 | true=>
  show AV _ _ (if (Value.bool true !=Value.bool true)=true then _ else _) _ _ _;rw [qA ce];exact CK (hQ s.heap hz ⟨rfl,fun _ _=>rfl⟩)
 | false=>
  show AV _ _ (if (Value.bool false !=Value.bool true)=true then _ else _) _ _ _;rw [tu ce];refine AZ (wpAny_setField_rec hz cr fun h' hz' T4 =>CK (hQ h' hz' T4))
def acV {z TI TO T i1 i2 l1 l2:AO}{xs ys:Ο}{Q:γ}(D:ZipApart z TI TO i1 i2 l1 l2)
  (hz:gZ s.heap z TI TO (Nj T) fb) (hT:s.heap.get? T=some o) (lE:IsPair s.heap TI (.ref i1) (.ref i2))
  (h1:s.heap.IsListIter i1 l1 k1) (h2:s.heap.IsListIter i2 l2 k2) (F':s.heap.IsList l1 xs) (AD:s.heap.IsList l2 ys) (hx:xs[k1]?=some x) (hy:ys[k2]?=some y)
  (hQ:∀h',gZ h' z TI TO (Nj T) true->h'.IsListIter i1 l1 (k1+1)->h'.IsListIter i2 l2 (k2+1)->IsPair h' s.heap.objs.size x y->h'.objs.size=s.heap.objs.size+1->
   (∀c o,c≠z->c≠i1->c≠i2->s.heap.get? c=some o->h'.get? c=some o)->Q (.ref s.heap.objs.size) {s with heap:=h'}):
  AV (BC prog w) A (Builtin.«zip.__next__» ⟨[.ref z],[]⟩) (fun fin s'=>∃v,fin=.done (.ret v)/\Q v s') E s:=by
 show AV _ _ (field (.ref z) 2 >>=_) _ _ _;refine AZ (RA hz rfl (x:=.bool false) rfl ?_);show AV _ _ (field (.ref z) 3 >>=_) _ _ _;refine AZ (RA hz rfl (x:=.ref TI) rfl ?_);refine AZ (yG lE rfl ?_);show AV _ _ (FD (.ref z) >>=_) _ _ _;refine AZ (yB hz hT fun um hz₁ BQ=>?_);simp only [t_,if_false];refine AZ ?_;show AV _ _ (forIn [Value.ref i1,Value.ref i2].toArray _ _) _ _ _;rw [aiQ];simp only [ao6,aiA];refine AZ (AZ (Og ?_));show AV _ _ (yi (.ref i1) >>=_) _ _ _;refine AZ (wpAny_nextOf_list_item (h1.extBut BQ.extBut D.i1z) (F'.extBut BQ.extBut D.l1z) hx fun xj h1₂ Oe=>CK ?_);refine CK ?_;refine AZ (AZ (Og ?_));show AV _ _ (yi (.ref i2) >>=_) _ _ _;refine AZ (wpAny_nextOf_list_item ((h2.extBut BQ.extBut D.i2z).extBut Oe.extBut D.i12.symm) ((AD.extBut BQ.extBut D.l2z).extBut Oe.extBut D.l2i1) hy fun h₄ h2₄ Yr=>CK ?_);refine CK (CK ?_);refine AZ (wpAny_newTuple (hsz:=(by show 2<=BL;decide)) ?_);let hsz:h₄.objs.size=s.heap.objs.size:=by rw [Yr.1,Oe.1,BQ.1]
 refine CK ⟨_,rfl,?_⟩;let hz₄:gZ h₄ z TI TO (Nj T) true:=Yr.extBut _ _ D.i2z.symm (Oe.extBut _ _ D.i1z.symm hz₁);show Q (.ref h₄.objs.size) _;rw [hsz];refine hQ _ (DI _ hz₄) ((h1₂.extBut Yr.extBut D.i12).at fun o e=>DI _ e) (h2₄.at fun o e=>DI _ e) ?_ (by rw [RC,hsz]) fun c o c1 c3 c4 e=>DI _ (Yr.extBut _ _ c4 (Oe.extBut _ _ c3 (BQ.extBut _ _ c1 e)));show (h₄.push _).get? _=_;rw [<-hsz];exact Kt _ rfl
def acQ {z TI TO T i1 i2 l1 l2:AO}{xs ys:Ο}(hh:A.handled=none)(D:ZipApart z TI TO i1 i2 l1 l2)
  (hz:gZ s.heap z TI TO (Nj T) fb) (hT:s.heap.get? T=some o) (lE:IsPair s.heap TI (.ref i1) (.ref i2))
  (h1:s.heap.IsListIter i1 l1 k1) (h2:s.heap.IsListIter i2 l2 k2) (F':s.heap.IsList l1 xs) (AD:s.heap.IsList l2 ys) (Kx:xs[k1]?=none\/ys[k2]?=none)
  (hE:∀h' e,(∀c o,c≠z->c≠i1->c≠i2->s.heap.get? c=some o->h'.get? c=some o)->(∃o,h'.get? e=some o/\o.cls=.type "StopIteration")->E (.ref e) {s with heap:=h'}):
  AV (BC prog w) A (Builtin.«zip.__next__» ⟨[.ref z],[]⟩) Q E s:=by
 show AV _ _ (field (.ref z) 2 >>=_) _ _ _;refine AZ (RA hz rfl (x:=.bool false) rfl ?_);show AV _ _ (field (.ref z) 3 >>=_) _ _ _;refine AZ (RA hz rfl (x:=.ref TI) rfl ?_);refine AZ (yG lE rfl ?_);show AV _ _ (FD (.ref z) >>=_) _ _ _;refine AZ (yB hz hT fun um hz₁ BQ=>?_);simp only [t_,if_false];refine AZ ?_;show AV _ _ (forIn [Value.ref i1,Value.ref i2].toArray _ _) _ _ _;rw [aiQ];simp only [ao6,aiA];refine AZ (AZ (Og ?_));show AV _ _ (yi (.ref i1) >>=_) _ _ _;cases hx:xs[k1]? with
 | none=>
  refine AZ (wpAny_nextOf_list_end hh (h1.extBut BQ.extBut D.i1z) (F'.extBut BQ.extBut D.l1z) hx fun xj e Oe he=>?_);exact hE xj e (fun c o c1 c3 _ x=>Oe _ _ c3 (BQ.extBut _ _ c1 x)) he
 | some x=>
  let hy:ys[k2]?=none:=by rcases Kx with h|h;erw [hx] at h;exact h
  refine AZ (wpAny_nextOf_list_item (h1.extBut BQ.extBut D.i1z) (F'.extBut BQ.extBut D.l1z) hx fun xj h1₂ Oe=>CK ?_);refine CK ?_;refine AZ (AZ (Og ?_));show AV _ _ (yi (.ref i2) >>=_) _ _ _;refine AZ (wpAny_nextOf_list_end hh ((h2.extBut BQ.extBut D.i2z).extBut Oe.extBut D.i12.symm) ((AD.extBut BQ.extBut D.l2z).extBut Oe.extBut D.l2i1) hy fun h₄ e Yr he=>?_);exact hE h₄ e (fun c o c1 c3 c4 x=>Yr _ _ c4 (Oe.extBut _ _ c3 (BQ.extBut _ _ c1 x))) he
def acz {z TI TO T i1 i2 l1 l2:AO}{xs ys:Ο}{Q:Φ}(D:ZipApart z TI TO i1 i2 l1 l2)
  (hz:gZ s.heap z TI TO (Nj T) fb) (hT:s.heap.get? T=some o) (lE:IsPair s.heap TI (.ref i1) (.ref i2))
  (h1:s.heap.IsListIter i1 l1 k1) (h2:s.heap.IsListIter i2 l2 k2) (F':s.heap.IsList l1 xs) (AD:s.heap.IsList l2 ys) (hx:xs[k1]?=some x) (hy:ys[k2]?=some y)
  (hQ:∀h',gZ h' z TI TO (Nj T) true->h'.IsListIter i1 l1 (k1+1)->h'.IsListIter i2 l2 (k2+1)->IsPair h' s.heap.objs.size x y->h'.objs.size=s.heap.objs.size+1->
   (∀c o,c≠z->c≠i1->c≠i2->s.heap.get? c=some o->h'.get? c=some o)->Q (some (.ref s.heap.objs.size)) {s with heap:=h'}):
  AV (BC prog w) A (pyNext (.ref z)) Q E s:=by
 have ZV :s.TypeIs (.ref z) "zip":=⟨_,hz,rfl⟩;unfold pyNext
 exact AZ (wpAny_attempt (wpAny_callSpecial?_slot (name:=L9 "__next__") ZV wz
  (zC wz ZV F.entry_zip_next
   (acV D hz hT lE h1 h2 F' AD hx hy fun h' a1 a3 a4 a5 a6 a7=>CK (hQ h' a1 a3 a4 a5 a6 a7)) (F.args_zip_next_1 _))))
def afw {z TI TO T i1 i2 l1 l2:AO}{xs ys:Ο}{Q:Φ}(hh:A.handled=none)(D:ZipApart z TI TO i1 i2 l1 l2)
  (hz:gZ s.heap z TI TO (Nj T) fb) (hT:s.heap.get? T=some o) (lE:IsPair s.heap TI (.ref i1) (.ref i2))
  (h1:s.heap.IsListIter i1 l1 k1) (h2:s.heap.IsListIter i2 l2 k2) (F':s.heap.IsList l1 xs) (AD:s.heap.IsList l2 ys) (Kx:xs[k1]?=none\/ys[k2]?=none)
  (hQ:∀h',(∀c o,c≠z->c≠i1->c≠i2->s.heap.get? c=some o->h'.get? c=some o)->Q none {s with heap:=h'}):AV (BC prog w) A (pyNext (.ref z)) Q E s:=by
 have ZV :s.TypeIs (.ref z) "zip":=⟨_,hz,rfl⟩;unfold pyNext
 refine AZ (wpAny_attempt (wpAny_callSpecial?_slot (name:=L9 "__next__") ZV wz
  (zC wz ZV F.entry_zip_next (acQ hh D hz hT lE h1 h2 F' AD Kx fun h' e hk he=>?_) (F.args_zip_next_1 _))))
 obtain ⟨o,ho,hc⟩:=he;refine AZ (wpAny_isInstance (T:="StopIteration") (b:=true) ⟨o,ho,hc⟩ isSubtype_stop ?_);exact CK (hQ _ hk)
end
def Qf (h:Heap)(z TI TO i1 i2 a b S:AO)(i:Nat):Prop:=(gZ h z TI TO .none false\/∃(T:AO)(o:Obj)(fb:Bool),gZ h z TI TO (Nj T) fb/\h.get? T=some o/\T≠z/\T≠TO/\T≠i1/\T≠i2/\T≠S)/\IsPair h TI (.ref i1) (.ref i2)/\(∃x y,IsPair h TO x y)/\h.IsListIter i1 a i/\h.IsListIter i2 b i
section
variable {prog:DN}{w:World}{A:JD}{E:γ}{s:BR}{z TI TO i1 i2 a b S:AO}{i:Nat}
def Qf.frame (st:Qf h z TI TO i1 i2 a b S i)(k:∀c o,c≠S->h.get? c=some o->h'.get? c=some o)(nz:z≠S)(n1:TI≠S)(n2:TO≠S)(n3:i1≠S)(n4:i2≠S):Qf h' z TI TO i1 i2 a b S i:=by
 obtain ⟨hz,lE,⟨x,y,uQ⟩,h1,h2⟩:=st;show ⟨?_,k _ _ n1 lE,⟨x,y,k _ _ n2 uQ⟩,h1.at fun o e=>k _ o n3 e,h2.at fun o e=>k _ o n4 e⟩
 rcases hz with hz|⟨T,o,fb,hz,hT,t1,t2,t3,t4,t5⟩
 ·exact .inl (k _ _ nz hz)
 ·exact .inr ⟨T,o,fb,k _ _ nz hz,k _ _ t5 hT,t1,t2,t3,t4,t5⟩
def Qf.item {xs ys:Ο}{Q:Φ}(D:ZipApart z TI TO i1 i2 a b)(st:Qf s.heap z TI TO i1 i2 a b S i)(hS:s.heap.get? S=some oS)
  (F':s.heap.IsList a xs) (AD:s.heap.IsList b ys) (hx:xs[i]?=some x) (hy:ys[i]?=some y)
  (hQ:∀h',Qf h' z TI TO i1 i2 a b S (i+1)->IsPair h' s.heap.objs.size x y->(∀c o,c∉[z,TI,TO,i1,i2]->s.heap.get? c=some o->h'.get? c=some o)->Q (some (.ref s.heap.objs.size)) {s with heap:=h'}):
  AV (BC prog w) A (pyNext (.ref z)) Q E s:=by
 obtain ⟨hz,lE,⟨x0,y0,uQ⟩,h1,h2⟩:=st;let lt:∀{c o},s.heap.get? c=some o->s.heap.objs.size≠c:=fun e=>σ4 (DE e);let e1:∃o,s.heap.get? i1=some o:=by obtain ⟨o,e,_⟩:=h1;show ⟨o,e⟩
 let e2:∃o,s.heap.get? i2=some o:=by obtain ⟨o,e,_⟩:=h2;show ⟨o,e⟩
 obtain ⟨o1,e1⟩:=e1;obtain ⟨o2,e2⟩:=e2;let ZW:∀{c:AO},c∉[z,TI,TO,i1,i2]->c≠z/\c≠TI/\c≠TO/\c≠i1/\c≠i2:=fun h=>by simpa using h
 rcases hz with hz|⟨T,o,fb,hz,hT,t1,t2,t3,t4,t5⟩
 ·refine wpAny_pyNext_zip_item D hz lE uQ h1 h2 F' AD hx hy fun h' a1 a2 a3 a4 a5 a6 a7=>?_
  refine hQ h' ⟨.inr ⟨_,_,false,a1,a5,lt hz,lt uQ,lt e1,lt e2,lt hS⟩,a7 _ _ D.TIz D.TITO D.TIi1 D.TIi2 lE,⟨_,_,a2⟩,a3,a4⟩ a5 fun c o hc e=>?_;obtain ⟨c1,c2,c3,c4,c5⟩:=ZW hc;exact a7 c o c1 c3 c4 c5 e
 ·refine acz D hz hT lE h1 h2 F' AD hx hy fun h' a1 a3 a4 a5 a6 a7=>?_
  refine hQ h' ⟨.inr ⟨T,o,true,a1,a7 _ _ t1 t3 t4 hT,t1,t2,t3,t4,t5⟩,a7 _ _ D.TIz D.TIi1 D.TIi2 lE,⟨_,_,a7 _ _ D.TOz D.TOi1 D.TOi2 uQ⟩,a3,a4⟩ a5 fun c o hc e=>?_;obtain ⟨c1,c2,c3,c4,c5⟩:=ZW hc;exact a7 c o c1 c4 c5 e
def Qf.fin {xs ys:Ο}{Q:Φ}(hh:A.handled=none)(D:ZipApart z TI TO i1 i2 a b)(st:Qf s.heap z TI TO i1 i2 a b S i)
  (F':s.heap.IsList a xs) (AD:s.heap.IsList b ys) (Kx:xs[i]?=none\/ys[i]?=none)
  (hQ:∀h',(∀c o,c∉[z,TI,TO,i1,i2]->s.heap.get? c=some o->h'.get? c=some o)->Q none {s with heap:=h'}):AV (BC prog w) A (pyNext (.ref z)) Q E s:=by
 obtain ⟨hz,lE,⟨x0,y0,uQ⟩,h1,h2⟩:=st;let ZW:∀{c:AO},c∉[z,TI,TO,i1,i2]->c≠z/\c≠TI/\c≠TO/\c≠i1/\c≠i2:=fun h=>by simpa using h
 rcases hz with hz|⟨T,o,fb,hz,hT,t1,t2,t3,t4,t5⟩
 ·refine wpAny_pyNext_zip_end hh D hz lE uQ h1 h2 F' AD Kx fun h' kk=>hQ h' fun c o hc e=>?_
  obtain ⟨c1,c2,c3,c4,c5⟩:=ZW hc;exact kk c o c1 c3 c4 c5 e
 ·refine afw hh D hz hT lE h1 h2 F' AD Kx fun h' kk=>hQ h' fun c o hc e=>?_
  obtain ⟨c1,c2,c3,c4,c5⟩:=ZW hc;exact kk c o c1 c4 c5 e
end
section
variable {X:Cx}{pX:η}{Y:L2.St}
def afr (h:H p=none)(o:HO):aq H (upd H p o):=fun b u q=>by rwa [ak (ao q h)]
end
section
variable {X:Cx}
def ac5 {ws:τ}{AP:ς}(r:Vals (ws.map V.str) AP){i:Nat}(e:AP[i]?=some u):∃w t,ws[i]?=some w/\u=Value.str w t:=by
 obtain ⟨v,ev,rv⟩:=aA (bN r) e;rw [AY] at ev;obtain ⟨w,ew,rfl⟩:=JI.mp ev;obtain ⟨t,rfl⟩:=rv;show ⟨w,t,ew,rfl⟩
end
def zaE (l:AO)(AP:Ο)(n:Nat)(b:AO)(dY:Ο)(n2:Nat)(d:Μ)(sl:Ξ)(hs0:¬(!AP.isEmpty && WH (AP.size+dY.size))=true)(hs1:AP.size<=BL)(Qc:AP.size+dY.size<=BL+1):
  Meets (Builtin.«list.extend» ⟨[.ref l,.ref b],[]⟩) (fun _ R s=>s.heap.get? l=some {cls:=.type "list",dict:=none,data:=.seq AP n,slots:= #[]}/\s.heap.get? b=some {cls:=.type "tuple",dict:=d,data:=.seq dY n2,slots:=sl}/\
   R (.ok (.ret Value.none)) {s with heap:=s.heap.update l (Q3 fun x=>x++dY),toks:=s.toks}):=
 .of_wp fun prog w A R s h=>by
  obtain ⟨hp,g,dd,tk,os⟩:=s;obtain ⟨hl,hb,h⟩:=h;let f1:=AutoSeq1.idx_int;let f2:=AutoSeq1.sub_tuple_tuple;let f3:=AutoSeq1.sub_list_list;let f4:=AutoSeq1.sub_tuple_list;let f5:=AutoSeq1.sub_list_tuple;let hz':(AP++dY).size<=BL+1:=by rwa [Array.size_append]
  wp_walk using (x8 hl rfl (hz:=hs1) (_hz':=hz')),wpAny_loadPart' hl,wpAny_loadPart' hb
  show ⟨_,rfl,h⟩
section
variable {X:Cx}
def zaj (K:Frag):V->List V->Hp->VK->Prop:=fun x vs H Q=>∃l b xs zs,x=.ref l/\vs=[.ref b]/\H l=some (.lst xs)/\bL K H b zs/\xs.length+zs.length<=1000/\Q .cL (upd H l (.lst (xs++zs)))
def agR:MtR X "list.extend" (zaj X.K):=by
 intro pX s Y H x vs v us Q I rx rv h;obtain ⟨l,b,xs,zs,rfl,rfl,hH,hB,hz,q⟩:=h;cases rx;obtain ⟨u,rfl,ru⟩:=rv.one;cases ru;obtain ⟨z,AP,n,r,hl,e⟩:=I.lD hH;obtain ⟨dY,r2,tp,z2⟩:=I.tuple hB;let AD:=r2.length;let big:(1000:Nat)<=BL:=ce
 let hsz:AP.toArray.size+dY.toArray.size<=BL:=by rw [JN,JN];omega
 let xY:¬ (!AP.toArray.isEmpty && WH (AP.toArray.size+dY.toArray.size))=true:=by
  rw [rB hsz,Wx];exact JP
 obtain ⟨⟨c,d,dt,sl⟩,e2,hc,n2,hd⟩:=tp;obtain rfl:c=Value.type "tuple":=hc;obtain rfl:dt=_:=hd
 refine Rm F.slot_list_extend ⟨_,e,rfl⟩ F.entry_list_extend (F.args_list_extend_2 _ _)
  (zaE l AP.toArray n b dY.toArray n2 d sl xY (by rw [JN];omega) bv) ⟨e,e2,?_⟩
 show ⟨.cL,_,I.Q8 (uh:=AP++dY) hH e cr (r.append r2) ?_,rfl,q⟩;rw [CL];omega
end
def age:typeLookup (.type "zip") "__getattr__"=pure none:=by rw [typeLookup_type,builtinLookup_eq_fast];kernel_rfl
def zaa:typeLookup (.type "zip") "keys"=pure none:=by rw [typeLookup_type,builtinLookup_eq_fast];kernel_rfl
def aam:entryFor table "zip.__getattribute__"=some Builtin.«object.__getattribute__»:=
 entryFor_alias (id':="object.__getattribute__") (by kernel_rfl) (by decide+kernel) (by decide+kernel) (by kernel_rfl)
def pR:entryFor table "dict.update.loop"=some Builtin.«dict.update.loop»:=entryFor_of_tree (by kernel_rfl)
def iu:plainId "dict.update.loop"=true:=by decide+kernel
def zas (a:AO)(vs:Ο)(u:Tok):
  Meets (Builtin.«object.__getattribute__» ⟨[.ref a,.str "keys" u],[]⟩) (fun A R s=>s.heap.get? a=some {cls:=.type "zip",dict:=none,data:=.fields vs,slots:= #[]}/\raisesAttr (.ref a) "keys" A R s):=
 Meets.of_wp fun prog w A R s hs=>by
  obtain ⟨hp,g,d,tk,os⟩:=s;obtain ⟨hx,hs⟩:=hs;let hT:(⟨hp,g,d,tk,os⟩:BR).TypeIs (.ref a) "zip":=⟨_,hx,rfl⟩;let hm:=zaa;unfold Builtin.«object.__getattribute__»
  repeat (any_goals (first|(assumption)|wp_step))
  exact wpAny_raiseAttrError hs.1 hs.2 (attrMsg_fits (by decide+kernel) (by decide+kernel))
section
variable {prog:DN}{w:World}{A:JD}{E:γ}{s:BR}
def aeS {vs:Ο}{Q:Φ}(hx:s.heap.get? z=some {cls:=.type "zip",dict:=none,data:=.fields vs,slots:= #[]})(hA:A.handled=none)
  (h:∀h' tk,(∀b o,s.heap.get? b=some o->h'.get? b=some o)->Q none {s with heap:=h',toks:=tk}):AV (BC prog w) A (getAttr? (.ref z) "keys") Q E s:=by
 obtain ⟨hp,g,d,tk,os⟩:=s;let hT:∀tk',(⟨hp,g,d,tk',os⟩:BR).TypeIs (.ref z) "zip":=fun _=>⟨_,hx,rfl⟩;let f1:=sub_AttributeError;let f3:=F.slot_zip_getattribute.lookup;let f4:=F.slot_zip_getattribute.bind (.ref z);let f5:=age;unfold getAttr? getAttrBy? getAttrBy
 repeat (any_goals (first|(assumption)|exact hT _|((with_reducible show AV _ _ (call (Value.builtin "zip.__getattribute__") _ _) _ _ _);refine Rm F.slot_zip_getattribute (hT _) aam (F.args_zip_getattribute_2 _ _) (zas z vs _) ⟨hx,hA,fun h' tk' e AB =>?_⟩)|wp_step))
 obtain ⟨t',u',he⟩:=AB.there;show AV _ _ (getattributeRaised _ _ _ _ _ _ _) _ _ _;unfold getattributeRaised
 repeat (any_goals (first|(assumption)|wp_step))
 exact h _ _ AB.keeps
def ahn {z TI TO:AO}{Q:γ}(hA:A.in1.in1.handled=none)(hz:IsZip s.heap z TI TO f0)
  (hL:∀(h':Heap)(tk:Nat)(R:Τ),(∀b o,s.heap.get? b=some o->h'.get? b=some o)->h'.get? s.heap.objs.size=some {cls:=.type "dict",data:=.dict #[]}->
   (∀s',Q (.ref s.heap.objs.size) s' ->R (.ok (.ret .none)) s')->N6 (BC prog w) A.in1 (.builtin "dict.update.loop" ⟨[.ref s.heap.objs.size,.ref z,Nj 0,.none],[]⟩) R {s with heap:=h',toks:=tk}):
  AV (BC prog w) A (call (.type "dict") [.ref z]) Q E s:=by
 refine callType_codes (Q₁:=fun obj tD=>obj=.ref s.heap.objs.size/\tD={s with heap:=s.heap.push {cls:=.type "dict",data:=.dict #[]}}) F.kt_called_dict (F.kt_typeCall_dict_1 _) F.entry_dict_init (kt_code_dict_new _ ⟨rfl,rfl⟩) ?_;rintro obj tD ⟨rfl,rfl⟩;let hS:(s.heap.push {cls:=.type "dict",data:=.dict #[]}).get? s.heap.objs.size=some {cls:=.type "dict",data:=.dict #[]}:=Kt _ rfl;let k0:∀b o,s.heap.get? b=some o->(s.heap.push {cls:=.type "dict",data:=.dict #[]}).get? b=some o:=fun b o e=>DI _ e;generalize hN:s.heap.objs.size=S at hS hL ⊢;generalize s.heap.push {cls:=.type "dict",data:=.dict #[]}=hp at hS k0 ⊢;let Wm:hp.get? z=_:=k0 _ _ hz;let hTS:Shared.TypeIs {s with heap:=hp} (.ref S) "dict":=⟨_,hS,rfl⟩;let hT:Shared.TypeIs {s with heap:=hp} (.ref z) "zip":=⟨_,Wm,rfl⟩;show ⟨hTS,F.args_dict_init_2 _ _,?_⟩;unfold Builtin.«dict.__init__»;refine AZ ?_;unfold Builtin.Dict.selfAndRest;refine AZ (wpAny_notOrdered_dict hTS ?_);refine CK ?_;show AV _ _ (Builtin.Dict.updateFrom "dict.__init__" S (.ref z) [] .none) _ _ _;unfold Builtin.Dict.updateFrom;refine AZ (ZF hT ?_);rw [tu ce];refine AZ (aeS (s:={s with heap:=hp}) Wm hA fun h' tk k1=>?_);rw [tu (by rfl)];refine AZ (wpAny_rule ?_);let hz3:IsZip h' z TI TO f0:=k1 _ _ Wm;refine AZ (wpAny_pyIter_zip (s:={s with heap:=h',toks:=tk}) hz3 ?_);exact CK ⟨plainId_quiet iu _,hL _ _ _ (fun b o e=>k1 _ _ (k0 _ _ e)) (k1 _ _ hS) fun s' hq=>⟨rfl,hq⟩⟩
end
section
variable {X:Cx}{pX:η}{Y:L2.St}
def aeI (AN more:δ)(kv:Key×V):cM AN (more++[kv])=putK (cM AN more) kv.1 kv.2:=by
 unfold cM;rw [List.foldl_append];rfl
def zaO {z TI TO i1 i2 a b S:AO}{R:Τ}{ks:List Key}(hh:A'.in1.handled=none)(D:ZipApart z TI TO i1 i2 a b)(na:a≠S)(nb:b≠S)(hk1:ks.length<=1000):
  ∀(k i:Nat)(s:BR)(H:Hp),min ks.length ys.length-i=k->i<=min ks.length ys.length->Inv X pX Y H s->(∀c∈[z,TI,TO,i1,i2],oi X pX H c)->Qf s.heap z TI TO i1 i2 a b S i->
  H a=some (.lst (ks.map kV))->H b=some (.lst ys)->H S=some (.dK (cM [] ((ks.zip ys).take i)))->bo S H0 H->
  (∀s' H',Inv X pX Y H' s' ->bo S H0 H' ->H' S=some (.dK (cM [] (ks.zip ys)))->R (.ok (.ret .none)) s')->
  N6 (BC X.prog X.w) A' (.builtin "dict.update.loop" ⟨[.ref S,.ref z,Nj (i:Int),.none],[]⟩) R s:=by
 let az8:(ks.zip ys).length=min ks.length ys.length:=List.length_zip;intro k
 induction k with
 | zero=>
  intro i s H hk hi I hf st ha hb hS BU hR;refine codeAny_builtin pR ?_;rw [Around.under_plainId iu _];show AV _ A'.in1 (pyNext (.ref z) >>=_) _ _ s;obtain ⟨z1,AP,n1,r1,l1,e1⟩:=I.lD ha;obtain ⟨z2,Zy,n2,r2,l2,e2⟩:=I.lD hb;rw [AU] at l1;refine AZ (st.fin hh D ⟨_,e1,rfl,_,rfl⟩ ⟨_,e2,rfl,_,rfl⟩ ?_ fun h' kk=>?_)
  ·by_cases c:ks.length<=i
   ·exact .inl (by simp;omega)
   ·exact .inr (by simp;omega)
  ·rw [Vj bv] at hS
   exact AZ (CK (CK (hR _ H (Inv.qL (t':=s.toks) I kk hf) BU hS)))
 | succ k ih=>
  intro i s H hk hi I hf st ha hb hS BU hR;refine codeAny_builtin pR ?_;rw [Around.under_plainId iu _];show AV _ A'.in1 (pyNext (.ref z) >>=_) _ _ s;obtain ⟨z1,AP,n1,r1,l1,e1⟩:=I.lD ha;obtain ⟨z2,Zy,n2,r2,l2,e2⟩:=I.lD hb;let lx:i<ks.length:=bv
  let ly:i<ys.length:=bv
  obtain ⟨u,hu,ru⟩:=r1.get (i:=i) (x:=kV ks[i]) (by rw [AY,gE lx];rfl);obtain ⟨v,hv,rv⟩:=r2.get (i:=i) (x:=ys[i]) (gE ly);obtain ⟨zS0,az9,vs0,az',dd0⟩:=uS I.bY hS;obtain ⟨oS,_,_,eS,_⟩:=id dd0;refine AZ (st.item D eS ⟨_,e1,rfl,_,rfl⟩ ⟨_,e2,rfl,_,rfl⟩ (x:=u) (y:=v) (by simpa using hu) (by simpa using hv) fun h' P9 ht kk=>?_)
  let Ys:∀c∈[z,TI,TO,i1,i2],c≠S:=fun c hc e=>by
   have:=(hf c hc).1;erw [e,hS] at this
  let I2:Inv X pX Y H {s with heap:=h',toks:=s.toks}:=Inv.qL (t':=s.toks) I kk hf;obtain ⟨zS,hdS,vs,rel,dd⟩:=uS I2.bY hS;let hT:Shared.TypeIs {s with heap:=h',toks:=s.toks} (.ref s.heap.objs.size) "tuple":=⟨_,ht,rfl⟩;refine AZ (Og ?_);refine AZ (wpAny_tryCatch ?_);unfold Builtin.Dict.pairItems;refine AZ (ZF hT ?_);rw [tu ce];refine AZ (yG ht rfl (CK ?_));show AV _ A'.in1 (R7 [u,v] (dictSet S u v)) _ _ _;refine Og ?_;let hlen:vs.length<=BL:=by rwa [<-rel.length]
  refine wpAny_dictSet_pairs (hsz:=hlen) (mI ru) dd fun h2 Za sb=>?_;let he:∃q,h2.get? S=some q:=let ⟨q,_,_,hq,_⟩:=Za;⟨q,hq⟩
  let etk:(ks.zip ys).take (i+1)=(ks.zip ys).take i++[(ks[i],ys[i])]:=by
   rw [tR];have:(ks.zip ys)[i]?=some (ks[i],ys[i]):=by rw [List.getElem?_zip_eq_some];show ⟨gE lx,gE ly⟩
   rw [this];rfl
  let ZY:cM [] ((ks.zip ys).take (i+1))=putK (cM [] ((ks.zip ys).take i)) ks[i] ys[i]:=by rw [etk,aeI]
  let hl:(putK (cM [] ((ks.zip ys).take i)) ks[i] ys[i]).length<=BL:=by
   rw [<-ZY];let h1:=iB ((ks.zip ys).take (i+1)) [];rw [JT,ait] at h1;exact BX (show (cM [] ((ks.zip ys).take (i+1))).length<=1000 by omega) ce
  let I3:Inv X pX Y (upd H S (.dK (putK (cM [] ((ks.zip ys).take i)) ks[i] ys[i]))) {s with heap:=h2,toks:=s.toks+1}:=mJ (s:={s with heap:=h',toks:=s.toks}) (t':=s.toks+1) I2 (by rw [hS];exact True.intro) sb he (vK hl hdS (rel.put ks[i] rv) Za);let kS:∀c o,c≠S->h'.get? c=some o->h2.get? c=some o:=fun c o n e=>(sb.2 c n).trans e;refine CK ⟨plainId_quiet iu _,?_⟩;let nn:∀{c:AO} {o:HO},H c=some o->c≠S->(upd H S (.dK (putK (cM [] ((ks.zip ys).take i)) ks[i] ys[i]))) c=some o:=fun {c o} e n=>by rwa [ak n]
  refine ih (i+1) _ _ bv bv I3 (fun c hc=>?_) (P9.frame kS (Ys z cr) (Ys TI cr) (Ys TO cr) (Ys i1 cr) (Ys i2 cr)) (nn ha na) (nn hb nb) (by rw [ZY,aj]) (fun c o n e=>nn (BU c o n e) n) hR;obtain ⟨f0,f1,f2,f3,f4,f5⟩:=hf c hc;show ⟨by rwa [ak (Ys c hc)],f1,f2,f3,f4,f5⟩
def zaG (ta:TA):TE:=fun Y H Q=>ta Y H fun vs H1=>∃(a b:AO)(ks:List Key)(ys:ε),vs=[.ref a,.ref b]/\H1 a=some (.lst (ks.map kV))/\H1 b=some (.lst ys)/\ks.length<=1000/\
 ∀(l:AO)(H':Hp),aq H1 H' ->H1 l=none->H' l=some (.dK (cM [] (ks.zip ys)))->Q (.ref l) H'
def boot_dict:JX "dict"=some (.type "dict"):=by decide+kernel
def zaf {p pos p' pos':Pos}(hc:X.calm=true)(hgl:Gl X "dict")(hml:X.mg "dict"=none)(hg:Gl X "zip")(hm:X.mg "zip"=none)(ha:PA X [e1,e2] ta)(hs:CZ [e1,e2] X.env=[(false,CB e1 X.env),(false,CB e2 X.env)]:=by rfl)(Qc:CZ [e2] X.env=[(false,CB e2 X.env)]:=by rfl)
  (hs3:CZ [(.Call (.Name "zip" p) [e1,e2] [] pos:Expr)] X.env=[(false,CB (.Call (.Name "zip" p) [e1,e2] [] pos) X.env)]:=by rfl):
  PE X (.Call (.Name "dict" p') [.Call (.Name "zip" p) [e1,e2] [] pos] [] pos') (zaG ta):=by
 intro pX s Y H Q I h;refine Call_ (jD I hgl hml boot_dict (WN ?_ hs3 rfl));rw [hs3];show AV _ _ (spliced ((false,CB (.Call (.Name "zip" p) [e1,e2] [] pos) X.env)::[])) _ _ s;refine ZP ?_;refine Call_ (jD I hg hm boot_zip (WN (cU (ha pos pX s Y H _ I h) fun us s1 ⟨vs,H1,I1,r1,q1⟩=>?_) (by rw [hs,Qc]) (by rw [Qc];rfl)));obtain ⟨a,b,ks,ys,e,hx,hy,hkl,q⟩:=q1;subst e;cases r1 with
 | cons r rr=>
  cases rr with
  | cons r' rr=>
   cases rr;cases r;cases r';obtain ⟨z1,AP,n1,r1,l1,e1⟩:=I1.lD hx;obtain ⟨z2,Zy,n2,r2,l2,e2⟩:=I1.lD hy;let lt1:a<s1.heap.objs.size:=DE e1;let lt2:b<s1.heap.objs.size:=DE e2;refine call_zip_2 ⟨_,e1,rfl,_,rfl⟩ ⟨_,e2,rfl,_,rfl⟩ fun h' hz lE uQ V0 Zz hsz hk=>EW ?_;let I2:Inv X pX Y H1 {s1 with heap:=h',toks:=s1.toks}:=I1.kept (t':=s1.toks) hk;let hS:=I2.bY.fresh (BW h'.objs.size);refine ahn (s:={s1 with heap:=h'}) (I1.ok.hd hc) hz fun h2 tk R k2 ZZ hR=>?_;let lt':DG<h'.objs.size:=(I2.mod.glob.keeps I2.bk).lt;let ns:(h'.objs.size==Mf)=false:=beq_eq_false_iff_ne.mpr (CA (JK (oy ce lt')));let I3:Inv X pX Y (upd H1 h'.objs.size (.dK [])) {s1 with heap:=h2,toks:=tk}:=I2.laid (t':=tk) k2 (BW _) ⟨JS _,ns,[],.nil,_,_,_,ZZ,⟨rfl,rfl,rfl⟩,rfl,fun _ he=>by simp at he,Pairs.nil,tf⟩
   let st:Qf h2 (s1.heap.objs.size+4) (s1.heap.objs.size+2) (s1.heap.objs.size+3) s1.heap.objs.size (s1.heap.objs.size+1) a b h'.objs.size 0:=
    ⟨.inl (k2 _ _ hz),k2 _ _ lE,⟨_,_,k2 _ _ uQ⟩,V0.at fun o e=>k2 _ o e,Zz.at fun o e=>k2 _ o e⟩
   let na:a≠h'.objs.size:=ao hx hS;let nb:b≠h'.objs.size:=ao hy hS;let vO:=afr hS (.dK []);refine zaO (A':=X.A.in1) (H0:=H1) (ks:=ks) (ys:=ys) (I1.ok.hd hc) ?_ na nb hkl (min ks.length ys.length) 0 _ _ bv (JS _) I3 (fun c' xB =>?_) st (vO _ _ hx) (vO _ _ hy) aj (fun b' o n e=>vO _ _ e) fun s' H' I' ks' Wa =>hR s' ⟨.ref h'.objs.size,H',I',rfl,q _ H' (fun b' o e=>ks' b' o (ao e hS) e) hS Wa⟩
   ·constructor<;>(intro z;simp only [AO] at*;omega)
   ·let VE:c'=s1.heap.objs.size+4\/c'=s1.heap.objs.size+2\/c'=s1.heap.objs.size+3\/c'=s1.heap.objs.size\/c'=s1.heap.objs.size+1:=by simpa using xB
    let hb:s1.heap.objs.size<=c':=by
     simp only [AO] at*;omega
    let BV:c'≠h'.objs.size:=by
     rw [hsz];simp only [AO] at*;omega
    refine I1.rj hb ?_;rw [ak BV];exact I1.bY.fresh hb
end
def eJ.snoc {K:Frag}(h:eJ K H us qs)(n:og K H v q):eJ K H (us++[v]) (qs++[q]):=by
 show ⟨by simp [h.1],fun i u q' e1 e2=>?_⟩;let l:=h.1;by_cases c:i<us.length
 ·rw [JU c] at e1
  rw [JU (jw l c)] at e2;exact h.2 i u q' e1 e2
 ·rw [JZ bv] at e1 e2
  by_cases z:i-us.length=0
  ·rw [z] at e1
   rw [show i-qs.length=0 by omega] at e2;cases e1;cases e2;exact n
  ·rw [IW (by simp;exact gt z)] at e1
   cases e1
theorem eJ.aX {K:Frag}(h:eJ K H us qs)(s:bq H H'):eJ K H' us qs:=⟨h.1,fun i u q e1 e2=>(h.2 i u q e1 e2).aX s⟩
variable {X:Cx}
section
variable {X:Cx}{pX:η}{Y:L2.St}{H:Hp}{s:BR}
def abb {K:Frag}(h:X.K=K):kD X (Mb .In) (rIn K false):=by subst h;exact oz
end
section
variable {X:Cx}
def zaB:V->List V->Hp->VK->Prop:=fun x vs H Q=>∃(l:AO)(ws:τ)(y:Str)(j:Nat),x=.ref l/\vs=[.str y]/\H l=some (.lst (ws.map V.str))/\ws.length<1000/\ws[j]?=some y/\(∀i,i<j->ws[i]? ≠some y)/\Q (.int (j:Int)) H
def af4:MtR X "list.index" zaB:=by
 intro pX s Y H x vs v us Q I rx rv h;obtain ⟨l,ws,y,j,rfl,rfl,hH,oj,hj,hn,q⟩:=h;cases rx;obtain ⟨u,rfl,ru⟩:=rv.one;obtain ⟨t,rfl⟩:=ru;obtain ⟨z,AP,n,r,hl,e⟩:=I.lD hH;let hj0:=(ir.mp hj).1
 let hlj:j<AP.length:=by
  rwa [<-hl,AU]
 refine let eB:Value->Bool:=fun u=>match u with | .str w _=>w.cps.toList==y.cps.toList|_=>false;?_
 let key:∀(i:Nat)(hi:i<AP.length),∃w t',ws[i]?=some w/\AP[i]=Value.str w t':=fun i hi=>ac5 r (gE hi)
 refine Rm F.slot_list_index ⟨_,e,rfl⟩ F.entry_list_index (F.args_list_index_2 _ _)
  (MeetsSeq.list_index l AP.toArray n (Value.str y t) eB (fun u hu=>?_) j (by simpa using hlj) (by show (j:Int)<9223372036854775807;omega) ?_ (fun m hm lt=>?_)) ⟨e,?_⟩
 ·obtain ⟨i,hi,ei⟩:=RY.mp (by simpa using hu:u∈AP)
  obtain ⟨w,t',_,e2⟩:=key i hi;rw [<-ei,e2];exact SeqRoads2.EqGives.str w y t' t
 ·obtain ⟨w,t',e1,e2⟩:=key j hlj
  erw [hj] at e1;show eB (AP.toArray[j]'_)=true;rw [aiE,e2];show (y.cps.toList==y.cps.toList)=true;exact beq_self_eq_true _
 ·let hm':m<AP.length:=by simpa using hm
  obtain ⟨w,t',e1,e2⟩:=key m hm';show eB (AP.toArray[m]'_)=false;rw [aiE,e2];show (w.cps.toList==y.cps.toList)=false;refine beq_eq_false_iff_ne.mpr fun z=>hn m lt ?_;rw [e1];congr 1;obtain ⟨⟨wc⟩⟩:=w;obtain ⟨⟨yc⟩⟩:=y;simp only at z;rw [z]
 ·show ⟨.int (j:Int),H,I.tok (s.toks+1),⟨_,rfl⟩,q⟩
end
theorem bq.ks (h0:H D=some (.lst ys))(ks:bo D H H'):bq H H':=fun b xs r=>by
 rcases r with r|⟨o',r⟩
 ·exact .inl (ks _ _ (fun e=>by erw [e,h0] at r) r)
 ·exact .inr ⟨o',ks _ _ (fun e=>by erw [e,h0] at r) r⟩
section
variable {X:Cx}{K:Frag}
inductive α0 (K:Frag)(x:V)(y:V)(H:Hp)(Q:VK):Prop
|mk (p xs i v:_)(_:x=.ref p)(_:y=.int i)(_:aV K H p xs\/bL K H p xs)(_:ib xs i=some v)(_:Q v H)
def GB:TU X (α0 X.K):=by
 intro value slice pX s Y H x y v u Q I rx ry h hs;obtain ⟨p,xs,i,z,e1,e2,hq,he,q⟩:=h
 rcases hq with hq|hq
 ·exact aU value slice pX s Y H x y v u Q I rx ry ⟨p,xs,i,z,e1,e2,hq,he,q⟩ hs
 ·exact lC value slice pX s Y H x y v u Q I rx ry ⟨p,xs,i,z,e1,e2,hq,he,q⟩ hs
end
section
variable {D:AO}{te:TE}{tG:L2.St}{H1:Hp}{Q:VK}
def aas {K:Frag}(J:List V->Hp->Prop)(nD:H1 D=none)(hn:xs.length<BL)(hS:∀H,aq H1 H->aV K H a xs)(h0:J [] (upd H1 D (.lst [])))
  (he:∀(i:Nat) x ys H (R:VK),xs[i]?=some x->ys.length=i->J ys H->aq H1 H->H D=some (.lst ys)->(∀v H6,aq H H6->J (ys++[v]) (upd H6 D (.lst (ys++[v])))->R v H6)->te (some x::tG) H R)
  (hd:∀ys H,ys.length=xs.length->J ys H->aq H1 H->H D=some (.lst ys)->Q (.ref D) H):
  oB D (cX 0) kF te (QQ K a) (none::tG) H1 Q:=by
 refine BG xs.length (fun i=>(xs[i]?).getD .cL) (fun i ys H=>ys.length=i/\J ys H/\aq H1 H) ⟨rfl,h0,fun b o e=>by rwa [ak (ao e nD)]⟩ ?_ ?_ ?_ ?_
 ·rintro i ys H hi ⟨_,_,s⟩
  show ⟨⟨xs,xs[i],hS H s,gE hi⟩,fun x H' y=>⟨y.1,by rw [y.2 xs (hS H s)];rfl⟩⟩
 ·rintro ys H ⟨_,_,s⟩
  show ⟨xs,hS H s,BW _⟩
 ·rintro i ys H R hi ⟨l,j,s⟩ hD k
  let e:xs[i]?=some xs[i]:=gE hi;let k':=he i _ ys H R e l j s hD fun v H6 s6 jv=>k v H6 (s6 _ _ hD) bv ⟨by simp [l],jv,fun b o e=>by rw [ak (ao e nD)];exact s6 _ _ (s _ _ e)⟩;rw [<-(show (xs[i]?).getD .cL=xs[i] by rw [e];rfl)] at k';exact k'
 ·rintro ys H ⟨l,j,s⟩ hD
  exact hd ys H l j s hD
end
end Ty
namespace Ty
theorem uW {Z:Type}[DecidableEq Z]:∀{l m:List Z},l.Nodup->(∀x∈l,x∈m)->l.length<=m.length
 | [],_,_,_=>JS _
 | x::l,m,h,k=>by
  obtain ⟨h1,h2⟩:=KC.mp h;let hx:=k x CU;have:=uW (l:=l) (m:=m.erase x) h2 fun y hy=>(List.mem_erase_of_ne (fun z:y=x=>h1 (by rwa [<-z]))).mpr (k y (DM _ hy));rw [ah6 hx] at this;let p:=aie hx;show l.length+1<=m.length;omega
def box (B:Nat):Nat->List (List Int)
 | 0=>[[]]
 | n+1=>(box B n).flatMap fun y=>(JA (B+1)).map fun (a:Nat)=>(a:Int)::y
theorem GG {Z:Type}(c:Nat):∀l:List Z,(l.map fun _=>c).sum=l.length*c
 | []=>by simp
 | _::l=>by
  rw [BS,Kv,GG c l,L7,Oz];omega
theorem vP (B:Nat):∀n,(box B n).length=(B+1)^n
 | 0=>rfl
 | n+1=>by
  let ih:=vP B n;unfold box;rw [List.length_flatMap];have:((box B n).map fun y=>((JA (B+1)).map fun (a:Nat)=>(a:Int)::y).length)=(box B n).map fun _=>B+1:=NF fun y _=>by rw [AU,RU]
  rw [this,GG,ih,V9]
theorem uX (B:Nat):∀n,(box B n).Nodup
 | 0=>by simp [box]
 | n+1=>by
  let ih:=uX B n;unfold box;unfold apc at ih ⊢;rw [List.pairwise_flatMap];show ⟨fun y _=>?_,ih.imp fun {y1 y2} ne x hx z hz e=>?_⟩
  ·rw [ah3]
   exact YZ.imp fun {a b} ne e=>ne (by injection e with e _;exact Int.ofNat.inj e)
  ·obtain ⟨a,_,rfl⟩:=AW.mp hx
   obtain ⟨b,_,rfl⟩:=AW.mp hz;injection e with _ e
   exact ne e
theorem kg :∀{n:Nat} {y:ο},y∈box B n ↔ y.length=n/\∀a∈y,0<=a/\a<=(B:Int)
 | 0,y=>by
  unfold box;rw [IZ];constructor
  ·intro e
   rw [e];show ⟨rfl,fun a h=>nomatch h⟩
  ·intro h
   exact ZC.mp h.1
 | n+1,y=>by
  unfold box;rw [Nz];constructor
  ·rintro ⟨z,hz,hy⟩
   obtain ⟨a,ha,rfl⟩:=AW.mp hy;obtain ⟨h1,h2⟩:=(kg (n:=n)).mp hz;have:=JW.mp ha;show ⟨by simp [h1],fun b hb=>?_⟩
   rcases JC.mp hb with e|e
   ·rw [e]
    omega
   ·exact h2 b e
  ·rintro ⟨h1,h2⟩
   match y,h1 with
   | a::z,h1=>
    let ha:=h2 a CU;show ⟨z,(kg (n:=n)).mpr ⟨by simpa using h1,fun b hb=>h2 b (DM _ hb)⟩,AW.mpr ⟨a.toNat,JW.mpr (show a.toNat<B+1 by omega),?_⟩⟩;rw [show ((a.toNat:Nat):Int)=a by omega]
def iO:List Int->List Int->Int
 | a::e,b::y=>a*b+iO e y
 | _,_=>0
theorem yE:∀(e:ο) {y z:ο},y.length=z.length->iO e (Nc (fun a b=>a-b) y z)=iO e y-iO e z
 | [],y,z,h=>by simp [iO]
 | a::e,[],[],h=>by simp [iO]
 | a::e,b::y,c::z,h=>by
  let ih:=yE e (y:=y) (z:=z) (by simpa using h);rw [aid];simp only [iO];rw [ih,Int.mul_sub];omega
theorem GH :∀{e y:ο},(∀a∈e,a.natAbs<=A)->(∀b∈y,b.natAbs<=B)->(iO e y).natAbs<=e.length*(A*B)
 | [],y,_,_=>by simp [iO]
 | a::e,[],_,_=>by simp [iO]
 | a::e,b::y,h1,h2=>by
  let ih:=GH (e:=e) (y:=y) (fun x hx=>h1 x (DM _ hx)) fun x hx=>h2 x (DM _ hx);simp only [iO]
  let m:(a*b).natAbs<=A*B:=by
   rw [QX];exact OT (h1 a CU) (h2 b CU)
  let t:=α8 (a*b) (iO e y);rw [L7,Oz,rR];omega
def Ol {eqs:ζ}(hn:eqs.length<n)(hA:1<=A)(he:∀e∈eqs,e.length=n/\∀a∈e,a.natAbs<=A):∃z:List Int,z.length=n/\(∃a∈z,a≠0)/\(∀a∈z,a.natAbs<=(2*n*A)^eqs.length)/\∀e∈eqs,iO e z=0:=by
 generalize hC:2*n*A=C;generalize hB:C^eqs.length=B
 let c1:1<=C:=by
  rw [<-hC];exact OT (show 1<=2*n by omega) hA
 generalize hM:n*(A*B)=M
 let key:¬ ∀y∈box B n,∀z∈box B n,(eqs.map fun e=>iO e y+(M:Int))=(eqs.map fun e=>iO e z+(M:Int))->y=z:=by
  intro inj
  let nd:((box B n).map fun y=>eqs.map fun e=>iO e y+(M:Int)).Nodup:=by
   unfold apc;rw [ah3];refine List.Pairwise.imp_of_mem (fun {y z} hy hz ne e=>ne (inj y hy z hz e)) (uX B n)
  let le:=uW nd (m:=box (2*M) eqs.length) fun x hx=>by
   obtain ⟨y,hy,rfl⟩:=AW.mp hx;obtain ⟨ly,by'⟩:=kg.mp hy;refine kg.mpr ⟨by simp,fun a ha=>?_⟩;obtain ⟨e,hee,rfl⟩:=AW.mp ha
   let b1:=GH (A:=A) (B:=B) (he e hee).2 (y:=y) fun b hb=>by
    have:=by' b hb
    omega
   rw [(he e hee).1,hM] at b1;omega
  rw [AU,vP,vP] at le
  let e1:2*M+1<=C*(B+1):=by
   let e3:2*M=C*B:=by rw [<-hM,<-hC,<-Nat.mul_assoc,<-Nat.mul_assoc]
   rw [e3,Nat.mul_add];omega
  let e2:(2*M+1)^eqs.length<=B*(B+1)^eqs.length:=by
   have:=ahL e1 eqs.length;rwa [Nat.mul_pow,hB] at this
  let e4:(B+1)^(eqs.length+1)<=(B+1)^n:=Me bv hn
  let e5:B*(B+1)^eqs.length<(B+1)^(eqs.length+1):=by
   rw [V9,σ0 ((B+1)^eqs.length)];exact Nat.mul_lt_mul_of_pos_right (NZ B) (Nat.pow_pos bv)
  omega
 obtain ⟨y,k1⟩:=aiH.mp key;obtain ⟨hy,k2⟩:=ah4.mp k1;obtain ⟨z,k3⟩:=aiH.mp k2;obtain ⟨hz,k4⟩:=ah4.mp k3;obtain ⟨ee,ne⟩:=ah4.mp k4;obtain ⟨ly,by'⟩:=kg.mp hy;obtain ⟨lz,bz⟩:=kg.mp hz;let hl:y.length=z.length:=bv
 show ⟨Nc (fun a b=>a-b) y z,by rw [List.length_zipWith];omega,?_,?_,fun e hee=>?_⟩
 ·apply Md
  intro h;refine ne (List.ext_getElem hl fun i h1 h2=>?_);let h':∀a∈Nc (fun a b=>a-b) y z,a=0:=fun a ha=>Md fun q=>h ⟨a,ha,q⟩
  let m:y[i]-z[i]∈Nc (fun a b=>a-b) y z:=by
   refine Wp (i:=i) ?_;rw [ZE,gE h1,gE h2]
  have:=h' _ m;omega
 ·intro a ha
  obtain ⟨i,ei⟩:=IV ha;rw [ZE] at ei
  let hi:i<y.length:=by
   apply Md;intro q;erw [IW (ii q)] at ei
  rw [gE hi,gE (show i<z.length by omega)] at ei;let ea:y[i]-z[i]=a:=C_ ei;let q1:=by' _ (QV hi)
  let q2:=bz _ (QV (show i<z.length by omega));omega
 ·rw [yE e hl]
  obtain ⟨i,ei⟩:=IV hee;let e1:=ud (fun l:List Int=>l[i]?) ee;simp only [AY,ei,VZ,Option.some.injEq] at e1;omega
def col (l:ο)(j:Nat):Rat:=((l.getD j 0:Int):Rat)
inductive dw (A:ζ):(Nat->Rat)->Prop
 | zero:dw A (fun _=>0)
 | put {f:Nat->Rat} (c:Rat) {a:ο} (h:a∈A) (hf:dw A f):dw A (fun j=>f j+c*col a j)
def dw.congr (h:dw A f)(e:∀j,f j=g j):dw A g:=(funext e:f=g)▸h
def dw.add (hf:dw A f)(hg:dw A g):dw A (fun j=>f j+g j):=by
 induction hg with
 | zero=>exact hf.congr fun j=>by grind
 | put c h _ ih=>exact (dw.put c h ih).congr fun j=>by grind
def dw.mul (k:Rat)(hf:dw A f):dw A (fun j=>k*f j):=by
 induction hf with
 | zero=>exact dw.zero.congr fun j=>by grind
 | put c h _ ih=>exact (dw.put (k*c) h ih).congr fun j=>by grind
def dw.mem (h:a∈A):dw A (col a):=(dw.put 1 h dw.zero).congr fun j=>by grind
def dw.trans (hf:dw A f)(h:∀a∈A,dw B (col a)):dw B f:=by
 induction hf with
 | zero=>exact dw.zero
 | put c ha _ ih=>exact ih.add ((h _ ha).mul c)
def dw.mono (hf:dw A f)(h:∀a∈A,a∈B):dw B f:=hf.trans fun a ha=>dw.mem (h a ha)
def dw.first {l:ο}{A:ζ}(hf:dw (l::A) f):∃a:Rat,dw A (fun j=>f j-a*col l j):=by
 induction hf with
 | zero=>show ⟨0,dw.zero.congr fun j=>by grind⟩
 | put c h _ ih=>
  obtain ⟨a,ha⟩:=ih
  rcases JC.mp h with e|e
  ·subst e
   show ⟨a+c,ha.congr fun j=>by grind⟩
  ·show ⟨a,(dw.put c e ha).congr fun j=>by grind⟩
def dw.last (hf:dw (A++[l]) f):∃a:Rat,dw A (fun j=>f j-a*col l j):=dw.first (hf.mono fun a ha=>by
 rcases DL.mp ha with z|z
 ·exact DM _ z
 ·rw [IZ.mp z]
  exact CU)
def dw.van (hf:dw A f)(h:∀a∈A,col a c=0):f c=0:=by
 induction hf with
 | zero=>rfl
 | put k ha _ ih=>
  dsimp only;rw [ih,h _ ha];grind
structure MV (nd:ι):Prop where
 nn:(nd.map (·.1)).Nodup
 here:∀x∈nd,x.2.getD x.1 0≠0
 off:∀x∈nd,∀y∈nd,x.1≠y.1->x.2.getD y.1 0=0
theorem MV.zero:∀{nd:ι} {f:Nat->Rat},MV nd->dw (nd.map (·.2)) f->(∀x∈nd,f x.1=0)->∀j,f j=0
 | [],f,_,hf,_=>fun j=>by
  have:∀{g:Nat->Rat},dw [] g->g j=0:=fun {g} h=>h.van fun a ha=>nomatch ha;exact this hf
 | x::r,f,P,hf,hz=>by
  obtain ⟨a,ha⟩:=dw.first hf;let nn:=KC.mp P.nn
  let v:f x.1-a*col x.2 x.1=0:=ha.van (c:=x.1) fun b hb=>by
   obtain ⟨y,hy,rfl⟩:=AW.mp hb;unfold col;rw [P.off y (DM _ hy) x CU (fun z=>nn.1 (by show x.1∈_;rw [<-z];exact AW.mpr ⟨y,hy,rfl⟩))];rfl
  rw [hz x CU] at v;let xD:col x.2 x.1≠0:=c_ (P.here x CU);let a0:a=0:=by grind
  subst a0;let P':MV r:=⟨nn.2,fun y hy=>P.here y (DM _ hy),fun y hy z hz=>P.off y (DM _ hy) z (DM _ hz)⟩;exact MV.zero P' (ha.congr (g:=f) fun j=>by grind) fun y hy=>hz y (DM _ hy)
def MV.one (P:MV nd)(hf:dw (nd.map (·.2)) f)(hx:x∈nd)(hz:∀y∈nd,y.1≠x.1->f y.1=0):∃a:Rat,∀j,f j=a*col x.2 j:=by
 let xD:col x.2 x.1≠0:=c_ (P.here x hx);show ⟨f x.1 / col x.2 x.1,fun j=>?_⟩;let g:dw (nd.map (·.2)) fun j=>f j+ -(f x.1 / col x.2 x.1)*col x.2 j:=dw.put _ (AW.mpr ⟨x,hx,rfl⟩) hf
 have:=P.zero g (fun y hy=>by
  by_cases c:y.1=x.1
  ·rw [c]
   grind
  ·rw [hz y hy c]
   have:col x.2 y.1=0:=by
    unfold col;rw [P.off x hx y hy (CA c)];rfl
   rw [this]
   grind) j
 grind
def kR:List Int->List (List Int)->Nat->Int
 | z::zs,a::A,j=>z*a.getD j 0+kR zs A j
 | _,_,_=>0
theorem mN:∀(zs:ο)(A:ζ),dw A (fun j=>((kR zs A j:Int):Rat))
 | [],A=>dw.zero.congr fun j=>by simp [kR]
 | _::_,[]=>dw.zero.congr fun j=>by simp [kR]
 | z::zs,a::A=>by
  let ih:=(mN zs A).mono (B:=a::A) fun b hb=>DM _ hb;refine (dw.put (z:Rat) (CU) ih).congr fun j=>?_;simp only [kR,col];push_cast;grind
theorem vQ (c:Nat):∀(zs:ο)(A:ζ),iO (A.map fun a=>a.getD c 0) zs=kR zs A c
 | [],A=>by cases A<;>simp [kR,iO]
 | _::_,[]=>by simp [kR,iO]
 | z::zs,a::A=>by
  simp only [BS,iO,kR];rw [vQ c zs A,QT]
theorem BY (j:Nat):∀{zs:ο} {A:ζ},(∀z∈zs,z.natAbs<=α)->(∀a∈A,(a.getD j 0).natAbs<=E)->(kR zs A j).natAbs<=A.length*(α*E)
 | [],A,_,_=>by simp [kR]
 | _::_,[],_,_=>by simp [kR]
 | z::zs,a::A,h1,h2=>by
  let ih:=BY j (zs:=zs) (A:=A) (fun x hx=>h1 x (DM _ hx)) fun x hx=>h2 x (DM _ hx);simp only [kR]
  let m:(z*a.getD j 0).natAbs<=α*E:=by
   rw [QX];exact OT (h1 z CU) (h2 a CU)
  let t:=α8 (z*a.getD j 0) (kR zs A j);rw [L7,Oz,rR];omega
theorem rZ (j:Nat):∀{zs:ο} {A:ζ} (z:Int) (a:ο),zs.length=A.length->kR (zs++[z]) (A++[a]) j=kR zs A j+z*a.getD j 0
 | [],[],z,a,_=>by simp [kR]
 | y::zs,b::A,z,a,h=>by
  let ih:=rZ j (zs:=zs) (A:=A) z a (by simpa using h);simp only [α',kR];rw [ih];omega
def α1 (l:ο):Prop:=∀d:Int,(∀j,d ∣ l.getD j 0)->d.natAbs=1
def Om (p:α1 l){v:Nat->Int}(ha:a≠0)(h:∀j,((v j:Int):Rat)=a*col l j)(j:Nat):(l.getD j 0).natAbs<=(v j).natAbs:=by
 let e:∀j,v j*(a.den:Int)=a.num*l.getD j 0:=fun j=>by
  let h1:=h j
  let h2:a=(a.num:Rat) / ((a.den:Int):Rat):=by
   rw [<-aje];exact (aiP a).symm
  let hd:((a.den:Int):Rat)≠0:=c_ (by have:=a.den_pos;omega);rw [h2] at h1;unfold col at h1
  let h3:((v j*(a.den:Int):Int):Rat)=((a.num*l.getD j 0:Int):Rat):=by
   rw [Pl,Pl];generalize ((a.den:Int):Rat)=D at hd h1;grind
  exact Xk.mp h3
 let dv:∀j,(a.den:Int) ∣ l.getD j 0:=fun j=>by
  let h1:a.den ∣ a.num.natAbs*(l.getD j 0).natAbs:=by
   rw [<-QX,<-e j,QX];show ⟨(v j).natAbs,by rw [σ0];rfl⟩
  let h2:=Nat.Coprime.dvd_of_dvd_mul_left (Nat.Coprime.symm a.reduced) h1;exact vx.mp (by simpa using h2)
 let d1:a.den=1:=by simpa using p _ dv
 let ej:=e j;rw [d1] at ej;let n0:a.num≠0:=fun z=>ha (Rat.num_eq_zero.mp z);have:v j=a.num*l.getD j 0:=by simpa using ej
 rw [this,QX];exact Nat.le_mul_of_pos_left _ bv
def zax (p:α1 l):¬ ∀j,l.getD j 0=0:=fun h=>by
 have:=p 0 fun j=>by rw [h j];exact Int.dvd_refl 0
 simp at this
structure MX (os:ζ)(nd:ι)(lv ps qs:ζ):Prop where
 po:∀p∈ps,p∈os
 qo:∀q∈qs,q∈os
 lp:ps.length=nd.length
 lq:qs.length=lv.length
 s1:∀x∈nd,dw ps (col x.2)
 s2:∀p∈ps,dw (nd.map (·.2)) (col p)
 s3:∀(i:Nat)(l q:ο),lv[i]?=some l->qs[i]?=some q->dw (ps++[q]) (col l)/\dw (nd.map (·.2)++[l]) (col q)
 ind:∀zs:List Int,zs.length=ps.length->(∀j,kR zs ps j=0)->∀a∈zs,a=0
def MX.start (os:ζ):MX os [] os [] os:=by
 show ⟨by simp,fun q hq=>hq,rfl,rfl,by simp,by simp,fun i l q e1 e2=>?_,fun zs h _ a ha=>?_⟩
 ·rw [e1] at e2
  cases e2;show ⟨dw.mem cr,dw.mem cr⟩
 ·rw [ZC.mp h] at ha
  cases ha
def MV.cols (P:MV nd)(hl:dw (nd.map (·.2)) (col l))(hz:∀x∈nd,l.getD x.1 0=0):∀j,l.getD j 0=0:=fun j=>by
 have:=P.zero hl (fun x hx=>by unfold col;rw [hz x hx];rfl) j;unfold col at this;exact Xk.mp (this.trans (by rfl))
def yF {A:ζ}(hA:∀a∈A,∀j,(a.getD j 0).natAbs<=2^b):(A.map fun a=>a.getD c 0).length=A.length/\∀x∈A.map (fun a=>a.getD c 0),x.natAbs<=2^b:=by
 show ⟨by simp,fun x hx=>?_⟩;obtain ⟨a,ha,rfl⟩:=AW.mp hx;exact hA a ha c
def MX.left (O:MX os nd lv ps qs)(P:MV nd){i b:Nat}{l:ο}(e:lv[i]?=some l)(hz:∀x∈nd,l.getD x.1 0=0)(hb:∀o∈os,∀j,(o.getD j 0).natAbs<=2^b)(pr:α1 l)(j:Nat):(l.getD j 0).natAbs<=(nd.length+1)*((2*(nd.length+1)*2^b)^nd.length*2^b):=by
 let hi:i<qs.length:=by
  rw [O.lq];exact (ir.mp e).1
 obtain ⟨q,eq⟩:∃q,qs[i]?=some q:=⟨_,gE hi⟩;obtain ⟨t1,t2⟩:=O.s3 i l q e eq
 let hA:∀a∈ps++[q],∀j,(a.getD j 0).natAbs<=2^b:=fun a ha=>by
  rcases DL.mp ha with z|z
  ·exact hb a (O.po a z)
  ·rw [IZ.mp z]
   exact hb q (O.qo q (Wp eq))
 let lA:(ps++[q]).length=nd.length+1:=by simp [O.lp]
 obtain ⟨zs,lz,nz,bz,sz⟩:=Ol (n:=nd.length+1) (A:=2^b) (eqs:=nd.map fun x=>(ps++[q]).map fun a=>a.getD x.1 0) cr (tY) fun y hy=>by
  obtain ⟨x,hx,rfl⟩:=AW.mp hy;rw [<-lA];exact yF hA
 rw [AU] at bz
 let v0:∀x∈nd,kR zs (ps++[q]) x.1=0:=fun x hx=>by
  rw [<-vQ];exact sz _ (AW.mpr ⟨x,hx,rfl⟩)
 let hv:dw (nd.map (·.2)++[l]) fun j=>((kR zs (ps++[q]) j:Int):Rat):=(mN zs (ps++[q])).trans fun a ha=>by
  rcases DL.mp ha with z|z
  ·exact (O.s2 a z).mono fun y hy=>M3 _ hy
  ·rw [IZ.mp z]
   exact t2
 obtain ⟨a,ha⟩:=dw.last hv
 let ez:=P.zero ha fun x hx=>by
  rw [v0 x hx];unfold col;rw [hz x hx];show ((0:Int):Rat)-a*((0:Int):Rat)=0;grind
 by_cases c:a=0
 ·exfalso
  subst c
  let vz:∀j,kR zs (ps++[q]) j=0:=fun j=>by
   have:=ez j;let h:((kR zs (ps++[q]) j:Int):Rat)=((0:Int):Rat):=by grind
   exact Xk.mp h
  obtain ⟨vR,z,rfl⟩:∃vR z,zs=vR ++[z]:=by
   rcases aiw zs with h|⟨vR,z,h⟩
   ·rw [h] at lz
    simp at lz
   ·show ⟨vR,z,by rw [h,aix]⟩
  have α2 :vR.length=ps.length:=by
   rw [O.lp];simpa using lz
  let sp:∀j,kR vR ps j+z*q.getD j 0=0:=fun j=>by
   rw [<-rZ j z q α2];exact vz j
  by_cases z0:z=0
  ·subst z0
   obtain ⟨x,hx,nx⟩:=nz;let all:=O.ind vR α2 fun j=>by simpa using sp j
   rcases DL.mp hx with h|h
   ·exact nx (all x h)
   ·exact nx (IZ.mp h)
  ·let hq:dw ps (col q):=((mN vR ps).mul (-1 / (z:Rat))).congr fun j=>by
    let s':((kR vR ps j+z*q.getD j 0:Int):Rat)=((0:Int):Rat):=by rw [sp j]
    rw [XJ,Pl] at s';let zr:(z:Rat)≠0:=c_ z0;unfold col;grind
   let hl:dw ps (col l):=t1.trans fun a ha=>by
    rcases DL.mp ha with h|h
    ·exact dw.mem h
    ·rw [IZ.mp h]
     exact hq
   exact zax pr (P.cols (hl.trans O.s2) hz)
 ·let le:=Om pr c (v:=fun j=>kR zs (ps++[q]) j) (fun j=>by have:=ez j;grind) j
  refine BX le ?_;have:=BY j (zs:=zs) (A:=ps++[q]) bz fun a ha=>hA a ha j;rwa [lA] at this
def MX.need (O:MX os nd lv ps qs)(P:MV nd)(hx:x∈nd)(hb:∀o∈os,∀j,(o.getD j 0).natAbs<=2^b)(pr:α1 x.2)(j:Nat):(x.2.getD j 0).natAbs<=(nd.length+1)*((2*(nd.length+1)*2^b)^nd.length*2^b):=by
 let hA:∀a∈ps,∀j,(a.getD j 0).natAbs<=2^b:=fun a ha=>hb a (O.po a ha)
 let lf:(nd.filter fun y=>decide (y.1≠x.1)).length<nd.length:=by
  let h1:(nd.filter fun y=>decide (y.1≠x.1)).length<=nd.length:=SE ..
  rcases Nat.lt_or_eq_of_le h1 with h|h
  ·exact h
  ·have:=List.length_filter_eq_length_iff.mp h x hx
   simp at this
 obtain ⟨zs,lz,nz,bz,sz⟩:=Ol (n:=nd.length) (A:=2^b) (eqs:=(nd.filter fun y=>decide (y.1≠x.1)).map fun y=>ps.map fun a=>a.getD y.1 0) (by rwa [AU]) (tY) fun y hy=>by
  obtain ⟨z,hz,rfl⟩:=AW.mp hy;rw [<-O.lp];exact yF hA
 rw [AU] at bz
 let v0:∀y∈nd,y.1≠x.1->kR zs ps y.1=0:=fun y hy ne=>by
  rw [<-vQ];exact sz _ (AW.mpr ⟨y,N0.mpr ⟨hy,by simpa using ne⟩,rfl⟩)
 let hv:dw (nd.map (·.2)) fun j=>((kR zs ps j:Int):Rat):=(mN zs ps).trans O.s2
 obtain ⟨a,ha⟩:=P.one hv hx fun y hy ne=>by
  rw [v0 y hy ne];rfl
 let c:a≠0:=fun z=>by
  subst z;obtain ⟨y,hy,ny⟩:=nz;refine ny (O.ind zs (by rw [lz,O.lp]) (fun j=>?_) y hy)
  let h:((kR zs ps j:Int):Rat)=((0:Int):Rat):=by
   rw [ha j];show 0*col x.2 j=0;grind
  exact Xk.mp h
 let le:=Om pr c (v:=fun j=>kR zs ps j) ha j;refine BX le ?_;have:=BY j (zs:=zs) (A:=ps) bz fun a ha=>hA a ha j;rw [O.lp] at this;refine BX this (OT bv (OT ?_ (BW _)));refine BX (ahL (NG _ (show 2*nd.length<=2*(nd.length+1) by omega)) _) ?_;exact Me (Nat.mul_pos bv (ao7 _)) bv
def ai_ (hs:s+1<=1024):(s+1)*((2*(s+1)*2^b)^s*2^b)<=2^((s+1)*(b+11)):=by
 let h1:2*(s+1)*2^b<=2^(b+11):=by
  have:2*(s+1)<=2^11:=by
   show 2*(s+1)<=2048;omega
  rw [VH,σ0 (2^b)];exact NG _ this
 let h2:(2*(s+1)*2^b)^s<=2^((b+11)*s):=by
  rw [Nat.pow_mul];exact ahL h1 s
 let h3:s+1<=2^11:=by
  show s+1<=2048;omega
 let e:(s+1)*(b+11)=11+((b+11)*s+b):=by
  rw [Oz,rR,σ0 s];omega
 rw [e,VH,VH];exact OT h3 (NG _ h2)
def GJ (k:tI line AS new c)(h1:dw B (col line))(h2:dw B (col AS)):dw B (col new):=by
 obtain ⟨s,t,u,hs,ht,e⟩:=k.kQ;let zs:=c_ hs;refine ((h1.mul ((t:Rat) / s)).add (h2.mul (-(u:Rat) / s))).congr fun j=>?_;let ej:((s*new.getD j 0:Int):Rat)=((t*line.getD j 0-u*AS.getD j 0:Int):Rat):=by rw [e j]
 rw [Pl,ao8,Pl,Pl] at ej;unfold col;grind
def GK (k:tI line AS new c)(h1:dw B (col new))(h2:dw B (col AS)):dw B (col line):=by
 obtain ⟨s,t,u,hs,ht,e⟩:=k.kQ;let zt:=c_ ht;refine ((h1.mul ((s:Rat) / t)).add (h2.mul ((u:Rat) / t))).congr fun j=>?_;let ej:((s*new.getD j 0:Int):Rat)=((t*line.getD j 0-u*AS.getD j 0:Int):Rat):=by rw [e j]
 rw [Pl,ao8,Pl,Pl] at ej;unfold col;grind
def MX.step {nd jy :ι}{lv BZ ps qs:ζ}{AS:ο}{j c:Nat}(O:MX os nd lv ps qs)(P:MV nd)(ej:lv[j]?=some AS)(hz:∀x∈nd,AS.getD x.1 0=0)(hc:AS.getD c 0≠0)
  (lL:BZ.length=(lv.eraseIdx j).length) (ML:∀(i:Nat)(x:ο),(lv.eraseIdx j)[i]?=some x->∃y,BZ[i]?=some y/\tI x AS y c) (lN:jy.length=nd.length) (MN:∀(i:Nat)(x:ο),(nd.map (·.2))[i]?=some x->∃y,(jy.map (·.2))[i]?=some y/\tI x AS y c):∃ps' Yt,MX os (jy ++[(c,AS)]) BZ ps' Yt :=by
 let hj:j<lv.length:=(ir.mp ej).1;obtain ⟨q,eq⟩:∃q,qs[j]?=some q:=⟨_,gE (by rwa [O.lq])⟩;obtain ⟨t1,t2⟩:=O.s3 j AS q ej eq;let ml:AS∈(jy ++[(c,AS)]).map (·.2):=by simp
 let old:∀x∈nd.map (·.2),dw ((jy ++[(c,AS)]).map (·.2)) (col x):=fun x hx=>by
  obtain ⟨i,ei⟩:=IV hx;obtain ⟨y,ey,k⟩:=MN i x ei;refine GK k (dw.mem ?_) (dw.mem ml);rw [IX];exact M3 _ (Wp ey)
 let kG:∀y∈jy.map (·.2),∃x∈nd.map (·.2),tI x AS y c:=fun y hy=>by
  obtain ⟨i,ei⟩:=IV hy;let hi:=(ir.mp ei).1;rw [AU] at hi;obtain ⟨x,ex⟩:∃x,(nd.map (·.2))[i]?=some x:=⟨_,gE (by rw [AU];exact jw lN hi)⟩;obtain ⟨y',GL,k⟩:=MN i x ex;erw [ei] at GL;show ⟨x,Wp ex,k⟩
 let up:∀{f:Nat->Rat},dw ps f->dw (ps++[q]) f:=fun h=>h.mono fun a ha=>M3 _ ha;show ⟨ps++[q],qs.eraseIdx j,fun p hp=>?_,fun p hp=>O.qo p (vN hp),by simp [O.lp,lN],?_,fun x hx=>?_,fun p hp=>?_,fun i l' q' e1 e2=>?_,fun zs lz hzs a ha=>?_⟩
 ·rcases DL.mp hp with z|z
  ·exact O.po p z
  ·rw [IZ.mp z]
   exact O.qo q (Wp eq)
 ·rw [lL,Pf,Pf,O.lq]
 ·rcases DL.mp hx with z|z
  ·obtain ⟨y,hy,k⟩:=kG x.2 (AW.mpr ⟨x,z,rfl⟩)
   obtain ⟨x0,Qg,rfl⟩:=AW.mp hy;exact GJ k (up (O.s1 x0 Qg)) t1
  ·rw [IZ.mp z]
   exact t1
 ·rcases DL.mp hp with z|z
  ·exact (O.s2 p z).trans old
  ·rw [IZ.mp z]
   refine t2.trans fun a ha=>?_
   rcases DL.mp ha with h|h
   ·exact old a h
   ·rw [IZ.mp h]
    exact dw.mem ml
 ·let hi:=(ir.mp e1).1
  obtain ⟨x,ex⟩:∃x,(lv.eraseIdx j)[i]?=some x:=⟨_,gE (jw lL hi)⟩;obtain ⟨y',GL,k⟩:=ML i x ex;erw [e1] at GL
  obtain ⟨i',f1,f2⟩:∃i',lv[i']?=some x/\qs[i']?=some q':=by
   rw [SG] at ex e2;by_cases h:i<j
   ·rw [tu h] at ex e2
    show ⟨_,ex,e2⟩
   ·rw [qA h] at ex e2
    show ⟨_,ex,e2⟩
  obtain ⟨u1,u2⟩:=O.s3 i' x q' f1 f2;constructor
  ·refine GJ k (u1.mono fun a ha=>?_) (t1.mono fun a ha=>M3 _ ha)
   rcases DL.mp ha with h|h
   ·exact M3 _ (M3 _ h)
   ·exact Ma _ h
  ·refine u2.trans fun a ha=>?_
   rcases DL.mp ha with h|h
   ·exact (old a h).mono fun b hb=>M3 _ hb
   ·rw [IZ.mp h]
    exact GK k (dw.mem cr) (dw.mem (M3 _ ml))
 ·obtain ⟨vR,z,rfl⟩:∃vR z,zs=vR ++[z]:=by
   rcases aiw zs with h|⟨vR,z,h⟩
   ·rw [h] at lz
    simp at lz
   ·show ⟨vR,z,by rw [h,aix]⟩
  have α2 :vR.length=ps.length:=by simpa using lz
  let sp:∀j,kR vR ps j+z*q.getD j 0=0:=fun j=>by
   rw [<-rZ j z q α2];exact hzs j
  let z0:z=0:=by
   apply Md;intro z0
   let hq:dw ps (col q):=((mN vR ps).mul (-1 / (z:Rat))).congr fun j=>by
    let s':((kR vR ps j+z*q.getD j 0:Int):Rat)=((0:Int):Rat):=by rw [sp j]
    rw [XJ,Pl] at s';let zr:(z:Rat)≠0:=c_ z0;unfold col;grind
   let hl:dw ps (col AS):=t1.trans fun a ha=>by
    rcases DL.mp ha with h|h
    ·exact dw.mem h
    ·rw [IZ.mp h]
     exact hq
   exact hc (P.cols (hl.trans O.s2) hz c)
  rcases DL.mp ha with h|h
  ·exact O.ind vR α2 (fun j=>by have:=sp j;rw [z0] at this;simpa using this) a h
  ·rw [IZ.mp h]
   exact z0
end Ty
namespace Ty
open PySem PySem.Spec PyProof.Rows L2
section
variable {X:Cx}
def af_ {K:Frag}(h:X.K=K):Zf X (VG K):=by subst h;exact A_
def aib {oC:Pos}(hN:X.N.Nodup)(Ra:X.N[i]?=some y)(hx:Loc X.env.scope y)
  (hc:X.calm=true) (B:V4 X scope yc fr tw) (hi:PI X target iter wi)
  (hg:∀C s H fp,PG (V3 X (tn++fr) scope yc (bu X.env fr) C s H fp) target g) (ht:∀C s H fp,PF (V3 X (tn++fr) scope yc (bu X.env fr) C s H fp) ifs tt) (he:∀C s H fp,PE (V3 X (tn++fr) scope yc (bu X.env fr) C s H fp) elt te)
  (vE:QJ (.ListComp elt [⟨target,iter,ifs,0⟩] scope pos) (some (.Name y py)) oC.line X.env=pure true:=by rfl)
  (hs:∀x,QK iter X.env x=pure x:=by intro _;rfl) (hf:X.fn y=true\/X.env.scope.names.lookup y=some .local:=by first|exact .inl rfl|exact .inr rfl|assumption):
  PS X (.Assign [.Name y py] (.ListComp elt [⟨target,iter,ifs,0⟩] scope pos) oC) (xO (mH tn.length tw wi g tt te) (cX i)):=
 ye hN Ra hx hc B.g hi hg ht he vE hs hf
end
def ae3 {tG:L2.St}(p:Nat->Bool)(nD:H1 D=none)(hn:n<BL)
  (ht:∀i H (R:Bool->Hp->Prop),i<n->aq H1 H->(∀H',aq H H' ->R (p i) H')->tt (some (.int (i:Int))::tG) H R)
  (he:∀i H (R:VK),R (.int (i:Int)) H->te (some (.int (i:Int))::tG) H R)
  (hd:∀H,aq H1 H->H D=some (.lst (((JA n).filter p).map fun i:Nat=>V.int (i:Int)))->Q (.ref D) H):
  oB D (cX 0) tt te (TC 0 n) (none::tG) H1 Q:=by
 show ⟨fun i m Y ys H=>m=n-i/\i<=n/\(∃o,Y=o::tG)/\aq H1 H/\H D=some (.lst ys)/\ys=((JA i).filter p).map fun i:Nat=>V.int (i:Int),⟨n,by simp,JS _,⟨none,rfl⟩,fun b o e=>by rwa [ak (ao e nD)],aj,rfl⟩,?_⟩;rintro i m Y ys H ⟨rfl,hi,⟨o,rfl⟩,s,hD,ey⟩;by_cases oj:i<n
 ·refine .inr ⟨oj,fun v H' y=>?_⟩
  obtain ⟨rfl,rfl⟩:=y;rw [Kz];unfold cX;refine ht i _ _ oj s fun H2 s2=>?_;let B_:aq H1 H2:=fun b o e=>s2 _ _ (s _ _ e)
  let ly:ys.length<=i:=by
   rw [ey,AU];have:=SE p (JA i);rwa [RU] at this
  by_cases c:p i=true
  ·rw [tu c]
   refine he i _ _ ⟨s2 _ _ hD,bv,n-(i+1),ga oj,rfl,nR oj,⟨_,rfl⟩,?_,aj,?_⟩
   ·exact fun b o e=>by
     rw [ak (ao e nD)];exact B_ _ _ e
   ·rw [XI,tX,SJ c,ey,IX]
    rfl
  ·rw [qA c]
   show ⟨n-(i+1),ga oj,rfl,nR oj,⟨_,rfl⟩,B_,s2 _ _ hD,?_⟩;rw [XI,tX,SI c,ey,List.filter_nil,V_]
 ·let e:i=n:=ol hi oj
  subst e;rw [ey] at hD;exact .inl ⟨BW _,hd H s hD⟩
section
variable {X:Cx}{e o:Expr}{es:Δ}{ta:TE}{t:TA}{f m:Str}{pos apos:Pos}{P:DN}{w:World}{K:Frag}{mg:ν}{qf:Heap}{CX:mi}{k:Nat}{E:XK}
def afY {pl:Sem Bool}(h1:X.prog=P)(h2:X.w=w)(h3:X.K=K)(h4:X.mg=mg)(h5:X.qf=qf)(he:PE X o ta)(hr:cG k X.A)(hx:Passes CX X E)(ha:PA X (e::es) t)
  (M8:CZ (e::es) X.env=(false,CB e X.env)::CZ es X.env:=by rfl) (uE:(Ku pos (CZ es X.env)).any (·.1)=false:=by rfl)
  (ht:CB (.Call (.Attribute o m apos) (e::es) [] pos) X.env=(do
   let ov <- CB o X.env
   standAt apos.atName
   let (f,first) <- R7 [ov] (getMethod ov m pl)
   callWith pos f first (Ku pos (CZ (e::es) X.env)) (backToKw pos (Sj [] X.env))):=by rfl):
  PE X (.Call (.Attribute o m apos) (e::es) [] pos) (VY P w K mg qf CX k m E ta t):=by
 subst h1 h2 h3 h4 h5;exact cT he hr hx ha M8 uE ht
end
def afP {us:ε}(h:us[us.length-1]?=some u):ib us (-1)=some u:=by
 let hl:us.length-1<us.length:=(ir.mp h).1
 let e:us=us.take (us.length-1)++[u]:=by
  refine N_ fun i=>?_;rw [List.getElem?_append,JT];by_cases z:i<us.length-1
  ·rw [tu bv,vt z]
  ·rw [qA bv]
   by_cases y:i=us.length-1
   ·rw [y,h]
    simp [XF (Nat.sub_le _ _)]
   ·rw [IW bv,IW (by simp;omega)]
 rw [e];exact ahF _ _
section
variable {prog:DN}{w:World}{A:JD}{E:γ}{s:BR}{d:AO}{o:Obj}{es:Array DictEntry}{ep:Nat}
def ach (hd:(d==Mf)=false):MeetsIn prog w (Builtin.«dict.__len__» ⟨[.ref d],[]⟩) (fun _ R s=>∃(o:Obj)(es:Array DictEntry)(ep:Nat),s.heap.get? d=some o/\o.data=.dict es ep/\R (.ok (.ret (.int es.size s.toks))) {s with toks:=s.toks+1}):=.of_wp fun A R s ⟨o,es,ep,ho,iJ,h⟩=>by
 show AV _ _ (dictSize d >>=_) _ _ s;refine AZ ?_;unfold dictSize;refine AZ (wpAny_dictEntries ho iJ (CK ?_));show AV _ _ (Builtin.Dict.pendingCount d >>=_) _ _ s;refine AZ (wpAny_pendingCount_other hd (wpAny_ret_mkInt ?_));simpa using h
def ac_ {Q:γ}(hd:(d==Mf)=false)(ho:s.heap.get? d=some o)(hx:o.ExactDict)(iJ:o.data=.dict es ep)(hf:(es.size:Int)<2^63)(h:Q (.int es.size (s.toks+1)) {s with toks:=s.toks+1+1}):AV (BC prog w) A (call (.builtin "len") [.ref d]) Q E s:=by
 let ty:s.TypeIs (.ref d) "dict":=⟨o,ho,hx.1⟩;refine Calls.call_function_entry kind_len plain_len entry_len (args_len1 _) ?_;unfold Builtin.«len»;refine AZ (m:=oneArg "len" _) (CK (AZ (m:=callSpecial? (.ref d) (L9 "__len__")) ?_));refine wpAny_callSpecial?_slot (name:=L9 "__len__") ty F.slot_dict_len (W7 F.slot_dict_len ty F.entry_dict_len (F.args_dict_len_1 _) (ach hd) ⟨o,es,ep,ho,iJ,?_⟩);show AV _ _ _ _ _ {s with toks:=s.toks+1};refine AZ (Og (CK (AZ (wpAny_letGo ?_))));show AV _ _ (if ((es.size:Nat):Int)<0 then _ else if ((es.size:Nat):Int)≥2^63 then _ else _) _ _ _;rw [qA bv,qA bv];exact AZ (wpAny_mkInt (CK ⟨_,rfl,h⟩))
end
section
variable {X:Cx}
inductive Ot (xs:ε)(H:Hp)(Q:VK):Prop
|mk (p:AO)(AN:Θ)(_:xs=[.ref p])(_:Rd H p (.dT AN))(_:Q (.int (AN.length:Int)) H)
def acP:fu X (.builtin "len") Ot:=by
 intro pX s Y H xs us Q I r h;obtain ⟨p,AN,rfl,hq,q⟩:=h;obtain ⟨u,rfl,r1⟩:=vals1 r;cases r1;obtain ⟨z,hd,ks,rel,o,es,ep,ho,hx,iJ,hk,_,hn⟩:=pM I.bY hq;let hl:AN.length=ks.length:=CV rel
 let he:es.size=AN.length:=by
  have:=ud O3 hk;rw [hl];simpa using this
 refine ac_ hd ho hx iJ (by rw [he];rw [Ws] at z;omega) ?_;rw [he];show ⟨.int _,H,I.tok _,⟨_,rfl⟩,q⟩
end
variable {X:Cx}
inductive Ou (K:Frag)(xs:ε)(H:Hp)(Q:VK):Prop
|mk (p:AO)(ys:ε)(_:xs=[.ref p])(_:bL K H p ys)(_:∀l,H l=none->Q (.ref l) (upd H l (.lst ys)))
def lJ:fu X (.type "list") (Ou X.K):=by
 intro pX s Y H xs us Q I r h;obtain ⟨p,ys,rfl,hq,q⟩:=h;obtain ⟨u,rfl,r1⟩:=vals1 r;cases r1;obtain ⟨AP,rv,⟨o,e,c,n,d⟩,hz⟩:=I.tuple hq;let hlen:=rv.length;refine call_list_seq p (.inr rfl) e c d (fun h' c' hk hl=>?_) (by simp;omega);let hn:=I.bY.fresh (BW s.heap.objs.size);let I2:Inv X pX Y (upd H s.heap.objs.size (.lst ys)) {s with heap:=h',toks:=s.toks}:=I.laid (t':=s.toks) hk (BW _) ⟨hz,AP,c',rv,hl⟩;show ⟨.ref _,_,I2,rfl,q _ hn⟩
inductive Ov {A0 A1:Type}(p:A0->A1->Prop):Prop where
 | mk (a0:A0)(a1:A1)(h:p a0 a1):Ov p
inductive MY {A0 A1 A2:Type}(p:A0->A1->A2->Prop):Prop where
 | mk (a0:A0)(a1:A1)(a2:A2)(h:p a0 a1 a2):MY p
inductive Ow {A0 A1 A2 A3:Type}(p:A0->A1->A2->A3->Prop):Prop where
 | mk (a0:A0)(a1:A1)(a2:A2)(a3:A3)(h:p a0 a1 a2 a3):Ow p
inductive Yu {A0 A1 A2 A3 A4:Type}(p:A0->A1->A2->A3->A4->Prop):Prop where
 | mk (a0:A0)(a1:A1)(a2:A2)(a3:A3)(a4:A4)(h:p a0 a1 a2 a3 a4):Yu p
inductive Ex9 {A0 A1 A2 A3 A4 A5 A6 A7 A8:Type}(p:A0->A1->A2->A3->A4->A5->A6->A7->A8->Prop):Prop where
 | mk (a0:A0)(a1:A1)(a2:A2)(a3:A3)(a4:A4)(a5:A5)(a6:A6)(a7:A7)(a8:A8)(h:p a0 a1 a2 a3 a4 a5 a6 a7 a8):Ex9 p
inductive α3 {A0 A1 A2 A3 A4 A5 A6 A7 A8 A9 A10:Type}(p:A0->A1->A2->A3->A4->A5->A6->A7->A8->A9->A10->Prop):Prop where
 | mk (a0:A0)(a1:A1)(a2:A2)(a3:A3)(a4:A4)(a5:A5)(a6:A6)(a7:A7)(a8:A8)(a9:A9)(a10:A10)(h:p a0 a1 a2 a3 a4 a5 a6 a7 a8 a9 a10):α3 p
section
variable {P:DN}{w:World}{K:Frag}{mg:ν}{qf:Heap}{CX:mi}{N ps:τ}{k:Nat}{sp:Sp}{st:Stmt}
def Def.oo (D:Def K mg x st ps)(S:aC N ps (ae st))
  (gT:∀{f:AO} {cD:Value} {A:JD} {qw:List Env} {s:BR} {vs:ε} {Q:VK} {E:XK} (H:Hp),cG k (A.deeper (NS x (ae st) s.heap.objs.size f cD))->sp vs H Q E->
   ∃t,vf (mz CX P w K mg qf N x (ae st) f cD A qw s H E).xC (au st) t/\t {nx:=fun _ H'=>Q .cL H',rt:=Q} (start N vs) H) (len:∀vs H Q E,sp vs H Q E->vs.length=ps.length:=by intro vs H Q E h;cases h;subst_vars;rfl):Fn P w K mg qf CX (k+1) x ps sp:=D.ok S len fun _ _ _ _ _ H _ _ _ hr h=>gT H hr h
def Def.op (D:Def K mg x st ps)(S:aC N ps (ae st))
  (gT:∀(f:AO)(cD:Value)(A:JD)(qw:List Env)(s:BR)(H:Hp)(vs:ε)(Q:VK)(E:XK),cG k (A.deeper (NS x (ae st) s.heap.objs.size f cD))->sp vs H Q E->
   ∃t,vf (mz CX P w K mg qf N x (ae st) f cD A qw s H E).xC (au st) t/\t {nx:=fun _ H'=>Q .cL H',rt:=Q} (start N vs) H) (len:∀vs H Q E,sp vs H Q E->vs.length=ps.length:=by intro vs H Q E h;cases h;subst_vars;rfl):Fn P w K mg qf CX (k+1) x ps sp:=D.ok S len gT
def fV (F:qk K name qual st f fd)(S:aC N ps (ae st))
  (gT:∀{cD:Value} {A:JD} {qw:List Env} {s:BR} {vs:ε} {Q:VK} {E:XK} (H:Hp),cG k (A.deeper (NS qual (ae st) s.heap.objs.size f cD))->sp vs H Q E->
   ∃t,vf (xk P w K mg qf N qual (ae st) f cD A qw s H E).xC (au st) t/\t {nx:=fun _ H'=>Q .cL H',rt:=Q} (start N vs) H) (len:∀vs H Q E,sp vs H Q E->vs.length=ps.length:=by intro vs H Q E h;cases h;subst_vars;rfl):dm P w K mg qf (aY P w) (k+1) f fd ps sp:=FX F S len fun _ _ _ _ H _ _ _ hr h=>gT H hr h
def AG (P:DN)(w:World):Passes (aY P w) X.xC E0:=rH aY.yd
end
section
variable {X:Cx}{i:Nat}{x y:Str}{a b c d e e1 e2 e3 e4 e5 elt target iter:Expr}{es ifs:Δ}{te ta tb t1 t2 t3 t4 t5:TE}{wi:TI}{g:TG}{tt:TT}{pos pos' py oC p:Pos}{scope:Scope}{tn fr:τ}{tw:Ζ}
def aJ (i:Nat)(hN:X.N.Nodup)(he:PE X e te)(hi:X.N[i]?=some x:=by rfl)(hx:Loc X.env.scope x:=by first|exact .inl rfl|exact .inr rfl)(hs:QJ e (some (.Name x pos')) pos.line X.env=pure false:=by rfl)(hf:X.fn x=true\/X.env.scope.names.lookup x=some .local:=by first|exact .inl rfl|exact .inr rfl|assumption):
  PS X (.Assign [.Name x pos'] e pos) (xO te (cX i)):=adl hN hi hx he hs hf
def bZ (i:Nat)(hN:X.N.Nodup)(hi:X.N[i]?=some x:=by rfl)(hx:Loc X.env.scope x:=by first|exact .inl rfl|exact .inr rfl)(hf:X.fn x=true\/X.env.scope.names.lookup x=some .local:=by first|exact .inl rfl|exact .inr rfl|assumption):PG X (.Name x pos) (cX i):=gF hN hi hx hf
def bG (hr:TU X r)(ha:PE X a ta)(hb:PE X b tb)(hs:FG b:=by exact fun _ _=>rfl):PE X (.Subscript a b pos) (QS r ta tb):=Nq hr ha hb hs
def bB (ho:kD X (Mb op) r)(ha:PE X a ta)(hb:PE X b tb)(hm:Se op b=false:=by exact iz _):PT X (.Compare a [op] [b] pos) (TL (QS r ta tb)):=my ho ha hb hm
def aK (h1:PE X e1 t1)(s1:isStar e1=false:=by rfl):PA X [e1] (pI t1 eG):=jr h1 iA s1
def aT (h1:PE X e1 t1)(h2:PE X e2 t2)(s1:isStar e1=false:=by rfl)(s2:isStar e2=false:=by rfl):PA X [e1,e2] (pI t1 (pI t2 eG)):=jr h1 (aK h2 s2) s1
def bE (h1:PE X e1 t1)(h2:PE X e2 t2)(h3:PE X e3 t3)(s1:isStar e1=false:=by rfl)(s2:isStar e2=false:=by rfl)(s3:isStar e3=false:=by rfl):PA X [e1,e2,e3] (pI t1 (pI t2 (pI t3 eG))):=jr h1 (aT h2 h3 s2 s3) s1
def GN (h1:closureFor scope X.env=pure (bu X.env fr):=by exact rfl)(h2:∀y∈scope.names,y.2≠.cell:=by decide+kernel)(h3:scope.kind=.function:=by exact rfl)(h4:∀y∈scope.names,y.2=.local->scope.names.lookup y.1=some .local:=by decide+kernel)(h5:∀y∈scope.names,y.2=.free->y.1∈fr:=by decide+kernel)(h6:tw.map (fun i=>X.N[i]?)=fr.map some:=by exact rfl)
  (h7:gu X.env fr:=by repeat (first|exact trivial|show ⟨by first|exact Np rfl|exact Oq rfl,?_⟩)) (h8:gu (compEnvC scope [] 0 X.env) fr:=by repeat (first|exact trivial|show ⟨by first|exact Np rfl|exact Oq rfl,?_⟩)):vD X scope fr tw:=⟨h1,h2,h3,h4,h5,h6,h7,h8⟩
def Ox (hi:PI X target iter wi)(hg:∀C s H fp,PG (qK X (tn++fr) scope (bu X.env fr) C s H fp) target g)(ht:∀C s H fp,PF (qK X (tn++fr) scope (bu X.env fr) C s H fp) ifs tt)(he:∀{C s H fp},PE (qK X (tn++fr) scope (bu X.env fr) C s H fp) elt te)
  (hc:X.calm=true:=by rfl) (B:vD X scope fr tw:=by exact GN) (hs:∀x,QK iter X.env x=pure x:=by intro _;rfl):PE X (.ListComp elt [⟨target,iter,ifs,0⟩] scope pos) (mH tn.length tw wi g tt te):=FO hc B hi hg ht (fun _ _ _ _=>he) hs
def α4 (hN:(tn++fr).Nodup)(h0:(tn++fr)[0]?=some y)(hx:∀C s H fp,Loc (qK X (tn++fr) scope (bu X.env fr) C s H fp).env.scope y)(hl:∀C s H fp,(qK X (tn++fr) scope (bu X.env fr) C s H fp).fn y=true\/(qK X (tn++fr) scope (bu X.env fr) C s H fp).env.scope.names.lookup y=some .local):∀C s H fp,PG (qK X (tn++fr) scope (bu X.env fr) C s H fp) (.Name y py) (cX 0):=fun C s H fp=>gF hN h0 (hx C s H fp) (hl C s H fp)
def dj (hi:PI X (.Name y py) iter wi)(he:∀{C s H fp},PE (qK X (tn++fr) scope (bu X.env fr) C s H fp) elt te)
  (hc:X.calm=true:=by rfl) (B:vD X scope fr tw:=by exact GN) (hs:∀x,QK iter X.env x=pure x:=by intro _;rfl) (hN:(tn++fr).Nodup:=by decide+kernel) (h0:(tn++fr)[0]?=some y:=by rfl) (hx:∀C s H fp,Loc (qK X (tn++fr) scope (bu X.env fr) C s H fp).env.scope y:=by exact fun _ _ _ _=>.inl rfl) (hl:∀C s H fp,(qK X (tn++fr) scope (bu X.env fr) C s H fp).fn y=true\/(qK X (tn++fr) scope (bu X.env fr) C s H fp).env.scope.names.lookup y=some .local:=by intro _ _ _ _;first|exact .inl rfl|exact .inr rfl):PE X (.ListComp elt [⟨.Name y py,iter,[],0⟩] scope pos) (mH tn.length tw wi (cX 0) kF te):=FO hc B hi (α4 hN h0 hx hl) (fun _ _ _ _=>rK) (fun _ _ _ _=>he) hs
def ai2 (hN:X.N.Nodup)(hi:PI X target iter wi)(hg:∀C s H fp,PG (qK X (tn++fr) scope (bu X.env fr) C s H fp) target g)(ht:∀C s H fp,PF (qK X (tn++fr) scope (bu X.env fr) C s H fp) ifs tt)(he:∀{C s H fp},PE (qK X (tn++fr) scope (bu X.env fr) C s H fp) elt te)
  (Ra:X.N[i]?=some x:=by rfl) (hx:Loc X.env.scope x:=by first|exact .inl rfl|exact .inr rfl) (hc:X.calm=true:=by rfl) (B:vD X scope fr tw:=by exact GN) (vE:QJ (.ListComp elt [⟨target,iter,ifs,0⟩] scope pos) (some (.Name x py)) oC.line X.env=pure true:=by rfl)
  (hs:∀x,QK iter X.env x=pure x:=by intro _;rfl) (hf:X.fn x=true\/X.env.scope.names.lookup x=some .local:=by first|exact .inl rfl|exact .inr rfl|assumption):
  PS X (.Assign [.Name x py] (.ListComp elt [⟨target,iter,ifs,0⟩] scope pos) oC) (xO (mH tn.length tw wi g tt te) (cX i)):=FP hN Ra hx hc B hi hg ht (fun _ _ _ _=>he) vE hs hf
def r6 (hN:X.N.Nodup)(hi:PI X (.Name y yp) iter wi)(he:∀{C s H fp},PE (qK X (tn++fr) scope (bu X.env fr) C s H fp) elt te)
  (Ra:X.N[i]?=some x:=by rfl) (hx:Loc X.env.scope x:=by first|exact .inl rfl|exact .inr rfl) (hc:X.calm=true:=by rfl) (B:vD X scope fr tw:=by exact GN) (vE:QJ (.ListComp elt [⟨.Name y yp,iter,[],0⟩] scope pos) (some (.Name x py)) oC.line X.env=pure true:=by rfl)
  (hs:∀x,QK iter X.env x=pure x:=by intro _;rfl) (hf:X.fn x=true\/X.env.scope.names.lookup x=some .local:=by first|exact .inl rfl|exact .inr rfl|assumption) (α5:(tn++fr).Nodup:=by decide+kernel) (h0:(tn++fr)[0]?=some y:=by rfl) (hx2:∀C s H fp,Loc (qK X (tn++fr) scope (bu X.env fr) C s H fp).env.scope y:=by exact fun _ _ _ _=>.inl rfl) (hl:∀C s H fp,(qK X (tn++fr) scope (bu X.env fr) C s H fp).fn y=true\/(qK X (tn++fr) scope (bu X.env fr) C s H fp).env.scope.names.lookup y=some .local:=by intro _ _ _ _;first|exact .inl rfl|exact .inr rfl):
  PS X (.Assign [.Name x py] (.ListComp elt [⟨.Name y yp,iter,[],0⟩] scope pos) oC) (xO (mH tn.length tw wi (cX 0) kF te) (cX i)):=FP hN Ra hx hc B hi (α4 α5 h0 hx2 hl) (fun _ _ _ _=>rK) (fun _ _ _ _=>he) vE hs hf
def aS {E:XK}(F:Fn X.prog X.w X.K X.mg X.qf (aY P w) k x ps sp)(hr:cG l X.A)(ha:PA X (e::es) t)(hk:k<=l:=by decide)(hx:Passes (aY P w) X E:=by exact rH aY.yd)(hg:Gl X x:=by rfl)(xS:(x==("__debug__":Str))=false:=by decide)
  (he:CZ (e::es) X.env=(false,CB e X.env)::CZ es X.env:=by rfl) (uE:(Ku pos (CZ es X.env)).any (·.1)=false:=by rfl):PE X (.Call (.Name x p) (e::es) [] pos) (EZ sp [] E t):=rJ F (hr.mono hk) hx ha hg xS he uE
def pS {E:XK}(F:Fn X.prog X.w X.K X.mg X.qf (aY P w) k x ps sp)(hr:cG l X.A)(ha:PA X (e::es) t)(hk:k<=l:=by decide)(hx:Passes (aY P w) X E:=by exact T6 aY.yd rfl)(hg:Gl X x:=by rfl)(xS:(x==("__debug__":Str))=false:=by decide)
  (he:CZ (e::es) X.env=(false,CB e X.env)::CZ es X.env:=by rfl) (uE:(Ku pos (CZ es X.env)).any (·.1)=false:=by rfl):PE X (.Call (.Name x p) (e::es) [] pos) (EZ sp [] E t):=rJ F (hr.mono hk) hx ha hg xS he uE
end
end Ty
namespace T_k54
open PySem PySem.Spec PyProof.Rows L2 Ty
open Builtin.Int (intBits)
abbrev ac (P:DN)(w:World)(K:Frag)(mg:ν)(qf:Heap):=Fn P w K mg qf (aY P w)
abbrev ad (P:DN)(w:World)(K:Frag)(mg:ν)(qf:Heap):=dm P w K mg qf (aY P w)
abbrev am (P:DN)(w:World)(K:Frag)(mg:ν)(qf:Heap):=bH P w K mg qf (aY P w)
abbrev ap (a:AO):Option V:=some (.ref a)
theorem sq2 {a b c:TS}{D Y H}(s:let y:=c;let z:=YY b y;YY a z D Y H):YY a (YY b c) D Y H:=s
theorem sq3 {a b c d:TS}{D Y H}(s:let x:=d;let y:=YY c x;let z:=YY b y;YY a z D Y H):YY a (YY b (YY c d)) D Y H:=s
theorem sq4 {a b c d e:TS}{D Y H}(s:let w:=e;let x:=YY d w;let y:=YY c x;let z:=YY b y;YY a z D Y H):YY a (YY b (YY c (YY d e))) D Y H:=s
theorem sq6 {a b c d e f g:TS}{D Y H}(s:let u:=g;let v:=YY f u;let w:=YY e v;let x:=YY d w;let y:=YY c x;let z:=YY b y;YY a z D Y H):YY a (YY b (YY c (YY d (YY e (YY f g))))) D Y H:=s
theorem sq8 {a b c d e f g h i:TS}{D Y H}(s:let r:=i;let t:=YY h r;let u:=YY g t;let v:=YY f u;let w:=YY e v;let x:=YY d w;let y:=YY c x;let z:=YY b y;YY a z D Y H):YY a (YY b (YY c (YY d (YY e (YY f (YY g (YY h i))))))) D Y H:=s
local macro_rules|`(tactic|sleep 2)=>`(tactic|(try dsimp only [xk,mz,Cx.xC,Cx.tQ];refine sq2 ?_;intros))|`(tactic|sleep 3)=>`(tactic|(try dsimp only [xk,mz,Cx.xC,Cx.tQ];refine sq3 ?_;intros))|`(tactic|sleep 4)=>`(tactic|(try dsimp only [xk,mz,Cx.xC,Cx.tQ];refine sq4 ?_;intros))|`(tactic|sleep 6)=>`(tactic|(try dsimp only [xk,mz,Cx.xC,Cx.tQ];refine sq6 ?_;intros))|`(tactic|sleep 8)=>`(tactic|(try dsimp only [xk,mz,Cx.xC,Cx.tQ];refine sq8 ?_;intros))
abbrev bn:=Nat->L2.St->Hp->Prop
def z0L:0<=BL:=ce
def z1L:1<=BL:=ce
def uo:2<=BL:=ce
def z3L:3<=BL:=ce
def z5L:5<=BL:=ce
def z10L:10<=BL:=ce
seal L2.PE L2.PS L2.vf L2.PA
abbrev KA:List Str:=["_law_one","_law_other"]
abbrev NW:List Str:=["_law_cell","_law_prime","_law_many"]
abbrev RK:List Str:=["_law_frame_here","_law_pins_here","_law_bars_here","_law_cell"]
abbrev RG:List Str:=["_law_pins_here","_law_bars_here","_law_pulls","_law_pushes"]
abbrev WV:List Str:=["_law_frame_here","_law_pins_here","_law_name_here","_law_spot_here","_law_ways_here"]
abbrev Oi:List Str:=["self","name","one","other"]
abbrev Z_:List Str:=["_law_frame_here","_law_pins_here","_law_bars_here","_law_counts","_law_cell"]
abbrev WU:List Str:=["_law_pins_here","_law_bars_here","_law_new_here","_law_told"]
abbrev JB:List Str:=["self"]
abbrev ZX:List Str:=["_law_pins_here","_law_bars_here","_law_pulls","_law_pushes","_law_load"]
abbrev ZT:List Str:=["_law_frame_here","_law_pins_here","_law_bars_here","_law_cell","_law_k"]
abbrev LW:List Str:=["one","other"]
abbrev RE:List Str:=["_law_pins_here","_law_motion"]
abbrev ZS:List Str:=["_law_frame_here","_law_bars_here","_law_counts","_law_cell"]
abbrev V2:List Str:=["_law_pins_here","_law_bar","_law_axis"]
abbrev Mg:List Str:=["self","pin"]
abbrev WT:List Str:=["_law_found","_law_k","_law_axis","_law_draw"]
abbrev WO:List Str:=["_law_pins_here","_law_name_here","_law_cell"]
abbrev Oh:List Str:=["F","one","other"]
abbrev V1:List Str:=["self","name","x","y","hold"]
abbrev OF:List Str:=["F","numbers"]
abbrev ZQ:List Str:=["_law_pins_here","_law_bar","_law_motion"]
abbrev V':List Str:=["_law_top","_law_bottom"]
abbrev Oo:List Str:=["rows","many"]
abbrev QP:List Str:=["lines","many"]
abbrev So:List Str:=["_law_script","_law_k"]
abbrev oP:List Str:=["_law_pins_here","_law_bars_here"]
abbrev Wq:List Str:=["F","name","one","other"]
abbrev oF:List Str:=["_law_script","_law_pins_here"]
abbrev JR:List Str:=["F"]
abbrev Ru:List Str:=["top","bottom"]
abbrev Rt:List Str:=["self","x","y"]
abbrev Wo:List Str:=["_law_cell","_law_k"]
abbrev Rq:List Str:=["self","name"]
abbrev mf:List Str:=["needed","column","many"]
abbrev mS:List Str:=["_law_cell","_law_kind"]
abbrev Zx:List Str:=["line","lead","column"]
abbrev RL:List Str:=["_law_one"]
abbrev zaM:List Str:=["_law_cell","_law_k","_law_style","_law_at"]
abbrev V8:List Str:=["_law_script"]
abbrev Wn:List Str:=["F","rows","at"]
abbrev Zn:List Str:=["rows","due","many"]
abbrev Zm:List Str:=["lines","column"]
abbrev V7:List Str:=["numbers"]
abbrev Wk:List Str:=["F","draws"]
abbrev Wh:List Str:=["_law_cell"]
abbrev zaU:List Str:=["whole","other","times","less"]
abbrev Wd:List Str:=["_law_pin"]
abbrev Ze:List Str:=["self","bar"]
abbrev zaX:List Str:=["share","whole"]
abbrev Wb:List Str:=["_law_x"]
def sq {N P:τ}{sc:Scope}(a:sc.kind=.function:=by exact rfl)(b:sc.isCoroutine=false:=by exact rfl)(c:sc.isGenerator=false:=by exact rfl)(d:N.Nodup:=by decide+kernel)(e:N.take P.length=P:=by exact rfl)(f:∀x∈P,sc.names.lookup x=some .local\/sc.names.lookup x=some .cell:=by decide+kernel)(g:∀y∈sc.names,y.2≠.free:=by decide+kernel):aC N P sc:=⟨a,b,c,d,e,f,g⟩
def pY (P:DN)(w:World){X:Cx}:Passes (aY P w) X.xC E0:=rH aY.yd
def pins {X:Cx}:Passes (aY P w) X.xC E0:=rH aY.yd
def _root_.L2.cG.mo (r:L2.cG k A)(h:j<=k:=by decide):L2.cG j A:=r.mono h
def aF (h:PE X a ta):PE X (.Subscript a (.Constant (.int i) j p1) p2) (QS (Nr X.K) ta (tC (.int i))):=Nq lC h ag (fun _ _=>rfl)
def iw (h:PE X a ta):PE X (.Subscript a (.Constant (.int i) j p1) p2) (QS (Q6 X.K) ta (tC (.int i))):=Nq aU h ag (fun _ _=>rfl)
def bl1{P:List Value->Prop}(h:∀a:Value,P [a]):∀us:List Value,us.length=1->P us|[_],_=>h _
def blS{P:List Value->Prop}{n:Nat}(h:∀a us,us.length=n->P (a::us)):∀us:List Value,us.length=n+1->P us|a::us,e=>h a us (Nat.succ.inj e)
def bl2{P:List Value->Prop}(h:∀a b:Value,P [a,b]):∀us:List Value,us.length=2->P us:=blS fun a=>bl1 (h a)
def bl3{P:List Value->Prop}(h:∀a b c:Value,P [a,b,c]):∀us:List Value,us.length=3->P us:=blS fun a=>bl2 (h a)
def bl4{P:List Value->Prop}(h:∀a b c d:Value,P [a,b,c,d]):∀us:List Value,us.length=4->P us:=blS fun a=>bl3 (h a)
def bl5{P:List Value->Prop}(h:∀a b c d e:Value,P [a,b,c,d,e]):∀us:List Value,us.length=5->P us:=blS fun a=>bl4 (h a)
def bl6{P:List Value->Prop}(h:∀a b c d e f:Value,P [a,b,c,d,e,f]):∀us:List Value,us.length=6->P us:=blS fun a=>bl5 (h a)
def bl7{P:List Value->Prop}(h:∀a b c d e f g:Value,P [a,b,c,d,e,f,g]):∀us:List Value,us.length=7->P us:=blS fun a=>bl6 (h a)
def _root_.L2.qk.CC {K:Frag}{st:Stmt}(F:L2.qk K x qual st f fd)
 (h:∀(kV doc pm:Value)(an:Μ)(cD ct:Value)(us:ς),us.length=ps.length->bindArgs (fnOf x qual (aw st) (au st) (ae st) .none kV doc pm an cD ct) ⟨us,[]⟩=pure (ps.zip us):=by intro _ _ _ _ _ _;first|exact bl1 fun _=>rfl|exact bl2 fun _ _=>rfl|exact bl3 fun _ _ _=>rfl|exact bl4 fun _ _ _ _=>rfl|exact bl5 fun _ _ _ _ _=>rfl):Binds K fd ps []:=F.binds h
inductive tF (K:Frag)(x:Str)(st:Stmt):Prop|mk{f:AO}{oc:Value}{od an:Μ}{tH:Ξ}{kV doc pm cD ct:Value}(a:nsIn K DG x=some (some (.ref f)))(l:K.lookup f=some ⟨oc,od,.func (fnOf x x (aw st) (au st) (ae st) .none kV doc pm an cD ct),tH⟩)(c:codeIn K cD x=true)(k:keepIn K (.ref f)=true):tF K x st
inductive xl (K:Frag)(C:AO)(x q:Str)(st:Stmt):Prop|mk{f:AO}{oc:Value}{od an:Μ}{tH:Ξ}{kV doc pm cD ct:Value}(a:JY K (.ref C) x=some (some (.ref f)))(i:ZG K (.ref f)=true)(l:K.lookup f=some ⟨oc,od,.func (fnOf x q (aw st) (au st) (ae st) .none kV doc pm an cD ct),tH⟩)(c:codeIn K cD q=true)(k:keepIn K (.ref f)=true):xl K C x q st
def fN {K:Frag}{mg:ν}{st:Stmt}(X:K.In h)(G:h.Ns DG mg)(H:tF K x st)
 (b:∀(kV doc pm:Value)(an:Μ)(cD ct:Value)(us:ς),us.length=ps.length->bindArgs (fnOf x x (aw st) (au st) (ae st) .none kV doc pm an cD ct) ⟨us,[]⟩=pure (ps.zip us):=by intro _ _ _ _ _ _;first|exact bl1 fun _=>rfl|exact bl2 fun _ _=>rfl|exact bl3 fun _ _ _=>rfl|exact bl4 fun _ _ _ _=>rfl|exact bl5 fun _ _ _ _ _=>rfl|exact bl6 fun _ _ _ _ _ _=>rfl|exact bl7 fun _ _ _ _ _ _ _=>rfl):Def K mg x st ps:=have ⟨a,l,c,k⟩:=H;Def.of (dJ l c k) ((dJ l c k).binds b) (mg_of X G a)
def top (i:Nat):Stmt:=PySem.Challenge.pw_trussyard_k54_whole_counts_at_changes.main.body.getD i (.Pass ⟨0,0,0,0⟩)
abbrev CD:Stmt:=top 14
abbrev yH:Stmt:=top 15
abbrev KD:Stmt:=top 16
abbrev KG:Stmt:=top 19
abbrev CG:Stmt:=top 20
abbrev fW:Stmt:=top 22
abbrev KH:Stmt:=top 23
abbrev KI:Stmt:=top 24
abbrev KJ:Stmt:=top 25
abbrev KN:Stmt:=top 26
abbrev KP:Stmt:=top 27
abbrev KR:Stmt:=top 28
abbrev KS:Stmt:=top 30
abbrev cW:Stmt:=top 31
abbrev d0:Stmt:=top 32
abbrev KU:Stmt:=top 33
abbrev KW:Stmt:=top 34
abbrev KY:Stmt:=top 35
abbrev K_:Stmt:=top 36
abbrev K':Stmt:=top 37
abbrev La:Stmt:=top 38
abbrev Lb:Stmt:=top 39
abbrev fe:Stmt:=top 41
abbrev Lc:Stmt:=top 42
abbrev Ld:Stmt:=top 43
abbrev ff:Stmt:=top 53
abbrev d3:Stmt:=top 55
abbrev fg:Stmt:=top 56
abbrev Le:Stmt:=top 58
abbrev Lf:Stmt:=top 59
abbrev Lg:Stmt:=top 60
abbrev Lh:Stmt:=top 61
abbrev Li:Stmt:=top 62
abbrev Lj:Stmt:=top 63
abbrev CH:Stmt:=top 64
abbrev Lk:Stmt:=top 65
abbrev Ll:Stmt:=top 66
abbrev Lm:Stmt:=top 67
abbrev Lo:Stmt:=top 68
abbrev Lp:Stmt:=top 69
abbrev Lq:Stmt:=top 70
abbrev Lr:Stmt:=top 71
abbrev Ls:Stmt:=top 72
abbrev Lu:Stmt:=top 73
abbrev Lv:Stmt:=top 74
abbrev Lw:Stmt:=top 75
abbrev Ly:Stmt:=top 76
abbrev Lz:Stmt:=top 77
abbrev LA:Stmt:=top 78
abbrev LB:Stmt:=top 79
abbrev LC:Stmt:=top 80
abbrev gM:Stmt:=top 81
abbrev gN:Stmt:=top 82
abbrev fX:Stmt:=top 83
abbrev fY:Stmt:=top 84
abbrev dF:Stmt:=top 85
abbrev dG:Stmt:=top 86
abbrev cF:Stmt:=top 87
abbrev mO:Stmt:=top 88
abbrev LD:Stmt:=inClass (top 47) 0
abbrev qm:Stmt:=inClass (top 47) 1
abbrev LF:Stmt:=inClass (top 47) 2
abbrev LG:Stmt:=inClass (top 47) 3
abbrev LH:Stmt:=inClass (top 47) 4
abbrev LI:Stmt:=inClass (top 47) 5
abbrev cK:Stmt:=inClass (top 47) 6
abbrev LJ:Stmt:=inClass (top 47) 7
abbrev LK:Stmt:=inClass (top 47) 8
abbrev LL:Stmt:=inClass (top 47) 9
abbrev LM:Stmt:=inClass (top 47) 10
abbrev LN:Stmt:=inClass (top 47) 11
abbrev Rz:Stmt:=inClass (top 49) 0
abbrev LO:Stmt:=inClass (top 50) 0
abbrev LP:Stmt:=inClass (top 50) 1
abbrev LQ:Stmt:=inClass (top 51) 0
section
variable {P:DN}{w:World}{K:Frag}{mg:ν}{qf:Heap}{CX:mi}
def Nm (H:Hp)(v:V)(q:Int×Int):Prop:=∃p,v=.ref p/\H p=some (.tup [.int q.1,.int q.2])
structure α6 (k:Nat)(q:Int×Int):Prop where
 pos:0<q.2
 top:intBits q.1<=k
 bot:intBits q.2<=k
def aG (h:H p=none)(o:HO):aq H (upd H p o):=fun b u q=>by rwa [ak (ao q h)]
def nw (n:H l=none)(e:upd H l o=H'):aq H H'/\H' l=some o:=by subst e;show ⟨aG n o,aj⟩
local macro_rules|`(tactic|intros $l:ident $n:ident $h:ident $s:ident $e:ident)=>`(tactic|(intro $l:ident $n:ident;generalize eX:upd _ $l _=$h;have ⟨$s,$e⟩:=nw $n eX))
def gives (H:Hp)(Q:VK)(q:Int×Int):Prop:=∀(p:AO)(H':Hp),aq H H' ->H' p=some (.tup [.int q.1,.int q.2])->Q (.ref p) H'
inductive iP (vs:ε)(H:Hp)(Q:VK)(E_:XK):Prop
|mk (a b:Int)(_:vs=[.int a,.int b])(_:Q (.int (gz a b)) H)
def subQ (x y:Int×Int):Int×Int:=low (x.1*y.2-y.1*x.2) (x.2*y.2)
def ads (hx:α6 k x)(hy:α6 l y):x.2*y.2≠0:=O5 (RT hx.pos hy.pos)
def jz {a b:V}:ib [a,b] 0=some a:=rfl
def jQ {a b:V}:ib [a,b] 1=some b:=rfl
def Nm.kept (h:Nm H v q)(hD:H D=some (.lst ys))(k:bo D H H'):Nm H' v q:=by
 obtain ⟨p,e,z⟩:=h;show ⟨p,e,k p _ (fun e=>by erw [e,hD] at z) z⟩
inductive Ln (H:Hp)(v:V)(l:ο):Prop
|mk (p:_)(_:v=.ref p)(_:H p=some (.lst (l.map V.int)))
def Ln.qg (h:Ln H v l)(s:aq H H'):Ln H' v l:=by
 obtain ⟨p,e,k⟩:=h;show ⟨p,e,s _ _ k⟩
def r8 (H:Hp)(us:ε)(ls:ζ):Prop:=us.length=ls.length/\∀(i:Nat)(u:V)(l:ο),us[i]?=some u->ls[i]?=some l->Ln H u l
theorem r8.qg (h:r8 H us ls)(s:aq H H'):r8 H' us ls:=⟨h.1,fun i u l e1 e2=>(h.2 i u l e1 e2).qg s⟩
def pT {l:ο}(h:j<l.length):ib (l.map V.int) (j:Int)=some (.int (l.getD j 0)):=bK (by rw [AY,gE h,JE,gE h];rfl)
def getD_mem {l:ο}(e:l[j]?=some x):l.getD j 0=x:=by rw [JE,e];rfl
def Bd (b:Nat)(l:ο):Prop:=∀j,(l.getD j 0).natAbs<=2^b
def Bd.mem (h:Bd b l)(hx:x∈l):x.natAbs<=2^b:=by
 obtain ⟨i,hi⟩:=IV hx;rw [<-getD_mem hi];exact h i
def Bd.up (h:Bd b l)(hc:b<=c):Bd c l:=fun j=>rN (h j) hc
def GO:aC ["one","other","left"] LW (ae KD):=sq
def ag7 (D:Def K mg "greatest_shared" KD LW)(uY:mg "abs"=none):Fn P w K mg qf CX 1 "greatest_shared" LW iP:=by
 refine D.oo GO fun H hr h=>?_;obtain ⟨a,b,rfl,q⟩:=h
 show ⟨_,(aa (rh I_ (bB jo (pv 1) ag) (aa (aJ 2 GO.nd (aH gG (pv 0) (pv 1))) (aa (aJ 0 GO.nd (pv 1)) (ah (aJ 1 GO.nd (pv 2)))))) (ah (aE (aD xQ rfl uY T1 (aK (pv 0)))))),?_⟩
 refine xP (fun Y H'=>MY fun (x y:Int) (l:Ε)=>Y=[some (.int x),some (.int y),l]/\H'=H/\JF x y=JF a b) (fun Y _=>match Y with|[_,some (.int y),_]=>y.natAbs|_=>0) ⟨a,b,none,rfl,rfl,rfl⟩ ?_ ?_
 ·rintro Y H' ⟨x,y,l,rfl,rfl,g⟩
  show ⟨_,rfl,rfl,_,rfl,?_⟩;refine bf (fun c=>?_) (fun c=>?_)
  ·let hy:y≠0:=by
    intro z;subst z;simp at c
   show ⟨_,rfl,_,rfl,_,_,rfl,rfl,hy,_,rfl,_,rfl,⟨_,_,_,rfl,rfl,by rwa [x6]⟩,uL hy⟩
  ·let hy:y=0:=by
    have:=s_.mpr c;simp at this;exact this
   subst hy;show ⟨_,rfl,x,rfl,?_⟩
   let e:(if x<0 then -x else x)=gz a b:=by
    rw [aiR] at g;unfold gz;rw [<-g];split<;>omega
   rwa [e]
 ·rintro Y H' Q1 Q2 h ⟨v,e1,e2,k,ek,z⟩
  show ⟨v,e1,e2,k,ek,h _ _ z⟩
inductive gO (vs:ε)(H:Hp)(Q:VK)(E_:XK):Prop
|mk (t b:Int)(_:vs=[.int t,.int b])(_:b≠0)(_:gives H Q (low t b))
def Oy:aC ["top","bottom","shared"] Ru (ae yH):=sq
def ag2 (ht:P.given.tree=none)(D:Def K mg "lowest_terms" yH Ru)(CI:ac P w K mg qf 1 "greatest_shared" LW iP):ac P w K mg qf 33 "lowest_terms" Ru gO:=by
 refine D.op Oy fun f cD A qw s H vs Q E hr h=>?_;obtain ⟨t,b,rfl,hb,q⟩:=h
 let α9:∃tt,vf (mz (aY P w) P w K mg qf ["top","bottom","shared"] "lowest_terms" (ae yH) f cD A qw s H E).xC ((au yH).drop 2) tt/\∀g:Int,g=sg t b->tt {nx:=fun _ H'=>Q .cL H',rt:=Q} [some (.int t),some (.int b),some (.int g)] H:=by
  show ⟨_,(ah (aE (aZ (aT (aH (gW ht (Ty.cG.py hr ce) rfl rfl rfl rfl rfl) (pv 0) (pv 2)) (aH (gW ht (Ty.cG.py hr ce) rfl rfl rfl rfl rfl) (pv 1) (pv 2)))))),?_⟩;rintro g rfl;let c:=rC (t:=t) hb;show ⟨_,rfl,_,rfl,_,_,rfl,rfl,c,_,rfl,_,rfl,_,_,rfl,rfl,c,uo,fun p hp=>?_⟩;exact q p _ (aG hp _) aj
 obtain ⟨t2,p2,q2⟩:=α9;show ⟨_,(aa (aJ 2 Oy.nd (aS CI hr (aT (pv 0) (pv 1)))) (aa (bg (bB rm (pv 1) ag) (ah (aJ 2 Oy.nd (uB om (pv 2)))) aR) p2)),_,rfl,_,rfl,t,b,rfl,_,rfl,_,_,rfl,rfl,_,rfl,?_⟩;refine bf (fun c=>?_) (fun c=>?_)
 ·show ⟨_,rfl,_,rfl,q2 _ ?_⟩
  let c':b<0:=Mp c;unfold sg;rw [tu c']
 ·refine q2 _ ?_
  let c':¬ b<0:=of_decide_eq_false (s_.mpr c);unfold sg;rw [qA c']
inductive RB (K:Frag)(vs:ε)(H:Hp)(Q:VK)(E_:XK):Prop
|mk (a:AO)(qs:π)(T B:Nat)(_:vs=[.ref a])(_:ag9 K H a qs)(_:(∀q∈qs,Sm T B q))(_:T<=20000)(_:B*qs.length<=100000)(_:B<=8000)(_:qs.length<=1000)(_:∀(p l:AO)(ts:ο)(b:Int)(H':Hp),aq H H' ->H l=none->H' p=some (.tup [.ref l,.int b])->H' l=some (.lst (ts.map V.int))->0<b->b.natAbs<=2^(B*qs.length)->js ts qs b->(∀t∈ts,t.natAbs<=2^(T+B*qs.length))->Q (.ref p) H')
def GP:aC ["row","bottom","number"] ["row"] (ae KW):=sq
def zag (D:Def K mg "whole_row" KW ["row"])(CI:ac P w K mg qf 1 "greatest_shared" LW iP):ac P w K mg qf 2 "whole_row" ["row"] (RB K):=by
 refine D.oo GP fun H hr h=>?_;obtain ⟨a,qs,T,B,rfl,⟨us,hS,hN⟩,sm,hT,hB,hB1,hl,q⟩:=h
 show ⟨_,(aa (aJ 1 GP.nd ag) (aa (bJ I_ rfl (bw (pv 0)) (bZ 2 GP.nd) (ah (aJ 1 GP.nd (aH di (aH x9 (pv 1) (aS CI hr (aT (pv 1) (aF (pv 2))))) (aF (pv 2)))))) (ah (aE (aZ (aT (dj (tn:=["number"]) (fr:=["bottom"]) (tw:=[1]) (bw (pv 0)) (aH di (bG (cR (K:=K) rfl) (pv 0) ag) (aH x9 (pv 1) (bG (cR (K:=K) rfl) (pv 0) ag)))) (pv 1))))))),?_⟩;sleep 2
 let hlu:=hN.1
 let qat:∀{i:Nat} {u:V},us[i]?=some u->∃q,qs[i]?=some q/\og K H u q/\Sm T B q:=fun {i u} e=>by
  let hi:i<us.length:=(ir.mp e).1;let e2:qs[i]?=some (qs[i]'(jw hlu hi)):=gE (jw hlu hi);show ⟨_,e2,hN.2 i u _ e e2,sm _ (QV _)⟩
 show ⟨_,rfl,a,rfl,⟨_,hS⟩,let I:bn:=fun i Y H'=>Ov fun (b:Int) (o:Ε)=>Y=[ap a,some (.int b),o]/\H'=H/\0<b/\b.natAbs<=2^(B*i)/\∀j,j<i->∀q,qs[j]?=some q->q.2 ∣ b;cC (K:=K) (a:=a) (xs:=us) I ⟨1,none,rfl,rfl,ce,by simp,fun j h=>BH h (QY _)⟩ (fun i Y H' _ ⟨b,o,_,e,_⟩=>by rwa [e]) ?_ ?_⟩
 ·rintro i u Y H' hu ⟨b,o,rfl,rfl,hb,hs,hd⟩
  obtain ⟨n,en,⟨p,rfl,hp⟩,sn⟩:=qat hu;let hi:i<qs.length:=(ir.mp en).1;let nb:n.2.natAbs<=2^B:=sn.bot;obtain ⟨l1,l2,l3,l4⟩:=acW hb sn.pos;let gp:=vw (t:=b) (b:=n.2) (by have:=sn.pos;exact ms this);let gl:=zaQ (t:=b) (b:=n.2) (by have:=sn.pos;exact ms this)
  let sz:(b.fdiv (gz b n.2)*n.2).natAbs<=2^(B*(i+1)):=by
   refine BX l4 ?_;rw [Nat.mul_succ,VH];exact OT hs nb
  let bi:B*i<=100000:=BX (Nat.mul_le_mul_left B bv) hB;let g1:gz b n.2 ∣ b:=VQ ..;show ⟨_,rfl,_,rfl,_,rfl,p,_,_,_,rfl,rfl,hp,jQ,b,n.2,rfl,_,_,rfl,rfl,⟨ms gp,BX (j_ (BX gl nb) (NZ B)) bv⟩,_,rfl,p,_,_,_,rfl,rfl,hp,jQ,_,_,rfl,rfl,qM (BX (iG (ms gp) g1) hs) nb bv bv,_,_,rfl,rfl,l1,sz,fun j hj q' e'=>?_⟩
  rcases Vl.mp hj with z|z
  ·exact Int.dvd_trans (hd j z q' e') l2
  ·subst z
   erw [en] at e';exact l3
 ·rintro Y H' ⟨b,o,rfl,rfl,hb,hs,hd⟩
  rw [hlu] at hs hd;show ⟨_,rfl,a,rfl,⟨_,hS⟩,fun D nD=>?_⟩;refine cE (tG:=[some (.int b)]) (K:=K) (a:=a) (xs:=us) (fun i v _=>∃q,qs[i]?=some q/\v=.int (q.1*b.fdiv q.2)) nD (by rw [hlu];exact IY hl ce) (fun H2 s2=>s2.seq hS) (fun _ _ _ _ _ _ _ h=>h) ?_ ?_
  ·intro i u H2 R hu s2 k
   obtain ⟨n,en,⟨p,rfl,hp⟩,sn⟩:=qat hu;let Rg:=Ty.aq.bO s2 hp;let dv:=hd i (ir.mp en).1 n en;let n0:n.2≠0:=by have:=sn.pos;exact ms this
   show ⟨_,rfl,p,_,_,_,rfl,rfl,Rg,jz,_,rfl,_,rfl,p,_,_,_,rfl,rfl,Rg,jQ,_,_,rfl,rfl,⟨n0,BX (j_ sn.bot (NZ B)) bv⟩,_,_,rfl,rfl,qM sn.top (BX (iG n0 dv) hs) bv bv,k _ _ (aq.refl _) ⟨n,en,rfl⟩⟩
  ·intro ys H2 hy gv s2 hD
   let ey:ys=(qs.map fun n=>n.1*b.fdiv n.2).map V.int:=by
    refine N_ fun i=>?_;by_cases hi:i<ys.length
    ·let e1:ys[i]?=some ys[i]:=gE hi
     obtain ⟨n,en,ev⟩:=gv i _ e1;rw [e1,ev,AY,AY,en];rfl
    ·rw [IW (ii hi),IW (by simp;omega)]
   show ⟨_,rfl,uo,fun p np=>?_⟩;let s3:=aG np (.tup [.ref D,.int b]);refine q p D (qs.map fun n=>n.1*b.fdiv n.2) b _ (s2.trans s3) nD aj (s3 _ _ (by rw [hD,ey])) hb hs ⟨by simp,fun i t n e1 e2=>?_⟩ (fun t ht=>?_)
   ·rw [AY,e2] at e1
    have NL :n.1*b.fdiv n.2=t:=C_ e1;rw [<-NL];exact ab_ (sm n (Wp e2)).pos (hd i (ir.mp e2).1 n e2)
   ·obtain ⟨n,hn,rfl⟩:=AW.mp ht
    obtain ⟨i,hi⟩:=IV hn;let n0:n.2≠0:=by have:=(sm n hn).pos;exact ms this
    exact vJ (sm n hn).top (BX (iG n0 (hd i (ir.mp hi).1 n hi)) hs)
structure Dv (l l':ο):Prop where
 len:l'.length=l.length
 Ue:∃g:Int,g≠0/\∀j,g*l'.getD j 0=l.getD j 0
def Wt (l:ο):Prop:=α1 l\/∀j,l.getD j 0=0
def yI {l:ο}(h:∀j,d ∣ l.getD j 0){i:Nat}(e:l[i]?=some x):d ∣ x:=by
 rw [<-getD_mem e];exact h i
inductive oM (vs:ε)(H:Hp)(Q:VK)(E_:XK):Prop
|mk (v:V)(l:ο)(_:vs=[v])(_:Ln H v l)(_:l.length<=1000)(_:∀v' l' H',aq H H' ->Ln H' v' l' ->Dv l l' ->Wt l' ->(v'=v\/∃p,v'=.ref p/\H p=none)->Q v' H')
def ada (l:ο):Dv l l:=⟨rfl,1,ce,fun j=>Int.one_mul _⟩
def GQ:aC ["line","shared","whole"] ["line"] (ae Lb):=sq
def ag8 (ht:P.given.tree=none)(D:Def K mg "divided" Lb ["line"])(CI:ac P w K mg qf 1 "greatest_shared" LW iP):ac P w K mg qf 33 "divided" ["line"] oM:=by
 refine D.op GQ fun f cD A qw s H vs Q E hr h=>?_;obtain ⟨v,l,rfl,⟨a,rfl,ha⟩,hn,q⟩:=h;let qg:Wt l->Q (.ref a) H:=fun pz=>q _ l H (aq.refl H) ⟨a,rfl,ha⟩ (ada l) pz (.inl rfl)
 show ⟨_,(aa (aJ 1 GQ.nd ag) (aa (bJ I_ rfl (bw (pv 0)) (bZ 2 GQ.nd) (aa (aJ 1 GQ.nd (aS CI hr (aT (pv 2) (pv 1)))) (ah (bg (bB cZ (pv 1) ag) (ah (aE (pv 0))) aR)))) (ah (aE (xK (bB uC (pv 1) ag) (dj (tn:=["whole"]) (fr:=["shared"]) (tw:=[1]) (bw (pv 0)) (aH (gW ht (Ty.cG.py hr ce) rfl rfl rfl rfl rfl) (pv 0) (pv 1))) (pv 0)))))),?_⟩;sleep 2
 show ⟨_,rfl,a,rfl,⟨_,aV.of ha⟩,let I:bn:=fun i Y H'=>Ov fun (g:Int) (o:Ε)=>Y=[ap a,some (.int g),o]/\H'=H/\0<=g/\(∀j,j<i->∀x,l[j]?=some x->g ∣ x)/\(∀d:Int,(∀j,j<i->∀x,l[j]?=some x->d ∣ x)->d ∣ g)/\(0<i->g≠1);cC (K:=K) (a:=a) (xs:=l.map V.int) I ⟨0,none,rfl,rfl,ce,(fun j h=>BH h (QY _)),(fun d _=>Int.dvd_zero d),fun h=>BH h (OS _)⟩ (fun i Y H' _ ⟨g,o,_,e,_⟩=>by rw [e];exact aV.of ha) ?_ ?_⟩
 ·rintro i u Y H' hu ⟨g,o,rfl,rfl,g0,hg,hd,_⟩
  rw [AY] at hu;obtain ⟨x,ex,rfl⟩:=JI.mp hu;let d1:gz x g ∣ x:=VQ ..;let d2:gz x g ∣ g:=VT ..;let p0:0<=gz x g:=Int.natCast_nonneg _;show ⟨_,rfl,_,rfl,x,g,rfl,_,rfl,rfl,_,rfl,?_⟩;refine bf (fun z=>⟨_,rfl,qg (.inl fun d Tu =>?_)⟩) (fun z=>?_)
  ·let z':gz x g=1:=by simpa using Mp z
   let h1:d ∣ gz x g:=ao9 (yI Tu ex) (hd d fun j _ y ey=>yI Tu ey);rw [z'] at h1;have:=vx.mpr h1;simpa using this
  show ⟨_,_,rfl,rfl,p0,fun j hj y ey=>?_,fun d h=>?_,fun _ e=>z (by rw [e];rfl)⟩
  ·rcases Vl.mp hj with z|z
   ·exact Int.dvd_trans d2 (hg j z y ey)
   ·subst z
    erw [ex] at ey;exact d1
  ·exact ao9 (h i (NZ _) x ex) (hd d fun j hj y ey=>h j (Sa hj) y ey)
 ·rintro Y H' ⟨g,o,rfl,rfl,g0,hg,hd,hg1⟩
  rw [AU] at hg hd hg1;show ⟨_,rfl,_,_,rfl,rfl,_,rfl,bf (fun c=>?_) (fun c=>⟨_,rfl,qg (.inr fun j=>?_)⟩)⟩;rotate_left
  ·let c':¬ (1:Int)<g:=fun z=>c (JO z)
   by_cases hj:j<l.length
   ·let gz:g=0:=by
     have:=hg1 bv;omega
    let ej:l[j]?=some l[j]:=gE hj;have:=hg j hj _ ej;rw [gz] at this;rw [getD_mem ej];exact Int.zero_dvd.mp this
   ·rw [JE,IW (ii hj)]
    rfl
  let g1:(1:Int)<g:=Mp c;let gn:g≠0:=bv
  show ⟨_,rfl,a,rfl,⟨_,aV.of ha⟩,fun D nD=>?_⟩;refine cE (tG:=[some (.int g)]) (K:=K) (a:=a) (xs:=l.map V.int) (fun i v _=>∃x,l[i]?=some x/\v=.int (x.fdiv g)) nD (by rw [AU];exact IY hn ce) (fun H2 s2=>aV.of (s2 _ _ ha)) (fun _ _ _ _ _ _ _ h=>h) ?_ ?_
  ·intro i u H2 R hu s2 k
   rw [AY] at hu;obtain ⟨x,ex,rfl⟩:=JI.mp hu;show ⟨_,rfl,_,rfl,_,_,rfl,rfl,gn,k _ _ (aq.refl _) ⟨x,ex,rfl⟩⟩
  ·intro ys H2 hy gv s2 hD
   rw [AU] at hy
   let ey:ys=(l.map fun x=>x.fdiv g).map V.int:=by
    refine N_ fun i=>?_;by_cases hi:i<ys.length
    ·let e1:ys[i]?=some ys[i]:=gE hi
     obtain ⟨x,ex,ev⟩:=gv i _ e1;rw [e1,ev,AY,AY,ex];rfl
    ·rw [IW (ii hi),IW (by simp;omega)]
   let Ue:∀j,g*(l.map fun x=>x.fdiv g).getD j 0=l.getD j 0:=fun j=>by
    by_cases hj:j<l.length
    ·let ej:l[j]?=some l[j]:=gE hj
     rw [getD_mem (l:=l.map fun x=>x.fdiv g) (x:=l[j].fdiv g) (by rw [AY,ej];rfl),getD_mem ej];exact (c9 gn (hg j hj _ ej)).symm
    ·rw [JE,JE,IW (by simp;exact ii hj),IW (ii hj)]
     simp
   refine q _ (l.map fun x=>x.fdiv g) H2 s2 ⟨D,rfl,by rw [hD,ey]⟩ ⟨by simp,g,gn,Ue⟩ (.inl fun d Tu =>?_) (.inr ⟨D,rfl,nD⟩)
   let h1:d*g ∣ g:=hd (d*g) fun j hj x ex=>by
    rw [<-getD_mem ex,<-Ue j,QT];exact Int.mul_dvd_mul_left g (Tu j)
   obtain ⟨k,hk⟩:=h1
   let h2:g*(d*k)=g*1:=by
    rw [Int.mul_one];rw [<-YO,QT g d];exact hk.symm
   let h3:=Int.eq_of_mul_eq_mul_left gn h2;let h4:d ∣ 1:=⟨k,h3.symm⟩;simpa using vx.mpr h4
inductive oN (vs:ε)(H:Hp)(Q:VK)(E_:XK):Prop
|mk (u v:V)(l m:ο)(c b1 b2:Nat)(_:vs=[u,v,.int (c:Int)])(_:Ln H u l)(_:Ln H v m)(_:m.length=l.length)(_:c<l.length)(_:l.length<=1000)(_:m.getD c 0≠0)(_:Bd b1 l)(_:Bd b2 m)(_:b1<=29000000)(_:b2<=29000000)(_:∀v' l' H',aq H H' ->Ln H' v' l' ->tI l m l' c->Bd (b1+b2+1) l' ->(l'=l\/Wt l')->(v'=u\/∃p,v'=.ref p/\H p=none)->Q v' H')
def acX (ha:a≠0):a=gz a b*a.fdiv (gz a b)/\b=gz a b*b.fdiv (gz a b)/\gz a b≠0/\a.fdiv (gz a b)≠0/\(a.fdiv (gz a b)).natAbs<=a.natAbs/\(b.fdiv (gz a b)).natAbs<=b.natAbs:=by
 let gn:gz a b≠0:=by
  intro z;let z':((JF a b:Nat):Int)=0:=z;have:JF a b=0:=bv
  exact ha (Int.gcd_eq_zero_iff.mp this).1
 let d1:gz a b ∣ a:=VQ ..;let d2:gz a b ∣ b:=VT ..;let e1:=c9 gn d1;show ⟨e1,c9 gn d2,gn,fun z=>?_,iG gn d1,iG gn d2⟩;rw [z,VF] at e1;exact ha e1
def zam {l m:ο}{ys:ε}(hl:m.length=l.length)(hy:ys.length=l.length)(h:∀(i:Nat)(v:V),ys[i]?=some v->∃x y,l[i]?=some x/\m[i]?=some y/\v=.int (t*x-u*y)):ys=(Nc (fun x y=>t*x-u*y) l m).map V.int:=by
 refine N_ fun i=>?_;by_cases hi:i<ys.length
 ·let e1:ys[i]?=some ys[i]:=gE hi
  obtain ⟨x,y,ex,ey,ev⟩:=h i _ e1;rw [e1,ev,AY,ZE,ex,ey];rfl
 ·rw [IW (ii hi),IW (by simp;omega)]
def agc {l m:ο}(hl:m.length=l.length)(j:Nat):(Nc (fun x y=>t*x-u*y) l m).getD j 0=t*l.getD j 0-u*m.getD j 0:=by
 by_cases hj:j<l.length
 ·let e1:l[j]?=some l[j]:=gE hj
  let e2:m[j]?=some (m[j]'(jp hl hj)):=gE (jp hl hj);rw [getD_mem e1,getD_mem e2];exact getD_mem (by rw [ZE,e1,e2])
 ·rw [JE,JE,JE,IW (by simp;omega),IW (ii hj),IW bv]
  simp
def GU:aC ["line","lead","column","shared","times","less"] Zx (ae La):=sq
def aaa (ht:P.given.tree=none)(D:Def K mg "cleared" La Zx)(kX:mg "zip"=none)(CI:ac P w K mg qf 1 "greatest_shared" LW iP)(ahe:ac P w K mg qf 33 "divided" ["line"] oM):ac P w K mg qf 34 "cleared" Zx oN:=by
 refine D.oo GU fun H hr h=>?_;obtain ⟨u,v,l,m,c,b1,b2,rfl,⟨a,rfl,ha⟩,⟨a',rfl,ha'⟩,hl,hc,hn,hm,B1,B2,tJ,BV,q⟩:=h
 show ⟨_,(aa (bg (bB cZ (bG aU (pv 0) (pv 2)) ag) (ah (aE (pv 0))) aR) (aa (aJ 3 GU.nd (aS CI hr (aT (bG aU (pv 1) (pv 2)) (bG aU (pv 0) (pv 2))))) (aa (aJ 4 GU.nd (aH (gW ht (Ty.cG.py hr ce) rfl rfl rfl rfl rfl) (bG aU (pv 1) (pv 2)) (pv 3))) (aa (aJ 5 GU.nd (aH (gW ht (Ty.cG.py hr ce) rfl rfl rfl rfl rfl) (bG aU (pv 0) (pv 2)) (pv 3))) (ah (aE (aS ahe hr (aK (Ox (tn:=["whole","other"]) (fr:=["times","less"]) (tw:=[4,5]) (BI rfl kX (aT (pv 0) (pv 1))) (fun _ _ _ _=>(vH (K:=K) (n:=2) rfl rfl (a_ (gF (i:=0) (show (zaU:List Str).Nodup from by decide+kernel) rfl (Np rfl)) (a_ (gF (i:=1) (show (zaU:List Str).Nodup from by decide+kernel) rfl (Np rfl)) cY)))) (fun _ _ _ _=>rK) (aH dc (aH di (pv 2) (pv 0)) (aH di (pv 3) (pv 1)))))))))))),?_⟩;sleep 4
 let ea:=pT (l:=l) hc;let em:=pT (l:=m) (j:=c) (jp hl hc);show ⟨_,rfl,_,rfl,a,_,_,_,rfl,rfl,aV.of ha,ea,rfl,_,rfl,?_⟩;refine bf (fun z=>?_) (fun z=>?_)
 ·let z':l.getD c 0=0:=by simpa using Mp z
  show ⟨_,rfl,q _ l H (aq.refl H) ⟨a,rfl,ha⟩ ⟨rfl,z',1,1,0,ce,ce,fun j=>bv⟩ (B1.up mh) (.inl rfl) (.inl rfl)⟩
 ·obtain ⟨f1,f2,f3,f4,f5,f6⟩:=acX (a:=m.getD c 0) (b:=l.getD c 0) hm
  show ⟨_,rfl,_,rfl,a',_,_,_,rfl,rfl,aV.of ha',em,_,rfl,_,rfl,a,_,_,_,rfl,rfl,aV.of ha,ea,_,_,rfl,_,rfl,_,rfl,a',_,_,_,rfl,rfl,aV.of ha',em,_,rfl,_,_,rfl,rfl,f3,_,rfl,_,rfl,a,_,_,_,rfl,rfl,aV.of ha,ea,_,rfl,_,_,rfl,rfl,f3,_,rfl,_,rfl,a,a',rfl,⟨_,aV.of ha⟩,⟨_,aV.of ha'⟩,fun D1 n1=>?_⟩;let st:((m.getD c 0).fdiv (gz (m.getD c 0) (l.getD c 0))).natAbs<=2^b2:=BX f5 (B2 c);let su:((l.getD c 0).fdiv (gz (m.getD c 0) (l.getD c 0))).natAbs<=2^b1:=BX f6 (B1 c);refine yh (tG:=[some (.int ((m.getD c 0).fdiv (gz (m.getD c 0) (l.getD c 0)))),some (.int ((l.getD c 0).fdiv (gz (m.getD c 0) (l.getD c 0))))]) (K:=K) (xs:=l.map V.int) (ys:=m.map V.int) (fun i v _=>∃x y,l[i]?=some x/\m[i]?=some y/\v=.int ((m.getD c 0).fdiv (gz (m.getD c 0) (l.getD c 0))*x-(l.getD c 0).fdiv (gz (m.getD c 0) (l.getD c 0))*y)) n1 (by rw [AU];exact IY hn ce) (by simpa using hl) (fun H2 s2=>aV.of (s2 _ _ ha)) (fun H2 s2=>aV.of (s2 _ _ ha')) (fun _ _ _ _ _ _ _ h=>h) ?_ ?_
  ·intro i x y H2 R ex ey s2 k
   rw [AY] at ex ey;obtain ⟨x',P7,rfl⟩:=JI.mp ex;obtain ⟨y',GL,rfl⟩:=JI.mp ey;show ⟨_,rfl,_,rfl,_,_,rfl,rfl,qM st (B1.mem (Wp P7)) bv bv,_,rfl,_,rfl,_,_,rfl,rfl,qM su (B2.mem (Wp GL)) bv bv,_,_,rfl,rfl,k _ _ (aq.refl _) ⟨x',y',P7,GL,rfl⟩⟩
  ·intro ys H2 hy gv s2 hD
   rw [AU] at hy;let ey:=zam hl hy gv;show ⟨_,_,rfl,⟨D1,rfl,by rw [hD,ey]⟩,by simp;omega,fun v' l' H3 s3 L3 dv pz fr=>?_⟩;obtain ⟨g,gn,hg⟩:=dv.Ue;let kQ:∀j,g*l'.getD j 0=(m.getD c 0).fdiv (gz (m.getD c 0) (l.getD c 0))*l.getD j 0-(l.getD c 0).fdiv (gz (m.getD c 0) (l.getD c 0))*m.getD j 0:=fun j=>by rw [hg j,agc hl]
   refine q v' l' H3 (s2.trans s3) L3 ⟨by rw [dv.len];simp [hl],?_,g,_,_,gn,f4,kQ⟩ (fun j=>?_) (.inr pz) ?_
   ·let e:=kQ c
    let z2:(m.getD c 0).fdiv (gz (m.getD c 0) (l.getD c 0))*l.getD c 0-(l.getD c 0).fdiv (gz (m.getD c 0) (l.getD c 0))*m.getD c 0=0:=by
     generalize gz (m.getD c 0) (l.getD c 0)=G at*;generalize (m.getD c 0).fdiv G=t at*;generalize (l.getD c 0).fdiv G=u at*;rw [f1,f2];grind
    rw [z2] at e
    rcases aiu.mp e with y|y
    ·exact BH y gn
    ·exact y
   ·let b:(g*l'.getD j 0).natAbs<=2^(b1+b2+1):=by
     rw [kQ j,Int.sub_eq_add_neg];refine zao (rN (vJ st (B1 j)) bv) ?_;rw [aiz];exact vJ su (B2 j)
    exact BX (eK gn) b
   ·rcases fr with z|⟨p,e,n⟩
    ·exact .inr ⟨D1,z,n1⟩
    ·exact .inr ⟨p,e,s2.free n⟩
inductive vS (K:Frag)(vs:ε)(H:Hp)(Q:VK)(E_:XK):Prop
|mk (a:AO)(us:ε)(ls:List (List Int:_))(c:Nat)(_:vs=[.ref a,.int (c:Int)])(_:aV K H a us)(_:r8 H us ls)(_:(∀l∈ls,c<l.length))(_:(∀(i:Nat)(l:ο)(H':Hp),aq H H' ->ls[i]?=some l->l.getD c 0≠0->Q (.int (i:Int)) H'))(_:((∀l∈ls,l.getD c 0=0)->∀H',aq H H' ->Q .cL H'))
def r8.at (h:r8 H us ls){i:Nat}(e:us[i]?=some u):∃l,ls[i]?=some l/\Ln H u l:=by
 let hi:i<us.length:=(ir.mp e).1;let hl:=h.1;let e2:ls[i]?=some (ls[i]'(oZ hi hl)):=gE (oZ hi hl);show ⟨_,e2,h.2 i u _ e e2⟩
def r8.at' (h:r8 H us ls){i:Nat}{l:ο}(e:ls[i]?=some l):∃u,us[i]?=some u/\Ln H u l:=by
 let hi:i<ls.length:=(ir.mp e).1;let hl:=h.1;let e2:us[i]?=some (us[i]'(nY hi hl)):=gE (nY hi hl);show ⟨_,e2,h.2 i _ l e2 e⟩
def OA:aC ["lines","column","at","line"] Zm (ae K'):=sq
def aab (D:Def K mg "first_not_nought" K' Zm)(fh:mg "enumerate"=none):ac P w K mg qf 1 "first_not_nought" Zm (vS K):=by
 refine D.oo OA fun H hr h=>?_;obtain ⟨a,us,ls,c,rfl,hS,L,hc,q1,q2⟩:=h;let lu:=L.1
 show ⟨_,(aa (bJ I_ rfl (FV rfl fh (aK (pv 0))) (eU rfl (a_ (bZ 2 OA.nd) (a_ (bZ 3 OA.nd) cY))) (ah (bg (bB jo (bG aU (pv 3) (pv 1)) ag) (ah (aE (pv 2))) aR))) (ah (aE jC))),?_⟩
 show ⟨_,rfl,a,rfl,⟨_,hS⟩,let I:bn:=fun i Y H'=>∃o1 o2:Option V,Y=[ap a,some (.int (c:Int)),o1,o2]/\aq H H'/\∀j,j<i->∀l,ls[j]?=some l->l.getD c 0=0;yv (K:=K) (a:=a) (xs:=us) I ⟨none,none,rfl,aq.refl H,fun j h=>BH h (QY _)⟩ (fun i Y H' _ ⟨o1,o2,_,s1,_⟩=>s1.seq hS) ?_ ?_⟩
 ·rintro i u Y H' p hu ⟨o1,o2,rfl,s1,z⟩ np
  obtain ⟨l,el,b,rfl,hb⟩:=L.at hu;let s2:=s1.trans (aG np (.tup [.int (i:Int),.ref b]));let hcl:=hc l (Wp el);show ⟨p,_,rfl,bL.of aj,rfl,_,_,rfl,_,_,rfl,rfl,_,rfl,_,rfl,b,_,_,_,rfl,rfl,aV.of (s2 _ _ hb),pT hcl,rfl,_,rfl,?_⟩;refine bf (fun y=>?_) (fun y=>?_)
  ·let y':l.getD c 0≠0:=by simpa using y
   show ⟨_,rfl,q1 i l _ s2 el y'⟩
  ·let y':l.getD c 0=0:=by simpa using y
   show ⟨_,_,rfl,s2,fun j hj l' e'=>?_⟩
   rcases Vl.mp hj with w|w
   ·exact z j w l' e'
   ·subst w
    erw [el] at e';exact y'
 ·rintro Y H' ⟨o1,o2,rfl,s1,z⟩
  refine q2 (fun l hl=>?_) H' s1;obtain ⟨j,hj⟩:=IV hl;exact z j (by have:=(ir.mp hj).1;exact jp lu this) l hj
structure Red (os:ζ)(L c b:Nat)(nd:ι)(lv:ζ):Prop where
 r9:∀x∈nd,x.2.length=L
 lK:∀l∈lv,l.length=L
 cols:∀x∈nd,x.1<c
 asc:(nd.map (·.1)).Pairwise (· < ·)
 here:∀x∈nd,x.2.getD x.1 0≠0
 off:∀x∈nd,∀y∈nd,x.1≠y.1->x.2.getD y.1 0=0
 low:∀x∈nd,∀j,j<x.1->x.2.getD j 0=0
 zero:∀l∈lv,∀j,j<c->l.getD j 0=0
 yJ:∀x∈nd,oG os x.2
 mP:∀l∈lv,oG os l
 sol:∀z,((∀x∈nd,ev x.2 z=0)/\(∀l∈lv,ev l z=0)) ↔ ∀o∈os,ev o z=0
 Qh:∀x∈nd,Bd b x.2
 OB:∀l∈lv,Bd b l
 cnt:nd.length+lv.length=os.length
def Red.start {os:ζ}(hL:∀o∈os,o.length=L)(hb:∀o∈os,Bd b o):Red os L 0 b [] os where
 r9:=by simp
 lK:=hL
 cols:=by simp
 asc:=by simp
 here:=by simp
 off:=by simp
 low:=by simp
 zero:=fun _ _ j h=>BH h (QY _)
 yJ:=by simp
 mP:=fun l h=>yu h
 sol:=fun z=>by simp
 Qh:=by simp
 OB:=hb
 cnt:=by simp
def Red.skip {os:ζ}(h:Red os L c b nd lv)(hz:∀l∈lv,l.getD c 0=0):Red os L (c+1) b nd lv where
 r9:=h.r9
 lK:=h.lK
 cols:=fun x hx=>Sa (h.cols x hx)
 asc:=h.asc
 here:=h.here
 off:=h.off
 low:=h.low
 zero:=fun l hl j hj=>by
  rcases Vl.mp hj with z|z
  ·exact h.zero l hl j z
  ·subst z
   exact hz l hl
 yJ:=h.yJ
 mP:=h.mP
 sol:=h.sol
 Qh:=h.Qh
 OB:=h.OB
 cnt:=h.cnt
structure Made (os:ζ)(AS:ο)(c b:Nat)(xs ys:ζ):Prop where
 len:ys.length=xs.length
 to:∀(i:Nat)(x:ο),xs[i]?=some x->∃y,ys[i]?=some y/\tI x AS y c/\Bd b y
def Made.ex {os:ζ}(h:Made os AS c b xs ys){y:ο}(hy:y∈ys):∃x∈xs,tI x AS y c/\Bd b y:=by
 obtain ⟨i,hi⟩:=IV hy;let hl:=h.len;let oj:i<ys.length:=(ir.mp hi).1;let e:xs[i]?=some (xs[i]'(jw hl oj)):=gE (jw hl oj);obtain ⟨y',e',r⟩:=h.to i _ e;erw [hi] at e';show ⟨_,Wp e,r⟩
def Made.all {os:ζ}(h:Made os AS c b xs ys){x:ο}(hx:x∈xs):∃y∈ys,tI x AS y c/\Bd b y:=by
 obtain ⟨i,hi⟩:=IV hx;obtain ⟨y,e,r⟩:=h.to i x hi;show ⟨y,Wp e,r⟩
def Red.step {os:ζ}{lv BZ rest:ζ}{AS:ο}(h:Red os L c b nd lv)(g7:AS∈lv)(yK:∀l∈rest,l∈lv)(Nw:∀l∈lv,l=AS\/l∈rest)(hlen:rest.length+1=lv.length)
  (hc:AS.getD c 0≠0) (ML:Made os AS c (2*b+1) rest BZ) (hk:jy.map (·.1)=nd.map (·.1)) (MN:Made os AS c (2*b+1) (nd.map (·.2)) (jy.map (·.2))):Red os L (c+1) (2*b+1) (jy ++[(c,AS)]) BZ :=by
 let ll:=h.lK AS g7;let lz:=h.zero AS g7;let hl':jy.length=nd.length:=by simpa using ud O3 hk
 let pairs:∀x' ∈jy,∃x∈nd,x.1=x'.1/\tI x.2 AS x'.2 c/\Bd (2*b+1) x'.2:=by
  intro x' AB;obtain ⟨i,hi⟩:=IV AB;let oj:i<jy.length:=(ir.mp hi).1;let e:nd[i]?=some (nd[i]'(jw hl' oj)):=gE (jw hl' oj);let e1:(jy.map (·.1))[i]?=(nd.map (·.1))[i]? :=by rw [hk]
  rw [AY,AY,hi,e] at e1;obtain ⟨y,e2,r⟩:=MN.to i (nd[i]'(jw hl' oj)).2 (by rw [AY,e];rfl);rw [AY,hi] at e2;simp at e1 e2;subst e2;show ⟨_,Wp e,e1.symm,r⟩
 let back:∀x∈nd,∃x' ∈jy,x'.1=x.1/\tI x.2 AS x'.2 c:=by
  intro x hx;obtain ⟨i,hi⟩:=IV hx;let oj:i<nd.length:=(ir.mp hi).1;let e:jy[i]?=some (jy[i]'(jp hl' oj)):=gE (jp hl' oj);let e1:(jy.map (·.1))[i]?=(nd.map (·.1))[i]? :=by rw [hk]
  rw [AY,AY,hi,e] at e1;obtain ⟨y,e2,r⟩:=MN.to i x.2 (by rw [AY,hi];rfl);rw [AY,e] at e2;simp at e1 e2;show ⟨_,Wp e,e1,by rw [e2];exact r.1⟩
 let RF:∀x∈jy ++[(c,AS)],x∈jy \/x=(c,AS):=fun x hx=>by simpa using hx
 exact {
  r9:=fun x hx=>by
   rcases RF x hx with z|z
   ·obtain ⟨y,hy,_,k,_⟩:=pairs x z
    rw [k.len];exact h.r9 y hy
   ·subst z
    exact ll
  lK:=fun l hl=>by
   obtain ⟨x,hx,k,_⟩:=ML.ex hl;rw [k.len];exact h.lK x (yK x hx)
  cols:=fun x hx=>by
   rcases RF x hx with z|z
   ·obtain ⟨y,hy,e,_⟩:=pairs x z
    rw [<-e];exact Sa (h.cols y hy)
   ·subst z
    exact NZ _
  asc:=by
   rw [IX,hk,List.pairwise_append];show ⟨h.asc,by simp,fun a ha b' ip =>?_⟩;obtain ⟨x,hx,rfl⟩:=AW.mp ha;have:b'=c:=by simpa using ip
   subst this;exact h.cols x hx
  here:=fun x hx=>by
   rcases RF x hx with z|z
   ·obtain ⟨y,hy,e,k,_⟩:=pairs x z
    rw [<-e];exact k.at (lz _ (h.cols y hy)) (h.here y hy)
   ·subst z
    exact hc
  off:=fun x hx y hy ne=>by
   rcases RF x hx with z|z<;>rcases RF y hy with u|u
   ·obtain ⟨x0,Qg,e0,k0,_⟩:=pairs x z
    obtain ⟨y0,yL,e1,_⟩:=pairs y u;rw [<-e1];exact k0.zero (h.off x0 Qg y0 yL (by rwa [e0,e1])) (lz _ (h.cols y0 yL))
   ·subst u
    obtain ⟨x0,Qg,e0,k0,_⟩:=pairs x z;exact k0.N7
   ·subst z
    obtain ⟨y0,yL,e1,_⟩:=pairs y u;rw [<-e1];exact lz _ (h.cols y0 yL)
   ·subst z
    subst u;exact BH rfl ne
  low:=fun x hx j hj=>by
   rcases RF x hx with z|z
   ·obtain ⟨y,hy,e,k,_⟩:=pairs x z
    rw [<-e] at hj;exact k.zero (h.low y hy j hj) (lz j (oy hj (h.cols y hy)))
   ·subst z
    exact lz j hj
  zero:=fun l hl j hj=>by
   obtain ⟨x,hx,k,_⟩:=ML.ex hl
   rcases Vl.mp hj with z|z
   ·exact k.zero (h.zero x (yK x hx) j z) (lz j z)
   ·subst z
    exact k.N7
  yJ:=fun x hx=>by
   rcases RF x hx with z|z
   ·obtain ⟨y,hy,_,k,_⟩:=pairs x z
    exact k.comb (h.yJ y hy) (h.mP AS g7)
   ·subst z
    exact h.mP AS g7
  mP:=fun l hl=>by
   obtain ⟨x,hx,k,_⟩:=ML.ex hl;exact k.comb (h.mP x (yK x hx)) (h.mP AS g7)
  sol:=fun z=>by
   rw [<-h.sol z];constructor
   ·rintro ⟨a1,a2⟩
    let az:ev AS z=0:=a1 (c,AS) cr;show ⟨fun x hx=>?_,fun l hl=>?_⟩
    ·obtain ⟨x',AB,_,k⟩:=back x hx
     exact (k.ev (by rw [ll,h.r9 x hx]) az).mp (a1 x' (by simp [AB]))
    ·rcases Nw l hl with u|u
     ·rw [u]
      exact az
     ·obtain ⟨y,hy,k,_⟩:=ML.all u
      exact (k.ev (by rw [ll,h.lK l hl]) az).mp (a2 y hy)
   ·rintro ⟨a1,a2⟩
    let az:=a2 AS g7;show ⟨fun x hx=>?_,fun l hl=>?_⟩
    ·rcases RF x hx with u|u
     ·obtain ⟨y,hy,_,k,_⟩:=pairs x u
      exact (k.ev (by rw [ll,h.r9 y hy]) az).mpr (a1 y hy)
     ·subst u
      exact az
    ·obtain ⟨x,hx,k,_⟩:=ML.ex hl
     exact (k.ev (by rw [ll,h.lK x (yK x hx)]) az).mpr (a2 x (yK x hx))
  Qh:=fun x hx=>by
   rcases RF x hx with z|z
   ·obtain ⟨y,hy,_,_,k⟩:=pairs x z
    exact k
   ·subst z
    exact (h.OB AS g7).up bv
  OB:=fun l hl=>by
   obtain ⟨x,hx,_,k⟩:=ML.ex hl;exact k
  cnt:=by
   let a:=ML.len;let b:=h.cnt;rw [CL,hl'];simp
   omega}
def qp (H:Hp)(AN:δ)(nd:ι):Prop:=AN.length=nd.length/\∀(i:Nat)(kv:Key×V)(x:Nat×List Int),AN[i]?=some kv->nd[i]?=some x->kv.1=.inl (x.1:Int)/\Ln H kv.2 x.2
theorem qp.qg (h:qp H AN nd)(s:aq H H'):qp H' AN nd:=⟨h.1,fun i kv x e1 e2=>⟨(h.2 i kv x e1 e2).1,(h.2 i kv x e1 e2).2.qg s⟩⟩
def Ln.put (h:Ln H v l)(e:H d=some (.dK AN)):Ln (upd H d o) v l:=by
 obtain ⟨p,e1,k⟩:=h;show ⟨p,e1,by rw [ak (fun z=>by erw [z,e] at k)];exact k⟩
theorem r8.put (h:r8 H us ls)(e:H d=some (.dK AN)):r8 (upd H d o) us ls:=⟨h.1,fun i u l e1 e2=>(h.2 i u l e1 e2).put e⟩
theorem qp.put (h:qp H AN nd)(e:H d=some (.dK kv2)):qp (upd H d o) AN nd:=⟨h.1,fun i kv x e1 e2=>⟨(h.2 i kv x e1 e2).1,(h.2 i kv x e1 e2).2.put e⟩⟩
def iQ (s:aq H H')(n:H d=none):aq H (upd H' d o):=fun b o' e=>by
 rw [ak (fun z=>by erw [z,n] at e)];exact s _ _ e
def qp.at (h:qp H AN nd){i:Nat}(e:nd[i]?=some x):∃v,AN[i]?=some (.inl (x.1:Int),v)/\Ln H v x.2:=by
 let hi:i<nd.length:=(ir.mp e).1;let hl:=h.1;let e2:AN[i]?=some (AN[i]'(nY hi hl)):=gE (nY hi hl);obtain ⟨a,b⟩:=h.2 i _ x e2 e;show ⟨(AN[i]'(nY hi hl)).2,by rw [e2,<-a],b⟩
def qp.keys (h:qp H AN nd):AN.map (·.1)=nd.map (fun x=>(QR (x.1:Int):Key)):=by
 refine N_ fun i=>?_;let hl:=h.1;rw [AY,AY];by_cases hi:i<nd.length
 ·let e:nd[i]?=some nd[i]:=gE hi
  obtain ⟨v,e2,_⟩:=h.at e;rw [e,e2];rfl
 ·rw [IW bv,IW (ii hi)]
  rfl
theorem qR :∀{AN:δ} {i:Nat},(AN.map (·.1)).Nodup->AN[i]?=some (k,v)->cv AN k=some v
 | [],_,_,e=>by simp at e
 | p::r,0,_,e=>by
  cases e;exact ck (p:=(k,v)) rfl
 | p::r,i+1,n,e=>by
  rw [BS,KC] at n;let e':r[i]?=some (k,v):=by simpa using e
  let ne:¬ p.1=k:=fun z=>n.1 (by rw [z];exact AW.mpr ⟨(k,v),Wp e',rfl⟩);rw [bR ne];exact qR n.2 e'
theorem qS :∀{AN:δ},k∉AN.map (·.1)->cv AN k=none
 | [],_=>rfl
 | p::r,h=>by
  let h':k≠p.1/\k∉r.map (·.1):=by simpa using h
  rw [bR (fun z=>h'.1 z.symm)];exact qS h'.2
theorem map_put :∀{AN:δ} {i:Nat},(AN.map (·.1)).Nodup->AN[i]?=some (k,v)->AN.map (fun kv=>if kv.1=k then (kv.1,v') else kv)=AN.set i (k,v')
 | [],_,_,e=>by simp at e
 | p::r,0,n,e=>by
  rw [BS,KC] at n;cases e
  let hr:r.map (fun kv=>if kv.1=k then (kv.1,v') else kv)=r:=by
   refine (NF (fun q hq=>?_)).trans (List.map_id r);let ne:¬ q.1=k:=fun z=>n.1 (by show k∈_;rw [<-z];exact AW.mpr ⟨q,hq,rfl⟩);rw [qA ne];rfl
  rw [BS,hr,tu rfl,aiS]
 | p::r,i+1,n,e=>by
  rw [BS,KC] at n;let e':r[i]?=some (k,v):=by simpa using e
  let ne:¬ p.1=k:=fun z=>n.1 (by rw [z];exact AW.mpr ⟨(k,v),Wp e',rfl⟩);rw [BS,qA ne,map_put n.2 e',aiX]
def zad {AN:δ}(n:(AN.map (·.1)).Nodup)(e:AN[i]?=some (k,v)):putK AN k v'=AN.set i (k,v'):=by
 unfold putK;rw [iH,qR n e];exact map_put n e
theorem qp.set (h:qp H AN nd){i c:Nat}(hv:Ln H v l):qp H (AN.set i (.inl (c:Int),v)) (nd.set i (c,l)):=by
 let hl:=h.1;show ⟨by simp [hl],fun j kv x e1 e2=>?_⟩;rw [Pq] at e1 e2;by_cases z:i=j
 ·subst z
  rw [tu rfl] at e1 e2;by_cases hi:i<AN.length
  ·rw [tu hi] at e1
   rw [tu (jw hl hi)] at e2;cases e1;cases e2;show ⟨rfl,hv⟩
  ·rw [qA hi] at e1
   cases e1
 ·rw [qA z] at e1 e2
  exact h.2 j kv x e1 e2
def qp.snoc (h:qp H AN nd){c:Nat}(hv:Ln H v l):qp H (AN++[(.inl (c:Int),v)]) (nd++[(c,l)]):=by
 let hl:=h.1;show ⟨by simp [hl],fun j kv x e1 e2=>?_⟩;by_cases z:j<AN.length
 ·rw [JU z] at e1
  rw [JU (jw hl z)] at e2;exact h.2 j kv x e1 e2
 ·rw [JZ bv] at e1 e2
  rw [<-hl] at e2;by_cases y:j-AN.length=0
  ·rw [y] at e1 e2
   cases e1;cases e2;show ⟨rfl,hv⟩
  ·rw [IW (by simp;exact gt y)] at e1
   cases e1
theorem keys_nodup:∀{nd:ι},(nd.map (·.1)).Pairwise (· < ·)->(nd.map (fun x=>(QR (x.1:Int):Key))).Nodup
 | [],_=>by simp
 | x::r,h=>by
  rw [BS,ahU] at h;rw [BS,KC];show ⟨fun z=>?_,keys_nodup h.2⟩;obtain ⟨y,hy,e⟩:=AW.mp z;let e':(y.1:Int)=x.1:=VM e;have:=h.1 y.1 (AW.mpr ⟨y,hy,rfl⟩);omega
def bb (b k:Nat):Nat:=(k+1)*(b+11)
def vT (b:Nat)(h:k<=m):bb b k<=bb b m:=NG _ bv
def vU (b k:Nat):b<=bb b k:=by
 unfold bb;rw [Oz,rR];omega
def Red.piv {os:ζ}(R:Red os L c b nd lv):MV nd:=⟨R.asc.imp fun h e=>bv,R.here,R.off⟩
def Pr (os:ζ)(l:ο):Prop:=l∈os\/Wt l
def Red.small {os:ζ}(R:Red os L c b nd lv)(O:MX os nd lv ps qs)(hb:∀o∈os,Bd b0 o)(hk:nd.length<=k)(OC:k<=1000)(pN:∀x∈nd,Pr os x.2)(pL:∀l∈lv,Pr os l):Red os L c (bb b0 k) nd lv:=by
 let le:∀{n:Nat},n<=(nd.length+1)*((2*(nd.length+1)*2^b0)^nd.length*2^b0)->n<=2^bb b0 k:=fun {n} h=>BX h (BX (ai_ bv) (Me ce (NG _ bv)));let z:∀{n:Nat},n=0->n<=2^bb b0 k:=fun {n} h=>by rw [h];exact JS _
 refine {R with Qh:=fun x hx j=>?_,OB:=fun l hl j=>?_}
 ·rcases pN x hx with h|h|h
  ·exact BX (hb _ h j) (Me ce (vU _ _))
  ·exact le (O.need R.piv hx hb h j)
  ·exact z (by rw [h j];rfl)
 ·rcases pL l hl with h|h|h
  ·exact BX (hb _ h j) (Me ce (vU _ _))
  ·obtain ⟨i,ei⟩:=IV hl
   exact le (O.left R.piv ei (fun x hx=>R.zero l hl x.1 (R.cols x hx)) hb h j)
  ·exact z (by rw [h j];rfl)
def GV {i:Nat}(h:i<=xs.length):eV xs none (some (i:Int))=xs.take i:=by
 unfold eV;rw [HT.j9,HT.xV,XF h];rfl
def uZ {i:Nat}(h:i<=xs.length):eV xs (some (i:Int)) none=xs.drop i:=by
 unfold eV;rw [HT.j9,HT.xV,XF h];exact Vj cr
theorem Red.up {os:ζ}(h:Red os L c b nd lv)(hb:b<=b'):Red os L c b' nd lv:={h with Qh:=fun x hx=>(h.Qh x hx).up hb,OB:=fun x hx=>(h.OB x hx).up hb}
def r8.erase (h:r8 H us ls)(j:Nat):r8 H (us.eraseIdx j) (ls.eraseIdx j):=by
 let hl:=h.1;show ⟨by rw [Pf,Pf,hl],fun i u l e1 e2=>?_⟩;rw [SG] at e1 e2;by_cases z:i<j
 ·rw [tu z] at e1 e2
  exact h.2 _ _ _ e1 e2
 ·rw [qA z] at e1 e2
  exact h.2 _ _ _ e1 e2
theorem kh {Z β:Type}{P:Nat->Z->β->Prop}:∀(xs:List Z),(∀i x,xs[i]?=some x->∃y,P i x y)->∃ys:List β,ys.length=xs.length/\∀i x y,xs[i]?=some x->ys[i]?=some y->P i x y
 | [],_=>⟨[],rfl,fun i x y e=>by simp at e⟩
 | x::xs,h=>by
  obtain ⟨y,hy⟩:=h 0 x rfl;obtain ⟨ys,hl,hp⟩:=kh (P:=fun i=>P (i+1)) xs (fun i x e=>h (i+1) x (by simpa using e));show ⟨y::ys,by simp [hl],fun i x' y' e1 e2=>?_⟩;cases i with
  | zero=>
   cases e1;cases e2;exact hy
  | succ i=>exact hp i x' y' (by simpa using e1) (by simpa using e2)
inductive ki (K:Frag)(vs:ε)(H:Hp)(Q:VK)(E_:XK):Prop
|mk (a:AO)(us:ε)(os:List (List Int:_))(L m b:Nat)(_:vs=[.ref a,.int (m:Int)])(_:aV K H a us)(_:r8 H us os)(_:(∀o∈os,o.length=L))(_:m<=L)(_:L<=1000)(_:os.length<=1000)(_:(∀o∈os,Bd b o))(_:bb b (min m os.length)<=29000000)(_:∀(p d a':AO)(AN:δ)(gm :ε)(nd:ι)(lv:ζ)(H':Hp),aq H H' ->H d=none->H p=none->H' p=some (.tup [.ref d,.ref a'])->H' d=some (.dK AN)->aV K H' a' gm ->qp H' AN nd->r8 H' gm lv->Red os L m (bb b (min m os.length)) nd lv->Q (.ref p) H')
def pU:aC ["lines","many","needed","left","column","at","lead","place"] QP (ae K_):=sq
def aac (D:Def K mg "reduced" K_ QP)(bD:mg "range"=none)(cg:mg "list"=none)(ahi:ac P w K mg qf 1 "first_not_nought" Zm (vS K))(aad:ac P w K mg qf 34 "cleared" Zx oN):ac P w K mg qf 35 "reduced" QP (ki K):=by
 refine D.oo pU fun H hr h=>?_;obtain ⟨a,us,os,L,m,b,rfl,hS,hL,hlen,hm,Ug,ho,hB,hb,q⟩:=h
 show ⟨_,(aa (aJ 2 pU.nd fF) (aa (aJ 3 pU.nd (pv 0)) (aa (bJ I_ rfl (cp rfl bD (aK (pv 1))) (bZ 4 pU.nd) (aa (aJ 5 pU.nd (aS ahi hr (aT (pv 3) (pv 4)))) (aa (bg (bB AQ (pv 5) jC) (ah aen) aR) (aa (aJ 6 pU.nd (bG aU (pv 3) (pv 5))) (aa (r6 (i:=3) (tn:=["line"]) (fr:=["lead","column"]) (tw:=[6,4]) pU.nd (bw (aH i8 (dB ig (pv 3) ie (dh (pv 5))) (dB ig (pv 3) (dh (aH bV (pv 5) ag)) ie))) (pS aad hr (bE (pv 0) (pv 1) (pv 2)))) (aa (bJ I_ rfl (bw (b9 (fT rfl) rfl cg gs (aK (pv 2)))) (bZ 7 pU.nd) (ah (fE (cf hr) (pv 2) (pv 7) (aS aad hr (bE (cS (cf hr) (pv 2) (pv 7) (fun _ _=>rfl)) (pv 6) (pv 4))) rfl))) (ah (fE (cf hr) (pv 2) (pv 4) (pv 6) rfl)))))))) (ah (aE (aZ (aT (pv 2) (pv 3)))))))),?_⟩;sleep 3
 refine fun d GX=>?_;let s0:aq H (upd H d (.dK [])):=aG GX _;show ⟨_,rfl,_,rfl,_,rfl,bv,bv,?_⟩
 refine let I:bn:=fun i Y H'=>Ex9 fun (al:AO) (r_:ε) (AN:δ) (nd:ι) (lv:ζ) (o4 o5 o6 o7:Ε)=>Y=[ap a,some (.int (m:Int)),ap d,ap al,o4,o5,o6,o7]/\aq H H'/\H' d=some (.dK AN)/\aV K H' al r_/\r8 H' r_ lv/\qp H' AN nd/\nd.length<=i/\Red os L i (bb b (min m os.length)) nd lv/\(∃ps qs,MX os nd lv ps qs)/\(∀x∈nd,Pr os x.2)/\∀l∈lv,Pr os l;cJ (lo:=0) (n:=m) I
  ⟨a,us,[],[],os,none,none,none,none,rfl,s0,aj,s0.seq hS,hL.qg s0,⟨rfl,by simp⟩,BW _,(Red.start hlen hB).up (vU _ _),⟨[],os,MX.start os⟩,cr,fun l hl=>.inl hl⟩ ?_ ?_
 ·rintro i Y H1 hi ⟨al,r_,AN,nd,lv,o4,o5,o6,o7,rfl,s1,hd,RH,LR,hN,hni,R,⟨ps,qs,O⟩,pN,pL⟩
  show ⟨_,rfl,_,rfl,al,r_,lv,i,by rw [Kz];rfl,RH,LR,fun l hl=>by rw [R.lK l hl];omega,fun j AS H2 s2 ej hj=>?_,fun hz H2 s2=>?_⟩
  ·let hjl:j<lv.length:=(ir.mp ej).1
   let hul:=LR.1;let cnt:=R.cnt;let hbk:=hb;let hd2:=s2 _ _ hd;let ZZ:=s2.seq RH;let Uh:=LR.qg s2;let α5:=hN.qg s2;obtain ⟨u,eu,hu⟩:=Uh.at' ej;let g7:AS∈lv:=Wp ej;show ⟨_,rfl,rfl,_,rfl,bf (fun z=>by simp at z) (fun _=>?_)⟩;show ⟨_,rfl,_,rfl,al,_,_,_,rfl,rfl,ZZ,bK eu,_,rfl,_,rfl,_,rfl,al,r_,rfl,ZZ,fun p1 n1=>?_⟩;let t1:=aG n1 (.lst (eV r_ none (some (j:Int))));show ⟨_,rfl,_,rfl,_,_,rfl,rfl,_,rfl,al,r_,rfl,t1.seq ZZ,fun p2 n2=>?_⟩;let t2:=aG n2 (.lst (eV r_ (some ((j:Int)+1)) none))
   let aae:eV r_ none (some (j:Int))++eV r_ (some ((j:Int)+1)) none=r_.eraseIdx j:=by
    rw [GV bv,show ((j:Int)+1)=((j+1:Nat):Int) from by omega,uZ bv,List.eraseIdx_eq_take_drop_succ]
   let ahj:(eV r_ none (some (j:Int))).length+(eV r_ (some ((j:Int)+1)) none).length<=BL:=by
    rw [<-CL,aae];exact BX (BX (ah8 ..) (show r_.length<=1000 by omega)) ce
   show ⟨p1,p2,_,_,rfl,rfl,t2 _ _ aj,aj,ahj,fun p3 n3=>?_⟩;let t3:=aG n3 (.lst (eV r_ none (some (j:Int))++eV r_ (some ((j:Int)+1)) none));show ⟨p3,rfl,⟨_,aV.of aj⟩,fun D nD=>?_⟩;let tt:=(t1.trans t2).trans t3;let hE:=(Uh.qg tt).erase j;let hu3:=hu.qg tt;let er:(r_.eraseIdx j).length<=1000:=BX (ah8 ..) (show r_.length<=1000 by omega);refine lG (tG:=[some u,some (.int ((0:Int)+i))]) (K:=K) (a:=p3) (xs:=r_.eraseIdx j) (fun k v H=>∃x y p,(lv.eraseIdx j)[k]?=some x/\v=.ref p/\p≠D/\H p=some (.lst (y.map V.int))/\tI x AS y i/\Bd (2*bb b (min m os.length)+1) y/\(y=x\/Wt y)) nD (IY er ce) (fun H3 s3=>aV.of (s3 _ _ (by rw [aj,aae]))) ?_ ?_ ?_
   ·rintro k v H3 H4 ys hD3 ks ⟨x,y,p,e1,e2,e3,e4,e5⟩
    show ⟨x,y,p,e1,e2,e3,ks _ _ e3 e4,e5⟩
   ·rintro k x H3 RR ex s3 ⟨ys0,ahl⟩ kk
    obtain ⟨l,el,hl⟩:=hE.at ex;let JV:l∈lv:=vN (Wp el);let hll:=R.lK l JV;let hld:=R.lK AS g7;show ⟨_,rfl,_,rfl,_,rfl,x,u,l,AS,i,bb b (min m os.length),bb b (min m os.length),by rw [Kz];rfl,hl.qg s3,hu3.qg s3,by rw [hll,hld],bv,bv,hj,R.OB l JV,R.OB AS g7,hbk,hbk,fun v' l' H4 s4 L4 cl bd pz fr=>?_⟩;obtain ⟨p,e1,e2⟩:=L4;refine kk v' H4 s4 ⟨l,l',p,el,e1,?_,e2,cl,by rwa [Nat.two_mul],pz⟩
    rcases fr with z|⟨p',z,n⟩
    ·obtain ⟨px',z1,z2⟩:=hl
     erw [z1,e1] at z;exact ao z2 nD
    ·rw [e1] at z
     cases z;exact fun y=>by erw [y,ahl] at n
   ·intro ys H3 hy gv s3 hD
    obtain ⟨BZ,hl',hp⟩:=kh (P:=fun k v y=>∃x p,(lv.eraseIdx j)[k]?=some x/\v=.ref p/\p≠D/\H3 p=some (.lst (y.map V.int))/\tI x AS y i/\Bd (2*bb b (min m os.length)+1) y/\(y=x\/Wt y)) ys (fun k v e=>by
     obtain ⟨x,y,p,r⟩:=gv k v e
     show ⟨y,x,p,r⟩)
    let hLn:r8 H3 ys BZ :=⟨hl'.symm,fun k v y e1 e2=>by
     obtain ⟨x,p,_,e,_,r,_⟩:=hp k v y e1 e2
     show ⟨p,e,r⟩⟩
    let les:(r_.eraseIdx j).length=(lv.eraseIdx j).length:=hE.1
    let ML:Made os AS i (2*bb b (min m os.length)+1) (lv.eraseIdx j) BZ :=⟨bv,fun k x e=>by
     let hk:k<(lv.eraseIdx j).length:=(ir.mp e).1;let e1:ys[k]?=some (ys[k]'bv):=gE bv;let e2:BZ[k]?=some (BZ[k]'bv):=gE bv;obtain ⟨x',p,r1,_,_,_,r2,r3,_⟩:=hp k _ _ e1 e2;erw [e] at r1
     show ⟨_,e2,r2,r3⟩⟩
    let PL:∀l∈BZ,Pr os l:=fun l hl=>by
     obtain ⟨k,ek⟩:=IV hl;let hk:k<BZ.length:=(ir.mp ek).1;let e1:ys[k]?=some (ys[k]'(jw hl' hk)):=gE (jw hl' hk);obtain ⟨x',p,r1,_,_,_,_,_,r4⟩:=hp k _ _ e1 ek
     rcases r4 with z|z
     ·rw [z]
      exact pL x' (vN (Wp r1))
     ·exact .inr z
    let vO:=tt.trans s3;let hd3:=vO _ _ hd2;let hN3:=α5.qg vO;let hu4:=hu3.qg s3;show ⟨_,rfl,d,AN,rfl,Rd.of hd3,fun l3 n3=>?_⟩;let t4:=aG n3 (.lst (AN.map fun kv=>kV kv.1));show ⟨l3,rfl,⟨_,aV.of aj⟩,?_⟩;let dl:d≠l3:=ao hd3 n3
    refine let I:bn:=fun t Y H'=>MY fun (o7:Ε) (vV :δ) (jy :ι)=>Y=[ap a,some (.int (m:Int)),ap d,ap D,some (.int ((0:Int)+i)),some (.int (j:Int)),some u,o7]/\aq H H'/\H' d=some (.dK vV)/\H' l3=some (.lst (AN.map fun kv=>kV kv.1))/\H' D=some (.lst ys)/\r8 H' ys BZ /\Ln H' u AS/\qp H' vV jy /\jy.map (·.1)=nd.map (·.1)/\ ∀(k:Nat)(x:Nat×List Int),nd[k]?=some x->∃y,jy[k]?=some (x.1,y)/\(t<=k->y=x.2)/\(k<t->(tI x.2 AS y i/\Bd (2*bb b (min m os.length)+1) y)/\(y=x.2\/Wt y));cC (K:=K) (a:=l3) (xs:=AN.map fun kv=>kV kv.1) I
     ⟨_,AN,nd,rfl,((s1.trans s2).trans vO).trans t4,t4 _ _ hd3,aj,t4 _ _ hD,hLn.qg t4,hu4.qg t4,hN3.qg t4,rfl,fun k x e=>⟨x.2,e,fun _=>rfl,fun z=>BH z (QY _)⟩⟩ (fun t Y H' _ h=>by
      obtain ⟨_,_,_,_,_,_,h,_⟩:=h
      exact aV.of h) ?_ ?_
    ·rintro t u7 Y H4 hu7 ⟨o7,vV,jy,rfl,s4,LS,hl4,hD4,hL4,hu5,Qi,LU,Yv⟩
     rw [AY] at hu7;obtain ⟨kv,xE,rfl⟩:=JI.mp hu7;let htl:t<AN.length:=(ir.mp xE).1;let hnl:=hN.1;let ex:nd[t]?=some (nd[t]'(oZ htl hnl)):=gE (oZ htl hnl);obtain ⟨x,hx⟩:∃x,nd[t]?=some x:=⟨_,ex⟩;obtain ⟨kx,hxm⟩:kv.1=.inl (x.1:Int)/\x∈nd:=⟨(hN3.2 t kv x xE hx).1,Wp hx⟩;obtain ⟨y,ey,y1,_⟩:=Yv t x hx;let y2:=y1 (BW _);subst y2;obtain ⟨v,ev,hv⟩:=Qi.at ey
     let nk:(vV.map (·.1)).Nodup:=by
      rw [Qi.keys];exact keys_nodup (by rw [LU];exact R.asc)
     let vat:=qR nk ev;let hxl:=R.r9 x hxm;let hld:=R.lK AS g7
     let dg:dZ H4 d (kV kv.1) (some v):=by
      rw [kx,<-vat];exact dZ.k LS
     show ⟨_,rfl,_,rfl,d,v,rfl,dg,_,rfl,_,rfl,v,u,x.2,AS,i,bb b (min m os.length),bb b (min m os.length),by rw [Kz];rfl,hv,hu5,by rw [hxl,hld],bv,bv,hj,R.Qh x hxm,R.OB AS g7,hbk,hbk,fun v' l' H5 s5 L5 cl bd pz fr=>?_⟩;let Wu:=s5 _ _ LS;let l4':=Qi.1;let l5':jy.length=nd.length:=by simpa using ud O3 LU
     show ⟨_,rfl,_,rfl,d,_,rfl,jx.k Wu (IY (show vV.length<=1000 by omega) ce),?_⟩;rw [kx,zad nk ev];let dn:d≠D:=fun z=>by erw [z,hD4] at LS
     show ⟨_,vV.set t (.inl (x.1:Int),v'),jy.set t (x.1,l'),rfl,iQ (s4.trans s5) GX,aj,by rw [ak (CA dl)];exact s5 _ _ hl4,by rw [ak (CA dn)];exact s5 _ _ hD4,(hL4.qg s5).put Wu,(hu5.qg s5).put Wu,((Qi.qg s5).set L5).put Wu,?_,fun k x' ek=>?_⟩
     ·rw [List.map_set,LU]
      refine N_ fun k=>?_;rw [Pq];by_cases z:t=k
      ·subst z
       rw [tu rfl,tu (by simp;exact oZ htl hnl),AY,hx];rfl
      ·rw [qA z]
     ·obtain ⟨y',GL,a1,a2⟩:=Yv k x' ek
      by_cases z:t=k
      ·subst z
       erw [hx] at ek;show ⟨l',by rw [Pq,tu rfl,tu bv],fun w=>bv,fun _=>⟨⟨cl,by rwa [Nat.two_mul]⟩,pz⟩⟩
      ·show ⟨y',by rwa [Pq,qA z],fun w=>a1 (nZ w),fun w=>a2 bv⟩
    ·rintro Y H4 ⟨o7,vV,jy,rfl,s4,LS,hl4,hD4,hL4,hu5,Qi,LU,Yv⟩
     let l4':=Qi.1;let l5':jy.length=nd.length:=by simpa using ud O3 LU
     let hnl:=hN.1;rw [AU] at Yv
     let MN:Made os AS i (2*bb b (min m os.length)+1) (nd.map (·.2)) (jy.map (·.2)):=⟨by simp [l5'],fun k x e=>by
      rw [AY] at e;obtain ⟨x0,e0,rfl⟩:=JI.mp e;let hk:k<nd.length:=(ir.mp e0).1;obtain ⟨y,ey,_,a2⟩:=Yv k x0 e0
      show ⟨y,by rw [AY,ey];rfl,(a2 (jp hnl hk)).1⟩⟩
     let Q0:cv vV (.inl ((0:Int)+i))=none:=qS (fun z=>by
      rw [Qi.keys] at z;obtain ⟨x',AB,e⟩:=AW.mp z;let e1:(x'.1:Int)=0+i:=VM e;have:x'.1∈nd.map (·.1):=by rw [<-LU];exact AW.mpr ⟨x',AB,rfl⟩
      obtain ⟨x,hx,e2⟩:=AW.mp this;have:=R.cols x hx
      omega)
     show ⟨_,rfl,_,rfl,_,rfl,d,_,rfl,jx.k (k:=.inl ((0:Int)+i)) LS (IY (show vV.length<=1000 by omega) ce),?_⟩;rw [dq u Q0];let dn:d≠D:=fun z=>by erw [z,hD4] at LS
     let ahr:∀l∈lv.eraseIdx j,l∈lv:=fun l h=>vN h
     let ahs:∀l∈lv,l=AS\/l∈lv.eraseIdx j:=fun l h=>by
      obtain ⟨k,ek⟩:=IV h
      rcases Nat.lt_trichotomy k j with z|z|z
      ·exact .inr (Wp (i:=k) (by rwa [SG,tu z]))
      ·subst z
       erw [ej] at ek;exact .inl rfl
      ·exact .inr (Wp (i:=k-1) (by rwa [SG,qA bv,show k-1+1=k by omega]))
     let aht:(lv.eraseIdx j).length+1=lv.length:=by rw [Pf,tu hjl];exact iy hjl
     let R2:=R.step g7 ahr ahs aht hj ML LU MN
     obtain ⟨ps',Yt,O2⟩:=O.step R.piv ej (fun x hx=>R.zero AS g7 x.1 (R.cols x hx)) hj ML.len (fun k x e=>by
      obtain ⟨y,ey,k1,_⟩:=ML.to k x e
      show ⟨y,ey,k1⟩) l5' fun k x e=>by
      obtain ⟨y,ey,k1,_⟩:=MN.to k x e;show ⟨y,ey,k1⟩
     let PN:∀x∈jy ++[(i,AS)],Pr os x.2:=fun x hx=>by
      rcases DL.mp hx with z|z
      ·obtain ⟨k,ek⟩:=IV z
       let hk:k<jy.length:=(ir.mp ek).1;obtain ⟨x0,e0⟩:∃x0,nd[k]?=some x0:=⟨_,gE (jw l5' hk)⟩;obtain ⟨y,ey,_,a2⟩:=Yv k x0 e0;erw [ek] at ey
       rcases (a2 bv).2 with u|u
       ·show Pr os y
        rw [u];exact pN x0 (Wp e0)
       ·exact .inr u
      ·rw [IZ.mp z]
       exact pL AS g7
     let aag:=R2.cnt;let R3:=R2.small O2 hB (k:=min m os.length) (by rw [CL] at aag ⊢;simp at aag ⊢;omega) bv PN PL;show ⟨D,ys,_,jy ++[(i,AS)],BZ,_,_,_,_,rfl,iQ s4 GX,aj,aV.of (by rwa [ak (CA dn)]),hL4.put LS,(by rw [Kz];exact (Qi.snoc hu5).put LS),by simp;omega,R3,⟨ps',Yt,O2⟩,PN,PL⟩
  ·show ⟨_,rfl,rfl,_,rfl,bf (fun _=>?_) (fun z=>by simp at z)⟩
   show ⟨al,r_,AN,nd,lv,_,_,_,_,rfl,s1.trans s2,s2 _ _ hd,s2.seq RH,LR.qg s2,hN.qg s2,bv,R.skip hz,⟨ps,qs,O⟩,pN,pL⟩
 ·rintro Y H1 ⟨al,r_,AN,nd,lv,o4,o5,o6,o7,rfl,s1,hd,RH,LR,hN,hni,R,⟨ps,qs,O⟩,pN,pL⟩
  show ⟨_,rfl,_,rfl,uo,fun p np=>?_⟩;let sp:=aG np (.tup [.ref d,.ref al]);let cnt:=R.cnt;exact q p d al AN r_ nd lv _ (s1.trans sp) GX (s1.free np) aj (sp _ _ hd) (sp.seq RH) (hN.qg sp) (LR.qg sp) R
def GY (hb:b≠0)(h1:t.natAbs<=2^T)(h2:b.natAbs<=2^B):Sm T B (low t b):=⟨mF hb,qH hb,BX (rD hb) h1,BX (rE hb) h2⟩
def mQ {l:ο}(h:l.length<=j):l.getD j 0=0:=by
 rw [JE,IW h];rfl
def yM (m t:Nat)(nd:ι)(qs:π):Prop:=qs.length=m/\(∀i,i<t->∀x,nd[i]?=some x->qs[x.1]?=some (low (x.2.getD m 0) (x.2.getD x.1 0)))/\∀j,j<m->(∀i,i<t->∀x,nd[i]?=some x->x.1≠j)->qs[j]?=some (0,1)
def yM.sm {os:ζ}(R:Red os (m+1) m b nd lv)(F:yM m nd.length nd qs):∀q∈qs,Sm b b q:=by
 intro q hq;obtain ⟨j,hj⟩:=IV hq;let hjm:j<m:=by have:=(ir.mp hj).1;rw [<-F.1];exact this
 by_cases c:∃(i:Nat)(x:Nat×List Int),nd[i]?=some x/\x.1=j
 ·obtain ⟨i,x,e,rfl⟩:=c
  let hi:i<nd.length:=(ir.mp e).1;let h1:=F.2.1 i hi x e;erw [hj] at h1;let hm:=Wp e;exact GY (R.here x hm) (R.Qh x hm m) (R.Qh x hm x.1)
 ·let h1:=F.2.2 j hjm (fun i _ x e z=>c ⟨i,x,e,z⟩)
  erw [hj] at h1;show ⟨ce,ce,JS _,tY⟩
theorem yM.sol {os:ζ}(R:Red os (m+1) m b nd lv)(F:yM m nd.length nd qs)(hz:∀l∈lv,l.getD m 0=0):∀o∈os,ev o (pO (qs.map vl))=0:=by
 let ql:=F.1
 let zl:∀j q,qs[j]?=some q->pO (qs.map vl) j=vl q:=fun j q e=>by
  let hj:j<qs.length:=(ir.mp e).1;unfold pO;rw [tu (by rwa [AU]),JE,AY,e];rfl
 let zm:pO (qs.map vl) m= -1:=by
  unfold pO;rw [qA (by rw [AU];omega)]
 refine (R.sol _).mp ⟨fun x hx=>?_,fun l hl=>?_⟩
 ·obtain ⟨i,e⟩:=IV hx
  let hi:i<nd.length:=(ir.mp e).1;let hc:=R.cols x hx;let hh:=R.here x hx;let h1:=F.2.1 i hi x e;let zc:=zl _ _ h1;rw [vI hh] at zc
  let qz:∀j,j≠x.1->j≠m->((x.2.getD j 0:Int):Rat)*pO (qs.map vl) j=0:=by
   intro j n1 n2;by_cases hj:j<m
   ·by_cases c:∃(i:Nat)(x:Nat×List Int),nd[i]?=some x/\x.1=j
    ·obtain ⟨i',y,e',rfl⟩:=c
     rw [R.off x hx y (Wp e') (CA n1)];simp
    ·let h2:=F.2.2 j hj (fun i _ x e z=>c ⟨i,x,e,z⟩)
     rw [zl _ _ h2];unfold vl;simp;grind
   ·rw [mQ (by rw [R.r9 x hx];omega)]
    simp
  let sp:pO (qs.map vl)=fun i=>(if i=m then 0 else pO (qs.map vl) i)+(if i=m then -1 else 0):=by
   funext i;by_cases z:i=m
   ·rw [tu z,tu z,z,zm]
    grind
   ·rw [qA z,qA z]
    grind
  rw [sp,BM]
  let a1:=lH x.2 (fun i=>if i=m then 0 else pO (qs.map vl) i) x.1 (fun j hj=>by
   by_cases z:j=m
   ·simp [z]
   ·rw [qA z]
    exact qz j hj z)
  let a2:=lH x.2 (fun i=>if i=m then (-1:Rat) else 0) m (fun j hj=>by rw [qA hj];simp);rw [a1,a2];rw [qA bv,tu rfl,zc];let hh':=c_ hh;grind
 ·refine qN l _ (fun j=>?_)
  have:l.getD j 0=0:=by
   by_cases h1:j<m
   ·exact R.zero l hl j h1
   ·by_cases h2:j=m
    ·rw [h2]
     exact hz l hl
    ·exact mQ (by rw [R.lK l hl];omega)
  rw [this];simp
def yM.put {os:ζ}(R:Red os (m+1) m b nd lv)(F:yM m t nd qs)(e:nd[t]?=some x):yM m (t+1) nd (qs.set x.1 (low (x.2.getD m 0) (x.2.getD x.1 0))):=by
 let ql:=F.1;let hx:=R.cols x (Wp e)
 let dis:∀i y,i<t->nd[i]?=some y->y.1≠x.1:=fun i y hi ey=>by
  let a:=List.pairwise_iff_getElem.mp R.asc i t (by rw [AU];exact (ir.mp ey).1) (by rw [AU];exact (ir.mp e).1) hi;simp only [List.getElem_map] at a;let e1:=(ir.mp ey).2;let e2:=(ir.mp e).2;rw [e1,e2] at a;omega
 show ⟨by simp [ql],fun i hi y ey=>?_,fun j hj h=>?_⟩
 ·rcases Vl.mp hi with z|z
  ·rw [Pq,qA (CA (dis i y z ey))]
   exact F.2.1 i z y ey
  ·subst z
   erw [e] at ey;rw [Pq,tu rfl,tu (jp ql hx)]
 ·rw [Pq,qA (h t (NZ _) x e)]
  exact F.2.2 j hj (fun i hi y ey=>h i (Sa hi) y ey)
def vW (h:j<n):BA n (j:Int)=some j:=by
 unfold BA;simp;omega
def bL.putL (h:bL K H a xs)(e:H d=some (.lst ys)):bL K (upd H d o) a xs:=by
 rcases h with (h|⟨o',h⟩)|h
 ·exact .inl (.inl (by rw [ak (fun z=>by erw [z,e] at h)];exact h))
 ·exact .inl (.inr ⟨o',by rw [ak (fun z=>by erw [z,e] at h)];exact h⟩)
 ·exact .inr h
inductive lM (K:Frag)(vs:ε)(H:Hp)(Q:VK)(E_:XK):Prop
|mk (a:AO)(us:ε)(os:List (List Int:_))(m b:Nat)(_:vs=[.ref a,.int (m:Int)])(_:aV K H a us)(_:r8 H us os)(_:(∀o∈os,o.length=m+1))(_:m<=900)(_:os.length<=900)(_:(∀o∈os,Bd b o))(_:bb b (min m os.length)<=29000000)(_:(∀(l:ο)(H':Hp),aq H H' ->l.length=m+1->oG os l->(∀j,j<m->l.getD j 0=0)->l.getD m 0≠0->Q .cL H'))(_:(∀(x:AO)(gm :ε)(qs:π)(H':Hp),aq H H' ->H x=none->H' x=some (.lst gm)->eJ K H' gm qs->qs.length=m->(∀q∈qs,Sm (bb b (min m os.length)) (bb b (min m os.length)) q)->(∀o∈os,ev o (pO (qs.map vl))=0)->Q (.ref x) H'))
def yN:aC ["lines","many","told","x","column","line"] QP (ae KY):=sq
def aah (hN:∀H:Hp,bL K H aN [.int 0,.int 1])(vX:mg "NOUGHT"=some (.ref aN))(D:Def K mg "solution_of" KY QP)(u0:mg "any"=none)(Wv:ac P w K mg qf 35 "reduced" QP (ki K))(CJ:ac P w K mg qf 33 "lowest_terms" Ru gO):ac P w K mg qf 36 "solution_of" QP (lM K):=by
 refine D.oo yN fun H hr h=>?_;obtain ⟨a,us,os,m,b,rfl,hS,hL,hlen,hm,ho,hB,hb,q1,q2⟩:=h
 show ⟨_,(aa (aJ 2 yN.nd (aS Wv hr (aT (pv 0) (pv 1)))) (aa (bg (dk (aD (uU rfl) rfl u0 Ua (aK (dj (tn:=["line"]) (fr:=["many"]) (tw:=[1]) (bw (aF (pv 2))) (fw jo (bG (yg (K:=K) rfl) (pv 0) (pv 1)) ag (iz _)))))) (ah (aE jC)) aR) (aa (aJ 3 yN.nd (aH BE (bW (aK (i5 (v:=.ref aN) rfl vX rfl))) (pv 1))) (aa (bJ I_ rfl (jO (aF (pv 2))) (eU rfl (a_ (bZ 4 yN.nd) (a_ (bZ 5 yN.nd) cY))) (ah (ft (aS CJ hr (aT (bG aU (pv 5) (pv 1)) (bG aU (pv 5) (pv 4)))) (fS (pv 3) (pv 4) set_list)))) (ah (aE (pv 3))))))),?_⟩;sleep 4
 show ⟨_,rfl,_,rfl,a,us,os,m+1,m,b,rfl,hS,hL,hlen,bv,bv,bv,hB,hb,fun p d a' AN gm nd lv H1 s1 GX np hp hd RH Ui Ug R=>?_⟩;let lu:=Ug.1;let cnt:=R.cnt;show ⟨_,rfl,p,_,_,_,rfl,rfl,bL.of hp,jQ,a',rfl,⟨_,RH⟩,fun D1 n1=>?_⟩;refine cE (tG:=[some (.int (m:Int))]) (K:=K) (a:=a') (xs:=gm) (fun k v _=>∃l,lv[k]?=some l/\v=.bl (decide (l.getD m 0≠0))) n1 (IY (show gm.length<=1000 by omega) ce) (fun H2 s2=>s2.seq RH) (fun _ _ _ _ _ _ _ h=>h) ?_ ?_
 ·intro k x H2 RR ex s2 kk
  obtain ⟨l,el,b',rfl,ip⟩:=Ug.at ex;let hll:=R.lK l (Wp el);show ⟨_,rfl,_,rfl,b',_,_,_,rfl,rfl,aV.of (s2 _ _ ip),pT (pc hll),rfl,kk _ _ (aq.refl _) ⟨l,el,?_⟩⟩;simp
 ·intro ys H2 hy gv s2 hD
  let ey:ys=(lv.map fun l=>decide (l.getD m 0≠0)).map V.bl:=by
   refine N_ fun i=>?_;by_cases hi:i<ys.length
   ·let e1:ys[i]?=some ys[i]:=gE hi
    obtain ⟨l,el,e⟩:=gv i _ e1;rw [e1,e,AY,AY,el];rfl
   ·rw [IW (ii hi),IW (by simp;omega)]
  subst ey;show ⟨D1,_,rfl,aV.of hD,_,rfl,?_⟩;let B_:=s1.trans s2;refine bf (fun c=>?_) (fun c=>?_)
  ·obtain ⟨b',ip,tJ⟩:=VO.mp c
   obtain ⟨l,hl,rfl⟩:=AW.mp ip;let hn:l.getD m 0≠0:=Mp tJ;exact q1 l H2 B_ (R.lK l hl) (R.mP l hl) (R.zero l hl) hn
  ·let hz:∀l∈lv,l.getD m 0=0:=fun l hl=>by
    by_cases z:l.getD m 0=0
    ·exact z
    ·exact BH (VO.mpr ⟨true,AW.mpr ⟨l,hl,JO z⟩,rfl⟩) c
   show ⟨z1L,fun p3 n3=>?_⟩;let s3:=aG n3 (.lst [V.ref aN]);show ⟨_,rfl,p3,_,_,rfl,rfl,aj,bv,bv,BX (show 1*(m:Int).toNat<=1000 by omega) ce,fun x n4=>?_⟩;let s4:=aG n4 (.lst (DQ (m:Int).toNat [V.ref aN]).flatten);let Qj:=(B_.trans s3).trans s4;let nx:H x=none:=(B_.trans s3).free n4;let er:(DQ (m:Int).toNat [V.ref aN]).flatten=DQ m (V.ref aN):=by simp
   let GZ:=s4 _ _ (s3 _ _ (s2 _ _ hp));let LS:=s4 _ _ (s3 _ _ (s2 _ _ hd));let Qi:=((Ui.qg s2).qg s3).qg s4;let dx:d≠x:=ao (s3 _ _ (s2 _ _ hd)) n4;show ⟨_,rfl,p,_,_,_,rfl,rfl,bL.of GZ,jz,d,AN,rfl,LS,fun o=>?_⟩
   refine let I:bn:=fun t Y H'=>Ow fun (o4 o5:Ε) (qt:ε) (qs:π)=>Y=[ap a,some (.int (m:Int)),ap p,ap x,o4,o5]/\aq H H'/\H' d=some (.gP o (.dK AN))/\H' x=some (.lst qt)/\eJ K H' qt qs/\qp H' AN nd/\yM m t nd qs;gK (d:=d) (o:=o) (AN:=AN) I
    ⟨none,none,DQ m (V.ref aN),DQ m (0,1),rfl,iQ Qj GX,aj,by rw [ak (CA dx),aj,er],⟨by simp,fun i u q' e1 e2=>?_⟩,Qi.put LS,⟨by simp,fun i hi=>BH hi (QY _),fun j hj _=>by rw [Vk,tu hj]⟩⟩ (fun t Y H' _ h=>by
     obtain ⟨_,_,_,_,_,_,h,_⟩:=h
     exact h) ?_ ?_
   ·rw [Vk] at e1 e2
    by_cases z:i<m
    ·rw [tu z] at e1 e2
     cases e1;cases e2;show ⟨aN,rfl,hN _⟩
    ·rw [qA z] at e1
     cases e1
   ·rintro t k v Y H5 p7 xE ⟨o4,o5,qt,qs,rfl,s5,Wu,hx5,RI,G_,F⟩ n7
    let ht:t<AN.length:=(ir.mp xE).1;let hl5:=G_.1;obtain ⟨c,ec⟩:∃c,nd[t]?=some c:=⟨_,gE (oZ ht hl5)⟩;obtain ⟨k1,k2⟩:=G_.2 t _ c xE ec;let k1':k=.inl (c.1:Int):=k1;subst k1';obtain ⟨b',eb,ip⟩:=k2;let G':v=.ref b':=eb;subst G';let hcm:=Wp ec;let hcl:=R.r9 c hcm;let hcc:=R.cols c hcm;let s7:=aG n7 (.tup [kV (.inl (c.1:Int)),.ref b']);let Uj:=s7 _ _ ip;show ⟨p7,_,rfl,bL.of aj,rfl,_,_,rfl,_,_,rfl,rfl,_,rfl,_,rfl,b',_,_,_,rfl,rfl,aV.of Uj,pT (pc hcl),_,rfl,_,rfl,b',_,_,_,rfl,rfl,aV.of Uj,pT bv,_,_,rfl,R.here c hcm,fun p8 H8 s8 e8=>?_⟩;let LV:=s7.trans s8;let hx8:=LV _ _ hx5;let l2:=RI.1;let xn:∀{b0:AO} {o0:HO},H b0=some o0->b0≠x:=fun e=>ao e nx;let dx8:=LV _ _ Wu;show ⟨_,rfl,_,rfl,x,qt,_,c.1,rfl,rfl,hx8,vW (by rwa [l2,F.1]),?_⟩;show ⟨_,_,qt.set c.1 (.ref p8),qs.set c.1 (low (c.2.getD m 0) (c.2.getD c.1 0)),rfl,iQ (s5.trans LV) nx,by rwa [ak dx],aj,?_,?_,F.put R ec⟩
    ·let qf:eJ K H8 (qt.set c.1 (.ref p8)) (qs.set c.1 (low (c.2.getD m 0) (c.2.getD c.1 0))):=(RI.qg LV).set ⟨p8,rfl,bL.of e8⟩
     show ⟨qf.1,fun i u q' e1 e2=>?_⟩;obtain ⟨p9,e9,h9⟩:=qf.2 i u q' e1 e2;show ⟨p9,e9,bL.putL h9 hx8⟩
    ·let qf:=G_.qg LV
     show ⟨qf.1,fun i kv y e1 e2=>⟨(qf.2 i kv y e1 e2).1,?_⟩⟩;obtain ⟨p9,e9,h9⟩:=Ui.2 i kv y e1 e2 |>.2
     show ⟨p9,e9,?_⟩
     let px9:p9≠x:=fun z=>by
      have:=(s3 _ _ (s2 _ _ h9));erw [z,n4] at this
     rw [ak px9];obtain ⟨p10,e10,h10⟩:=(qf.2 i kv y e1 e2).2;erw [e9] at e10;exact h10
   ·rintro Y H5 ⟨o4,o5,qt,qs,rfl,s5,Wu,hx5,RI,G_,F⟩
    let hl5:=G_.1;rw [hl5] at F;show ⟨_,rfl,q2 x qt qs H5 s5 nx hx5 RI F.1 (F.sm R) (F.sol R hz)⟩
def lO (H:Hp)(r:AO)(ls:Β)(cu:Η):Prop:=H r=some (.lst (ls.map V.ref))/\ls.length=cu.length/\∀(i:Nat)(l:AO)(vs:ε),ls[i]?=some l->cu[i]?=some vs->H l=some (.lst vs)
def lO.qg (h:lO H r ls cu)(s:aq H H'):lO H' r ls cu:=⟨s _ _ h.1,h.2.1,fun i l vs e1 e2=>s _ _ (h.2.2 i l vs e1 e2)⟩
def Shape (T B m:Nat)(bI:ξ):Prop:=∀qs∈bI,qs.length=m/\∀q∈qs,Sm T B q
def gw (K:Frag)(H:Hp)(cu:Η)(bI:ξ):Prop:=cu.length=bI.length/\∀(i:Nat)(vs:ε)(qs:π),cu[i]?=some vs->bI[i]?=some qs->eJ K H vs qs
theorem gw.qg (h:gw K H cu bI)(s:aq H H'):gw K H' cu bI:=⟨h.1,fun i vs qs e1 e2=>(h.2 i vs qs e1 e2).qg s⟩
def OD {Z:Type}{xs:List Z}{x y:Z}(e:(xs++[x])[j]?=some y):(j<xs.length/\xs[j]?=some y)\/(j=xs.length/\x=y):=by
 by_cases c:j<xs.length
 ·rw [JU c] at e
  exact .inl ⟨c,e⟩
 ·rw [JZ (ii c)] at e
  by_cases z:j-xs.length=0
  ·rw [z] at e
   exact .inr ⟨bv,C_ e⟩
  ·rw [IW (by simp;exact gt z)] at e
   cases e
def lO.snoc (h:lO H r ls cu)(nr:r∉ls)(hD:H D=some (.lst us))(nD:D≠r):lO (upd H r (.lst (ls.map V.ref++[.ref D]))) r (ls++[D]) (cu++[us]):=by
 obtain ⟨m1,m2,m3⟩:=h;show ⟨by rw [aj,IX];rfl,by simp [m2],fun j l vs e1 e2=>?_⟩
 rcases OD e1 with ⟨c1,d1⟩|⟨c1,d1⟩<;>rcases OD e2 with ⟨c2,d2⟩|⟨c2,d2⟩
 ·let ne:l≠r:=fun z=>nr (by rw [<-z];exact Wp d1)
  rw [ak ne];exact m3 j l vs d1 d2
 ·omega
 ·omega
 ·subst d1 d2
  rwa [ak nD]
def lO.row (h:lO H r ls cu){i:Nat}{vs:ε}(e:cu[i]?=some vs):∃l,ls[i]?=some l/\H l=some (.lst vs):=by
 let hi:i<cu.length:=(ir.mp e).1;let l1:=h.2.1;let e1:ls[i]?=some (ls[i]'(nY hi l1)):=gE (nY hi l1);show ⟨_,e1,h.2.2 i _ _ e1 e⟩
def vY (cu:Η)(j:Nat):List V:=cu.map fun vs=>vs.getD j .cL
def jt (cu:Η)(m:Nat):List (List V):=(JA m).map fun j=>vY cu j
inductive mR (vs:ε)(H:Hp)(Q:VK)(E_:XK):Prop
|mk (r:AO)(ls:Β)(cu:List (List V:_))(m:Int)(_:vs=[.ref r,.int m])(_:lO H r ls cu)(_:0<=m)(_:m<=1000)(_:ls.length<=1000)(_:(∀vs∈cu,m<=(vs.length:Int)))(_:∀c cs H',aq H H' ->lO H' c cs (jt cu m.toNat)->Q (.ref c) H')
def OE:aC ["rows","many","columns","column"] Oo (ae KU):=sq
def Uk (D:Def K mg "turned" KU Oo)(bD:mg "range"=none):ac P w K mg qf 1 "turned" Oo mR:=by
 refine D.op OE fun f cD A qw s H vs Q E hr h=>?_;obtain ⟨r,ls,cu,m,rfl,M,m0,m1,hn,hv,q⟩:=h
 show ⟨_,(aa (aJ 2 OE.nd (bW iA)) (aa (bJ I_ rfl (cp rfl bD (aK (pv 1))) (bZ 3 OE.nd) (ah (bx (jq Of Sn Sl e_ (pv 2) (aK (dj (tn:=["row"]) (fr:=["column"]) (tw:=[3]) (bw (pv 0)) (bG (yg (K:=K) rfl) (pv 0) (pv 1)))))))) (ah (aE (pv 2))))),?_⟩
 let l1:=M.2.1;show ⟨z0L,fun c nc=>?_⟩;show ⟨_,rfl,_,rfl,bv,bv,?_⟩;refine let I:bn:=fun i Y H'=>Ov fun (o:Ε) (cs:Β)=>Y=[ap r,some (.int m),ap c,o]/\aq H H'/\lO H' c cs (jt cu i)/\c∉cs;cJ (lo:=0) (n:=m.toNat) I ⟨none,[],rfl,aG nc _,⟨aj,rfl,fun i l vs e=>by simp at e⟩,by simp⟩ ?_ ?_
 ·rintro i Y H' hi ⟨o,cs,rfl,s1,C,ncs⟩
  let M':=M.qg s1;show ⟨_,rfl,.inl ⟨rfl,_,aV.of C.1⟩,_,rfl,r,rfl,⟨_,aV.of M'.1⟩,fun D nD=>?_⟩;refine cE (tG:=[some (.int ((0:Int)+i))]) (K:=K) (a:=r) (xs:=ls.map V.ref) (fun k v _=>∃vs,cu[k]?=some vs/\v=vs.getD i .cL) nD (by rw [AU];exact IY hn ce) (fun H2 s2=>aV.of (s2 _ _ M'.1)) (fun _ _ _ _ _ _ _ h=>h) ?_ ?_
  ·intro k u H2 R hu s2 kk
   rw [AY] at hu;obtain ⟨l,el,rfl⟩:=JI.mp hu;let hk:k<ls.length:=(ir.mp el).1;let ev:cu[k]?=some (cu[k]'(jw l1 hk)):=gE (jw l1 hk);let hl:=M'.2.2 k l _ el ev
   have MU :i<(cu[k]'(jw l1 hk)).length:=by
    have:=hv _ (Wp ev);omega
   let ea:ib (cu[k]'(jw l1 hk)) ((0:Int)+(i:Int))=some ((cu[k]'(jw l1 hk)).getD i .cL):=by
    rw [Kz];exact bK (by rw [gE MU,JE,gE MU];rfl)
   show ⟨_,rfl,_,rfl,l,_,_,_,rfl,rfl,aV.of (s2 _ _ hl),ea,kk _ _ (aq.refl _) ⟨_,ev,rfl⟩⟩
  ·intro ys H2 hy gv s2 hD
   rw [AU] at hy
   let ey:ys=vY cu i:=by
    refine N_ fun k=>?_;unfold vY;by_cases hk:k<ys.length
    ·let e1:ys[k]?=some ys[k]:=gE hk
     obtain ⟨vs,ev,e2⟩:=gv k _ e1;rw [e1,e2,AY,ev];rfl
    ·rw [IW (ii hk),IW (by simp;omega)]
   subst ey;let lc:cs.length=i:=by have:=C.2.1;simpa [jt] using this
   let nDc:D≠c:=fun z=>by erw [z,C.1] at nD
   let fc:∀b o,H b=some o->b≠c:=fun b o e=>ao e nc;show ⟨c,_,_,rfl,rfl,s2 _ _ C.1,by rw [AU,lc];exact IY (show i<=1000 by omega) ce,?_⟩;show ⟨_,cs++[D],rfl,fun b o e=>?_,?_,fun z=>?_⟩
   ·rw [ak (fc b o e)]
    exact s2 _ _ (s1 _ _ e)
   ·let e:jt cu (i+1)=jt cu i++[vY cu i]:=by simp [jt,XI]
    rw [e];exact (C.qg s2).snoc ncs hD nDc
   ·rcases DL.mp z with y|y
    ·exact ncs y
    ·exact nDc (IZ.mp y).symm
 ·rintro Y H' ⟨o,cs,rfl,s1,C,ncs⟩
  show ⟨_,rfl,q c cs H' s1 C⟩
def dR (bI:ξ)(j:Nat):List (Int×Int):=bI.map fun qs=>qs.getD j (0,1)
def ai' (sh:Shape T B m bI)(hj:j<m):∀q∈dR bI j,Sm T B q:=fun q hq=>by
 unfold dR at hq;obtain ⟨qs,hqs,rfl⟩:=AW.mp hq;obtain ⟨hl,hs⟩:=sh qs hqs;rw [JE,gE (nY hj hl)];exact hs _ (QV _)
def Bd.of (h:∀t∈l,t.natAbs<=2^b):Bd b l:=fun j=>by
 by_cases hj:j<l.length
 ·let e:l[j]?=some l[j]:=gE hj
  rw [getD_mem e];exact h _ (QV hj)
 ·rw [mQ (ii hj)]
  exact JS _
abbrev Wl:=List Int×Int×AO×AO
def WlP (T B m:Nat)(qs:π)(d:Int×Int)(w:Wl):Prop:=js w.1 (qs++[d]) w.2.1/\0<w.2.1/\w.2.1.natAbs<=2^(B*(m+1))/\∀t∈w.1,t.natAbs<=2^(T+B*(m+1))
def zau {MZ:ζ}(h:∀l∈MZ,l.length=n)(hj:j<n):vY (MZ.map fun l=>l.map V.int) j=(MZ.map fun l=>l.getD j 0).map V.int:=by
 unfold vY;rw [DP,DP];refine NF fun l hl=>?_;let hlen:=h l hl;let e:l[j]?=some (l[j]'(nY hj hlen)):=gE (nY hj hlen);show (l.map V.int).getD j .cL=.int (l.getD j 0);rw [getD_mem e,JE,AY,e];rfl
theorem se (j:Nat):∀{ws:List Wl} {ss ys:π} {cs:π},ss.length=ws.length->ys.length=ws.length->cs.length=ws.length->
  (∀(i:Nat)(w:Wl)(s y:Int×Int),ws[i]?=some w->ss[i]?=some s->ys[i]?=some y->vl y=vl s*w.2.1)->(∀(i:Nat)(w:Wl)(c:Int×Int),ws[i]?=some w->cs[i]?=some c->((w.1.getD j 0:Int):Rat)=vl c*w.2.1)->i_ ys cs=fG (ss.map vl) (ws.map (·.1)) j
 | [],[],[],[],_,_,_,_,_=>by simp [i_,fG]
 | w::ws,s::ss,y::ys,c::cs,h1,h2,h3,h4,h5=>by
  let ih:=se j (ws:=ws) (ss:=ss) (ys:=ys) (cs:=cs) (by simpa using h1) (by simpa using h2) (by simpa using h3) (fun i w s y e1 e2 e3=>h4 (i+1) w s y (by simpa using e1) (by simpa using e2) (by simpa using e3)) (fun i w c e1 e2=>h5 (i+1) w c (by simpa using e1) (by simpa using e2));let a:=h4 0 w s y rfl rfl rfl;let b:=h5 0 w c rfl rfl;let ed:i_ (y::ys) (c::cs)=vl y*vl c+i_ ys cs:=by simp [i_]
  simp only [BS,fG];rw [ed,ih,a,b];grind
 | [],_::_,_,_,h,_,_,_,_=>by simp at h
 | [],[],_::_,_,_,h,_,_,_=>by simp at h
 | [],[],[],_::_,_,_,h,_,_=>by simp at h
 | _::_,[],_,_,h,_,_,_,_=>by simp at h
 | _::_,_::_,[],_,_,h,_,_,_=>by simp at h
 | _::_,_::_,_::_,[],_,_,h,_,_=>by simp at h
def AH (m:Nat)(MZ:ζ):List (List Int):=(JA m).map (fun j=>(MZ.map fun l=>l.getD j 0)++[0])++[(MZ.map fun l=>l.getD m 0)++[1]]
def vZ {o:ο}(h:o∈AH m MZ):∃k,k<m+1/\o=(MZ.map fun l=>l.getD k 0)++[if k=m then 1 else 0]/\True:=by
 unfold AH at h
 rcases DL.mp h with z|z
 ·obtain ⟨j,hj,rfl⟩:=AW.mp z
  have Wi :j<m:=JW.mp hj;show ⟨j,io Wi,by rw [qA bv],trivial⟩
 ·show ⟨m,im,by rw [tu rfl];exact IZ.mp z,trivial⟩
def aho (h:k<m+1):(MZ.map fun l=>l.getD k 0)++[if k=m then 1 else 0]∈AH m MZ:=by
 unfold AH;by_cases z:k=m
 ·subst z
  rw [tu rfl];simp
 ·rw [qA z]
  exact DL.mpr (.inl (AW.mpr ⟨k,JW.mpr bv,rfl⟩))
def acB {ws:List Wl}(hlen:∀l∈ws.map (·.1),l.length=m+1)(hn:ws.length=n)(c0:oG (ws.map (·.1)) l0)(h0:∀j,j<m->l0.getD j 0=0)(h0m:l0.getD m 0≠0)(c1:oG (AH m (ws.map (·.1))) l1)(l1l:l1.length=n+1)(h1:∀j,j<n->l1.getD j 0=0)(hp:∀o∈AH m (ws.map (·.1)),o.length=n+1):l1.getD n 0=0:=by
 obtain ⟨y0,ly,ey⟩:=c0;have aAx :=c_ h0m;let ly':(y0.map fun a=>a*(1 / ((l0.getD m 0:Int):Rat))).length=(ws.map (·.1)).length:=by simp [ly]
 let all:∀o∈AH m (ws.map (·.1)),ev o (pO (y0.map fun a=>a*(1 / ((l0.getD m 0:Int):Rat))))=0:=by
  intro o ho;obtain ⟨k,hk,rfl,_⟩:=vZ ho;rw [BN k _ (ws.map (·.1)) _ ly',rV,<-ey k];by_cases z:k=m
  ·subst z
   rw [tu rfl];let e':((1:Int):Rat)=1:=by simp
   rw [e'];grind
  ·rw [qA z,h0 k bv]
   simp;grind
 let e:=adH (n:=n+1) c1 bv (fun o ho=>by rw [hp o ho];exact BW _) all
 rw [lH l1 _ n (fun j hj=>by
  by_cases z:j<n
  ·rw [h1 j z]
   simp
  ·rw [mQ bv]
   simp)] at e
 let zn:pO (y0.map fun a=>a*(1 / ((l0.getD m 0:Int):Rat))) n= -1:=by
  unfold pO;rw [qA (by rw [ly',AU];omega)]
 rw [zn] at e;have:((l1.getD n 0:Int):Rat)=0:=by grind
 exact_mod_cast this
def zal {d:Int×Int}(h:js ts (qs++[d]) b)(hj:j<qs.length):((ts.getD j 0:Int):Rat)=vl (qs.getD j (0,1))*b:=by
 let l:=h.1;rw [CL] at l;simp at l;let e1:ts[j]?=some (ts[j]'bv):=gE bv;let e2:qs[j]?=some qs[j]:=gE hj;have:=h.2 j _ _ e1 (by rwa [JU hj]);rw [getD_mem e1,JE,e2];exact this
def aan {d:Int×Int}(h:js ts (qs++[d]) b)(hm:qs.length=m):((ts.getD m 0:Int):Rat)=vl d*b:=by
 let l:=h.1;rw [CL] at l;simp at l;let e1:ts[m]?=some (ts[m]'bv):=gE bv;have:=h.2 m _ d e1 (by rw [JZ bv,hm];simp);rw [getD_mem e1];exact this
inductive v3 (K:Frag)(vs:ε)(H:Hp)(Q:VK)(E_:XK):Prop
|mk (r dl:AO)(m:Nat)(ls:Β)(cu:List (List V:_))(bI:ξ)(dus:ε)(ds:π)(T B α:Nat)(_:vs=[.ref r,.ref dl,.int (m:Int)])(_:lO H r ls cu)(_:gw K H cu bI)(_:H dl=some (.lst dus))(_:eJ K H dus ds)(_:ds.length=bI.length)(_:Shape T B m bI)(_:(∀d∈ds,Sm T B d))(_:m<=100)(_:bI.length<=100)(_:T<=20000)(_:B*(m+1)<=100000)(_:B<=8000)(_:bb (T+B*(m+1)) (min (m+1) bI.length)<=α)(_:α<=29000000)(_:(∀(p x:AO)(us:ε)(xs:π)(H':Hp),aq H H' ->H' p=some (.tup [.str "solved",.ref x])->H' x=some (.lst us)->eJ K H' us xs->xs.length=m->(∀q∈xs,Sm α α q)->(∀(i:Nat)(qs:π)(d:Int×Int),bI[i]?=some qs->ds[i]?=some d->i_ qs xs=vl d)->Q (.ref p) H'))(_:(∀(p y:AO)(us:ε)(ys:π)(H':Hp),aq H H' ->H' p=some (.tup [.str "paper",.ref y])->H' y=some (.lst us)->eJ K H' us ys->ys.length=bI.length->(∀q∈ys,Sm (α+B*(m+1)) α q)->(∀j,j<m->i_ ys (dR bI j)=0)->i_ ys ds=1->Q (.ref p) H'))
def sf:aC ["rows","due","many","wholes","lines","x","columns","papers","shares"] Zn (ae KS):=sq
def aai (D:Def K mg "solve_rows" KS Zn)(kX:mg "zip"=none)(aL:mg "len"=none)(Wy:ac P w K mg qf 2 "whole_row" ["row"] (RB K))(aaj:ac P w K mg qf 36 "solution_of" QP (lM K))(Wz:ac P w K mg qf 1 "turned" Oo mR)(CJ:ac P w K mg qf 33 "lowest_terms" Ru gO):
  ac P w K mg qf 37 "solve_rows" Zn (v3 K):=by
 refine D.op sf fun f cD A qw s H vs Q E hr h=>?_;obtain ⟨r,dl,m,ls,cu,bI,dus,ds,T,B,α,rfl,M,NN,hdl,ND,Zd,sh,sd,hm,hn,hT,hB,hB1,hZ,hZ1,q1,q2⟩:=h
 show ⟨_,(aa (ai2 (i:=3) (tn:=["row","number"]) (fr:=[]) (tw:=[]) sf.nd (BI rfl kX (aT (pv 0) (pv 1))) (fun _ _ _ _=>(vH (K:=K) (n:=2) rfl rfl (a_ (gF (i:=0) (show (["row","number"]:List Str).Nodup from by decide+kernel) rfl (Np rfl)) (a_ (gF (i:=1) (show (["row","number"]:List Str).Nodup from by decide+kernel) rfl (Np rfl)) cY)))) (fun _ _ _ _=>rK) (pS Wy hr (aK (aH i8 (pv 0) (bW (aK (pv 1))))))) (aa (r6 (i:=4) (tn:=["whole"]) (fr:=[]) (tw:=[]) sf.nd (bw (pv 3)) (bG (cR (K:=K) rfl) (pv 0) ag)) (aa (aJ 5 sf.nd (aS aaj hr (aT (pv 4) (pv 2)))) (aa (bg (bB afy (pv 5) jC) (ah (aE (aZ (aT cy (pv 5))))) aR) (aa (aJ 6 sf.nd (aS Wz hr (aT (pv 4) (aH bV (pv 2) ag)))) (aa (aJ 7 sf.nd (aH i8 (dj (tn:=["column"]) (fr:=[]) (tw:=[]) (bw (dB ig (pv 6) ie (dh (pv 2)))) (aH i8 (pv 0) (bW (aK ag)))) (bW (aK (aH i8 (bG aU (pv 6) (pv 2)) (bW (aK ag))))))) (aa (aJ 8 sf.nd (aS aaj hr (aT (pv 7) (aD av rfl aL bM (aK (pv 4)))))) (ah (aE (aZ (aT cy (Ox (tn:=zaX) (fr:=[]) (tw:=[]) (BI rfl kX (aT (pv 8) (pv 3))) (fun _ _ _ _=>(vH (K:=K) (n:=2) rfl rfl (a_ (gF (i:=0) (show (zaX:List Str).Nodup from by decide+kernel) rfl (Np rfl)) (a_ (gF (i:=1) (show (zaX:List Str).Nodup from by decide+kernel) rfl (Np rfl)) cY)))) (fun _ _ _ _=>rK) (pS CJ hr (aT (aH kc (bG (cR (K:=K) rfl) (pv 0) ag) (bG (cR (K:=K) rfl) (pv 1) ag)) (bG (cR (K:=K) rfl) (pv 0) ag))))))))))))))),?_⟩;sleep 6
 let l1:=M.2.1;let l2:=NN.1;let l3:=ND.1;show ⟨_,rfl,_,rfl,r,dl,rfl,⟨_,aV.of M.1⟩,⟨_,aV.of hdl⟩,fun D1 n1=>?_⟩;refine acL (tG:=[]) (K:=K) (xs:=ls.map V.ref) (ys:=dus) (fun i v H=>∃w:Wl,v=.ref w.2.2.2/\w.2.2.1≠D1/\H w.2.2.2=some (.tup [.ref w.2.2.1,.int w.2.1])/\H w.2.2.1=some (.lst (w.1.map V.int))/\∀qs d,bI[i]?=some qs->ds[i]?=some d->WlP T B m qs d w) n1 (by rw [AU];exact IY (show ls.length<=1000 by omega) ce) (by rw [AU];omega) (fun H2 s2=>aV.of (s2 _ _ M.1)) (fun H2 s2=>aV.of (s2 _ _ hdl)) ?_ ?_ ?_
 ·rintro i v H2 H3 ys hD ks ⟨w,e1,e2,e3,e4,e5⟩
  show ⟨w,e1,e2,ks _ _ (fun z=>by erw [z,hD] at e3) e3,ks _ _ e2 e4,e5⟩
 ·rintro i x y H2 RR ex ey s2 ⟨ys0,hD0⟩ kk
  rw [AY] at ex;obtain ⟨l,el,rfl⟩:=JI.mp ex;let hi:i<ls.length:=(ir.mp el).1;obtain ⟨qs,eq⟩:∃qs,bI[i]?=some qs:=⟨_,gE bv⟩;obtain ⟨vs,ev⟩:∃vs,cu[i]?=some vs:=⟨_,gE (jw l1 hi)⟩;let hl:=M.2.2 i l vs el ev;let hq:=NN.2 i vs qs ev eq;obtain ⟨d,ed,nd⟩:=ND.at ey;obtain ⟨lq,sq⟩:=sh qs (Wp eq);let lvs:=hq.1;show ⟨_,rfl,_,rfl,z1L,fun p1 np1=>?_⟩;let t1:=aG np1 (.lst [y]);show ⟨l,p1,vs,_,rfl,rfl,t1 _ _ (s2 _ _ hl),aj,BX (show vs.length+1<=1000 by omega) ce,fun p2 np2=>?_⟩;let t2:=aG np2 (.lst (vs++[y]));let t12:=t1.trans t2;show ⟨p2,qs++[d],T,B,rfl,⟨_,aV.of aj,(eJ.snoc ((hq.qg s2).qg t12) ((nd.qg s2).qg t12))⟩,fun q' qi =>?_,hT,by rwa [CL,lq],hB1,by rw [CL,lq];show m+1<=1000;omega,fun p3 l3' ts b H3 s3 nl hp3 hl3 hb hbs wh hts=>?_⟩
  ·rcases DL.mp qi with z|z
   ·exact sq q' z
   ·rw [IZ.mp z]
    exact sd d (Wp ed)
  ·refine kk _ _ (t12.trans s3) ⟨(ts,b,l3',p3),rfl,fun z=>?_,hp3,hl3,fun Yt d' e1 e2=>?_⟩
   ·have:=t12 _ _ hD0
    erw [show l3'=D1 from z,this] at nl
   ·rw [eq] at e1
    rw [ed] at e2;cases e1;cases e2;rw [CL,lq] at hbs hts;show ⟨wh,hb,hbs,hts⟩
 ·intro zs H2 hz gv s2 hD1
  rw [AU] at hz;obtain ⟨ws,lw,hw⟩:=kh (P:=fun i v (w:Wl)=>v=.ref w.2.2.2/\w.2.2.1≠D1/\H2 w.2.2.2=some (.tup [.ref w.2.2.1,.int w.2.1])/\H2 w.2.2.1=some (.lst (w.1.map V.int))/\∀qs d,bI[i]?=some qs->ds[i]?=some d->WlP T B m qs d w) zs gv
  let ez:zs=ws.map (fun w=>V.ref w.2.2.2):=by
   refine N_ fun i=>?_;rw [AY];by_cases hi:i<zs.length
   ·let e1:zs[i]?=some zs[i]:=gE hi
    let e2:ws[i]?=some (ws[i]'(jp lw hi)):=gE (jp lw hi);let h:=(hw i _ _ e1 e2).1;rw [e1,e2,h];rfl
   ·rw [IW (ii hi),IW bv]
    rfl
  subst ez;let RJ:ws.length=bI.length:=bv
  let Yw:∀(i:Nat)(w:Wl),ws[i]?=some w->H2 w.2.2.2=some (.tup [.ref w.2.2.1,.int w.2.1])/\H2 w.2.2.1=some (.lst (w.1.map V.int))/\∀qs d,bI[i]?=some qs->ds[i]?=some d->WlP T B m qs d w:=fun i w e=>(hw i _ w (by rw [AY,e];rfl) e).2.2
  let wp:∀(i:Nat)(w:Wl),ws[i]?=some w->∃qs d,bI[i]?=some qs/\ds[i]?=some d/\WlP T B m qs d w:=fun i w e=>by
   let hi:i<ws.length:=(ir.mp e).1;obtain ⟨qs,eq⟩:∃qs,bI[i]?=some qs:=⟨_,gE bv⟩;obtain ⟨d,ed⟩:∃d,ds[i]?=some d:=⟨_,gE bv⟩;show ⟨qs,d,eq,ed,(Yw i w e).2.2 qs d eq ed⟩
  let LX:∀l∈ws.map (·.1),l.length=m+1:=fun l hl=>by
   obtain ⟨w,WA,rfl⟩:=AW.mp hl;obtain ⟨i,e⟩:=IV WA;obtain ⟨qs,d,eq,_,wh,_⟩:=wp i w e;have:=wh.1;rwa [CL,(sh qs (Wp eq)).1] at this
  let wbd:∀l∈ws.map (·.1),Bd (T+B*(m+1)) l:=fun l hl=>by
   obtain ⟨w,WA,rfl⟩:=AW.mp hl;obtain ⟨i,e⟩:=IV WA;obtain ⟨qs,d,eq,_,_,_,_,h⟩:=wp i w e;exact Bd.of h
  let hlm:(ws.map (·.1)).length=bI.length:=by rwa [AU]
  show ⟨_,rfl,D1,rfl,⟨_,aV.of hD1⟩,fun D2 n2=>?_⟩;refine cE (tG:=[]) (K:=K) (a:=D1) (xs:=ws.map (fun w=>V.ref w.2.2.2)) (fun k v _=>∃w,ws[k]?=some w/\v=.ref w.2.2.1) n2 (by rw [AU];exact IY (show ws.length<=1000 by omega) ce) (fun H3 s3=>aV.of (s3 _ _ hD1)) (fun _ _ _ _ _ _ _ h=>h) ?_ ?_
  ·intro k x H3 RR ex s3 kk
   rw [AY] at ex;obtain ⟨w,ew,rfl⟩:=JI.mp ex;show ⟨_,rfl,w.2.2.2,_,_,_,rfl,rfl,bL.of (s3 _ _ (Yw k w ew).1),jz,kk _ _ (aq.refl _) ⟨w,ew,rfl⟩⟩
  intro ys H3 hy aap s3 hD2
  let ey:ys=(ws.map (fun w=>w.2.2.1)).map V.ref:=by
   refine N_ fun i=>?_;rw [AU] at hy;by_cases hi:i<ys.length
   ·let e1:ys[i]?=some ys[i]:=gE hi
    obtain ⟨w,e2,e3⟩:=aap i _ e1;rw [e1,e3,AY,AY,e2];rfl
   ·rw [IW (ii hi),IW (by simp;omega)]
  subst ey
  let hLl:r8 H3 ((ws.map (fun w=>w.2.2.1)).map V.ref) (ws.map (·.1)):=⟨by simp,fun i u l e1 e2=>by
   rw [AY,AY] at e1;rw [AY] at e2;cases e:ws[i]? with
   | none=>erw [e] at e2
   | some w=>
    rw [e] at e1 e2;cases e1;cases e2
    show ⟨w.2.2.1,rfl,s3 _ _ (Yw i w e).2.1⟩⟩
  let hMm:lO H3 D2 (ws.map (fun w=>w.2.2.1)) ((ws.map (·.1)).map fun l=>l.map V.int):=⟨hD2,by simp,fun i l vs e1 e2=>by
   rw [AY] at e1;rw [AY,AY] at e2;cases e:ws[i]? with
   | none=>erw [e] at e2
   | some w=>
    rw [e] at e1 e2;cases e1;cases e2
    exact s3 _ _ (Yw i w e).2.1⟩
  let mn:bb (T+B*(m+1)) (min m (ws.map (·.1)).length)<=α:=BX (vT _ (by rw [hlm];omega)) hZ;let s23:=s2.trans s3;show ⟨_,rfl,_,rfl,D2,_,ws.map (·.1),m,T+B*(m+1),rfl,aV.of hD2,hLl,LX,bv,bv,wbd,BX mn hZ1,fun l0 H4 s4 l0l cm l00 l0m=>?_,fun x gm xs H4 s4 nx hx nxs lxs sxs sol=>?_⟩
  ·show ⟨_,rfl,rfl,_,rfl,bf (fun z=>by simp at z) (fun _=>?_)⟩
   let M4:=hMm.qg s4;show ⟨_,rfl,_,rfl,_,_,rfl,rfl,D2,ws.map (fun w=>w.2.2.1),_,(m:Int)+1,rfl,M4,bv,bv,by rw [AU];omega,fun vs hvs=>?_,fun c cs H5 s5 M5=>?_⟩
   ·obtain ⟨l,hl,rfl⟩:=AW.mp hvs
    rw [AU,LX l hl];omega
   let lcs:cs.length=m+1:=by
    have:=M5.2.1;unfold jt at this;simp at this;omega
   let col:∀k,k<m+1->∃l,cs[k]?=some l/\H5 l=some (.lst (((ws.map (·.1)).map fun l=>l.getD k 0).map V.int)):=fun k hk=>by
    let e:(jt ((ws.map (·.1)).map fun l=>l.map V.int) ((m:Int)+1).toNat)[k]?=some (((ws.map (·.1)).map fun l=>l.getD k 0).map V.int):=by
     rw [<-zau LX hk];unfold jt;rw [AY,YX bv];rfl
    exact M5.row e
   show ⟨_,rfl,_,rfl,_,rfl,c,_,rfl,aV.of M5.1,fun p6 n6=>?_⟩;let t6:=aG n6 (.lst (eV (cs.map V.ref) none (some (m:Int))));show ⟨p6,rfl,⟨_,aV.of aj⟩,fun D6 nD6=>?_⟩;let lcl:((ws.map (·.1)).map fun l=>l.getD 0 0).length<=100:=by simp;omega
   refine lG (tG:=[]) (K:=K) (a:=p6) (xs:=(cs.map V.ref).take m) (fun k v H=>∃p,v=.ref p/\p≠D6/\H p=some (.lst ((List.map (fun l:List Int=>l.getD k 0) (ws.map (fun w:Wl=>w.1))++[(0:Int)]).map V.int))) nD6 (IY (show ((cs.map V.ref).take m).length<=1000 by simp;omega) ce) (fun H7 s7=>aV.of (s7 _ _ (by rw [aj,GV (by simp;omega)]))) ?_ ?_ ?_
   ·rintro k v H7 H8 ys hD ks ⟨p,e1,e2,e3⟩
    show ⟨p,e1,e2,ks _ _ e2 e3⟩
   ·rintro k x H7 RR ex s7 ⟨ys0,yL⟩ kk
    let hk:k<m:=by have:=(ir.mp ex).1;simp at this;omega
    obtain ⟨l,el,hl⟩:=col k (io hk);erw [List.getElem?_take,tu hk,AY,el] at ex;show ⟨_,rfl,z1L,fun pz nz=>?_⟩;let tz:=aG nz (.lst [.int 0]);show ⟨l,pz,_,_,rfl,rfl,tz _ _ (s7 _ _ (t6 _ _ hl)),aj,BX (show _<=1000 by simp;omega) ce,fun pn nn=>?_⟩;let tn:=aG nn (.lst (((ws.map (·.1)).map fun l=>l.getD k 0).map V.int++[.int 0]));refine kk _ _ (tz.trans tn) ⟨pn,rfl,fun z=>?_,by rw [aj,IX];rfl⟩;have:=tz _ _ yL;erw [z,this] at nn
   intro Qk H7 hy6 aaq s7 hD6;let ly6:Qk.length=m:=by rw [hy6];simp;omega
   let t67:=t6.trans s7;obtain ⟨lm,elm,ahG⟩:=col m im;show ⟨_,rfl,_,rfl,c,_,_,_,rfl,rfl,aV.of (t67 _ _ M5.1),bK (by rw [AY,elm];rfl),z1L,fun pz nz=>?_⟩;let tz:=aG nz (.lst [.int 1]);show ⟨lm,pz,_,_,rfl,rfl,tz _ _ (t67 _ _ ahG),aj,BX (show _<=1000 by simp;omega) ce,fun pn nn=>?_⟩;let tn:=aG nn (.lst (((ws.map (·.1)).map fun l=>l.getD m 0).map V.int++[.int 1]));show ⟨z1L,fun pL nL=>?_⟩;let tL:=aG nL (.lst [V.ref pn]);let tzL:=(tz.trans tn).trans tL;show ⟨D6,pL,Qk,_,rfl,rfl,tzL _ _ hD6,aj,BX (show Qk.length+1<=1000 by omega) ce,fun pP nP=>?_⟩;let tP:=aG nP (.lst (Qk++[V.ref pn]));let s7P:=tzL.trans tP;let hpn:=tP _ _ (tL _ _ (aj (H:=upd H7 pz (.lst [.int 1])) (a:=pn) (o:=.lst (((ws.map (·.1)).map fun l=>l.getD m 0).map V.int++[.int 1]))));let eP:upd (upd (upd (upd H7 pz (.lst [.int 1])) pn (.lst (((ws.map (·.1)).map fun l=>l.getD m 0).map V.int++[.int 1]))) pL (.lst [V.ref pn])) pP (.lst (Qk++[V.ref pn])) pP=some (.lst (Qk++[V.ref pn])):=aj
   let ahH:∀(k:Nat)(v:V),Qk[k]?=some v->Ln H7 v (((ws.map (·.1)).map fun l=>l.getD k 0)++[0]):=fun k v e=>by
    obtain ⟨p,e1,_,e3⟩:=aaq k v e;show ⟨p,e1,e3⟩
   let s5P:=t67.trans s7P;generalize upd (upd (upd (upd H7 pz (.lst [.int 1])) pn (.lst (((ws.map (·.1)).map fun l=>l.getD m 0).map V.int++[.int 1]))) pL (.lst [V.ref pn])) pP (.lst (Qk++[V.ref pn]))=H9 at*
   let ahI:r8 H9 (Qk++[V.ref pn]) (AH m (ws.map (·.1))):=by
    show ⟨by simp [AH,ly6],fun k u l e1 e2=>?_⟩;unfold AH at e2;by_cases hk:k<m
    ·rw [JU (jp ly6 hk)] at e1
     erw [JU (by simpa using hk),AY,YX hk] at e2;exact (ahH k u e1).qg s7P
    ·rw [JZ bv] at e1
     rw [JZ (by simp;exact ii hk)] at e2;by_cases hkm:k=m
     ·subst hkm
      rw [show k-Qk.length=0 by omega] at e1;rw [show k-((JA k).map fun j=>((ws.map (·.1)).map fun l=>l.getD j 0)++[0]).length=0 by simp] at e2;cases e1;cases e2;show ⟨pn,rfl,by rw [hpn,IX];rfl⟩
     ·rw [IW (by simp;omega)] at e1
      cases e1
   let ppl:∀o∈AH m (ws.map (·.1)),o.length=bI.length+1:=fun o ho=>by
    rcases vZ ho with ⟨k,hk,e⟩
    rw [e.1];simp [RJ]
   let ppb:∀o∈AH m (ws.map (·.1)),Bd (T+B*(m+1)) o:=fun o ho=>by
    rcases vZ ho with ⟨k,hk,e,hc⟩
    rw [e];refine Bd.of fun t ht=>?_
    rcases DL.mp ht with z|z
    ·obtain ⟨l,hl,rfl⟩:=AW.mp z
     exact wbd l hl k
    ·rw [IZ.mp z]
     refine BX ?_ (tY (n:=T+B*(m+1)));split<;>decide
   let lpp:(AH m (ws.map (·.1))).length=m+1:=by simp [AH]
   let mn2:bb (T+B*(m+1)) (min bI.length (AH m (ws.map (·.1))).length)<=α:=BX (vT _ (by rw [lpp];omega)) hZ;let s39:=(s4.trans s5).trans s5P;show ⟨_,rfl,_,rfl,D2,_,rfl,.inl (aV.of (s39 _ _ hD2)),pP,_,AH m (ws.map (·.1)),bI.length,T+B*(m+1),by simp [RJ],aV.of eP,ahI,ppl,bv,bv,ppb,BX mn2 hZ1,fun l1 VX AF l1l cm1 l10 l1m=>?_,fun x2 qt ss VX AF nx2 hx2 nss WC sss ahK=>?_⟩
   ·exact BH (acB LX RJ cm l00 l0m cm1 l1l l10 ppl) l1m
   let csm:∀k,k<m+1->fG (ss.map vl) (ws.map (·.1)) k=if k=m then 1 else 0:=fun k hk=>by
    let e:=ahK _ (aho hk);rw [BN k _ (ws.map (·.1)) (ss.map vl) (by simp [RJ,WC])] at e;by_cases z:k=m
    ·rw [tu z] at e ⊢
     let e':((1:Int):Rat)=1:=by simp
     rw [e'] at e;grind
    ·rw [qA z] at e ⊢
     let e':((0:Int):Rat)=0:=by simp
     rw [e'] at e;grind
   let WD:=s39.trans AF;let aar:=WD _ _ (s3 _ _ hD1);let aAS:=nss.1;show ⟨_,rfl,_,rfl,x2,D1,rfl,⟨_,aV.of hx2⟩,⟨_,aV.of aar⟩,fun D9 n9=>?_⟩;refine yh (tG:=[]) (K:=K) (xs:=qt) (ys:=ws.map (fun w=>V.ref w.2.2.2)) (fun k v H=>∃w q,ws[k]?=some w/\ss[k]?=some q/\Nm H v (low (q.1*w.2.1) q.2)) n9 (IY (show qt.length<=1000 by omega) ce) (by rw [AU];omega) (fun Ym NO=>aV.of (NO _ _ hx2)) (fun Ym NO=>aV.of (NO _ _ aar)) ?_ ?_ ?_
   ·rintro k v Ym H12 ys hD ks ⟨w,q,e1,e2,e3⟩
    show ⟨w,q,e1,e2,e3.kept hD ks⟩
   ·intro k x y Ym RR ex ey NO kk
    obtain ⟨q,WE,ps,rfl,hps⟩:=nss.at ex;rw [AY] at ey;obtain ⟨w,ew,rfl⟩:=JI.mp ey;obtain ⟨qs,d,eqs,eds,wh,wb,wbs,_⟩:=wp k w ew;let sq:=sss q (Wp WE);let hw1:=NO _ _ (WD _ _ (s3 _ _ (Yw k w ew).1));let aat:=Ty.aq.bO NO hps;show ⟨_,rfl,ps,_,_,_,rfl,rfl,aat,jz,_,rfl,w.2.2.2,_,_,_,rfl,rfl,bL.of hw1,jQ,_,_,rfl,rfl,iK (rN sq.top mn2) wbs bv,_,rfl,ps,_,_,_,rfl,rfl,aat,jQ,_,_,rfl,by have:=sq.pos;exact ms this,fun p8 H8 s8 e8=>kk _ _ s8 ⟨w,q,ew,WE,p8,rfl,e8⟩⟩
   intro WG Ym h9 aau NO hD9;show ⟨uo,fun p12 Yx=>?_⟩;let B_:=aG Yx (.tup [.str "paper",.ref D9]);let yat:∀(k:Nat)(w:Wl)(q:Int×Int),ws[k]?=some w->ss[k]?=some q->(Nc (fun (w:Wl) (q:Int×Int)=>low (q.1*w.2.1) q.2) ws ss)[k]?=some (low (q.1*w.2.1) q.2):=fun k w q e1 e2=>by rw [ZE,e1,e2]
   let OG:(Nc (fun (w:Wl) (q:Int×Int)=>low (q.1*w.2.1) q.2) ws ss).length=bI.length:=by simp [RJ,WC]
   let vly:∀(k:Nat)(w:Wl)(q y:Int×Int),ws[k]?=some w->ss[k]?=some q->(Nc (fun (w:Wl) (q:Int×Int)=>low (q.1*w.2.1) q.2) ws ss)[k]?=some y->vl y=vl q*w.2.1:=fun k w q y e1 e2 e3=>by
    erw [yat k w q e1 e2] at e3;let sq:=sss q (Wp e2);rw [vI (by have:=sq.pos;exact ms this)];unfold vl;push_cast;grind
   refine q2 p12 D9 WG (Nc (fun (w:Wl) (q:Int×Int)=>low (q.1*w.2.1) q.2) ws ss) _ (((s23.trans WD).trans NO).trans B_) aj (B_ _ _ hD9) ⟨by rw [h9,OG];exact or WC aAS,fun k u y e1 e2=>?_⟩ OG (fun y hy=>?_) (fun j hj=>?_) ?_
   ·obtain ⟨w,q,ew,WE,p,e,hp⟩:=aau k u e1
    erw [yat k w q ew WE] at e2;show ⟨p,e,bL.of (B_ _ _ hp)⟩
   ·obtain ⟨k,hk⟩:=IV hy
    let hkl:k<bI.length:=by rw [<-OG];exact (ir.mp hk).1
    obtain ⟨w,ew⟩:∃w,ws[k]?=some w:=⟨_,gE bv⟩;obtain ⟨q,WE⟩:∃q,ss[k]?=some q:=⟨_,gE (jp WC hkl)⟩;erw [yat k w q ew WE] at hk;obtain ⟨qs,d,eqs,eds,wh,wb,wbs,_⟩:=wp k w ew;let sq:=sss q (Wp WE);exact GY (by have:=sq.pos;exact ms this) (vJ (rN sq.top mn2) wbs) (rN sq.bot mn2)
   ·rw [se j (ws:=ws) (ss:=ss) bv (by rw [OG,RJ]) (by simp [dR,RJ]) vly ?_,csm j (io hj),qA bv]
    intro k w cq ew ec;obtain ⟨qs,d,eqs,eds,wh,_⟩:=wp k w ew;unfold dR at ec;erw [AY,eqs] at ec;exact zal wh (by rwa [(sh qs (Wp eqs)).1])
   ·rw [se m (ws:=ws) (ss:=ss) bv (by rw [OG,RJ]) bv vly ?_,csm m im,tu rfl]
    intro k w cq ew ec;obtain ⟨qs,d,eqs,eds,wh,_⟩:=wp k w ew;erw [ec] at eds;exact aan wh (sh qs (Wp eqs)).1
  ·show ⟨_,rfl,rfl,_,rfl,bf (fun _=>?_) (fun z=>by simp at z)⟩
   show ⟨_,rfl,uo,fun p5 n5=>?_⟩;let s5:=aG n5 (.tup [.str "solved",.ref x]);refine q1 p5 x gm xs _ ((s23.trans s4).trans s5) aj (s5 _ _ hx) (nxs.qg s5) lxs (fun q hq=>(sxs q hq).up mn mn) (fun i qs d eq ed=>?_);let hi:i<bI.length:=(ir.mp eq).1;obtain ⟨w,ew⟩:∃w,ws[i]?=some w:=⟨_,gE bv⟩;obtain ⟨wh,wb,_⟩:=(Yw i w ew).2.2 qs d eq ed;let e0:=sol w.1 (AW.mpr ⟨w,Wp ew,rfl⟩);rw [yw wh (by rw [lxs,(sh qs (Wp eq)).1])] at e0;let wb':=c_ (b:=w.2.1) (ms wb);grind
inductive CM (K:Frag)(f:Int×Int->Int×Int->Int×Int)(vs:ε)(H:Hp)(Q:VK)(E_:XK):Prop
|mk (u v:V)(x y:Int×Int)(_:vs=[u,v])(_:og K H u x)(_:og K H v y)(_:α6 100000 x)(_:α6 100000 y)(_:gives H Q (f x y))
def aav:aC LW LW (ae CD):=sq
def aaw (hM:ya CX)(D:Def K mg "difference_of" CD LW)(CJ:Fn P w K mg qf CX 33 "lowest_terms" Ru gO):Fn P w K mg qf CX 34 "difference_of" LW (CM K subQ):=by
 refine D.op aav fun f cD A qw s H vs Q E hr h=>?_;obtain ⟨u,v,x,y,rfl,⟨p1,rfl,h1⟩,⟨p2,rfl,h2⟩,k1,k2,q⟩:=h;let px:=rH (X:=mz CX P w K mg qf LW "difference_of" (ae CD) f cD A qw s H E) hM;show ⟨_,(ah (aE (rJ CJ hr.mo px (aT (aH dc (aH di (aF (pv 0)) (aF (pv 1))) (aH di (aF (pv 1)) (aF (pv 0)))) (aH di (aF (pv 0)) (aF (pv 1))))))),?_⟩;let b1:=k1.top;let b2:=k1.bot;let b3:=k2.top;let b4:=k2.bot;let c:∀{i j:Int},intBits i<=100000->intBits j<=100000->uN i j:=fun a b=>⟨BX a ce,BX b ce⟩;show ⟨_,rfl,p1,_,_,_,rfl,rfl,h1,jz,_,rfl,p2,_,_,_,rfl,rfl,h2,jQ,_,_,rfl,rfl,c b1 b4,_,rfl,p2,_,_,_,rfl,rfl,h2,jz,_,rfl,p1,_,_,_,rfl,rfl,h1,jQ,_,_,rfl,rfl,c b3 b2,_,_,rfl,rfl,_,rfl,p1,_,_,_,rfl,rfl,h1,jQ,_,rfl,p2,_,_,_,rfl,rfl,h2,jQ,_,_,rfl,rfl,c b2 b4,_,_,rfl,ads k1 k2,q⟩
inductive CN (K:Frag)(f:Rat->Rat->Rat)(vs:ε)(H:Hp)(Q:VK)(E_:XK):Prop
|mk (u v:V)(x y:Rat)(_:vs=[u,v])(_:gL K H u x)(_:gL K H v y)(_:Sz 100000 x)(_:Sz 100000 y)(_:gives H Q (qr (f x y)))
def OH (h:Sz k r):α6 k (qr r):=⟨dQ r,h.top,h.bot⟩
def ac6 (F:Fn P w K mg qf CX k x ps (CM K subQ)):Fn P w K mg qf CX k x ps (CN K fun a b=>a-b):=by
 obtain ⟨f,fd,G,r⟩:=F.ex;show ⟨f,fd,G.imp fun vs H Q E h=>?_,r⟩;obtain ⟨u,v,a,b,e,h1,h2,k1,k2,q⟩:=h;show ⟨u,v,qr a,qr b,e,h1,h2,OH k1,OH k2,?_⟩;unfold subQ;rwa [Oc]
def OI (K:Frag)(H:Hp)(Q:VK)(p:Rat×Rat):Prop:=∀(v:V)(H':Hp),aq H H' ->f_ K H' v p->Q v H'
inductive CO (K:Frag)(f:Rat->Rat->Rat)(vs:ε)(H:Hp)(Q:VK)(E_:XK):Prop
|mk (u v:V)(x y:Rat×Rat)(_:vs=[u,v])(_:f_ K H u x)(_:f_ K H v y)(_:Sz 100000 x.1)(_:Sz 100000 x.2)(_:Sz 100000 y.1)(_:Sz 100000 y.2)(_:OI K H Q (f x.1 y.1,f x.2 y.2))
def aax:aC LW LW (ae CG):=sq
def aay (hM:ya CX)(D:Def K mg "pair_difference" CG LW)(aaz:Fn P w K mg qf CX 34 "difference_of" LW (CN K fun a b=>a-b)):Fn P w K mg qf CX 35 "pair_difference" LW (CO K fun a b=>a-b):=by
 refine D.op aax fun f cD A qw s H vs Q E hr h=>?_;obtain ⟨u,v,x,y,rfl,⟨p1,a1,a2,rfl,h1,n1,n2⟩,⟨p2,b1,b2,rfl,h2,m1,m2⟩,k1,k2,l1,l2,q⟩:=h;let px:=rH (X:=(mz (aY P w) P w K mg qf LW "pair_difference" (ae CG) f cD A qw s H E)) hM;show ⟨_,(ah (aE (aZ (aT (rJ aaz hr.mo px (aT (aF (pv 0)) (aF (pv 1)))) (rJ aaz hr.mo px (aT (aF (pv 0)) (aF (pv 1)))))))),_,rfl,p1,_,_,_,rfl,rfl,h1,jz,_,rfl,p2,_,_,_,rfl,rfl,h2,jz,a1,b1,_,_,rfl,n1,m1,k1,l1,fun c1 H1 s1 e1=>?_⟩;show ⟨_,rfl,p1,_,_,_,rfl,rfl,Ty.aq.bO s1 h1,jQ,_,rfl,p2,_,_,_,rfl,rfl,Ty.aq.bO s1 h2,jQ,a2,b2,_,_,rfl,n2.qg s1,m2.qg s1,k2,l2,fun c2 H2 s2 e2=>?_⟩;show ⟨uo,fun c3 n3=>?_⟩;let s3:=aG n3 (.tup [.ref c1,.ref c2]);exact q (.ref c3) _ (fun b o z=>s3 _ _ (s2 _ _ (s1 _ _ z))) ⟨c3,_,_,rfl,bL.of aj,⟨c1,rfl,bL.of (s3 _ _ (s2 _ _ e1))⟩,⟨c2,rfl,bL.of (s3 _ _ e2)⟩⟩
inductive v7 (K:Frag)(C:AO)(vs:ε)(H:Hp)(Q:VK)(E_:XK):Prop
|mk (a dx:AO)(_:vs=[.ref a])(_:H a=some (.ins C dx []))(_:∀(pP pW pB:AO)(H':Hp),bo a H H' ->H pP=none->H pW=none->H pB=none->fq K H' C a dx pP pW pB [] [] [] [] []->Q .cL H')
def zac :fB "pin_places" x []=([("pin_places",x)]:List (Str×V)):=rfl
def zaL :fB "pin_ways" y [("pin_places",x)]=([("pin_places",x),("pin_ways",y)]:List (Str×V)):=by
 simp only [fB];rw [qA ce]
def agx :fB "bar_ends" z [("pin_places",x),("pin_ways",y)]=([("pin_places",x),("pin_ways",y),("bar_ends",z)]:List (Str×V)):=by
 simp only [fB];rw [qA ce,qA ce]
def aaA:aC JB JB (ae LD):=sq
def aaB (F:qk K "__init__" "Frame.__init__" LD f fd)(fc:J_ K C):ad P w K mg qf 1 f fd JB (v7 K C):=by
 refine fV F aaA fun H hr h=>?_;obtain ⟨a,dx,rfl,ha,q⟩:=h
 show ⟨_,(aa (vn (pv 0) fF rfl) (aa (vn (pv 0) fF rfl) (ah (vn (pv 0) fF rfl)))),?_⟩
 intro pP nP;let aP:a≠pP:=ao ha nP;show ⟨_,rfl,a,C,dx,_,rfl,(by rwa [ak aP]),fc.cls,fc.pl,(by show 0<1000;decide),?_⟩;rw [zac];generalize e1:upd (upd H pP (.dK [])) a (.ins C dx [("pin_places",.ref pP)])=H1;let o1:H1 a=some (.ins C dx [("pin_places",.ref pP)]):=by rw [<-e1,aj]
 let p1:H1 pP=some (.dK []):=by rw [<-e1,ak (CA aP),aj]
 let k1:∀b o,b≠a->H b=some o->H1 b=some o:=fun b o n e=>by rwa [<-e1,ak n,ak (ao e nP)]
 intro pW nW;let aW:a≠pW:=ao o1 nW;show ⟨_,rfl,a,C,dx,_,rfl,(by rwa [ak aW]),fc.cls,fc.wy,(by show 1<1000;decide),?_⟩;rw [zaL];generalize e2:upd (upd H1 pW (.dK [])) a (.ins C dx [("pin_places",.ref pP),("pin_ways",.ref pW)])=H2;let PW:pP≠pW:=ao p1 nW;let o2:H2 a=some (.ins C dx [("pin_places",.ref pP),("pin_ways",.ref pW)]):=by rw [<-e2,aj]
 let w2:H2 pW=some (.dK []):=by rw [<-e2,ak (CA aW),aj]
 let k2:∀b o,b≠a->H1 b=some o->H2 b=some o:=fun b o n e=>by rwa [<-e2,ak n,ak (ao e nW)]
 intro pB nB;let aB:a≠pB:=ao o2 nB;let p2:=k2 _ _ (CA aP) p1;show ⟨_,rfl,a,C,dx,_,rfl,(by rwa [ak aB]),fc.cls,fc.br,(by show 2<1000;decide),?_⟩;rw [agx];let PB:pP≠pB:=ao p2 nB;let WB:pW≠pB:=ao w2 nB;let k3:∀b o,b≠a->H2 b=some o->(upd (upd H2 pB (.dK [])) a (.ins C dx [("pin_places",.ref pP),("pin_ways",.ref pW),("bar_ends",.ref pB)])) b=some o:=fun b o n e=>by rwa [ak n,ak (ao e nB)]
 let f1:∀b,b≠a->H1 b=none->H b=none:=fun b n e=>by
  cases z:H b with
  | none=>rfl
  | some o=>erw [k1 b o n z] at e
 let f2:∀b,b≠a->H2 b=none->H b=none:=fun b n e=>by
  cases z:H b with
  | none=>rfl
  | some o=>erw [k2 b o n (k1 b o n z)] at e
 refine q pP pW pB _ (fun b o n e=>k3 b o n (k2 b o n (k1 b o n e))) nP (f1 _ (CA aW) nW) (f2 _ (CA aB) nB) ⟨aj,k3 _ _ (CA aP) p2,k3 _ _ (CA aW) w2,?_,PW,PB,WB,.nil,.nil⟩;rw [ak (CA aB),aj]
inductive jR (K:Frag)(C:AO)(vs:ε)(H:Hp)(Q:VK)(E_:XK):Prop
|mk (a dx pP pW pB:AO)(ps:Κ)(bs:Α)(kP kW kB:δ)(_:vs=[.ref a])(_:fq K H C a dx pP pW pB ps bs kP kW kB)(_:∀(l:AO)(H':Hp),aq H H' ->H l=none->H' l=some (.lst ((bs.map (·.1)).map V.str))->Q (.ref l) H')
def aaC:aC JB JB (ae LK):=sq
def aaD (F:qk K "bars" "Frame.bars" LK f fd)(fc:J_ K C)(cg:mg "list"=none):ad P w K mg qf 1 f fd JB (jR K C):=by
 refine fV F aaC fun H hr h=>?_;obtain ⟨a,dx,pP,pW,pB,ps,bs,kP,kW,kB,rfl,R,q⟩:=h;show ⟨_,(ah (aE (b9 (fT rfl) rfl cg gs (aK (de (pv 0) rfl))))),_,rfl,a,C,dx,_,_,rfl,R.obj,fc.cls,fc.br,rfl,pB,kB,rfl,.inl R.br,fun l nl=>?_⟩;refine q l _ (aG nl _) nl ?_;rw [aj]
 let e:kB.map (fun kv=>kV kv.1)=(bs.map (·.1)).map V.str:=by
  let z:kB.map (fun kv=>kV kv.1)=(kB.map (·.1)).map kV:=by rw [DP];rfl
  rw [z,R.mL,DP];rfl
 rw [e]
inductive g8 (K:Frag)(C:AO)(vs:ε)(H:Hp)(Q:VK)(E_:XK):Prop
|mk (a dx pP pW pB:AO)(ps:Κ)(bs:Α)(kP kW kB:δ)(_:vs=[.ref a])(_:fq K H C a dx pP pW pB ps bs kP kW kB)(_:∀(l:AO)(H':Hp),aq H H' ->H l=none->H' l=some (.lst ((ps.map (·.1)).map V.str))->Q (.ref l) H')
def aaE:aC JB JB (ae LJ):=sq
def aaF (F:qk K "pins" "Frame.pins" LJ f fd)(fc:J_ K C)(cg:mg "list"=none):ad P w K mg qf 1 f fd JB (g8 K C):=by
 refine fV F aaE fun H hr h=>?_;obtain ⟨a,dx,pP,pW,pB,ps,bs,kP,kW,kB,rfl,R,q⟩:=h;show ⟨_,(ah (aE (b9 (fT rfl) rfl cg gs (aK (de (pv 0) rfl))))),_,rfl,a,C,dx,_,_,rfl,R.obj,fc.cls,fc.pl,rfl,pP,kP,rfl,.inl R.pl,fun l nl=>?_⟩;refine q l _ (aG nl _) nl ?_;rw [aj]
 let e:kP.map (fun kv=>kV kv.1)=(ps.map (·.1)).map V.str:=by
  let z:kP.map (fun kv=>kV kv.1)=(kP.map (·.1)).map kV:=by rw [DP];rfl
  rw [z,R.yy,DP];rfl
 rw [e]
inductive eY (K:Frag)(C:AO)(vs:ε)(H:Hp)(Q:VK)(E_:XK):Prop
|mk (a dx pP pW pB:AO)(ps:Κ)(bs:Α)(kP kW kB:δ)(x:Str)(_:vs=[.ref a,.str x])(_:fq K H C a dx pP pW pB ps bs kP kW kB)(_:x∈ps.map (·.1))(_:Q .cL H)
def aaG:aC Mg Mg (ae LH):=sq
def aaH (F:qk K "check_pin" "Frame.check_pin" LH f fd)(fc:J_ K C):ad P w K mg qf 1 f fd Mg (eY K C):=by
 refine fV F aaG fun H hr h=>?_;obtain ⟨a,dx,pP,pW,pB,ps,bs,kP,kW,kB,x,rfl,R,hx,q⟩:=h;show ⟨_,(ah (bg (oh (kb (cf hr) (pv 1) (de (pv 0) rfl))) (ah (dA)) aR)),_,rfl,_,rfl,a,C,dx,_,_,rfl,R.obj,fc.cls,fc.pl,rfl,pP,_,rfl,dZ.k (k:=.inr x) R.pl,_,rfl,?_⟩;rwa [R.pin x,JO hx]
inductive qT (K:Frag)(C:AO)(vs:ε)(H:Hp)(Q:VK)(E_:XK):Prop
|mk (a dx pP pW pB:AO)(ps:Κ)(bs:Α)(kP kW kB:δ)(x:Str)(p:Pt)(_:vs=[.ref a,.str x])(_:fq K H C a dx pP pW pB ps bs kP kW kB)(_:(ps.map (·.1)).Nodup)(_:(x,p)∈ps)(_:∀v,Spot K H v p->Q v H)
def aaI:aC Mg Mg (ae LL):=sq
def aaJ (F:qk K "place" "Frame.place" LL f fd)(fc:J_ K C)(MC:am P w K mg qf 1 C "check_pin" Mg (eY K C)):ad P w K mg qf 2 f fd Mg (qT K C):=by
 refine fV F aaI fun H hr h=>?_;obtain ⟨a,dx,pP,pW,pB,ps,bs,kP,kW,kB,x,p,rfl,R,nd,hx,q⟩:=h
 show ⟨_,(aa (bx (cT (k:=1) (pv 0) hr.mo (AG P w) (aK (pv 1)))) (ah (aE (cS (cf hr) (de (pv 0) rfl) (pv 1) (fun _ _=>rfl))))),?_⟩
 show ⟨_,rfl,a,C,dx,_,_,_,rfl,R.obj,rfl,MC,_,rfl,a,dx,pP,pW,pB,ps,bs,kP,kW,kB,x,rfl,R,AW.mpr ⟨_,hx,rfl⟩,?_⟩;obtain ⟨v,ev,hv⟩:=R.place nd hx;show ⟨_,rfl,a,C,dx,_,_,rfl,R.obj,fc.cls,fc.pl,rfl,_,rfl,pP,v,rfl,(by rw [<-ev];exact dZ.k (k:=.inr x) R.pl),q v hv⟩
inductive v8 (K:Frag)(C:AO)(vs:ε)(H:Hp)(Q:VK)(E_:XK):Prop
|mk (a dx pP pW pB:AO)(ps:Κ)(bs:Α)(kP kW kB:δ)(x one qz:Str)(_:vs=[.ref a,.str x])(_:fq K H C a dx pP pW pB ps bs kP kW kB)(_:(bs.map (·.1)).Nodup)(_:(x,one,qz)∈bs)(_:∀p,Rd H p (.tup [.str one,.str qz])->Q (.ref p) H)
def aaK:aC Ze Ze (ae LN):=sq
def aaL (F:qk K "ends" "Frame.ends" LN f fd)(fc:J_ K C):ad P w K mg qf 1 f fd Ze (v8 K C):=by
 refine fV F aaK fun H hr h=>?_;obtain ⟨a,dx,pP,pW,pB,ps,bs,kP,kW,kB,x,one,qz,rfl,R,nd,hx,q⟩:=h
 show ⟨_,(aa (bg (oh (kb (cf hr) (pv 1) (de (pv 0) rfl))) (ah (dA)) aR) (ah (aE (cS (cf hr) (de (pv 0) rfl) (pv 1) (fun _ _=>rfl))))),?_⟩
 let hm:x∈bs.map (·.1):=AW.mpr ⟨_,hx,rfl⟩;show ⟨_,rfl,_,rfl,a,C,dx,_,_,rfl,R.obj,fc.cls,fc.br,rfl,pB,_,rfl,dZ.k (k:=.inr x) R.br,_,rfl,?_⟩;rw [R.bar x,JO hm];obtain ⟨p,ev,hv⟩:=R.ends nd hx;show ⟨_,rfl,a,C,dx,_,_,rfl,R.obj,fc.cls,fc.br,rfl,_,rfl,pB,.ref p,rfl,(by rw [<-ev];exact dZ.k (k:=.inr x) R.br),q p hv⟩
inductive oO (K:Frag)(C:AO)(vs:ε)(H:Hp)(Q:VK)(E_:XK):Prop
|mk (a dx pP pW pB:AO)(ps:Κ)(bs:Α)(kP kW kB:δ)(pw:Λ)(x:Str)(ws:υ)(_:vs=[.ref a,.str x])(_:fq K H C a dx pP pW pB ps bs kP kW kB)(_:rY K H pw kW)(_:(pw.map (·.1)).Nodup)(_:(x,ws)∈pw)(_:x∈ps.map (·.1))(_:∀(l:AO)(us:ε)(H':Hp),aq H H' ->H l=none->H' l=some (.lst us)->jc K H' us ws->Q (.ref l) H')
def aaM:aC Mg Mg (ae LM):=sq
def aaN (F:qk K "ways" "Frame.ways" LM f fd)(fc:J_ K C)(cg:mg "list"=none)(MC:am P w K mg qf 1 C "check_pin" Mg (eY K C)):ad P w K mg qf 2 f fd Mg (oO K C):=by
 refine fV F aaM fun H hr h=>?_;obtain ⟨a,dx,pP,pW,pB,ps,bs,kP,kW,kB,pw,x,ws,rfl,R,W,nd,hx,hp,q⟩:=h
 show ⟨_,(aa (bx (cT (k:=1) (pv 0) hr.mo (AG P w) (aK (pv 1)))) (ah (aE (b9 rM rfl cg gs (aK (cS (cf hr) (de (pv 0) rfl) (pv 1) (fun _ _=>rfl))))))),?_⟩
 show ⟨_,rfl,a,C,dx,_,_,_,rfl,R.obj,rfl,MC,_,rfl,a,dx,pP,pW,pB,ps,bs,kP,kW,kB,x,rfl,R,hp,?_⟩;obtain ⟨v,ev,l,us,el,hl,pt⟩:=lI W nd hx;let el':v=.ref l:=el;subst el';show ⟨_,rfl,a,C,dx,_,_,rfl,R.obj,fc.cls,fc.wy,rfl,_,rfl,pW,.ref l,rfl,(by rw [<-ev];exact dZ.k (k:=.inr x) R.wy),l,us,rfl,aV.of hl,fun l2 n2=>q l2 us _ (aG n2 _) n2 aj (pt.qg (aG n2 _))⟩
def WI (K:Frag)(H:Hp)(Q:VK)(ws:υ):Prop:=∀(l:AO)(us:ε)(H':Hp),aq H H' ->H l=none->H' l=some (.lst us)->jc K H' us ws->Q (.ref l) H'
def v9 (h:(qr x).1=0):x=0:=by
 have:=gY x;unfold vl at this;rw [h] at this;let z:=BP (r:=x);let e:((0:Int):Rat)=0:=by rfl
 rw [e] at this;grind
inductive qU (K:Frag)(C:AO)(vs:ε)(H:Hp)(Q:VK)(E_:XK):Prop
|mk (a dx:AO)(ux uy:V)(x y:Rat)(_:vs=[.ref a,ux,uy])(_:H a=some (.ins C dx []))(_:gL K H ux x)(_:gL K H uy y)(_:¬ (x=0/\y=0))(_:∀p,H p=none->Q .cL (upd (upd H p (.tup [ux,uy])) a (.ins C dx [("way",.ref p)])))
def aaO:aC Rt Rt (ae LO):=sq
def aaP (F:qk K "__init__" "Roller.__init__" LO f fd)(cl:xR K C)(nw:gS K C "way"):ad P w K mg qf 1 f fd Rt (qU K C):=by
 refine fV F aaO fun H hr h=>?_;obtain ⟨a,dx,ux,uy,x,y,rfl,ha,⟨p1,rfl,h1⟩,⟨p2,rfl,h2⟩,nz,q⟩:=h;let sz:(2:Nat)<=BL:=ce
 show ⟨_,(aa (bg (PW.pt (rg (bB cZ (aF (pv 1)) ag) (qD (bB cZ (aF (pv 2)) ag)))) (ah (dA)) aR) (ah (vn (pv 0) (aZ (aT (pv 1) (pv 2))) rfl))),?_⟩
 show ⟨_,rfl,p1,_,_,_,rfl,rfl,h1,jz,rfl,_,rfl,?_⟩;refine bf (fun c1=>?_) (fun c1=>?_)
 ·let e1:(qr x).1=0:=by simpa using Mp c1
  show ⟨_,rfl,p2,_,_,_,rfl,rfl,h2,jz,rfl,_,rfl,?_⟩;refine bf (fun c2=>?_) (fun c2=>?_)
  ·let e2:(qr y).1=0:=by simpa using Mp c2
   exact BH ⟨v9 e1,v9 e2⟩ nz
  ·show ⟨_,rfl,_,rfl,sz,fun p hp=>⟨_,rfl,a,C,dx,[],rfl,(by rwa [ak (ao ha hp)]),cl,nw,(by show 0<1000;decide),q p hp⟩⟩
 ·refine VN ?_
  show ⟨_,rfl,_,rfl,sz,fun p hp=>⟨_,rfl,a,C,dx,[],rfl,(by rwa [ak (ao ha hp)]),cl,nw,(by show 0<1000;decide),q p hp⟩⟩
inductive jd (K:Frag)(C:AO)(vs:ε)(H:Hp)(Q:VK)(E_:XK):Prop
|mk (a dx p:AO)(w:Rat×Rat)(_:vs=[.ref a])(_:H a=some (.ins C dx [("way",.ref p)]))(_:f_ K H (.ref p) w)(_:WI K H Q [w])
def aaQ:aC JB JB (ae LP):=sq
def aaR (F:qk K "ways" "Roller.ways" LP f fd)(cl:xR K C)(nw:gS K C "way"):ad P w K mg qf 1 f fd JB (jd K C):=by
 refine fV F aaQ fun H hr h=>?_;obtain ⟨a,dx,p,w,rfl,ha,hw,q⟩:=h;show ⟨_,(ah (aE (bW (aK (de (pv 0) rfl))))),_,rfl,a,C,dx,_,.ref p,rfl,ha,cl,nw,cr,z1L,fun l hl=>?_⟩;exact q l [.ref p] _ (aG hl _) hl aj (.cons (hw.qg (aG hl _)) .nil)
inductive je (K:Frag)(vs:ε)(H:Hp)(Q:VK)(E_:XK):Prop
|mk (a:AO)(_:vs=[.ref a])(_:WI K H Q [(1,0),(0,1)])
def si:qr 1=(1,1):=by
 have:=rX 1;simpa using this
def dH:qr 0=(0,1):=by
 have:=rX 0;simpa using this
def yO (ea:qr a=x)(eb:qr b=y)(h:H p=some (.tup [.ref p1,.ref p2]))(h1:H p1=some (.tup [.int x.1,.int x.2]))(h2:H p2=some (.tup [.int y.1,.int y.2])):f_ K H (.ref p) (a,b):=
 ⟨p,.ref p1,.ref p2,rfl,bL.of h,⟨p1,rfl,by rw [ea];exact bL.of h1⟩,⟨p2,rfl,by rw [eb];exact bL.of h2⟩⟩
def aaS:aC JB JB (ae LQ):=sq
def aaT (F:qk K "ways" "Fixed.ways" LQ f fd):ad P w K mg qf 1 f fd JB (je K):=by
 refine fV F aaS fun H hr h=>?_;obtain ⟨a,rfl,q⟩:=h;let sz:(2:Nat)<=BL:=ce
 show ⟨_,(ah (aE (bW (aT (aZ (aT (aZ (aT ag ag)) (aZ (aT ag ag)))) (aZ (aT (aZ (aT ag ag)) (aZ (aT ag ag)))))))),sz,fun p1 n1=>?_⟩;let s1:=aG n1 (.tup [.int 1,.int 1]);let e1:upd H p1 (.tup [.int 1,.int 1]) p1=some (.tup [.int 1,.int 1]):=aj;generalize upd H p1 (.tup [.int 1,.int 1])=H1 at s1 e1 ⊢;show ⟨sz,fun p2 n2=>?_⟩;let s2:=aG n2 (.tup [.int 0,.int 1]);let e2:upd H1 p2 (.tup [.int 0,.int 1]) p2=some (.tup [.int 0,.int 1]):=aj;generalize upd H1 p2 (.tup [.int 0,.int 1])=H2 at s2 e2 ⊢;show ⟨sz,fun p3 n3=>?_⟩;let s3:=aG n3 (.tup [.ref p1,.ref p2]);let e3:upd H2 p3 (.tup [.ref p1,.ref p2]) p3=some (.tup [.ref p1,.ref p2]):=aj;generalize upd H2 p3 (.tup [.ref p1,.ref p2])=H3 at s3 e3 ⊢;show ⟨sz,fun p4 n4=>?_⟩;let s4:=aG n4 (.tup [.int 0,.int 1]);let e4:upd H3 p4 (.tup [.int 0,.int 1]) p4=some (.tup [.int 0,.int 1]):=aj;generalize upd H3 p4 (.tup [.int 0,.int 1])=H4 at s4 e4 ⊢;show ⟨sz,fun p5 n5=>?_⟩;let s5:=aG n5 (.tup [.int 1,.int 1]);let e5:upd H4 p5 (.tup [.int 1,.int 1]) p5=some (.tup [.int 1,.int 1]):=aj;generalize upd H4 p5 (.tup [.int 1,.int 1])=H5 at s5 e5 ⊢;show ⟨sz,fun p6 n6=>?_⟩;let s6:=aG n6 (.tup [.ref p4,.ref p5]);let e6:upd H5 p6 (.tup [.ref p4,.ref p5]) p6=some (.tup [.ref p4,.ref p5]):=aj;generalize upd H5 p6 (.tup [.ref p4,.ref p5])=H6 at s6 e6 ⊢;show ⟨sz,fun l nl=>?_⟩;let s7:=aG nl (.lst [.ref p3,.ref p6]);let e7:upd H6 l (.lst [.ref p3,.ref p6]) l=some (.lst [.ref p3,.ref p6]):=aj;generalize upd H6 l (.lst [.ref p3,.ref p6])=H7 at s7 e7 ⊢;let s16:=s1.trans (s2.trans (s3.trans (s4.trans (s5.trans s6))));let w1:f_ K H7 (.ref p3) (1,0):=yO si dH (s7 _ _ (s6 _ _ (s5 _ _ (s4 _ _ e3)))) (s7 _ _ (s6 _ _ (s5 _ _ (s4 _ _ (s3 _ _ (s2 _ _ e1)))))) (s7 _ _ (s6 _ _ (s5 _ _ (s4 _ _ (s3 _ _ e2)))));let w2:f_ K H7 (.ref p6) (0,1):=yO dH si (s7 _ _ e6) (s7 _ _ (s6 _ _ (s5 _ _ e4))) (s7 _ _ (s6 _ _ e5));exact q l [.ref p3,.ref p6] H7 (s16.trans s7) (s16.free nl) e7 (.cons w1 (.cons w2 .nil))
def OJ (P:DN)(w:World)(K:Frag)(mg:ν)(qf:Heap)(H:Hp)(hv:V)(ws:υ):Prop:=(hv=.cL/\ws=[])\/∃(h Ch dxh:AO)(Yy:List (Str×V))(psh:τ)(sph:Sp),hv=.ref h/\H h=some (.ins Ch dxh Yy)/\Yy.lookup ("ways":Str)=none/\am P w K mg qf 2 Ch "ways" psh sph/\(∀H1,H1 h=some (.ins Ch dxh Yy)->bq H H1->∀Q',WI K H1 Q' ws->sph [.ref h] H1 Q' E0)
inductive dI (P:DN)(w:World)(K:Frag)(mg:ν)(qf:Heap)(C:AO)(vs:ε)(H:Hp)(Q:VK)(E_:XK):Prop
|mk (a dx pP pW pB:AO)(ps:Κ)(bs:Α)(kP kW kB:δ)(pw:Λ)(x:Str)(u v hv:V)(p:Pt)(ws:υ)(_:vs=[.ref a,.str x,u,v,hv])(_:fq K H C a dx pP pW pB ps bs kP kW kB)(_:rY K H pw kW)(_:pw.map (·.1)=ps.map (·.1))(_:og K H u p.1)(_:og K H v p.2)(_:x∉ps.map (·.1))(_:(∀z∈ps,z.2≠p))(_:ps.length<24)(_:OJ P w K mg qf H hv ws)(_:∀(H':Hp)(xF mM :δ),(∀b o,b≠pP->b≠pW->H b=some o->H' b=some o)->fq K H' C a dx pP pW pB (ps++[(x,p)]) bs xF mM kB->rY K H' (pw++[(x,ws)]) mM ->(∃l,mM =kW++[(.inr x,.ref l)]/\H l=none)->Q .cL H')
def OK:aC ["self","name","x","y","hold","pin","spot"] V1 (ae qm):=sq
def aaV (F:We K "put_pin" "Frame.put_pin" qm f fd)(fc:J_ K C)(WJ:mg "MOST_PINS"=some (.int 24 tkP))(aL:mg "len"=none)(cg:mg "list"=none):ad P w K mg qf 3 f fd V1 (dI P w K mg qf C):=by
 refine afp F OK (fun vs H Q E h=>?_) (fun cD A qw s H vs Q E hr h=>?_)
 ·obtain ⟨a,dx,pP,pW,pB,ps,bs,kP,kW,kB,pw,x,u,v,hv,p,ws,rfl,_⟩:=h
  rfl
 obtain ⟨a,dx,pP,pW,pB,ps,bs,kP,kW,kB,pw,x,u,v,hvv,p,ws,rfl,R,W,ew,hu,hv,hx,hs,hl,hH,q⟩:=h
 show ⟨_,(aa (bg (oh (BJ (cf hr) (pv 1) (de (pv 0) rfl))) (ah (dA)) aR) (aa (qO (bJ I_ rfl (jO (de (pv 0) rfl)) (eU rfl (a_ (bZ 5 OK.nd) (a_ (bZ 6 OK.nd) cY))) (ah (bg (bB (qI hr.units) (pv 6) (aZ (aT (pv 2) (pv 3)))) (ah (dA)) aR)))) (aa (bg (bB TK (aD oI rfl aL bM (aK (de (pv 0) rfl))) (i5 (v:=.int 24) rfl WJ ⟨_,rfl⟩)) (ah (dA)) aR) (aa (fE (cf hr) (de (pv 0) rfl) (pv 1) (aZ (aT (pv 2) (pv 3))) rfl) (ah (fE (cf hr) (de (pv 0) rfl) (pv 1) (xK (bB AQ (pv 4) jC) (bW iA) (b9 rM rfl cg gs (aK (dy (k:=2) (pv 4) hr.mo (pY P w))))) rfl)))))),?_⟩;sleep 4
 show ⟨_,rfl,_,rfl,a,C,dx,_,_,rfl,R.obj,fc.cls,fc.pl,rfl,pP,_,rfl,dZ.k (k:=.inr x) R.pl,_,rfl,?_⟩;rw [R.pin x,NV hx];let lk:kP.length=ps.length:=(CV R.rp).symm;show ⟨_,rfl,a,C,dx,_,_,rfl,R.obj,fc.cls,fc.pl,rfl,pP,kP,rfl,R.pl,fun o=>?_⟩;let k0:bo pP H (upd H pP (.gP o (.dK kP))):=fun b o' n e=>by rwa [ak n]
 refine let I:bn:=fun t Y H'=>Ov fun (o2 o3:Ε)=>Y=[ap a,some (.str x),some u,some v,some hvv,o2,o3]/\bo pP H H'/\H' pP=some (.gP o (.dK kP));gK (d:=pP) (o:=o) (AN:=kP) I ⟨none,none,rfl,k0,aj⟩ (fun t Y H' _ h=>by
   obtain ⟨_,_,_,_,h⟩:=h
   exact h) ?_ ?_
 ·rintro t k y Y H6 p7 xE ⟨o2,o3,rfl,k6,RO⟩ n7
  obtain ⟨z,ez,hz1,Wm⟩:=aA (bN R.rp) xE;have WK :k=.inr z.1:=hz1;subst WK
  let s6:bq H H6:=fun b xs r=>by
   rcases r with r|⟨o',r⟩
   ·exact .inl (k6 _ _ (fun e=>by erw [e,R.pl] at r) r)
   ·exact .inr ⟨o',k6 _ _ (fun e=>by erw [e,R.pl] at r) r⟩
  let s7:=aG n7 (.tup [kV (.inr z.1),y]);let s67:bq H (upd H6 p7 (.tup [kV (.inr z.1),y])):=s6.trans (.of s7);show ⟨p7,_,rfl,bL.of aj,rfl,_,_,rfl,_,_,rfl,rfl,_,rfl,_,rfl,_,rfl,uo,fun t8 n8=>?_⟩;let s8:=aG n8 (.tup [u,v]);let LV:bq H (upd (upd H6 p7 (.tup [kV (.inr z.1),y])) t8 (.tup [u,v])):=s67.trans (.of s8);show ⟨fQ z.2,fQ p,.inl ⟨(Spot.aX Wm LV).is,(Spot.is (p:=p) ⟨t8,u,v,rfl,bL.of aj,hu.aX LV,hv.aX LV⟩)⟩,pQ _ _,uV _,?_⟩;rw [yx];show ⟨_,rfl,bf (fun c=>BH (Mp c) (hs z (Wp ez))) (fun _=>?_)⟩;show ⟨_,_,rfl,fun b o' n e=>s8 _ _ (s7 _ _ (k6 b o' n e)),s8 _ _ (s7 _ _ RO)⟩
 ·rintro Y H1 ⟨o2,o3,rfl,k1,hd1⟩
  show ⟨pP,o,kP,hd1,fun o' u' z=>(by have z':H pP=some (.gP o' u'):=z;erw [R.pl] at z'),?_⟩
  let s2:aq H (upd H1 pP (.dK kP)):=fun b o' e=>by
   by_cases n:b=pP
   ·subst n
    rw [R.pl] at e;rwa [aj]
   ·rw [ak n]
    exact k1 b o' n e
  generalize upd H1 pP (.dK kP)=H2 at s2 ⊢;let R2:=R.qg s2;show ⟨_,rfl,a,C,dx,_,_,rfl,R2.obj,fc.cls,fc.pl,rfl,pP,kP,rfl,.inl R2.pl,_,_,rfl,rfl,_,rfl,?_⟩;refine bf (fun c=>?_) (fun _=>?_)
  ·let c':(24:Int)<=(kP.length:Int):=Mp c
   omega
  show ⟨_,rfl,_,rfl,uo,fun t nt=>?_⟩;let s3:=aG nt (.tup [u,v]);let R3:=R2.qg s3;let hu3:=(hu.qg s2).qg s3;let hv3:=(hv.qg s2).qg s3;show ⟨_,rfl,a,C,dx,_,_,rfl,R3.obj,fc.cls,fc.pl,rfl,_,rfl,pP,_,rfl,jx.k (k:=.inr x) R3.pl (IY (show kP.length<=1000 by omega) ce),?_⟩;let e:putK kP (.inr x) (.ref t)=kP++[(.inr x,.ref t)]:=dq _ (b_ (by rw [R.yy];exact fun z=>hx (fH.mp z)));rw [e];let R4:=R3.Wg (x:=x) (p:=p) (t:=t) ⟨t,u,v,rfl,bL.of aj,hu3,hv3⟩;let k4:∀b o,b≠pP->H b=some o->(upd (upd H2 t (.tup [u,v])) pP (.dK (kP++[(.inr x,.ref t)]))) b=some o:=fun b o n e=>by rw [ak n];exact s3 _ _ (s2 _ _ e)
  generalize upd (upd H2 t (.tup [u,v])) pP (.dK (kP++[(.inr x,.ref t)]))=H4 at R4 k4 ⊢
  let lw:kW.length=ps.length:=by
   let e1:kW.length=pw.length:=(CV W).symm;let e2:=ud O3 ew;rw [AU,AU] at e2;omega
  let t4:bq H H4:=fun b xs r=>by
   rcases r with r|⟨o',r⟩
   ·exact .inl (k4 _ _ (fun e=>by erw [e,R.pl] at r) r)
   ·exact .inr ⟨o',k4 _ _ (fun e=>by erw [e,R.pl] at r) r⟩
  let W4:rY K H4 pw kW:=Paired.bP W fun _ _ z=>⟨z.1,by
   obtain ⟨l,us,e1,e2,e3⟩:=z.2
   show ⟨l,us,e1,k4 _ _ (fun e=>by erw [e,R.pl] at e2) e2,e3.aX t4⟩⟩
  let nb:∀l2,H4 l2=none->H l2=none:=fun l2 n=>by
   cases hq:H l2 with
   | none=>rfl
   | some o=>
    have:=k4 l2 o (fun z=>by have h:=R4.pl;erw [<-z,n] at h) hq;erw [n] at this
  show ⟨_,rfl,rfl,_,rfl,?_⟩
  rcases hH with ⟨rfl,rfl⟩|⟨h,Ch,dxh,Yy,psh,sph,rfl,hh,hlk,MH,rq⟩
  ·refine bf (fun _=>?_) (fun c=>BH ce c)
   show ⟨by show 0<=BL;decide,fun l2 n6=>?_⟩;let s6:=aG n6 (.lst []);let R6:=R4.qg s6;let W6:=W4.qg s6;show ⟨_,rfl,a,C,dx,_,_,rfl,R6.obj,fc.cls,fc.wy,rfl,_,rfl,pW,_,rfl,jx.k (k:=.inr x) R6.wy (IY (show kW.length<=1000 by omega) ce),?_⟩;let ek:putK kW (.inr x) (.ref l2)=kW++[(.inr x,.ref l2)]:=dq _ (b_ (by rw [W.keys,ew];exact fun z=>hx (fH.mp z)));rw [ek];let ne6:l2≠pW:=fun z=>by have h:=R6.wy;erw [<-z,aj] at h
   exact q _ _ _ (fun b o n1 n2 e=>by rw [ak n2];exact s6 _ _ (k4 b o n1 e)) (R6.vM _) (Vz (W6.dict R6.wy) ⟨rfl,l2,[],rfl,by rw [ak ne6,aj],.nil⟩) ⟨l2,rfl,nb l2 n6⟩
  let h4:H4 h=some (.ins Ch dxh Yy):=k4 _ _ (fun e=>by erw [e,R.pl] at hh) hh;refine bf (fun c=>BH (Mp c) (fun z=>nomatch z)) (fun _=>?_);show ⟨_,rfl,h,Ch,dxh,Yy,psh,sph,rfl,h4,hlk,MH,rq H4 h4 t4 _ fun l1 us H5 s5 n5 e5 p5=>?_⟩;show ⟨l1,us,rfl,aV.of e5,fun l2 n6=>?_⟩;let s6:=aG n6 (.lst us);let R6:=(R4.qg s5).qg s6;let W6:=(W4.qg s5).qg s6;show ⟨_,rfl,a,C,dx,_,_,rfl,R6.obj,fc.cls,fc.wy,rfl,_,rfl,pW,_,rfl,jx.k (k:=.inr x) R6.wy (IY (show kW.length<=1000 by omega) ce),?_⟩;let ek:putK kW (.inr x) (.ref l2)=kW++[(.inr x,.ref l2)]:=dq _ (b_ (by rw [W.keys,ew];exact fun z=>hx (fH.mp z)));rw [ek];let CP:aq H4 (upd H5 l2 (.lst us)):=fun b o z=>s6 _ _ (s5 _ _ z);refine q _ _ _ (fun b o n1 n2 e=>by rw [ak n2];exact CP _ _ (k4 b o n1 e)) (R6.vM _) ?_ ⟨l2,rfl,nb l2 (s5.free n6)⟩;let ne6:l2≠pW:=fun z=>by have h:=R6.wy;erw [<-z,aj] at h
  exact Vz (W6.dict R6.wy) ⟨rfl,l2,us,rfl,by rw [ak ne6,aj],(p5.qg s6).aX (.dict R6.wy)⟩
inductive g9 (K:Frag)(C:AO)(vs:ε)(H:Hp)(Q:VK)(E_:XK):Prop
|mk (a dx pP pW pB:AO)(ps:Κ)(bs:Α)(kP kW kB:δ)(x one qz:Str)(_:vs=[.ref a,.str x,.str one,.str qz])(_:fq K H C a dx pP pW pB ps bs kP kW kB)(_:x∉bs.map (·.1))(_:one∈ps.map (·.1))(_:qz∈ps.map (·.1))(_:one≠qz)(_:bs.length<60)(_:Q .cL H)
def aaY:aC Oi Oi (ae LG):=sq
def aaZ (F:qk K "check_bar" "Frame.check_bar" LG f fd)(fc:J_ K C)(WL:mg "MOST_BARS"=some (.int 60 tkB))(aL:mg "len"=none)
  (MC:am P w K mg qf 1 C "check_pin" Mg (eY K C)):ad P w K mg qf 2 f fd Oi (g9 K C):=by
 refine fV F aaY fun H hr h=>?_;obtain ⟨a,dx,pP,pW,pB,ps,bs,kP,kW,kB,x,one,qz,rfl,R,hx,h1,h2,ne,hl,q⟩:=h
 show ⟨_,(aa (bg (oh (BJ (cf hr) (pv 1) (de (pv 0) rfl))) (ah (dA)) aR) (aa (bx (cT (k:=1) (pv 0) hr.mo (AG P w) (aK (pv 2)))) (aa (bx (cT (k:=1) (pv 0) hr.mo (AG P w) (aK (pv 3)))) (aa (bg (bB cZ (pv 2) (pv 3)) (ah (dA)) aR) (ah (bg (bB TK (aD oI rfl aL bM (aK (de (pv 0) rfl))) (i5 (v:=.int 60) rfl WL ⟨_,rfl⟩)) (ah (dA)) aR)))))),?_⟩
 show ⟨_,rfl,_,rfl,a,C,dx,_,_,rfl,R.obj,fc.cls,fc.br,rfl,pB,_,rfl,dZ.k (k:=.inr x) R.br,_,rfl,?_⟩;rw [R.bar x,NV hx];show ⟨_,rfl,a,C,dx,_,_,_,rfl,R.obj,rfl,MC,_,rfl,a,dx,pP,pW,pB,ps,bs,kP,kW,kB,one,rfl,R,h1,_,rfl,a,C,dx,_,_,_,rfl,R.obj,rfl,MC,_,rfl,a,dx,pP,pW,pB,ps,bs,kP,kW,kB,qz,rfl,R,h2,_,rfl,_,rfl,rfl,_,rfl,bf (fun c=>BH (by simpa [jI] using c) ne) (fun _=>?_)⟩;let lk:kB.length=bs.length:=(CV R.rb).symm;show ⟨_,rfl,a,C,dx,_,_,rfl,R.obj,fc.cls,fc.br,rfl,pB,kB,rfl,.inl R.br,_,_,rfl,rfl,_,rfl,bf (fun c=>?_) (fun _=>q)⟩;let c':(60:Int)<=(kB.length:Int):=Mp c;omega
inductive iR (K:Frag)(C:AO)(vs:ε)(H:Hp)(Q:VK)(E_:XK):Prop
|mk (a dx pP pW pB:AO)(ps:Κ)(bs:Α)(kP kW kB:δ)(x one qz:Str)(_:vs=[.ref a,.str x,.str one,.str qz])(_:fq K H C a dx pP pW pB ps bs kP kW kB)(_:x∉bs.map (·.1))(_:one∈ps.map (·.1))(_:qz∈ps.map (·.1))(_:one≠qz)(_:bs.length<60)(_:∀(H':Hp)(Yz :δ),bo pB H H' ->fq K H' C a dx pP pW pB ps (bs++[(x,one,qz)]) kP kW Yz ->Q .cL H')
def aa0:aC Oi Oi (ae LF):=sq
def aa1 (F:qk K "put_bar" "Frame.put_bar" LF f fd)(fc:J_ K C)
  (MC:am P w K mg qf 2 C "check_bar" Oi (g9 K C)):ad P w K mg qf 3 f fd Oi (iR K C):=by
 refine FX F aa0 (fun vs H Q E h=>?_) (fun cD A qw s H vs Q E hr h=>?_)
 ·obtain ⟨a,dx,pP,pW,pB,ps,bs,kP,kW,kB,x,one,qz,rfl,_⟩:=h
  rfl
 obtain ⟨a,dx,pP,pW,pB,ps,bs,kP,kW,kB,x,one,qz,rfl,R,hx,h1,h2,ne,hl,q⟩:=h
 show ⟨_,(aa (bx (cT (k:=2) (pv 0) hr.mo (pY P w) (bE (pv 1) (pv 2) (pv 3)))) (ah (fE (cf hr) (de (pv 0) rfl) (pv 1) (aZ (aT (pv 2) (pv 3))) rfl))),?_⟩
 show ⟨_,rfl,a,C,dx,_,_,_,rfl,R.obj,rfl,MC,_,rfl,_,rfl,_,rfl,a,dx,pP,pW,pB,ps,bs,kP,kW,kB,x,one,qz,rfl,R,hx,h1,h2,ne,hl,_,rfl,_,rfl,uo,fun t nt=>?_⟩;let s:=aG nt (.tup [.str one,.str qz]);let R':=R.qg s;let lk:kB.length=bs.length:=(CV R.rb).symm;show ⟨_,rfl,a,C,dx,_,_,rfl,R'.obj,fc.cls,fc.br,rfl,_,rfl,pB,_,rfl,jx.k (k:=.inr x) R'.br (IY (show kB.length<=1000 by omega) ce),?_⟩;let e:putK kB (.inr x) (.ref t)=kB++[(.inr x,.ref t)]:=dq _ (b_ (by rw [R.mL];exact fun z=>hx (fH.mp z)));rw [e];refine q _ _ (fun b o n z=>?_) (R'.Wf (.inl aj));rw [ak n];exact s _ _ z
inductive kj (K:Frag)(C:AO)(vs:ε)(H:Hp)(Q:VK)(E_:XK):Prop
|mk (a dx pP pW pB:AO)(ps:Κ)(bs:Α)(kP kW kB:δ)(x:Str)(_:vs=[.ref a,.str x])(_:fq K H C a dx pP pW pB ps bs kP kW kB)(_:x∈bs.map (·.1))(_:∀(H':Hp)(Yz :δ),bo pB H H' ->fq K H' C a dx pP pW pB ps (bs.filter fun b=>decide (b.1≠x)) kP kW Yz ->Q .cL H')
def aa2:aC Rq Rq (ae LI):=sq
def aa3 (F:qk K "take_bar" "Frame.take_bar" LI f fd)(fc:J_ K C):ad P w K mg qf 1 f fd Rq (kj K C):=by
 refine fV F aa2 fun H hr h=>?_;obtain ⟨a,dx,pP,pW,pB,ps,bs,kP,kW,kB,x,rfl,R,hx,q⟩:=h
 show ⟨_,(aa (bg (oh (kb (cf hr) (pv 1) (de (pv 0) rfl))) (ah (dA)) aR) (ah (bx (rQ (de (pv 0) rfl) (pv 1) ⟨rfl,rfl,rfl,rfl⟩)))),?_⟩
 show ⟨_,rfl,_,rfl,a,C,dx,_,_,rfl,R.obj,fc.cls,fc.br,rfl,pB,_,rfl,dZ.k (k:=.inr x) R.br,_,rfl,?_⟩;rw [R.bar x,JO hx];obtain ⟨v,ev⟩:=fU (AN:=kB) (k:=.inr x) (by rw [R.mL];exact fH.mpr hx);show ⟨_,rfl,a,C,dx,_,_,rfl,R.obj,fc.cls,fc.br,rfl,pB,rfl,.inl ⟨_,.inl R.br⟩,_,rfl,kB,.inr x,v,R.br,rfl,ev,q _ _ (fun b o n z=>by rwa [ak n]) (R.Rr x)⟩
def adv (R:fq K H C a dx pP pW pB ps bs kP kW kB)(x:Str):
  fq K (upd H pP (.dK (fD kP (.inr x)))) C a dx pP pW pB (ps.filter fun b=>decide (b.1≠x)) bs (fD kP (.inr x)) kW kB:=by
 let s:bq H (upd H pP (.dK (fD kP (.inr x)))):=.dict R.pl
 show ⟨by rw [ak R.ab.1];exact R.obj,aj,by rw [ak (CA R.ne1)];exact R.wy,by rw [ak (CA R.ne2)];exact R.br,R.ne1,R.ne2,R.ne3,iq x (Paired.bP R.rp fun _ _ h=>⟨h.1,h.2.aX s⟩),
  Paired.bP R.rb fun _ _ h=>⟨h.1,by obtain ⟨p,e,k⟩:=h.2;show ⟨p,e,s _ _ k⟩⟩⟩
inductive jf (K:Frag)(C:AO)(vs:ε)(H:Hp)(Q:VK)(E:XK):Prop
|mk (a dx pP pW pB:AO)(ps:Κ)(bs:Α)(kP kW kB:δ)(pw:Λ)(x:Str)(_:vs=[.ref a,.str x])(_:fq K H C a dx pP pW pB ps bs kP kW kB)(_:rY K H pw kW)(_:pw.map (·.1)=ps.map (·.1))(_:x∈ps.map (·.1))(_:(∀b∈bs,x≠b.2.1/\x≠b.2.2))(_:∀(H':Hp)(xF mM :δ),(∀b o,b≠pP->b≠pW->H b=some o->H' b=some o)->fq K H' C a dx pP pW pB (ps.filter fun b=>decide (b.1≠x)) bs xF mM kB->rY K H' (pw.filter fun b=>decide (b.1≠x)) mM ->(∀kv∈mM,kv∈kW)->Q .cL H')
def fJ:aC ["self","name","bar","two"] Rq (ae cK):=sq
def zaJ (F:qk K "take_pin" "Frame.take_pin" cK f fd)(fc:J_ K C)(MC:am P w K mg qf 1 C "check_pin" Mg (eY K C)):ad P w K mg qf 2 f fd Rq (jf K C):=by
 refine fV F fJ fun H hr h=>?_;obtain ⟨a,dx,pP,pW,pB,ps,bs,kP,kW,kB,pw,x,rfl,R,W,ew,hx,hb,q⟩:=h
 show ⟨_,(aa (bx (cT (k:=1) (pv 0) hr.mo (AG P w) (aK (pv 1)))) (aa (qO (bJ I_ rfl (jO (de (pv 0) rfl)) (eU rfl (a_ (bZ 2 fJ.nd) (a_ (bZ 3 fJ.nd) cY))) (ah (bg (my oz (pv 1) (pv 3) rfl) (ah (dA)) aR)))) (aa (bx (rQ (de (pv 0) rfl) (pv 1) ⟨rfl,rfl,rfl,rfl⟩)) (ah (bx (rQ (de (pv 0) rfl) (pv 1) ⟨rfl,rfl,rfl,rfl⟩)))))),?_⟩;sleep 3
 show ⟨_,rfl,a,C,dx,_,_,_,rfl,R.obj,rfl,MC,_,rfl,a,dx,pP,pW,pB,ps,bs,kP,kW,kB,x,rfl,R,hx,?_⟩;let lk:kB.length=bs.length:=(CV R.rb).symm;show ⟨_,rfl,a,C,dx,_,_,rfl,R.obj,fc.cls,fc.br,rfl,pB,kB,rfl,R.br,fun o=>?_⟩;let k0:bo pB H (upd H pB (.gP o (.dK kB))):=fun b o' n e=>by rwa [ak n]
 refine let I:bn:=fun t Y H'=>Ov fun (o2 o3:Ε)=>Y=[ap a,some (.str x),o2,o3]/\bo pB H H'/\H' pB=some (.gP o (.dK kB));gK (d:=pB) (o:=o) (AN:=kB) I ⟨none,none,rfl,k0,aj⟩ (fun t Y H' _ h=>by
   obtain ⟨_,_,_,_,h⟩:=h
   exact h) ?_ ?_
 ·rintro t k y Y H6 p7 xE ⟨o2,o3,rfl,k6,RO⟩ n7
  obtain ⟨z,ez,hz1,p,ep,Wm⟩:=aA (bN R.rb) xE;have WK :k=.inr z.1:=hz1;subst WK;have AA :y=.ref p:=ep;subst AA
  let s6:bq H H6:=fun b xs r=>by
   rcases r with r|⟨o',r⟩
   ·exact .inl (k6 _ _ (fun e=>by erw [e,R.br] at r) r)
   ·exact .inr ⟨o',k6 _ _ (fun e=>by erw [e,R.br] at r) r⟩
  let s7:=aG n7 (.tup [kV (.inr z.1),.ref p]);let s67:bq H (upd H6 p7 (.tup [kV (.inr z.1),.ref p])):=s6.trans (.of s7);obtain ⟨n1,n2⟩:=hb z (Wp ez);show ⟨p7,_,rfl,bL.of aj,rfl,_,_,rfl,_,_,rfl,rfl,_,rfl,_,rfl,p,[.str z.2.1,.str z.2.2],rfl,.inr (s67.bO (.inl Wm)),rfl,rfl,_,rfl,bf (fun c=>?_) (fun _=>⟨_,_,rfl,fun b o' n e=>s7 _ _ (k6 b o' n e),s7 _ _ RO⟩)⟩;exfalso;let c':Q7 (.str x) [.str z.2.1,.str z.2.2]=true:=c;simp [Q7,jI] at c'
  rcases c' with c'|c'
  ·exact n1 c'.symm
  ·exact n2 c'.symm
 ·rintro Y H1 ⟨o2,o3,rfl,k1,hd1⟩
  show ⟨pB,o,kB,hd1,fun o' u' z=>(by have z':H pB=some (.gP o' u'):=z;erw [R.br] at z'),?_⟩
  let s2:aq H (upd H1 pB (.dK kB)):=fun b o' e=>by
   by_cases n:b=pB
   ·subst n
    rw [R.br] at e;rwa [aj]
   ·rw [ak n]
    exact k1 b o' n e
  generalize upd H1 pB (.dK kB)=H2 at s2 ⊢;let R2:=R.qg s2;obtain ⟨v,ev⟩:=fU (AN:=kP) (k:=.inr x) (by rw [R.yy];exact fH.mpr hx);let kk:kW.map (·.1)=(ps.map (·.1)).map (fun b=>(J' b:Key)):=by rw [gd W,<-ew,DP];rfl
  obtain ⟨v2,ev2⟩:=fU (AN:=kW) (k:=.inr x) (by rw [kk];exact fH.mpr hx);show ⟨_,rfl,a,C,dx,_,_,rfl,R2.obj,fc.cls,fc.pl,rfl,pP,rfl,.inl ⟨_,.inl R2.pl⟩,_,rfl,kP,.inr x,v,R2.pl,rfl,ev,?_⟩;let R3:=adv R2 x;let k3:∀b o,b≠pP->H b=some o->(upd H2 pP (.dK (fD kP (.inr x)))) b=some o:=fun b o n e=>by rw [ak n];exact s2 _ _ e
  let k2:bo pP H2 (upd H2 pP (.dK (fD kP (.inr x)))):=fun b o n e=>by rwa [ak n]
  generalize upd H2 pP (.dK (fD kP (.inr x)))=H3 at R3 k3 k2 ⊢;show ⟨_,rfl,a,C,dx,_,_,rfl,R3.obj,fc.cls,fc.wy,rfl,pW,rfl,.inl ⟨_,.inl R3.wy⟩,_,rfl,kW,.inr x,v2,R3.wy,rfl,ev2,?_⟩
  let t3:bq H2 H3:=fun b xs r=>by
   rcases r with r|⟨o',r⟩
   ·exact .inl (k2 _ _ (fun e=>by erw [e,R2.pl] at r) r)
   ·exact .inr ⟨o',k2 _ _ (fun e=>by erw [e,R2.pl] at r) r⟩
  let t4:bq H3 (upd H3 pW (.dK (fD kW (.inr x)))):=.dict R3.wy;refine q _ _ _ (fun b o n1 n2 e=>by rw [ak n2];exact k3 b o n1 e) (R3.vM _) (iq x (Paired.bP (W.qg s2) fun _ _ z=>⟨z.1,?_⟩)) (fun kv h=>by unfold fD at h;exact (N0.mp h).1);obtain ⟨l,us,z1,z2,z3⟩:=z.2;show ⟨l,us,z1,by rw [ak (fun e=>by erw [e,R2.wy] at z2)];exact k2 _ _ (fun e=>by erw [e,R2.pl] at z2) z2,(z3.aX t3).aX t4⟩
def jS (p q:ar):Rat×Rat:=(q.sp.1-p.sp.1,q.sp.2-p.sp.2)
inductive OL (K:Frag)(C:AO)(vs:ε)(H:Hp)(Q:VK)(E_:XK):Prop
|mk (a:AO)(pX:θ)(qe:ρ)(p q:ar)(_:vs=[.ref a,.str p.nm,.str q.nm])(_:qQ K H C a pX qe)(_:bT pX qe)(_:p∈pX)(_:q∈pX)(_:OI K H Q (jS p q))
def Ul {pX:θ}(h:(pX.map (·.nm)).Nodup):((pX.map fun p=>(p.nm,qP p.sp)).map (·.1)).Nodup:=by
 rwa [DP]
def OM {pX:θ}(h:(pX.map (·.nm)).Nodup):((pX.map fun p=>(p.nm,p.ws)).map (·.1)).Nodup:=by
 rwa [DP]
def aa4 {qe:ρ}(h:(qe.map (·.nm)).Nodup):((qe.map fun b=>(b.nm,b.one.nm,b.qz.nm)).map (·.1)).Nodup:=by
 rwa [DP]
def aa5:aC Oh Oh (ae KG):=sq
def aa6 (D:Def K mg "arm_between" KG Oh)(MP:am P w K mg qf 2 C "place" Mg (qT K C))(ahS:ac P w K mg qf 35 "pair_difference" LW (CO K fun a b=>a-b)):ac P w K mg qf 36 "arm_between" Oh (OL K C):=by
 refine D.oo aa5 fun H hr h=>?_;obtain ⟨a,pX,qe,p,q,rfl,R,g,hp,hq,k⟩:=h;obtain ⟨dx,pP,pW,pB,kP,kW,kB,R,W⟩:=R.ex;show ⟨_,(ah (aE (aS ahS hr (aT (cT (k:=2) (pv 0) hr.mo (AG P w) (aK (pv 2))) (cT (k:=2) (pv 0) hr.mo (AG P w) (aK (pv 1))))))),_,rfl,a,C,dx,_,_,_,rfl,R.obj,rfl,MP,_,rfl,a,dx,pP,pW,pB,_,_,kP,kW,kB,q.nm,qP q.sp,rfl,R,Ul g.np,AW.mpr ⟨q,hq,rfl⟩,fun v1 h1=>?_⟩;show ⟨_,rfl,a,C,dx,_,_,_,rfl,R.obj,rfl,MP,_,rfl,a,dx,pP,pW,pB,_,_,kP,kW,kB,p.nm,qP p.sp,rfl,R,Ul g.np,AW.mpr ⟨p,hp,rfl⟩,fun v2 h2=>?_⟩;let z1:=g.sz q hq;let z2:=g.sz p hp;show ⟨v1,v2,q.sp,p.sp,rfl,h1,h2,z1.1.up ce,z1.2.1.up ce,z2.1.up ce,z2.2.1.up ce,k⟩
def mv (M:ψ)(x:Str):Rat×Rat:=(M x).getD (0,0)
def dS (F:ψ)(pX:θ):List (Int×Int):=pX.flatMap fun p=>[qr (mv F p.nm).1,qr (mv F p.nm).2]
theorem iS (F:ψ):∀pX:List ar,(dS F pX).length=2*pX.length
 | []=>rfl
 | p::ps=>by
  have:=iS F ps;unfold dS at this ⊢;rw [JJ,CL,this];simp;omega
def afk (F:ψ)(ps:θ)(p:ar):dS F (ps++[p])=dS F ps++[qr (mv F p.nm).1,qr (mv F p.nm).2]:=by
 unfold dS;rw [RX];simp
def fO (x:Str)(w:Rat×Rat):Str->Option (Rat×Rat):=fun y=>if y=x then some w else none
def dD (b:aI):Str->Option (Rat×Rat):=fun y=>if y=b.one.nm then some (jS b.one b.qz) else if y=b.qz.nm then some (jS b.qz b.one) else none
def lQ (pX:θ)(p:ar):List (List (Int×Int)):=p.ws.map fun w=>dS (fO p.nm w) pX
def bh (pX:θ)(qe:ρ):List (List (Int×Int)):=(pX.flatMap fun p=>lQ pX p)++qe.map fun b=>dS (dD b) pX
structure iT (K:Frag)(H:Hp)(r:AO)(ls:Β)(cu:Η)(bI:ξ):Prop where
 kH:lO H r ls cu
 num:gw K H cu bI
 nr:r∉ls
theorem iT.qg (h:iT K H r ls cu bI)(s:aq H H'):iT K H' r ls cu bI:=⟨h.kH.qg s,h.num.qg s,h.nr⟩
def sj (h:gw K H cu bI)(n:eJ K H us qs):gw K H (cu++[us]) (bI++[qs]):=by
 show ⟨by simp [h.1],fun i u q' e1 e2=>?_⟩;let l:=h.1;by_cases c:i<cu.length
 ·rw [JU c] at e1
  rw [JU (jw l c)] at e2;exact h.2 i u q' e1 e2
 ·rw [JZ bv] at e1 e2
  by_cases z:i-cu.length=0
  ·rw [z] at e1
   rw [show i-bI.length=0 by omega] at e2;cases e1;cases e2;exact n
  ·rw [IW (by simp;exact gt z)] at e1
   cases e1
def HG {H:Hp}{ls:Β}{cu:Η}(hl:ls.length=cu.length)(h:∀(i:Nat)(l:AO)(vs:ε),ls[i]?=some l->cu[i]?=some vs->H l=some (.lst vs))(e:H l=some (.lst us)):
  ∀(i:Nat)(l':AO)(vs:ε),(ls++[l])[i]?=some l' ->(cu++[us])[i]?=some vs->H l'=some (.lst vs):=fun i l' vs e1 e2=>by
 by_cases c:i<ls.length
 ·rw [JU c] at e1
  rw [JU (jw hl c)] at e2;exact h i l' vs e1 e2
 ·rw [JZ bv] at e1 e2
  by_cases z:i-ls.length=0
  ·rw [z] at e1
   rw [show i-cu.length=0 by omega] at e2;cases e1;cases e2;exact e
  ·rw [IW (by simp;exact gt z)] at e1
   cases e1
def iT.push (h:iT K H r ls cu bI)(e:H l=some (.lst us))(ne:l≠r)(n:eJ K H us qs):
  iT K (upd H r (.lst (ls.map V.ref++[.ref l]))) r (ls++[l]) (cu++[us]) (bI++[qs]):=by
 let st:bq H (upd H r (.lst (ls.map V.ref++[.ref l]))):=.list h.kH.1
 let hm:∀(i:Nat)(l':AO)(vs:ε),ls[i]?=some l' ->cu[i]?=some vs->(upd H r (.lst (ls.map V.ref++[.ref l]))) l'=some (.lst vs):=fun i l' vs e1 e2=>by
  rw [ak (fun z:l'=r=>h.nr (by rw [<-z];exact Wp e1))];exact h.kH.2.2 i l' vs e1 e2
 show ⟨⟨by rw [aj,IX];rfl,by simp [h.kH.2.1],HG h.kH.2.1 hm (by rwa [ak ne])⟩,?_,?_⟩
 ·exact sj ⟨h.num.1,fun i vs qs e1 e2=>(h.num.2 i vs qs e1 e2).aX st⟩ (n.aX st)
 ·intro z
  rcases DL.mp z with z|z
  ·exact h.nr z
  ·exact ne (IZ.mp z).symm
inductive km (K:Frag)(C:AO)(vs:ε)(H:Hp)(Q:VK)(E_:XK):Prop
|mk (a d:AO)(pX:θ)(qe:ρ)(AN:δ)(F:ψ)(_:vs=[.ref a,.ref d])(_:qQ K H C a pX qe)(_:pX.length<=100)(_:H d=some (.dK AN))(_:Wj K H AN F)(_:∀(l:AO)(us:ε)(H':Hp),aq H H' ->H l=none->H' l=some (.lst us)->eJ K H' us (dS F pX)->Q (.ref l) H')
def fK (pX:θ):((pX.map fun p=>(p.nm,qP p.sp)).map (·.1))=pX.map (·.nm):=by rw [DP];rfl
def ON:aC ["F","draws","row","pin"] Wk (ae KH):=sq
def aa7 (hM:∀H:Hp,f_ K H (.ref aM) (0,0))(WM:mg "NO_MOVE"=some (.ref aM))(D:Def K mg "pair_row" KH Wk)(MP:am P w K mg qf 1 C "pins" JB (g8 K C)):ac P w K mg qf 2 "pair_row" Wk (km K C):=by
 refine D.oo ON fun H hr h=>?_;obtain ⟨a,d,pX,qe,AN,F,rfl,R,lp,hd,hP,q⟩:=h
 show ⟨_,(aa (aJ 2 ON.nd (bW iA)) (aa (bJ I_ rfl (bw (dy (k:=1) (pv 0) hr.mo (AG P w))) (bZ 3 ON.nd) (ah (bx (jq Of PySem.F.slot_list_extend PySem.F.type_list_extend agR (pv 2) (aK (yo (cf hr) (pv 1) (pv 3) (i5 (v:=.ref aM) rfl WM rfl) ⟨rfl,rfl,rfl,rfl⟩)))))) (ah (aE (pv 2))))),?_⟩
 show ⟨z0L,?_⟩;intros l nl H1 s1 el;let R1:=R.qg s1;obtain ⟨dx,pP,pW,pB,kP,kW,kB,F1,W1⟩:=R1.ex;show ⟨_,rfl,a,C,dx,_,_,_,rfl,F1.obj,rfl,MP,a,dx,pP,pW,pB,_,_,kP,kW,kB,rfl,F1,fun lp H2 s2 u3 mT=>?_⟩;rw [fK] at mT;let qu:=s1.trans s2;let RP:lp≠l:=fun z=>by erw [z,el] at u3
 show ⟨lp,rfl,⟨_,aV.of mT⟩,let I:bn:=fun i Y H'=>Ov fun (o3:Ε) (us:ε)=>Y=[ap a,ap d,ap l,o3]/\aq H H'/\H' lp=some (.lst ((pX.map (·.nm)).map V.str))/\H' l=some (.lst us)/\eJ K H' us (dS F (pX.take i));cC (K:=K) (a:=lp) (xs:=(pX.map (·.nm)).map V.str) I ⟨none,[],rfl,qu,mT,s2 _ _ el,⟨rfl,fun i u q e=>by simp at e⟩⟩ (fun i Y H' _ h=>by
   obtain ⟨_,_,_,_,h,_⟩:=h
   exact aV.of h) ?_ ?_⟩
 ·rintro i z Y H4 hi ⟨o3,us,rfl,s4,l4,e4,n4⟩
  rw [AY,AY] at hi;obtain ⟨x,hx,rfl⟩:=JI.mp hi;obtain ⟨p,hp,rfl⟩:=JI.mp hx;let il:i<pX.length:=(ir.mp hp).1;let d4:=s4 _ _ hd;let g1:f_ K H4 ((cv AN (.inr p.nm)).getD (.ref aM)) (mv F p.nm):=(hP.qg s4).ZU (hM H4);obtain ⟨b,u1,u2,eb,hb,h1,h2⟩:=g1
  let lu:us.length<=200:=by
   have:=n4.1;rw [iS,JT] at this;omega
  show ⟨_,rfl,.inl ⟨rfl,_,aV.of e4⟩,_,rfl,d,rfl,.inl ⟨_,.inl d4⟩,_,rfl,_,dZ.k (k:=.inr p.nm) d4,l,b,us,[u1,u2],rfl,by rw [eb],e4,hb,by simp;omega,?_⟩;let st:bq H4 (upd H4 l (.lst (us++[u1,u2]))):=.list e4;show ⟨_,us++[u1,u2],rfl,fun c o z=>?_,?_,aj,?_⟩
  ·rw [ak (ao z nl)]
   exact s4 _ _ z
  ·rw [ak RP]
   exact l4
  ·rw [take_snoc hp,afk]
   let a1:=eJ.snoc (K:=K) (n4.aX st) (gL.aX h1 st);let a2:=eJ.snoc (K:=K) a1 (gL.aX h2 st);simpa using a2
 ·rintro Y H4 ⟨o3,us,rfl,s4,l4,e4,n4⟩
  rw [AU,AU,OU] at n4;show ⟨_,rfl,q l us H4 s4 nl e4 n4⟩
inductive mU (K:Frag)(C:AO)(vs:ε)(H:Hp)(Q:VK)(E_:XK):Prop
|mk (a:AO)(pX:θ)(qe:ρ)(b:aI)(_:vs=[.ref a,.str b.one.nm,.str b.qz.nm])(_:qQ K H C a pX qe)(_:bT pX qe)(_:b.one∈pX)(_:b.qz∈pX)(_:b.one.nm≠b.qz.nm)(_:∀(l:AO)(us:ε)(H':Hp),aq H H' ->H l=none->H' l=some (.lst us)->eJ K H' us (dS (dD b) pX)->Q (.ref l) H')
def ac4 (k:Key)(v:V):cM [] [(k,v)]=[(k,v)]:=rfl
def zar (v u:V)(h:k≠j):cM [] [(k,v),(j,u)]=[(k,v),(j,u)]:=by
 show putK [(k,v)] j u=_;rw [dq]
 ·rfl
 ·rw [bR h]
  rfl
def aa8:aC Oh Oh (ae KI):=sq
def aa9 (D:Def K mg "bar_row" KI Oh)(aa':ac P w K mg qf 36 "arm_between" Oh (OL K C))(WQ:ac P w K mg qf 2 "pair_row" Wk (km K C)):ac P w K mg qf 37 "bar_row" Oh (mU K C):=by
 refine D.oo aa8 fun H hr h=>?_;obtain ⟨a,pX,qe,b,rfl,R,g,m1,m2,ne,q⟩:=h;show ⟨_,(ah (aE (aS WQ hr (aT (pv 0) (FR (rO (pv 1) (aS aa' hr (bE (pv 0) (pv 1) (pv 2))) (rO (pv 2) (aS aa' hr (bE (pv 0) (pv 2) (pv 1))) FQ)) rfl rfl (ao1 _ _) ce))))),_,rfl,fun d nd=>?_⟩;let s1:=aG nd (.dK []);let e1:(upd H d (.dK [])) d=some (.dK []):=aj;generalize upd H d (.dK [])=H1 at s1 e1 ⊢;show ⟨_,rfl,_,rfl,_,rfl,_,rfl,a,pX,qe,b.one,b.qz,rfl,R.qg s1,g,m1,m2,fun v1 H2 s2 h2=>?_⟩;show ⟨_,rfl,_,rfl,_,rfl,_,rfl,a,pX,qe,b.qz,b.one,rfl,(R.qg s1).qg s2,g,m2,m1,fun v2 H3 s3 h3=>?_⟩;let e3:=s3 _ _ (s2 _ _ e1);show ⟨e3,[(.inr b.one.nm,v1),(.inr b.qz.nm,v2)],rfl,(by show 2<=15;decide),?_⟩;rw [zar _ _ (fun z=>ne (Ky z))];let st:bq H3 (upd H3 d (.dK [(.inr b.one.nm,v1),(.inr b.qz.nm,v2)])):=.dict e3;let e4:(upd H3 d (.dK [(.inr b.one.nm,v1),(.inr b.qz.nm,v2)])) d=some (.dK [(.inr b.one.nm,v1),(.inr b.qz.nm,v2)]):=aj
 let s4:aq H (upd H3 d (.dK [(.inr b.one.nm,v1),(.inr b.qz.nm,v2)])):=fun c o z=>by
  rw [ak (ao z nd)];exact s3 _ _ (s2 _ _ (s1 _ _ z))
 generalize upd H3 d (.dK [(.inr b.one.nm,v1),(.inr b.qz.nm,v2)])=H4 at st e4 s4 ⊢;show ⟨a,d,pX,qe,_,dD b,rfl,R.qg s4,BX g.lp ce,e4,fun x=>?_,fun l us H5 s5 n5 e5 nm=>q l us H5 (s4.trans s5) (s4.free n5) e5 nm⟩;by_cases c1:x=b.one.nm
 ·subst c1
  exact .inr ⟨v1,jS b.one b.qz,ck rfl,by unfold dD;rw [tu rfl],(h2.qg s3).aX st⟩
 ·by_cases c2:x=b.qz.nm
  ·subst c2
   exact .inr ⟨v2,jS b.qz b.one,by rw [bR (fun z=>c1 (Ky z).symm),ck rfl],by unfold dD;rw [qA c1,tu rfl],h3.aX st⟩
  ·exact .inl ⟨by rw [bR (fun z=>c1 (Ky z).symm),bR (fun z=>c2 (Ky z).symm)];rfl,by unfold dD;rw [qA c1,qA c2]⟩
inductive fZ (K:Frag)(C:AO)(vs:ε)(H:Hp)(Q:VK)(E_:XK):Prop
|mk (a:AO)(pX:θ)(qe:ρ)(_:vs=[.ref a])(_:qQ K H C a pX qe)(_:bT pX qe)(_:∀(r:AO)(ls:Β)(cu:Η)(H':Hp),aq H H' ->H r=none->iT K H' r ls cu (bh pX qe)->Q (.ref r) H')
def mV (qe:ρ):((qe.map fun b=>(b.nm,b.one.nm,b.qz.nm)).map (·.1))=qe.map (·.nm):=by rw [DP];rfl
def gf (pX:θ)(h:∀p∈pX,p.ws.length<=2):(pX.flatMap fun p=>p.ws).length<=2*pX.length:=by
 induction pX with
 | nil=>simp
 | cons p ps ih=>
  let h1:=h p CU;let h2:=ih fun q hq=>h q (DM _ hq);rw [JJ,CL,L7];omega
def iU (all pX:θ):(pX.flatMap fun p=>lQ all p).length=(pX.flatMap fun p=>p.ws).length:=by
 induction pX with
 | nil=>rfl
 | cons p ps ih=>
  rw [JJ,JJ,CL,CL,ih];unfold lQ;rw [AU]
def fj (pX:θ)(qe:ρ):(bh pX qe).length=(pX.flatMap fun p=>p.ws).length+qe.length:=by
 unfold bh;rw [CL,iU,AU]
def u4:aC ["F","rows","pin","way","bar","two"] JR (ae KJ):=sq
def aba (D:Def K mg "draw_rows" KJ JR)(MP:am P w K mg qf 1 C "pins" JB (g8 K C))(MW:am P w K mg qf 2 C "ways" Mg (oO K C))(MB:am P w K mg qf 1 C "bars" JB (jR K C))(ME:am P w K mg qf 1 C "ends" Ze (v8 K C))
  (WQ:ac P w K mg qf 2 "pair_row" Wk (km K C)) (WR:ac P w K mg qf 37 "bar_row" Oh (mU K C)):ac P w K mg qf 38 "draw_rows" JR (fZ K C):=by
 refine D.op u4 fun f cD A qw s H vs Q E hr h=>?_;obtain ⟨a,pX,qe,rfl,R,g,q⟩:=h
 show ⟨_,(aa (aJ 1 u4.nd (bW iA)) (aa (bJ I_ rfl (bw (dy (k:=1) (pv 0) hr.mo (pY P w))) (bZ 2 u4.nd) (ah (bJ I_ rfl (bw (cT (k:=2) (pv 0) hr.mo (pY P w) (aK (pv 2)))) (bZ 3 u4.nd) (ah (bx (jq Of Sn Sl e_ (pv 1) (aK (aS WQ hr (aT (pv 0) (FR (rO (pv 2) (pv 3) FQ) rfl rfl (ao1 _ _) ce)))))))))) (aa (bJ I_ rfl (bw (dy (k:=1) (pv 0) hr.mo (pY P w))) (bZ 4 u4.nd) (aa (aJ 5 u4.nd (cT (k:=1) (pv 0) hr.mo (pY P w) (aK (pv 4)))) (ah (bx (jq Of Sn Sl e_ (pv 1) (aK (aS WR hr (bE (pv 0) (aF (pv 5)) (aF (pv 5)))))))))) (ah (aE (pv 1)))))),?_⟩;sleep 3
 show ⟨z0L,?_⟩;intros r nr H1 s1 er;let big:(40:Nat)<=BL:=ce
 let wl:=gf pX g.lw;let gl:=g.lp;let R0:iT K H1 r [] [] []:=⟨⟨er,rfl,fun i l vs e=>by simp at e⟩,⟨rfl,fun i vs qs e=>by simp at e⟩,by simp⟩;let R1:=R.qg s1;obtain ⟨dx,pP,pW,pB,kP,kW,kB,F1,W1⟩:=R1.ex;show ⟨_,rfl,a,C,dx,_,_,_,rfl,F1.obj,rfl,MP,a,dx,pP,pW,pB,_,_,kP,kW,kB,rfl,F1,fun lp H2 s2 u3 mT=>?_⟩;rw [fK] at mT;let qu:=s1.trans s2;let RP:lp≠r:=fun z=>by erw [z,er] at u3
 show ⟨lp,rfl,⟨_,aV.of mT⟩,let I:bn:=fun i Y H'=>Ow fun (o2 o3:Ε) (ls:Β) (cu:Η)=>Y=[ap a,ap r,o2,o3,none,none]/\aq H H'/\H' lp=some (.lst ((pX.map (·.nm)).map V.str))/\iT K H' r ls cu ((pX.take i).flatMap fun p=>lQ pX p);cC (K:=K) (a:=lp) (xs:=(pX.map (·.nm)).map V.str) I ⟨none,none,[],[],rfl,qu,mT,R0.qg s2⟩ (fun i Y H' _ h=>by
   obtain ⟨_,_,_,_,_,_,h,_⟩:=h
   exact aV.of h) ?_ ?_⟩
 ·rintro i z Y H4 hi ⟨o2,o3,ls,cu,rfl,s4,l4,RR⟩
  rw [AY,AY] at hi;obtain ⟨x,hx,rfl⟩:=JI.mp hi;obtain ⟨p,hp,rfl⟩:=JI.mp hx;let mp:p∈pX:=Wp hp;let R4:=R.qg s4;obtain ⟨dx,pP,pW,pB,kP,kW,kB,F4,W4⟩:=R4.ex;let mpn:p.nm∈(pX.map fun p=>(p.nm,qP p.sp)).map (·.1):=by rw [fK];exact AW.mpr ⟨p,mp,rfl⟩
  show ⟨_,rfl,a,C,dx,_,_,_,rfl,F4.obj,rfl,MW,_,rfl,a,dx,pP,pW,pB,_,_,kP,kW,kB,_,p.nm,p.ws,rfl,F4,W4,OM g.np,AW.mpr ⟨p,mp,rfl⟩,mpn,fun m us H5 s5 n5 e5 p5=>?_⟩;let lu:us.length=p.ws.length:=CV p5;let mj:=s4.trans s5;let mr:m≠r:=fun z=>by erw [z,RR.kH.1] at n5
  show ⟨m,rfl,⟨_,aV.of e5⟩,let I:bn:=fun j Y H'=>MY fun (o3:Ε) (ls:Β) (cu:Η)=>Y=[ap a,ap r,some (.str p.nm),o3,none,none]/\aq H H'/\H' lp=some (.lst ((pX.map (·.nm)).map V.str))/\H' m=some (.lst us)/\jc K H' us p.ws/\iT K H' r ls cu (((pX.take i).flatMap fun p=>lQ pX p)++(p.ws.take j).map fun w=>dS (fO p.nm w) pX);cC (K:=K) (a:=m) (xs:=us) I ⟨o3,ls,cu,rfl,mj,s5 _ _ l4,e5,p5,by simpa using RR.qg s5⟩ (fun j Y H' _ h=>by
    obtain ⟨_,_,_,_,_,_,h,_⟩:=h
    exact aV.of h) ?_ ?_⟩
  ·rintro j u Y H6 hu ⟨o3,ls,cu,rfl,s6,l6,e6,p6,yP⟩
   obtain ⟨w,ew,hw⟩:=aA p6 hu;let jl:=(ir.mp hu).1;show ⟨_,rfl,.inl ⟨rfl,_,aV.of yP.kH.1⟩,_,rfl,fun d nd=>?_⟩;let t1:=aG nd (.dK []);let d1:(upd H6 d (.dK [])) d=some (.dK []):=aj;generalize upd H6 d (.dK [])=H7 at t1 d1 ⊢;show ⟨_,rfl,_,rfl,d1,[(.inr p.nm,u)],rfl,(by show 1<=15;decide),?_⟩;rw [ac4];let st:bq H7 (upd H7 d (.dK [(.inr p.nm,u)])):=.dict d1;let d8:(upd H7 d (.dK [(.inr p.nm,u)])) d=some (.dK [(.inr p.nm,u)]):=aj
   let t8:aq H6 (upd H7 d (.dK [(.inr p.nm,u)])):=fun c o z=>by
    rw [ak (ao z nd)];exact t1 _ _ z
   let hw8:=(hw.qg t1).aX st;generalize upd H7 d (.dK [(.inr p.nm,u)])=H8 at d8 t8 hw8 ⊢;let s8:=s6.trans t8;show ⟨a,d,pX,qe,_,fO p.nm w,rfl,R.qg s8,BX g.lp ce,d8,fun x=>?_,fun l gm H9 t9 n9 e9 nm=>?_⟩
   ·by_cases c1:x=p.nm
    ·subst c1
     exact .inr ⟨u,w,ck rfl,by unfold fO;rw [tu rfl],hw8⟩
    ·exact .inl ⟨by rw [bR (fun z=>c1 (Ky z).symm)];rfl,by unfold fO;rw [qA c1]⟩
   let t69:=t8.trans t9;let RQ:=yP.qg t69;let lr:l≠r:=fun z=>by erw [z,t8 _ _ yP.kH.1] at n9
   let WC:ls.length<=18:=by
    let h1:=yP.kH.2.1;let h2:=yP.num.1;rw [CL,AU,JT,iU] at h2
    let h3:((pX.take i).flatMap fun p=>p.ws).length+p.ws.length<=(pX.flatMap fun p=>p.ws).length:=by
     let e:pX=pX.take i++p::pX.drop (i+1):=by
      let lt:=(ir.mp hp).1;let e2:=(ir.mp hp).2;rw [<-e2,aii,Ry]
     let e3:=ud (fun l:List ar=>(l.flatMap fun p=>p.ws).length) e;simp only [RX,JJ,CL] at e3;omega
    omega
   show ⟨r,_,_,rfl,rfl,RQ.kH.1,(by rw [AU];omega),?_⟩;let RN:=RQ.push e9 lr nm;let tr:bq H9 (upd H9 r (.lst (ls.map V.ref++[.ref l]))):=.list RQ.kH.1;let kk:∀b o,b≠r->H6 b=some o->(upd H9 r (.lst (ls.map V.ref++[.ref l]))) b=some o:=fun b o n e=>by rw [ak n];exact t69 _ _ e
   show ⟨_,ls++[l],cu++[gm],rfl,fun b o e=>?_,kk _ _ RP l6,kk _ _ mr e6,(p6.qg t69).aX tr,?_⟩
   ·exact kk _ _ (ao e nr) (s6 _ _ e)
   ·rw [take_snoc ew,IX,<-QW]
    exact RN
  ·rintro Y H6 ⟨o3,ls,cu,rfl,s6,l6,e6,p6,yP⟩
   show ⟨_,_,ls,cu,rfl,s6,l6,?_⟩;rw [lu,OU] at yP;rw [take_snoc hp,RX];simpa [lQ] using yP
 ·rintro Y H4 ⟨o2,o3,ls,cu,rfl,s4,l4,RR⟩
  rw [AU,AU,OU] at RR;let R4:=R.qg s4;obtain ⟨dx,pP,pW,pB,kP,kW,kB,F4,W4⟩:=R4.ex;show ⟨_,rfl,a,C,dx,_,_,_,rfl,F4.obj,rfl,MB,a,dx,pP,pW,pB,_,_,kP,kW,kB,rfl,F4,fun lb H5 s5 nlb CQ=>?_⟩;rw [mV] at CQ;let bne:lb≠r:=fun z=>by erw [z,RR.kH.1] at nlb
  show ⟨lb,rfl,⟨_,aV.of CQ⟩,let I:bn:=fun i Y H'=>Ow fun (o4 o5:Ε) (ls:Β) (cu:Η)=>Y=[ap a,ap r,o2,o3,o4,o5]/\aq H H'/\H' lb=some (.lst ((qe.map (·.nm)).map V.str))/\iT K H' r ls cu ((pX.flatMap fun p=>lQ pX p)++(qe.take i).map fun b=>dS (dD b) pX);cC (K:=K) (a:=lb) (xs:=(qe.map (·.nm)).map V.str) I ⟨none,none,ls,cu,rfl,s4.trans s5,CQ,by simpa using RR.qg s5⟩ (fun i Y H' _ h=>by
    obtain ⟨_,_,_,_,_,_,h,_⟩:=h
    exact aV.of h) ?_ ?_⟩
  ·rintro i z Y H6 hi ⟨o4,o5,ls,cu,rfl,s6,l6,yP⟩
   rw [AY,AY] at hi;obtain ⟨x,hx,rfl⟩:=JI.mp hi;obtain ⟨b,hb,rfl⟩:=JI.mp hx;let mb:b∈qe:=Wp hb;let il:=(ir.mp hb).1;let R6:=R.qg s6;obtain ⟨dx,pP,pW,pB,kP,kW,kB,F6,W6⟩:=R6.ex;show ⟨_,rfl,a,C,dx,_,_,_,rfl,F6.obj,rfl,ME,_,rfl,a,dx,pP,pW,pB,_,_,kP,kW,kB,b.nm,b.one.nm,b.qz.nm,rfl,F6,aa4 g.nb,AW.mpr ⟨b,mb,rfl⟩,fun p rd=>?_⟩;let tp:bL K H6 p [.str b.one.nm,.str b.qz.nm]:=.inl rd;obtain ⟨m1,m2,m3⟩:=g.ends b mb;show ⟨_,rfl,.inl ⟨rfl,_,aV.of yP.kH.1⟩,_,rfl,_,rfl,p,_,_,_,rfl,rfl,tp,jz,_,rfl,p,_,_,_,rfl,rfl,tp,jQ,a,pX,qe,b,rfl,R6,g,m1,m2,m3,fun l gm H9 t9 n9 e9 nm=>?_⟩;let RQ:=yP.qg t9;let lr:l≠r:=fun z=>by erw [z,yP.kH.1] at n9
   let WC:ls.length<=32:=by
    let h1:=yP.kH.2.1;let h2:=yP.num.1;rw [CL,AU,JT,iU] at h2;have:=g.lb;omega
   show ⟨r,_,_,rfl,rfl,RQ.kH.1,(by rw [AU];omega),?_⟩;let RN:=RQ.push e9 lr nm;let kk:∀c o,c≠r->H6 c=some o->(upd H9 r (.lst (ls.map V.ref++[.ref l]))) c=some o:=fun c o n e=>by rw [ak n];exact t9 _ _ e
   show ⟨_,_,ls++[l],cu++[gm],rfl,fun c o e=>kk _ _ (ao e nr) (s6 _ _ e),kk _ _ bne l6,?_⟩;rwa [take_snoc hb,IX,<-QW]
  ·rintro Y H6 ⟨o4,o5,ls,cu,rfl,s6,l6,yP⟩
   rw [AU,AU,OU] at yP;show ⟨_,rfl,q r ls cu H6 s6 nr yP⟩
def CS (N:Bool)(K:Frag)(H:Hp)(v:V)(r:Rat):Prop:=N=true->gL K H v r
theorem CS.qg (h:CS N K H v r)(s:aq H H'):CS N K H' v r:=fun n=>(h n).qg s
theorem CS.aX (h:CS N K H v r)(s:bq H H'):CS N K H' v r:=fun n=>(h n).aX s
theorem CT :∀us:List V,Paired (CS false K H) us (us.map fun _=>0)
 | []=>.nil
 | _::us=>.cons (fun z=>nomatch z) (CT us)
def qV {us:ε}{rs:Ν}(h:Paired (gL K H) us rs):Paired (CS true K H) us rs:=Paired.bP h fun _ _ z _=>z
def ag4 {i j:Nat}(h:i<=j)(hj:j<=xs.length):eV xs (some (i:Int)) (some (j:Int))=(xs.drop i).take (j-i):=by
 unfold eV;rw [HT.j9,HT.j9,XF hj,XF (show i<=xs.length by omega)]
theorem jg :∀{l:List Z} {m:List β} (n:Nat),Paired R l m->Paired R (l.drop n) (m.drop n)
 | _,_,0,h=>h
 | _,_,_+1,.nil=>.nil
 | _,_,n+1,.cons _ t=>jg n t
theorem jh :∀{l:List Z} {m:List β} (n:Nat),Paired R l m->Paired R (l.take n) (m.take n)
 | _,_,0,_=>.nil
 | _,_,_+1,.nil=>.nil
 | _,_,n+1,.cons h t=>.cons h (jh n t)
theorem mW:∀(more AN:δ),((AN++more).map (·.1)).Nodup->cM AN more=AN++more
 | [],AN,_=>by simp [cM]
 | p::r,AN,h=>by
  let e:cM AN (p::r)=cM (putK AN p.1 p.2) r:=rfl
  let hn:p.1∉AN.map (·.1):=fun z=>by
   rw [IX,BS,Po] at h;exact h.2.2 p.1 z p.1 CU rfl
  rw [e,dq _ (b_ hn),mW r (AN++[(p.1,p.2)]) (by rwa [QW]),QW];rfl
theorem HH :∀{qe:ρ} {ys:ε} {rs:Ν},(qe.map (·.nm)).Nodup->qe.length=rs.length->Paired R ys rs->
  ∃T:Str->Rat,qe.map (fun b=>T b.nm)=rs/\(((qe.map fun b=>(J' b.nm:Key)).zip ys).map (·.1))=qe.map (fun b=>(J' b.nm:Key))/\∀b∈qe,∃v,cv ((qe.map fun b=>(J' b.nm:Key)).zip ys) (.inr b.nm)=some v/\R v (T b.nm)
 | [],_,[],_,_,.nil=>⟨fun _=>0,rfl,rfl,by simp⟩
 | _::_,[],_,_,hl,.nil=>by simp at hl
 | b::bs,y::ys,r::rs,nd,hl,.cons h t=>by
  rw [BS,KC] at nd;obtain ⟨T,h1,h2,h3⟩:=HH nd.2 (by simpa using hl) t;let ne:∀c∈bs,c.nm≠b.nm:=fun c hc z=>nd.1 (z▸AW.mpr ⟨c,hc,rfl⟩);obtain ⟨T',t1,t2⟩:∃T':Str->Rat,T' b.nm=r/\∀x,x≠b.nm->T' x=T x:=⟨fun x=>if x=b.nm then r else T x,tu rfl,fun x h=>qA h⟩;show ⟨T',?_,?_,fun c hc=>?_⟩
  ·let em:bs.map (fun c=>T' c.nm)=rs:=by
    rw [<-h1];exact NF fun c hc=>t2 _ (ne c hc)
   rw [BS,t1,em]
  ·rw [BS,aiY,BS,h2]
  ·rw [BS,aiY]
   rcases JC.mp hc with e|hc
   ·subst e
    show ⟨y,ck rfl,by rwa [t1]⟩
   ·obtain ⟨v,e1,e2⟩:=h3 c hc
    show ⟨v,?_,by rwa [t2 _ (ne c hc)]⟩;rwa [bR (fun z=>ne c hc (Ky z).symm)]
def ay (pX:θ):Nat:=(pX.flatMap fun p=>p.ws).length
def sk (ps:θ)(p:ar):ay (ps++[p])=ay ps+p.ws.length:=by
 unfold ay;rw [RX,CL];simp
def aao (h:pX[i]?=some p):ay (pX.take i)+p.ws.length<=ay pX:=by
 let e:pX=pX.take i++p::pX.drop (i+1):=by
  let lt:=(ir.mp h).1;let e2:=(ir.mp h).2;rw [<-e2,aii,Ry]
 let e3:=ud (fun l:List ar=>(l.flatMap fun p=>p.ws).length) e;simp only [RX,JJ,CL] at e3;unfold ay;omega
structure PPR (K:Frag)(H H':Hp)(pX:θ)(qe:ρ)(dT dU:AO)(kT kU:δ)(T:Ι)(U:χ)(L:Str->AO):Prop where
 nT:H dT=none
 nU:H dU=none
 ne:dT≠dU
 hT:H' dT=some (.dK kT)
 hU:H' dU=some (.dK kU)
 yQ:kT.map (·.1)=qe.map (fun b=>(J' b.nm:Key))
 L8:kU.map (·.1)=pX.map (fun p=>(J' p.nm:Key))
 tT:∀b∈qe,∃v,cv kT (.inr b.nm)=some v/\gL K H' v (T b.nm)
 tU:∀p∈pX,∃vs,cv kU (.inr p.nm)=some (.ref (L p.nm))/\H (L p.nm)=none/\H' (L p.nm)=some (.lst vs)/\Paired (gL K H') vs (U p.nm)
 lU:∀p∈pX,(U p.nm).length=p.ws.length
 inj:∀p∈pX,∀q∈pX,L p.nm=L q.nm->p.nm=q.nm
inductive OP (K:Frag)(C:AO)(vs:ε)(H:Hp)(Q:VK)(E_:XK):Prop
|mk (N:Bool)(a nl:AO)(pX:θ)(qe:ρ)(us:ε)(rs:Ν)(_:vs=[.ref a,.ref nl])(_:qQ K H C a pX qe)(_:bT pX qe)(_:H nl=some (.lst us))(_:Paired (CS N K H) us rs)(_:rs.length=ay pX+qe.length)(_:∀(T:Ι)(U:χ)(L:Str->AO)(p dT dU:AO)(kT kU:δ)(H':Hp),aq H H' ->rs=(pX.flatMap fun p=>U p.nm)++qe.map (fun b=>T b.nm)->H' p=some (.tup [.ref dT,.ref dU])->(N=true->PPR K H H' pX qe dT dU kT kU T U L)->Q (.ref p) H')
def acx {ps:θ}{U W:χ}(h:∀p∈ps,U p.nm=W p.nm):(ps.flatMap fun p=>U p.nm)=ps.flatMap fun p=>W p.nm:=by
 induction ps with
 | nil=>rfl
 | cons p ps ih=>
  rw [JJ,JJ,h p CU,ih fun q hq=>h q (DM _ hq)]
def so:aC ["F","numbers","pushes","at","pin","behind","pulls"] OF (ae KN):=sq
def abd (D:Def K mg "pulls_and_pushes" KN OF)(aL:mg "len"=none)(iC:mg "dict"=none)(kX:mg "zip"=none)(MP:am P w K mg qf 1 C "pins" JB (g8 K C))(MW:am P w K mg qf 2 C "ways" Mg (oO K C))(MB:am P w K mg qf 1 C "bars" JB (jR K C)):
  ac P w K mg qf 3 "pulls_and_pushes" OF (OP K C):=by
 refine D.op so fun f cD A qw s H vs Q E hr h=>?_;obtain ⟨N,a,nl,pX,qe,us,rs,rfl,R,g,hn,hu,hl,q⟩:=h;let lu:us.length=rs.length:=CV hu;let wl:ay pX<=2*pX.length:=gf pX g.lw;let gl:=g.lp;let gb:=g.lb
 show ⟨_,(aa (aJ 2 so.nd fF) (aa (aJ 3 so.nd ag) (aa (bJ I_ rfl (bw (dy (k:=1) (pv 0) hr.mo (pY P w))) (bZ 4 so.nd) (aa (aJ 5 so.nd (aH bV (pv 3) (aD av rfl aL bM (aK (cT (k:=2) (pv 0) hr.mo (pY P w) (aK (pv 4))))))) (aa (fE (cf hr) (pv 2) (pv 4) (dB ig (pv 1) (dh (pv 3)) (dh (pv 5))) rfl) (ah (aJ 3 so.nd (pv 5)))))) (aa (aJ 6 so.nd (zaf rfl rfl iC rfl kX (aT (dy (k:=1) (pv 0) hr.mo (pY P w)) (dB ig (pv 1) (dh (pv 3)) ie)))) (ah (aE (aZ (aT (pv 6) (pv 2))))))))),?_⟩;sleep 4
 intro dU nU;let s1:=aG nU (.dK []);let e1:(upd H dU (.dK [])) dU=some (.dK []):=aj;generalize upd H dU (.dK [])=H1 at s1 e1 ⊢;let R1:=R.qg s1;obtain ⟨dx,pP,pW,pB,kP,kW,kB,F1,W1⟩:=R1.ex;show ⟨_,rfl,a,C,dx,_,_,_,rfl,F1.obj,rfl,MP,a,dx,pP,pW,pB,_,_,kP,kW,kB,rfl,F1,fun lp H2 s2 u3 mT=>?_⟩;rw [fK] at mT;let qu:=s1.trans s2;let RP:lp≠dU:=fun z=>by erw [z,e1] at u3
 show ⟨lp,rfl,⟨_,aV.of mT⟩,let I:bn:=fun i Y H'=>Yu fun (o4 o5:Ε) (kU:δ) (U:χ) (L:Str->AO)=>Y=[ap a,ap nl,ap dU,some (.int (ay (pX.take i):Int)),o4,o5,none]/\aq H H'/\H' lp=some (.lst ((pX.map (·.nm)).map V.str))/\H' dU=some (.dK kU)/\kU.map (·.1)=(pX.take i).map (fun p=>(J' p.nm:Key))/\((pX.take i).flatMap fun p=>U p.nm)=rs.take (ay (pX.take i))/\ (∀p∈pX.take i,∃vs,cv kU (.inr p.nm)=some (.ref (L p.nm))/\H (L p.nm)=none/\H' (L p.nm)=some (.lst vs)/\Paired (CS N K H') vs (U p.nm))/\(∀p∈pX.take i,(U p.nm).length=p.ws.length)/\(∀p∈pX.take i,∀q∈pX.take i,L p.nm=L q.nm->p.nm=q.nm);cC (K:=K) (a:=lp) (xs:=(pX.map (·.nm)).map V.str) I
   ⟨none,none,[],fun _=>[],fun _=>0,rfl,qu,mT,s2 _ _ e1,rfl,rfl,by simp,by simp,by simp⟩ (fun i Y H' _ h=>by
   obtain ⟨_,_,_,_,_,_,_,h,_⟩:=h
   exact aV.of h) ?_ ?_⟩
 ·rintro i z Y H4 hi ⟨o4,o5,kU,U,L,rfl,s4,l4,e4,ks,fl,tU,lU,inj⟩
  rw [AY,AY] at hi;obtain ⟨x,hx,rfl⟩:=JI.mp hi;obtain ⟨p,hp,rfl⟩:=JI.mp hx;let mp:p∈pX:=Wp hp;let il:i<pX.length:=(ir.mp hp).1;let R4:=R.qg s4;obtain ⟨dx,pP,pW,pB,kP,kW,kB,F4,W4⟩:=R4.ex;let mpn:p.nm∈(pX.map fun p=>(p.nm,qP p.sp)).map (·.1):=by rw [fK];exact AW.mpr ⟨p,mp,rfl⟩
  show ⟨_,rfl,_,rfl,a,C,dx,_,_,_,rfl,F4.obj,rfl,MW,_,rfl,a,dx,pP,pW,pB,_,_,kP,kW,kB,_,p.nm,p.ws,rfl,F4,W4,OM g.np,AW.mpr ⟨p,mp,rfl⟩,mpn,fun m vs H5 s5 n5 e5 p5=>?_⟩;let lv:vs.length=p.ws.length:=CV p5;show ⟨m,_,rfl,.inl (aV.of e5),_,_,rfl,rfl,?_⟩;let tk:=take_snoc hp;let wn:ay (pX.take (i+1))=ay (pX.take i)+p.ws.length:=by rw [tk,sk]
  let wt:=aao hp;let eb:(ay (pX.take i):Int)+((vs.length:Nat):Int)=((ay (pX.take (i+1)):Nat):Int):=by rw [wn,lv];omega
  let RS:=s4.trans s5;let RI:=RS _ _ hn;dsimp only;rw [eb];show ⟨_,rfl,_,rfl,_,rfl,_,rfl,_,rfl,nl,_,rfl,aV.of RI,?_⟩;rw [ag4 bv bv];intros m2 n6 H6 s6 e6;let e46:=s6 _ _ (s5 _ _ e4)
  let lk:kU.length<=9:=by
   let z:=ud O3 ks;rw [AU,AU,JT] at z;omega
  show ⟨_,rfl,_,rfl,dU,_,rfl,jx.k (k:=.inr p.nm) e46 (IY (show kU.length<=1000 by omega) ce),?_⟩
  let fresh:(J' p.nm:Key)∉kU.map (·.1):=by
   rw [ks];intro z;obtain ⟨b',ip,G'⟩:=AW.mp z;exact iN (nm:=ar.nm) g.np hp ip (Ky G')
  let pk:putK kU (.inr p.nm) (.ref m2)=kU++[(.inr p.nm,.ref m2)]:=dq _ (b_ fresh);let t6:bq H6 (upd H6 dU (.dK (putK kU (.inr p.nm) (.ref m2)))):=.dict e46;let CP:=s5.trans s6;let md:m2≠dU:=fun z=>by erw [z,s5 _ _ e4] at n6
  let kk:∀b o,b≠dU->H4 b=some o->(upd H6 dU (.dK (putK kU (.inr p.nm) (.ref m2)))) b=some o:=fun b o n e=>by rw [ak n];exact CP _ _ e
  let ne:∀p' ∈pX.take i,p'.nm≠p.nm:=fun p' kI =>iN (nm:=ar.nm) g.np hp kI
  have v_ :∀p' ∈pX.take (i+1),p' ∈pX.take i\/p'=p:=fun p' kI =>by
   rw [tk] at kI
   rcases DL.mp kI with h|h
   ·exact .inl h
   ·exact .inr (IZ.mp h)
  let hold:∀p' ∈pX.take i,∃o,H4 (L p'.nm)=some o:=fun p' kI =>by
   obtain ⟨vs,_,_,h,_⟩:=tU p' kI;show ⟨_,h⟩
  obtain ⟨U',hU1,hU2⟩:∃U':Str->List Rat,U' p.nm=(rs.drop (ay (pX.take i))).take p.ws.length/\∀x,x≠p.nm->U' x=U x:=⟨fun x=>if x=p.nm then (rs.drop (ay (pX.take i))).take p.ws.length else U x,tu rfl,fun x h=>qA h⟩;obtain ⟨L',Ug,Uh⟩:∃L':Str->AO,L' p.nm=m2/\∀x,x≠p.nm->L' x=L x:=⟨fun x=>if x=p.nm then m2 else L x,tu rfl,fun x h=>qA h⟩;show ⟨_,rfl,_,_,putK kU (.inr p.nm) (.ref m2),U',L',rfl,fun b o e=>?_,kk _ _ RP l4,aj,?_,?_,fun p' kI =>?_,fun p' kI =>?_,fun p' kI q' qi =>?_⟩
  ·rw [ak (ao e nU)]
   exact CP _ _ (s4 _ _ e)
  ·rw [pk,IX,ks,tk,IX]
   rfl
  ·rw [tk,RX,sk]
   rw [acx (U:=U') (W:=U) fun p' kI =>hU2 _ (ne p' kI),fl];simp only [JJ,ao2,V_,hU1];rw [List.take_add]
  ·rw [yk]
   rcases v_ p' kI with h|h
   ·rw [qA (fun z=>ne p' h (Ky z)),Uh _ (ne p' h),hU2 _ (ne p' h)]
    obtain ⟨eR,h1,h2,h3,h4⟩:=tU p' h;show ⟨eR,h1,h2,kk _ _ (fun z=>by erw [z,e4] at h3) h3,Paired.bP h4 fun _ _ z=>(z.qg CP).aX t6⟩
   ·subst h
    rw [tu rfl,Ug,hU1];show ⟨_,rfl,(s4.trans s5).free n6,by rwa [ak md],?_⟩;let a1:=jh (ay (pX.take (i+1))-ay (pX.take i)) (jg (ay (pX.take i)) hu);let a2:ay (pX.take (i+1))-ay (pX.take i)=p'.ws.length:=bv
    rw [a2] at a1 ⊢;exact Paired.bP a1 fun _ _ z=>((z.qg s4).qg CP).aX t6
  ·rcases v_ p' kI with h|h
   ·rw [hU2 _ (ne p' h)]
    exact lU p' h
   ·subst h
    rw [hU1,JT,Rw];omega
  ·rcases v_ p' kI with h|h<;>rcases v_ q' qi with h'|h'
   ·rw [Uh _ (ne p' h),Uh _ (ne q' h')]
    exact inj p' h q' h'
   ·subst h'
    rw [Uh _ (ne p' h),Ug];intro z;obtain ⟨o,ho⟩:=hold p' h;erw [z,s5.free n6] at ho
   ·subst h
    rw [Uh _ (ne q' h'),Ug];intro z;obtain ⟨o,ho⟩:=hold q' h';erw [<-z,s5.free n6] at ho
   ·intro _
    rw [h,h']
 ·rintro Y H4 ⟨o4,o5,kU,U,L,rfl,s4,l4,e4,ks,fl,tU,lU,inj⟩
  rw [AU,AU,OU] at ks fl tU lU inj;let R4:=R.qg s4;obtain ⟨dx,pP,pW,pB,kP,kW,kB,F4,W4⟩:=R4.ex;show ⟨_,rfl,a,C,dx,_,_,_,rfl,F4.obj,rfl,MB,a,dx,pP,pW,pB,_,_,kP,kW,kB,rfl,F4,fun lb H5 s5 nlb CQ=>?_⟩;rw [mV] at CQ;let RS:=s4.trans s5;show ⟨_,rfl,_,rfl,_,rfl,nl,_,rfl,aV.of (RS _ _ hn),?_⟩;let hw:ay pX<=us.length:=bv
  rw [AU,AU,OU,uZ hw];intros m2 n6 H6 s6 e6;let hp6:Paired (CS N K H6) (us.drop (ay pX)) (rs.drop (ay pX)):=Paired.bP (jg (ay pX) hu) fun _ _ z=>(z.qg RS).qg s6;obtain ⟨T,h1,h2,h3⟩:=HH (R:=CS N K H6) g.nb (by rw [Rw];omega) hp6
  let eks:(qe.map (·.nm)).map V.str=(qe.map fun b=>(J' b.nm:Key)).map kV:=by
   rw [DP,DP];rfl
  rw [eks] at CQ;show ⟨lb,m2,qe.map fun b=>(J' b.nm:Key),us.drop (ay pX),rfl,s6 _ _ CQ,e6,by rw [AU];omega,fun dT H7 s7 n7 e7=>?_⟩
  let ndk:(qe.map fun b=>(J' b.nm:Key)).Nodup:=by
   have:=afn g.nb;rwa [DP] at this
  rw [mW _ [] (by rwa [Xl,h2]),Xl] at e7;show ⟨_,rfl,_,rfl,uo,?_⟩;intros pt n8 H8 s8 e8;let YA:=(s5.trans s6).trans (s7.trans s8);let YB:=s4.trans YA;let er:rs=(pX.flatMap fun p=>U p.nm)++qe.map (fun b=>T b.nm):=by rw [fl,h1,Ry]
  refine q T U L pt dT dU _ kU H8 YB er e8 fun yes=>⟨(RS.trans s6).free n7,nU,(fun z=>by erw [z,s6 _ _ (s5 _ _ e4)] at n7),s8 _ _ e7,YA _ _ e4,h2,ks,fun b hb=>?_,fun p hp=>?_,lU,inj⟩
  ·obtain ⟨v,e1,e2⟩:=h3 b hb
   show ⟨v,e1,((e2 yes).qg s7).qg s8⟩
  ·obtain ⟨eR,a1,a2,a3,a4⟩:=tU p hp
   show ⟨eR,a1,a2,YA _ _ a3,Paired.bP a4 fun _ _ z=>(z yes).qg YA⟩
inductive jT (K:Frag)(C:AO)(vs:ε)(H:Hp)(Q:VK)(E_:XK):Prop
|mk (N:Bool)(a nl:AO)(pX:θ)(qe:ρ)(us:ε)(rs:Ν)(_:vs=[.ref a,.ref nl])(_:qQ K H C a pX qe)(_:bT pX qe)(_:H nl=some (.lst us))(_:Paired (CS N K H) us rs)(_:rs.length=2*pX.length)(_:∀(M:ω)(d:AO)(kM:δ)(H':Hp),aq H H' ->rs=(pX.flatMap fun p=>[(M p.nm).1,(M p.nm).2])->H d=none->H' d=some (.dK kM)->kM.map (·.1)=pX.map (fun p=>(J' p.nm:Key))->(N=true->∀p∈pX,∃t v1 v2,cv kM (.inr p.nm)=some (.ref t)/\H' t=some (.tup [v1,v2])/\gL K H' v1 (M p.nm).1/\gL K H' v2 (M p.nm).2)->Q (.ref d) H')
def adx {ps:θ}{U W:ω}(h:∀p∈ps,U p.nm=W p.nm):(ps.flatMap fun p=>[(U p.nm).1,(U p.nm).2])=ps.flatMap fun p=>[(W p.nm).1,(W p.nm).2]:=by
 induction ps with
 | nil=>rfl
 | cons p ps ih=>
  rw [JJ,JJ,h p CU,ih fun q hq=>h q (DM _ hq)]
def HI:aC ["F","numbers","motion","at","pin"] OF (ae KP):=sq
def abf (D:Def K mg "motion_from" KP OF)(fh:mg "enumerate"=none)(MP:am P w K mg qf 1 C "pins" JB (g8 K C)):
  ac P w K mg qf 2 "motion_from" OF (jT K C):=by
 refine D.oo HI fun H hr h=>?_;obtain ⟨N,a,nl,pX,qe,us,rs,rfl,R,g,hn,hu,hl,q⟩:=h;let lu:us.length=rs.length:=CV hu;let gl:=g.lp
 show ⟨_,(aa (aJ 2 HI.nd fF) (aa (bJ I_ rfl (FV rfl fh (aK (dy (k:=1) (pv 0) hr.mo (AG P w)))) (eU rfl (a_ (bZ 3 HI.nd) (a_ (bZ 4 HI.nd) cY))) (ah (fE (cf hr) (pv 2) (pv 4) (aZ (aT (bG aU (pv 1) (aH di ag (pv 3))) (bG aU (pv 1) (aH bV (aH di ag (pv 3)) ag)))) rfl))) (ah (aE (pv 2))))),?_⟩;sleep 2
 intro d nd;let s1:=aG nd (.dK []);let e1:(upd H d (.dK [])) d=some (.dK []):=aj;generalize upd H d (.dK [])=H1 at s1 e1 ⊢;let R1:=R.qg s1;obtain ⟨dx,pP,pW,pB,kP,kW,kB,F1,W1⟩:=R1.ex;show ⟨_,rfl,a,C,dx,_,_,_,rfl,F1.obj,rfl,MP,a,dx,pP,pW,pB,_,_,kP,kW,kB,rfl,F1,fun lp H2 s2 u3 mT=>?_⟩;rw [fK] at mT;let qu:=s1.trans s2;let RP:lp≠d:=fun z=>by erw [z,e1] at u3
 show ⟨lp,rfl,⟨_,aV.of mT⟩,let I:bn:=fun i Y H'=>Ow fun (o3 o4:Ε) (kM:δ) (M:ω)=>Y=[ap a,ap nl,ap d,o3,o4]/\aq H H'/\H' lp=some (.lst ((pX.map (·.nm)).map V.str))/\H' d=some (.dK kM)/\kM.map (·.1)=(pX.take i).map (fun p=>(J' p.nm:Key))/\((pX.take i).flatMap fun p=>[(M p.nm).1,(M p.nm).2])=rs.take (2*i)/\ (∀p∈pX.take i,∃t v1 v2,cv kM (.inr p.nm)=some (.ref t)/\H' t=some (.tup [v1,v2])/\CS N K H' v1 (M p.nm).1/\CS N K H' v2 (M p.nm).2);yv (K:=K) (a:=lp) (xs:=(pX.map (·.nm)).map V.str) I
   ⟨none,none,[],fun _=>(0,0),rfl,qu,mT,s2 _ _ e1,rfl,rfl,by simp⟩ (fun i Y H' _ h=>by
   obtain ⟨_,_,_,_,_,_,h,_⟩:=h
   exact aV.of h) ?_ ?_⟩
 ·rintro i z Y H4 p9 hi ⟨o3,o4,kM,M,rfl,s4,l4,e4,ks,fl,tM⟩ n9
  rw [AY,AY] at hi;obtain ⟨x,hx,rfl⟩:=JI.mp hi;obtain ⟨p,hp,rfl⟩:=JI.mp hx;let il:i<pX.length:=(ir.mp hp).1;let t9:=aG n9 (.tup [.int (i:Int),.str p.nm]);let e9:(upd H4 p9 (.tup [.int (i:Int),.str p.nm])) p9=some (.tup [.int (i:Int),.str p.nm]):=aj;generalize upd H4 p9 (.tup [.int (i:Int),.str p.nm])=H5 at t9 e9 ⊢;show ⟨p9,_,rfl,bL.of e9,rfl,_,_,rfl,_,_,rfl,rfl,?_⟩;let RS:=s4.trans t9;let RI:=RS _ _ hn;let l1:2*i<us.length:=bv
  let l2:2*i+1<us.length:=bv
  let c2:uN 2 (i:Int):=⟨by decide+kernel,BX (intBits_le_64 bv bv) ce⟩
  let a1:ib us (2*(i:Int))=some us[2*i]:=by
   have:=bK (xs:=us) (j:=2*i) (gE l1);rwa [show ((2*i:Nat):Int)=2*(i:Int) by omega] at this
  let a2:ib us (2*(i:Int)+1)=some us[2*i+1]:=by
   have:=bK (xs:=us) (j:=2*i+1) (gE l2);rwa [show ((2*i+1:Nat):Int)=2*(i:Int)+1 by omega] at this
  show ⟨_,rfl,_,rfl,_,_,rfl,rfl,c2,nl,_,_,_,rfl,rfl,aV.of RI,a1,_,rfl,_,rfl,_,_,rfl,rfl,c2,_,_,rfl,rfl,nl,_,_,_,rfl,rfl,aV.of RI,a2,uo,?_⟩;intros t n6 H6 s6 e6;let e46:=s6 _ _ (t9 _ _ e4)
  let lk:kM.length<=9:=by
   let z:=ud O3 ks;rw [AU,AU,JT] at z;omega
  show ⟨_,rfl,_,rfl,d,_,rfl,jx.k (k:=.inr p.nm) e46 (IY (show kM.length<=1000 by omega) ce),?_⟩
  let fresh:(J' p.nm:Key)∉kM.map (·.1):=by
   rw [ks];intro z;obtain ⟨b',ip,G'⟩:=AW.mp z;exact iN (nm:=ar.nm) g.np hp ip (Ky G')
  let pk:putK kM (.inr p.nm) (.ref t)=kM++[(.inr p.nm,.ref t)]:=dq _ (b_ fresh);let t6:bq H6 (upd H6 d (.dK (putK kM (.inr p.nm) (.ref t)))):=.dict e46;let CP:=t9.trans s6;let td:t≠d:=fun z=>by erw [z,t9 _ _ e4] at n6
  let kk:∀b o,b≠d->H4 b=some o->(upd H6 d (.dK (putK kM (.inr p.nm) (.ref t)))) b=some o:=fun b o n e=>by rw [ak n];exact CP _ _ e
  let ne:∀p' ∈pX.take i,p'.nm≠p.nm:=fun p' kI =>iN (nm:=ar.nm) g.np hp kI;let tk:=take_snoc hp;obtain ⟨r1,er1,hr1⟩:=aA hu (gE l1);obtain ⟨r2,er2,hr2⟩:=aA hu (gE l2);obtain ⟨M',hM1,hM2⟩:∃M':Str->Rat×Rat,M' p.nm=(r1,r2)/\∀x,x≠p.nm->M' x=M x:=⟨fun x=>if x=p.nm then (r1,r2) else M x,tu rfl,fun x h=>qA h⟩;show ⟨_,_,putK kM (.inr p.nm) (.ref t),M',rfl,fun b o e=>?_,kk _ _ RP l4,aj,?_,?_,fun p' kI =>?_⟩
  ·rw [ak (ao e nd)]
   exact CP _ _ (s4 _ _ e)
  ·rw [pk,IX,ks,tk,IX]
   rfl
  ·rw [tk,RX,adx (U:=M') (W:=M) fun p' kI =>hM2 _ (ne p' kI),fl]
   simp only [JJ,ao2,V_,hM1];rw [show 2*(i+1)=2*i+1+1 by omega,tR,tR,er1,er2];simp
  ·rw [yk]
   rw [tk] at kI
   rcases DL.mp kI with h|h
   ·rw [qA (fun z=>ne p' h (Ky z)),hM2 _ (ne p' h)]
    obtain ⟨t',v1,v2,h1,h2,h3,h4⟩:=tM p' h;show ⟨t',v1,v2,h1,kk _ _ (fun z=>by erw [z,e4] at h2) h2,(h3.qg CP).aX t6,(h4.qg CP).aX t6⟩
   ·rw [IZ.mp h,tu rfl,hM1]
    show ⟨t,_,_,rfl,by rwa [ak td],((hr1.qg RS).qg s6).aX t6,((hr2.qg RS).qg s6).aX t6⟩
 ·rintro Y H4 ⟨o3,o4,kM,M,rfl,s4,l4,e4,ks,fl,tM⟩
  rw [AU,AU] at ks fl tM;rw [OU] at ks fl tM;rw [<-hl,OU] at fl;show ⟨_,rfl,q M d kM H4 s4 fl.symm nd e4 ks fun yes p hp=>?_⟩;obtain ⟨t,v1,v2,h1,h2,h3,h4⟩:=tM p hp;show ⟨t,v1,v2,h1,h2,h3 yes,h4 yes⟩
def dt (a b:Rat×Rat):Rat:=a.1*b.1+a.2*b.2
def sP (as bs:Ν):Rat:=(Nc (·*·) as bs).sum
def g_ (bs:Ν):sP [] bs=0:=by simp [sP]
def cw (a b:Rat)(as bs:Ν):sP (a::as) (b::bs)=a*b+sP as bs:=by simp [sP]
theorem lR:∀{a c:Ν} (b d:Ν),a.length=c.length->sP (a++b) (c++d)=sP a c+sP b d
 | [],[],b,d,_=>by
  rw [Xl,Xl,g_];grind
 | x::a,y::c,b,d,h=>by
  rw [α',α',cw,cw,lR b d (by simpa using h)];grind
 | [],_::_,_,_,h=>by simp at h
 | _::_,[],_,_,h=>by simp at h
theorem qW:∀(ys cs:π),i_ ys cs=sP (ys.map vl) (cs.map vl)
 | [],_=>by simp [i_,sP]
 | _::_,[]=>by simp [i_,sP]
 | y::ys,c::cs=>by rw [aca,BS,BS,cw,qW ys cs]
theorem qX (F:ψ)(M:ω):∀pX:List ar,sP ((dS F pX).map vl) (pX.flatMap fun p=>[(M p.nm).1,(M p.nm).2])=(pX.map fun p=>dt (mv F p.nm) (M p.nm)).sum
 | []=>by simp [dS,sP]
 | p::ps=>by
  let ih:=qX F M ps;unfold dS at ih ⊢;rw [JJ,JJ,IX,lR _ _ cr,ih];simp only [BS,Mi,gY,cw,g_,Kv];unfold dt;grind
def ag5 {pX:θ}(nd:(pX.map (·.nm)).Nodup)(hp:p∈pX){f:Ι}(h:∀q∈pX,q.nm≠p.nm->f q.nm=0):(pX.map fun q=>f q.nm).sum=f p.nm:=by
 induction pX with
 | nil=>simp at hp
 | cons q ps ih=>
  rw [BS,KC] at nd;rw [BS,Kv]
  let zero:∀(l:θ),(∀r∈l,f r.nm=0)->(l.map fun q=>f q.nm).sum=0:=fun l hl=>by
   induction l with
   | nil=>simp
   | cons r l ihl=>
    rw [BS,Kv,hl r CU,ihl fun s hs=>hl s (DM _ hs)];grind
  by_cases e:q.nm=p.nm
  ·rw [e,zero ps fun r hr=>h r (DM _ hr) fun z=>nd.1 (by rw [e,<-z];exact AW.mpr ⟨r,hr,rfl⟩)]
   grind
  ·rw [h q CU e]
   have kI :p∈ps:=by
    rcases JC.mp hp with z|z
    ·exact BH (by rw [z]) e
    ·exact z
   rw [ih nd.2 kI fun r hr=>h r (DM _ hr)];grind
def lS (x:Str)(w:Rat×Rat)(y:Str):mv (fO x w) y=if y=x then w else (0,0):=by
 unfold mv fO;by_cases e:y=x
 ·rw [tu e,tu e]
  rfl
 ·rw [qA e,qA e]
  rfl
def mX (m:Rat×Rat):dt (0,0) m=0:=by
 unfold dt;grind
def qY {pX:θ}(nd:(pX.map (·.nm)).Nodup)(hp:p∈pX)(w:Rat×Rat)(M:ω):(pX.map fun q=>dt (mv (fO p.nm w) q.nm) (M q.nm)).sum=dt w (M p.nm):=by
 rw [ag5 nd hp (f:=fun x=>dt (mv (fO p.nm w) x) (M x)) fun q _ e=>by rw [lS,qA e];exact mX _];rw [lS,tu rfl]
theorem sum_add (f g:ar->Rat):∀l:List ar,(l.map fun q=>f q+g q).sum=(l.map f).sum+(l.map g).sum
 | []=>by
  simp only [Mi,RM];grind
 | p::l=>by
  rw [BS,Kv,sum_add f g l,BS,BS,Kv,Kv];grind
def yS (M:ω)(b:aI):Rat:=dt (jS b.one b.qz) ((M b.qz.nm).1-(M b.one.nm).1,(M b.qz.nm).2-(M b.one.nm).2)
def zaq (b:aI)(h:b.one.nm≠b.qz.nm)(x:Str)(m:Rat×Rat):dt (mv (dD b) x) m=dt (mv (fO b.one.nm (jS b.one b.qz)) x) m+dt (mv (fO b.qz.nm (jS b.qz b.one)) x) m:=by
 rw [lS,lS];unfold mv dD;by_cases c1:x=b.one.nm
 ·rw [tu c1,tu c1,qA (fun z=>h (c1.symm.trans z)),mX]
  show dt (jS b.one b.qz) m=_;grind
 ·rw [qA c1,qA c1,mX]
  by_cases c2:x=b.qz.nm
  ·rw [tu c2,tu c2]
   show dt (jS b.qz b.one) m=_;grind
  ·rw [qA c2,qA c2,mX]
   show dt (0,0) m=_;rw [mX];grind
def we {pX:θ}(nd:(pX.map (·.nm)).Nodup)(b:aI)(h1:b.one∈pX)(h2:b.qz∈pX)(h:b.one.nm≠b.qz.nm)(M:ω):(pX.map fun q=>dt (mv (dD b) q.nm) (M q.nm)).sum= -(yS M b):=by
 let e:(pX.map fun q=>dt (mv (dD b) q.nm) (M q.nm))=pX.map fun q=>dt (mv (fO b.one.nm (jS b.one b.qz)) q.nm) (M q.nm)+dt (mv (fO b.qz.nm (jS b.qz b.one)) q.nm) (M q.nm):=NF fun q _=>zaq b h _ _;rw [e,sum_add,qY nd h1,qY nd h2];unfold yS dt jS;grind
def OQ (pX:θ)(L:ψ)(M:ω):Rat:=(pX.map fun p=>dt (mv L p.nm) (M p.nm)).sum
def fL (qe:ρ)(T:Ι)(U:χ)(p:ar)(c:Rat×Rat->Rat):Rat:=sP (U p.nm) (p.ws.map c)+(qe.map fun b=>T b.nm*c (mv (dD b) p.nm)).sum
def CW (pX:θ)(qe:ρ)(T:Ι)(U:χ)(L:ψ):Prop:=∀p∈pX,fL qe T U p (·.1)+(mv L p.nm).1=0/\fL qe T U p (·.2)+(mv L p.nm).2=0
theorem qZ:∀(as:Ν) {Z:Type} (l:List Z),sP as (l.map fun _=>(0:Rat))=0
 | [],_,_=>g_ _
 | _::_,_,[]=>by simp [sP]
 | a::as,_,x::l=>by
  rw [BS,cw,qZ as l];grind
theorem HJ {U:χ}(c0:c (0,0)=0)(p:ar):∀(ps:θ),(ps.map (·.nm)).Nodup->(∀q∈ps,(U q.nm).length=q.ws.length)->(∀q∈ps,q.nm=p.nm->q=p)->
  sP (ps.flatMap fun q=>U q.nm) (ps.flatMap fun q=>q.ws.map fun w=>c (mv (fO q.nm w) p.nm))=if p.nm∈ps.map (·.nm) then sP (U p.nm) (p.ws.map c) else 0
 | [],_,_,_=>by simp [sP]
 | q::ps,nd,hl,inj=>by
  rw [BS,KC] at nd;let ih:=HJ c0 p ps nd.2 (fun r hr=>hl r (DM _ hr)) fun r hr=>inj r (DM _ hr);rw [JJ,JJ,lR _ _ (by rw [hl q CU,AU]),ih,BS];by_cases e:q.nm=p.nm
  ·let eq:q=p:=inj q CU e
   subst eq;let ec:(q.ws.map fun w=>c (mv (fO q.nm w) q.nm))=q.ws.map c:=NF fun w _=>by rw [lS,tu rfl]
   rw [qA nd.1,tu CU,ec];grind
  ·let ec:(q.ws.map fun w=>c (mv (fO q.nm w) p.nm))=q.ws.map fun _=>(0:Rat):=NF fun w _=>by rwa [lS,qA (fun z=>e z.symm)]
   rw [ec,qZ];by_cases hm:p.nm∈ps.map (·.nm)
   ·rw [tu hm,tu (DM _ hm)]
    grind
   ·rw [qA hm,qA (fun z=>by
     rcases JC.mp z with z|z
     ·exact e z.symm
     ·exact hm z)]
    grind
theorem OR {Z:Type}(f g:Z->Rat):∀l:List Z,sP (l.map f) (l.map g)=(l.map fun x=>f x*g x).sum
 | []=>by simp [sP]
 | x::l=>by rw [BS,BS,cw,OR f g l,BS,Kv]
def afX {pX:θ}{qe:ρ}{T:Ι}{U:χ}{c:Rat×Rat->Rat}(c0:c (0,0)=0)(nd:(pX.map (·.nm)).Nodup)(hl:∀q∈pX,(U q.nm).length=q.ws.length)(hp:p∈pX)(y:Rat):
  sP ((pX.flatMap fun q=>U q.nm)++qe.map (fun b=>T b.nm)++[y]) (((pX.flatMap fun q=>q.ws.map fun w=>c (mv (fO q.nm w) p.nm))++qe.map fun b=>c (mv (dD b) p.nm))++[c (mv L p.nm)])=fL qe T U p c+y*c (mv L p.nm):=by
 let l1:(pX.flatMap fun q=>U q.nm).length=(pX.flatMap fun q=>q.ws.map fun w=>c (mv (fO q.nm w) p.nm)).length:=by
  clear hp nd
  induction pX with
  | nil=>rfl
  | cons q ps ih=>rw [JJ,JJ,CL,CL,ih fun r hr=>hl r (DM _ hr),hl q CU,AU]
 rw [lR _ _ (by rw [CL,CL,l1,AU,AU]),lR _ _ l1,HJ c0 p pX nd hl fun q hq e=>zaS (nm:=ar.nm) nd hq hp e,tu (AW.mpr ⟨p,hp,rfl⟩),OR,cw,g_];unfold fL;grind
theorem mY (F:ψ):∀{pX:θ} {k:Nat} {p:ar},pX[k]?=some p->vl ((dS F pX).getD (2*k) (0,1))=(mv F p.nm).1/\vl ((dS F pX).getD (2*k+1) (0,1))=(mv F p.nm).2
 | q::ps,0,p,h=>by
  cases h;unfold dS;rw [JJ];show ⟨gY _,gY _⟩
 | q::ps,k+1,p,h=>by
  let ih:=mY F (pX:=ps) (k:=k) (p:=p) (by simpa using h);unfold dS at ih ⊢;rwa [JJ]
def acR (pX:θ)(qe:ρ)(L:ψ){k:Nat}(h:pX[k]?=some p)(j:Nat)(c:Rat×Rat->Rat)(hj:∀F,vl ((dS F pX).getD j (0,1))=c (mv F p.nm)):
  (dR (bh pX qe++[dS L pX]) j).map vl=((pX.flatMap fun q=>q.ws.map fun w=>c (mv (fO q.nm w) p.nm))++qe.map fun b=>c (mv (dD b) p.nm))++[c (mv L p.nm)]:=by
 let flat:∀ps:List ar,((ps.flatMap fun q=>lQ pX q).map fun qs=>vl (qs.getD j (0,1)))=ps.flatMap fun q=>q.ws.map fun w=>c (mv (fO q.nm w) p.nm):=fun ps=>by
  induction ps with
  | nil=>rfl
  | cons q ps ih=>
   rw [JJ,JJ,IX,ih];congr 1;unfold lQ;rw [DP];exact NF fun w _=>hj _
 unfold dR bh;rw [DP,IX,IX,BS,Mi];congr 1
 ·congr 1
  ·exact flat pX
  ·rw [DP]
   exact NF fun b _=>hj _
 ·rw [<-hj]
  rfl
def ji (h:1<=k):Sz k 0:=by
 have:=jP (i:=0) (k:=k) (by simpa using ao7 k) h;simpa using this
structure Zb (n:Nat)(r:Rat):Prop where
 top:(qr r).1.natAbs<=2^n
 bot:(qr r).2.natAbs<=2^n
def zR (n:Nat):Nat:=bb (90+90*(2*n+1)) (2*n+1)+90*(2*n+1)
def Um (h:Sm T B q):q=qr (vl q):=rW h.pos h.low
def Uo (h:Sz k r)(h2:k<=90):Sm 90 90 (qr r):=
 ⟨dQ r,oJ r,Oj (JQ (intBits_le_iff.mp h.top) (Me ce h2)),Oj (JQ (intBits_le_iff.mp h.bot) (Me ce h2))⟩
def HK (h:∀x,Sz 90 (mv F x).1/\Sz 90 (mv F x).2)(pX:θ):∀q∈dS F pX,Sm 90 90 q:=fun q hq=>by
 unfold dS at hq;obtain ⟨p,_,hq⟩:=Nz.mp hq;let z:=h p.nm
 rcases JC.mp hq with e|hq
 ·rw [e]
  exact Uo z.1 (BW _)
 ·rw [IZ.mp hq]
  exact Uo z.2 (BW _)
def zah {w:Rat×Rat}(h:Sz 90 w.1/\Sz 90 w.2)(y:Str):Sz 90 (mv (fO x w) y).1/\Sz 90 (mv (fO x w) y).2:=by
 rw [lS];by_cases c:y=x
 ·rw [tu c]
  exact h
 ·rw [qA c]
  show ⟨ji ce,ji ce⟩
def zae (g:bT pX qe)(hb:b∈qe)(y:Str):Sz 90 (mv (dD b) y).1/\Sz 90 (mv (dD b) y).2:=by
 obtain ⟨m1,m2,_⟩:=g.ends b hb;let z1:=g.sz _ m1;let z2:=g.sz _ m2;unfold mv dD;by_cases c1:y=b.one.nm
 ·rw [tu c1]
  show ⟨(z2.1.sub z1.1).up ce,(z2.2.1.sub z1.2.1).up ce⟩
 ·rw [qA c1]
  by_cases c2:y=b.qz.nm
  ·rw [tu c2]
   show ⟨(z1.1.sub z2.1).up ce,(z1.2.1.sub z2.2.1).up ce⟩
  ·rw [qA c2]
   show ⟨ji ce,ji ce⟩
def eZ (g:bT pX qe):∀qs∈bh pX qe,qs.length=2*pX.length/\∀q∈qs,Sm 90 90 q:=fun qs hq=>by
 unfold bh at hq
 rcases DL.mp hq with h|h
 ·obtain ⟨p,hp,h⟩:=Nz.mp h
  unfold lQ at h;obtain ⟨w,hw,rfl⟩:=AW.mp h;let z:=(g.sz p hp).2.2 w hw;show ⟨iS _ _,HK (zah ⟨z.1.up ce,z.2.up ce⟩) pX⟩
 ·obtain ⟨b,hb,rfl⟩:=AW.mp h
  show ⟨iS _ _,HK (zae g hb) pX⟩
def afQ (h:n<=9):bb (90+90*(2*n+1)) (2*n+1)<=29000000:=by
 unfold bb;have:=OT (show 2*n+1+1<=20 by omega) (show 90+90*(2*n+1)+11<=1811 by omega);omega
theorem sr :∀{us:ε} {qs:π},eJ K H us qs->(∀q∈qs,Sm T B q)->Paired (gL K H) us (qs.map vl)
 | [],[],_,_=>.nil
 | u::us,q::qs,h,hs=>by
  refine .cons ?_ (sr ⟨by simpa using h.1,fun i u q e1 e2=>h.2 (i+1) u q (by simpa using e1) (by simpa using e2)⟩ fun r hr=>hs r (DM _ hr));let n:=h.2 0 u q rfl rfl;show og K H u (qr (vl q));rwa [<-Um (hs q CU)]
 | [],_::_,h,_=>(nomatch h.1)
 | _::_,[],h,_=>(nomatch h.1)
structure MoR (K:Frag)(H H':Hp)(pX:θ)(d:AO)(kM:δ)(M:ω):Prop where
 nM:H d=none
 hM:H' d=some (.dK kM)
 keys:kM.map (·.1)=pX.map (fun p=>(J' p.nm:Key))
 tM:∀p∈pX,∃t v1 v2,cv kM (.inr p.nm)=some (.ref t)/\H' t=some (.tup [v1,v2])/\gL K H' v1 (M p.nm).1/\gL K H' v2 (M p.nm).2
def Up {m n:Nat}(h:Sm T B q)(h1:T<=n)(h2:B<=n):Zb n (vl q):=by
 let e:=Um h;show ⟨?_,?_⟩
 ·rw [<-e]
  exact BX h.top (Me ce h1)
 ·rw [<-e]
  exact BX h.bot (Me ce h2)
def bU {Z:Type}{l:List Z}(h:l.Nodup){i j:Nat}{x:Z}(hi:l[i]?=some x)(hj:l[j]?=some x):i=j:=by
 obtain ⟨i1,i2⟩:=ir.mp hi;obtain ⟨j1,j2⟩:=ir.mp hj;exact (aoX h).mp (i2.trans j2.symm)
def Ln.ks (h:Ln H v l)(r:Rd H d (.dK AN))(k:bo d H H'):Ln H' v l:=by
 obtain ⟨p,e,z⟩:=h;show ⟨p,e,k p _ (fun y=>?_) z⟩;rw [y] at z
 rcases r with r|⟨o,r⟩<;>(erw [r] at z)
theorem qp.ks (h:qp H AN nd)(r:Rd H d (.dK kv2))(k:bo d H H'):qp H' AN nd:=⟨h.1,fun i kv x e1 e2=>⟨(h.2 i kv x e1 e2).1,(h.2 i kv x e1 e2).2.ks r k⟩⟩
def bo.step (k:bo d H H')(s:aq H' H2):bo d H H2:=fun b o n e=>s _ _ (k b o n e)
def bo.put (k:bo d H H')(n:H x=none):bo d H (upd H' x o):=fun b o' nb e=>by
 rw [ak (fun z=>by erw [z,n] at e)];exact k b o' nb e
inductive wg (K:Frag)(vs:ε)(H:Hp)(Q:VK)(E_:XK):Prop
|mk (d:AO)(c m L b:Nat)(AN:δ)(nd:ι)(os lv:List (List Int:_))(_:vs=[.ref d,.int (c:Int),.int (m:Int)])(_:Rd H d (.dK AN))(_:qp H AN nd)(_:Red os L m b nd lv)(_:m<=L)(_:m<=900)(_:c<m)(_:∀(x:AO)(us:ε)(o:Obj)(H':Hp),bo d H H' ->H' d=some (.gP o (.dK AN))->H x=none->H' x=some (.lst us)->us.length=m->Q (.ref x) H')
def f':aC ["needed","column","many","numbers","place","line"] mf (ae d0):=sq
def ahk (vX:mg "NOUGHT"=some (.ref aN))(WW:mg "ONE"=some (.ref aO))(D:Def K mg "spare_list" d0 mf)(CJ:ac P w K mg qf 33 "lowest_terms" Ru gO):ac P w K mg qf 34 "spare_list" mf (wg K):=by
 refine D.oo f' fun H hr h=>?_;obtain ⟨d,c,m,L,b,AN,nd,os,lv,rfl,rd,Ui,R,hmL,hm,hc,q⟩:=h
 show ⟨_,(aa (aJ 3 f'.nd (aH BE (bW (aK (i5 (v:=.ref aN) rfl vX rfl))) (pv 2))) (aa (ft (i5 (v:=.ref aO) rfl WW rfl) (fS (pv 3) (pv 1) set_list)) (aa (bJ I_ rfl (abr (pv 0)) (eU rfl (a_ (bZ 4 f'.nd) (a_ (bZ 5 f'.nd) cY))) (ah (ft (aS CJ hr (aT (uB om (bG aU (pv 5) (pv 1))) (bG aU (pv 5) (pv 4)))) (fS (pv 3) (pv 4) set_list)))) (ah (aE (pv 3)))))),?_⟩;sleep 3
 show ⟨z1L,fun p3 n3=>?_⟩;let s3:=aG n3 (.lst [V.ref aN]);show ⟨_,rfl,p3,_,_,rfl,rfl,aj,bv,bv,BX (show 1*(m:Int).toNat<=1000 by omega) ce,fun x n4=>?_⟩;let er:(DQ (m:Int).toNat [V.ref aN]).flatten=DQ m (V.ref aN):=by simp
 rw [er];let s4:=aG n4 (.lst (DQ m (V.ref aN)));let nx:H x=none:=s3.free n4
 let xd:d≠x:=by
  rcases rd with r|⟨o,r⟩
  ·exact ao r nx
  ·exact ao r nx
 show ⟨_,rfl,_,rfl,x,_,_,c,rfl,rfl,aj,by rw [Vm];exact vW hc,?_⟩;let s5:aq H (upd (upd (upd H p3 (.lst [V.ref aN])) x (.lst (DQ m (V.ref aN)))) x (.lst ((DQ m (V.ref aN)).set c (V.ref aO)))):=iQ (s3.trans s4) nx
 let RV:Rd (upd (upd (upd H p3 (.lst [V.ref aN])) x (.lst (DQ m (V.ref aN)))) x (.lst ((DQ m (V.ref aN)).set c (V.ref aO)))) d (.dK AN):=by
  rcases rd with r|⟨o,r⟩
  ·exact .inl (s5 _ _ r)
  ·exact .inr ⟨o,s5 _ _ r⟩
 let x5:upd (upd (upd H p3 (.lst [V.ref aN])) x (.lst (DQ m (V.ref aN)))) x (.lst ((DQ m (V.ref aN)).set c (V.ref aO))) x=some (.lst ((DQ m (V.ref aN)).set c (V.ref aO))):=aj;generalize upd (upd (upd H p3 (.lst [V.ref aN])) x (.lst (DQ m (V.ref aN)))) x (.lst ((DQ m (V.ref aN)).set c (V.ref aO)))=H5 at*;let G_:=Ui.qg s5;show ⟨_,rfl,d,AN,rfl,RV,fun o=>?_⟩;let k5:bo d H (upd H5 d (.gP o (.dK AN))):=fun b o' n e=>by rw [ak n];exact s5 _ _ e
 let k55:bo d H5 (upd H5 d (.gP o (.dK AN))):=fun b o' n e=>by rwa [ak n]
 refine let I:bn:=fun t Y H'=>MY fun (o4 o5:Ε) (qt:ε)=>Y=[ap d,some (.int (c:Int)),some (.int (m:Int)),ap x,o4,o5]/\bo d H H'/\H' d=some (.gP o (.dK AN))/\H' x=some (.lst qt)/\qt.length=m;gK (d:=d) (o:=o) (AN:=AN) I
  ⟨none,none,(DQ m (V.ref aN)).set c (V.ref aO),rfl,k5,aj,by rwa [ak (CA xd)],by simp⟩ (fun t Y H' _ h=>by
   obtain ⟨_,_,_,_,_,h,_⟩:=h
   exact h) ?_ ?_
 ·rintro t k v Y H6 p7 xE ⟨o4,o5,qt,rfl,k6,RO,hx6,l2⟩ n7
  let ht:t<AN.length:=(ir.mp xE).1;let hl6:=Ui.1;obtain ⟨y,ey⟩:∃y,nd[t]?=some y:=⟨_,gE (oZ ht hl6)⟩;obtain ⟨k1,k2⟩:=Ui.2 t _ y xE ey;let k1':k=.inl (y.1:Int):=k1;subst k1';obtain ⟨b',eb,ip⟩:=k2;let G':v=.ref b':=eb;subst G';let hym:=Wp ey;let hyl:=R.r9 y hym;let hyc:=R.cols y hym;let s7:=aG n7 (.tup [kV (.inl (y.1:Int)),.ref b']);let Uj:=s7 _ _ (k6 _ _ (fun z=>by rw [z] at ip;rcases rd with r|⟨o,r⟩<;>(erw [r] at ip)) ip)
  show ⟨p7,_,rfl,bL.of aj,rfl,_,_,rfl,_,_,rfl,rfl,_,rfl,_,rfl,b',_,_,_,rfl,rfl,aV.of Uj,pT bv,_,rfl,_,rfl,_,rfl,b',_,_,_,rfl,rfl,aV.of Uj,pT bv,_,_,rfl,R.here y hym,fun p8 H8 s8 e8=>?_⟩;let LV:=s7.trans s8;show ⟨_,rfl,_,rfl,x,qt,_,y.1,rfl,rfl,LV _ _ hx6,vW (by rwa [l2]),_,_,qt.set y.1 (.ref p8),rfl,bo.put (bo.step k6 LV) nx,by rw [ak xd];exact LV _ _ RO,aj,by rwa [aiq]⟩
 ·rintro Y H6 ⟨o4,o5,qt,rfl,k6,RO,hx6,l2⟩
  show ⟨_,rfl,q x qt o H6 k6 RO nx hx6 l2⟩
def WlQ (T B m:Nat)(qs:π)(w:Wl):Prop:=js w.1 qs w.2.1/\0<w.2.1/\w.2.1.natAbs<=2^(B*m)/\∀t∈w.1,t.natAbs<=2^(T+B*m)
def u5 (T B m:Nat)(bI:ξ)(os:ζ):Prop:=os.length=bI.length/\∀(i:Nat)(o:ο)(qs:π),os[i]?=some o->bI[i]?=some qs->∃b:Int,0<b/\js o qs b
def free (nd:ι)(j:Nat):Bool:=nd.all fun y=>decide (y.1≠j)
def dW :free nd j=true ↔ ∀y∈nd,y.1≠j:=by
 unfold free;rw [ao0];show ⟨fun h y hy=>Mp (h y hy),fun h y hy=>JO (h y hy)⟩
def Ql (H:Hp)(m:Nat)(AN:δ)(cs:Ζ):Prop:=AN.length=cs.length/\∀(i:Nat)(kv:Key×V)(c:Nat),AN[i]?=some kv->cs[i]?=some c->kv.1=.inl (c:Int)/\∃p us,kv.2=.ref p/\H p=some (.lst us)/\us.length=m
def Ql.mono (h:Ql H m AN cs)(k:∀b xs,H b=some (.lst xs)->H' b=some (.lst xs)):Ql H' m AN cs:=⟨h.1,fun i kv c e1 e2=>by
 obtain ⟨a,p,us,b,d,e⟩:=h.2 i kv c e1 e2
 show ⟨a,p,us,b,k _ _ d,e⟩⟩
def Ql.snoc {i:Nat}(h:Ql H m AN cs)(hp:H p=some (.lst us))(hl:us.length=m):Ql H m (AN++[(.inl (i:Int),.ref p)]) (cs++[i]):=⟨by simp [h.1],fun j kv c e1 e2=>by
 let l:=h.1;by_cases z:j<AN.length
 ·rw [JU z] at e1
  rw [JU (jw l z)] at e2;exact h.2 j kv c e1 e2
 ·rw [JZ bv] at e1 e2
  rw [<-l] at e2;by_cases y:j-AN.length=0
  ·rw [y] at e1 e2
   cases e1;cases e2;show ⟨rfl,p,us,rfl,hp,hl⟩
  ·rw [IW (by simp;exact gt y)] at e1
   cases e1⟩
inductive mZ (K:Frag)(vs:ε)(H:Hp)(Q:VK)(E_:XK):Prop
|mk (r:AO)(m:Nat)(ls:Β)(cu:List (List V:_))(bI:ξ)(T B α:Nat)(_:vs=[.ref r,.int (m:Int)])(_:lO H r ls cu)(_:gw K H cu bI)(_:Shape T B m bI)(_:m<=100)(_:bI.length<=100)(_:T<=20000)(_:B*m<=8000)(_:B<=8000)(_:bb (T+B*m) (min m bI.length)<=α)(_:α<=29000000)(_:∀(sd:AO)(AN:δ)(cs:Ζ)(os lv:ζ)(nd:ι)(H':Hp),aq H H' ->H sd=none->H' sd=some (.dK AN)->Ql H' m AN cs->u5 T B m bI os->Red os m m α nd lv->cs=(JA m).filter (free nd)->Q (.ref sd) H')
def d_:aC ["rows","many","needed","spare","column"] Oo (ae cW):=sq
def zaA (D:Def K mg "spare_columns" cW Oo)(bD:mg "range"=none)(Wy:ac P w K mg qf 2 "whole_row" ["row"] (RB K))(Wv:ac P w K mg qf 35 "reduced" QP (ki K))(wj:ac P w K mg qf 34 "spare_list" mf (wg K)):ac P w K mg qf 36 "spare_columns" Oo (mZ K):=by
 refine D.op d_ fun f cD A qw s H vs Q E hr h=>?_;obtain ⟨r,m,ls,cu,bI,T,B,α,rfl,M,NN,sh,hm,hn,hT,hB,hB1,hZ,hZ1,q⟩:=h
 show ⟨_,(aa (aJ 2 d_.nd (aF (aS Wv hr (aT (dj (tn:=["row"]) (fr:=[]) (tw:=[]) (bw (pv 0)) (bG (cR (K:=K) rfl) (pS Wy hr (aK (pv 0))) ag)) (pv 1))))) (aa (aJ 3 d_.nd fF) (aa (bJ I_ rfl (cp rfl bD (aK (pv 1))) (bZ 4 d_.nd) (ah (bg (oh (kb (cf hr) (pv 4) (pv 2))) (ah (fE (cf hr) (pv 3) (pv 4) (aS wj hr (bE (pv 2) (pv 4) (pv 1))) rfl)) aR))) (ah (aE (pv 3)))))),?_⟩;sleep 3
 let l1:=M.2.1;let l2:=NN.1;show ⟨_,rfl,r,rfl,⟨_,aV.of M.1⟩,fun D1 n1=>?_⟩;refine lG (tG:=[]) (K:=K) (a:=r) (xs:=ls.map V.ref) (fun i v H=>∃w:Wl,v=.ref w.2.2.1/\w.2.2.1≠D1/\H w.2.2.1=some (.lst (w.1.map V.int))/\∀qs,bI[i]?=some qs->WlQ T B m qs w) n1 (by rw [AU];exact IY (show ls.length<=1000 by omega) ce) (fun H2 s2=>aV.of (s2 _ _ M.1)) ?_ ?_ ?_
 ·rintro i v H2 H3 ys hD ks ⟨w,e1,e2,e3,e4⟩
  show ⟨w,e1,e2,ks _ _ e2 e3,e4⟩
 ·rintro i x H2 RR ex s2 ⟨ys0,hD0⟩ kk
  rw [AY] at ex;obtain ⟨l,el,rfl⟩:=JI.mp ex;let hi:i<ls.length:=(ir.mp el).1;obtain ⟨qs,eq⟩:∃qs,bI[i]?=some qs:=⟨_,gE bv⟩;obtain ⟨vs,ev⟩:∃vs,cu[i]?=some vs:=⟨_,gE (jw l1 hi)⟩;let hl:=M.2.2 i l vs el ev;let hq:=NN.2 i vs qs ev eq;obtain ⟨lq,sq⟩:=sh qs (Wp eq);show ⟨_,rfl,l,qs,T,B,rfl,⟨_,aV.of (s2 _ _ hl),hq.qg s2⟩,sq,hT,by rw [lq];omega,hB1,bv,fun p3 l3' ts b H3 s3 nl hp3 hl3 hb hbs wh hts=>?_⟩;rw [lq] at hbs hts;show ⟨p3,_,_,_,rfl,rfl,bL.of hp3,jz,kk _ _ s3 ⟨(ts,b,l3',p3),rfl,fun z=>?_,hl3,fun Yt e1=>?_⟩⟩
  ·rw [show l3'=D1 from z,hD0] at nl
   cases nl
  ·rw [eq] at e1
   cases e1;show ⟨wh,hb,hbs,hts⟩
 intro zs H2 hz gv s2 hD1;rw [AU] at hz;obtain ⟨ws,lw,hw⟩:=kh (P:=fun i v (w:Wl)=>v=.ref w.2.2.1/\w.2.2.1≠D1/\H2 w.2.2.1=some (.lst (w.1.map V.int))/\∀qs,bI[i]?=some qs->WlQ T B m qs w) zs gv
 let wp:∀(i:Nat)(w:Wl),ws[i]?=some w->∃v qs,zs[i]?=some v/\bI[i]?=some qs/\v=.ref w.2.2.1/\H2 w.2.2.1=some (.lst (w.1.map V.int))/\WlQ T B m qs w:=fun i w e=>by
  let hi:i<ws.length:=(ir.mp e).1;obtain ⟨v,ev⟩:∃v,zs[i]?=some v:=⟨_,gE (jw lw hi)⟩;obtain ⟨qs,eq⟩:∃qs,bI[i]?=some qs:=⟨_,gE bv⟩;obtain ⟨h1,_,h3,h4⟩:=hw i v w ev e;show ⟨v,qs,ev,eq,h1,h3,h4 qs eq⟩
 let hLl:r8 H2 zs (ws.map (·.1)):=⟨by simp [lw],fun i u l e1 e2=>by
  rw [AY] at e2;obtain ⟨w,ew,rfl⟩:=JI.mp e2;obtain ⟨v,qs,ev,_,e,h,_⟩:=wp i w ew;erw [e1] at ev
  show ⟨_,e,h⟩⟩
 let LX:∀l∈ws.map (·.1),l.length=m:=fun l hl=>by
  obtain ⟨w,WA,rfl⟩:=AW.mp hl;obtain ⟨i,e⟩:=IV WA;obtain ⟨v,qs,_,eq,_,_,wh,_⟩:=wp i w e;rw [wh.1,(sh qs (Wp eq)).1]
 let wbd:∀l∈ws.map (·.1),Bd (T+B*m) l:=fun l hl=>by
  obtain ⟨w,WA,rfl⟩:=AW.mp hl;obtain ⟨i,e⟩:=IV WA;obtain ⟨v,qs,_,eq,_,_,_,_,_,h⟩:=wp i w e;exact Bd.of h
 let hlm:(ws.map (·.1)).length=bI.length:=by rw [AU];omega
 let ah0:u5 T B m bI (ws.map (·.1)):=⟨hlm,fun i o qs e1 e2=>by
  rw [AY] at e1;obtain ⟨w,ew,rfl⟩:=JI.mp e1;obtain ⟨v,Yt,_,eq,_,_,wh,wb,_⟩:=wp i w ew;erw [e2] at eq
  show ⟨_,wb,wh⟩⟩
 show ⟨_,rfl,D1,zs,ws.map (·.1),m,m,T+B*m,rfl,aV.of hD1,hLl,LX,BW _,bv,bv,wbd,by rw [hlm];omega,fun p d a' AN gm nd lv H3 s3 GX np hp hd RH Ui Ug R=>?_⟩;rw [hlm] at R;let RZ:=R.up hZ;show ⟨p,_,_,_,rfl,rfl,bL.of hp,jz,fun sd RW=>?_⟩;let t4:=aG RW (.dK []);let kJ:=(s2.trans s3).trans t4;let Hd:H d=none:=s2.free GX;let Qm:H sd=none:=(s2.trans s3).free RW;let ds:d≠sd:=ao hd RW;show ⟨_,rfl,_,rfl,bv,bv,?_⟩
 refine let I:bn:=fun i Y H'=>MY fun (o4:Ε) (m7:δ) (cs:Ζ)=>Y=[ap r,some (.int (m:Int)),ap d,ap sd,o4]/\aq H H'/\Rd H' d (.dK AN)/\H' sd=some (.dK m7)/\qp H' AN nd/\Ql H' m m7 cs/\cs=(JA i).filter (free nd);cJ (lo:=0) (n:=m) I
  ⟨none,[],[],rfl,kJ,.inl (t4 _ _ hd),aj,Ui.qg t4,⟨rfl,fun i kv x e=>by simp at e⟩,by simp⟩ ?_ ?_
 ·rintro i Y H5 hi ⟨o4,m7,cs,rfl,s5,RV,L_,G_,WX,YC⟩
  let nk:(AN.map (·.1)).Nodup:=by
   rw [G_.keys];exact keys_nodup R.asc
  by_cases fr:free nd i=true
  ·let fr':=dW.mp fr
   let Q0:cv AN (.inl ((0:Int)+i))=none:=qS (fun z=>by
    rw [G_.keys] at z;obtain ⟨x',AB,e⟩:=AW.mp z;let e1:(x'.1:Int)=0+i:=VM e
    exact fr' x' AB bv)
   show ⟨_,rfl,_,rfl,d,none,rfl,.inl ⟨AN,.inl ((0:Int)+i),RV,rfl,Q0.symm⟩,_,rfl,bf (fun _=>?_) (fun c=>BH rfl c)⟩;show ⟨_,rfl,_,rfl,_,rfl,d,i,m,m,α,AN,nd,ws.map (·.1),lv,by rw [Kz];rfl,RV,G_,RZ,BW _,bv,hi,fun x us o H6 k6 RO nx hx6 hl6=>?_⟩;let WY:H6 sd=some (.dK m7):=k6 _ _ (CA ds) L_;let lsk:=WX.1
   let WC:cs.length<=m:=by
    have:=ud O3 YC;let h2:=SE (free nd) (JA i);rw [RU] at h2;omega
   show ⟨_,rfl,_,rfl,sd,_,rfl,jx.k (k:=.inl ((0:Int)+i)) WY (IY (show m7.length<=1000 by omega) ce),?_⟩
   let ah1:cv m7 (.inl ((0:Int)+i))=none:=qS (fun z=>by
    obtain ⟨kv,Uq,e⟩:=AW.mp z;obtain ⟨j,ej⟩:=IV Uq;let hj:=(ir.mp ej).1;obtain ⟨cc,ec⟩:∃cc,cs[j]?=some cc:=⟨_,gE (by have:=WX.1;exact jw lsk hj)⟩;let e1:=(WX.2 j kv _ ej ec).1;rw [e] at e1;let e2:(0:Int)+i=(cc:Int):=VM e1;let mc:=Wp ec;rw [YC] at mc;have:=JW.mp (N0.mp mc).1
    omega)
   rw [dq _ ah1,Kz];let s6:aq H H6:=fun b o' e=>k6 _ _ (ao e Hd) (s5 _ _ e);let ksd:bo sd H6 (upd H6 sd (.dK (m7++[(.inl (i:Int),.ref x)]))):=fun b o' n e=>by rwa [ak n]
   let nl:∀{Ha:Hp} {dd:AO} {kM:δ} {b:AO} {xs:ε},Rd Ha dd (.dK kM)->Ha b=some (.lst xs)->b≠dd:=fun {Ha dd kM b xs} r e z=>by
    rw [z] at e
    rcases r with r|⟨o,r⟩<;>(erw [r] at e)
   show ⟨_,_,cs++[i],rfl,iQ s6 Qm,.inr ⟨o,by rwa [ak ds]⟩,aj,(G_.ks RV k6).ks (.inl WY) ksd,((WX.mono fun b xs e=>k6 _ _ (nl RV e) e).snoc hx6 hl6).mono fun b xs e=>ksd _ _ (nl (.inl WY) e) e,?_⟩;rw [YC,XI,tX];simp [fr]
  ·let nf:∃y∈nd,y.1=i:=by
    apply Md;intro z;exact fr (dW.mpr fun y hy e=>z ⟨y,hy,e⟩)
   obtain ⟨y,hy,ey⟩:=nf;obtain ⟨t,et⟩:=IV hy;obtain ⟨v,ev,_⟩:=G_.at et;let vat:=qR nk ev;show ⟨_,rfl,_,rfl,d,some v,rfl,.inl ⟨AN,.inl ((0:Int)+i),RV,rfl,by rw [Kz,<-ey];exact vat.symm⟩,_,rfl,bf (fun c=>nomatch c) (fun _=>?_)⟩;show ⟨_,_,cs,rfl,s5,RV,L_,G_,WX,?_⟩;rw [YC,XI,tX];simp [fr]
 ·rintro Y H5 ⟨o4,m7,cs,rfl,s5,RV,L_,G_,WX,YC⟩
  show ⟨_,rfl,q sd m7 cs _ lv nd H5 s5 Qm L_ WX ah0 RZ YC⟩
def fsum (l:Ζ)(f:Nat->Rat):Rat:=(l.map f).sum
def yT (f:Nat->Rat):fsum [] f=0:=rfl
def bF (a:Nat)(l:Ζ)(f:Nat->Rat):fsum (a::l) f=f a+fsum l f:=by simp [fsum]
theorem jU (p:Nat->Bool)(f:Nat->Rat):∀l:List Nat,fsum l f=fsum (l.filter p) f+fsum (l.filter fun i=> !p i) f
 | []=>by simp [fsum];grind
 | a::l=>by
  let ih:=jU p f l;cases h:p a
  ·rw [SI (by simp [h]),SJ (by simp [h]),bF,bF,ih]
   grind
  ·rw [SJ h,SI (by simp [h]),bF,bF,ih]
   grind
theorem f7 (f:Nat->Rat):∀l:List Nat,(∀i∈l,f i=0)->fsum l f=0
 | [],_=>rfl
 | a::l,h=>by
  rw [bF,h a CU,f7 f l (fun i hi=>h i (DM _ hi))];grind
theorem m8 (f:Nat->Rat)(j:Nat):∀l:List Nat,l.Nodup->j∈l->(∀i∈l,i≠j->f i=0)->fsum l f=f j
 | [],_,h,_=>nomatch h
 | a::l,n,h,z=>by
  rw [KC] at n;rw [bF];by_cases e:a=j
  ·subst e
   rw [f7 f l (fun i hi=>z i (DM _ hi) (fun y=>n.1 (by rwa [<-y])))];grind
  ·let hj:j∈l:=by
    rcases JC.mp h with y|y
    ·exact BH y.symm e
    ·exact y
   rw [z a CU e,m8 f j l n.2 hj (fun i hi=>z i (DM _ hi))];grind
theorem cN :∀l:List Nat,(∀i∈l,f i=g i)->fsum l f=fsum l g
 | [],_=>rfl
 | a::l,h=>by rw [bF,bF,h a CU,cN l (fun i hi=>h i (DM _ hi))]
theorem hG (c:Rat)(f:Nat->Rat):∀l:List Nat,fsum l (fun i=>c*f i)=c*fsum l f
 | []=>by simp [fsum]
 | a::l=>by
  rw [bF,bF,hG c f l];grind
def afI (g:Nat->Nat)(f:Nat->Rat)(l:Ζ):fsum (l.map g) f=fsum l (fun i=>f (g i)):=by
 unfold fsum;rw [DP];rfl
theorem hV:∀(n:Nat)(f:Nat->Rat),sumTo n f=fsum (JA n) f
 | 0,_=>rfl
 | n+1,f=>by
  rw [ahu,bF,afI,<-hV n];rfl
structure M0 (nd:ι)(c:Nat)(z:Nat->Rat):Prop where
 one:z c=1
 at':∀y∈nd,z y.1=(-(y.2.getD c 0):Int) / ((y.2.getD y.1 0:Int):Rat)
 no:∀j,j≠c->(∀y∈nd,y.1≠j)->z j=0
theorem M0.sol {os lv:ζ}(R:Red os L m b nd lv)(hc:c<m)(h:M0 nd c z)(fr:∀y∈nd,y.1≠c):∀o∈os,ev o z=0:=by
 refine (R.sol z).mp ⟨fun x hx=>?_,fun l hl=>?_⟩
 ·let e:z=fun j=>(if j=c then 1 else 0)+(if j=c then 0 else z j):=by
   funext j;by_cases q:j=c
   ·rw [tu q,tu q,q,h.one]
    grind
   ·rw [qA q,qA q]
    grind
  rw [e,BM,lH x.2 (fun j=>if j=c then 1 else 0) c (fun j hj=>by rw [qA hj];grind),lH x.2 (fun j=>if j=c then 0 else z j) x.1 (fun j hj=>?_)]
  ·let hh:=c_ (R.here x hx)
   rw [tu rfl,qA (fr x hx),h.at' x hx];push_cast;grind
  ·by_cases q:j=c
   ·rw [tu q]
    grind
   ·rw [qA q]
    by_cases y:∃u∈nd,u.1=j
    ·obtain ⟨u,hu,rfl⟩:=y
     rw [R.off x hx u hu (CA hj)];simp
    ·rw [h.no j q (fun u hu e=>y ⟨u,hu,e⟩)]
     grind
 ·refine qN l z fun j=>?_
  by_cases hj:j<m
  ·rw [R.zero l hl j hj]
   simp
  ·rw [h.no j bv (fun y hy e=>by have:=R.cols y hy;omega)]
   grind
def M0.behind {os lv:ζ}(R:Red os L m b nd lv)(h:M0 nd c z)(hj:c<j):z j=0:=by
 by_cases q:∃y∈nd,y.1=j
 ·obtain ⟨y,hy,rfl⟩:=q
  rw [h.at' y hy,R.low y hy c hj];simp [Rat.div_def]
 ·exact h.no j bv (fun y hy e=>q ⟨y,hy,e⟩)
theorem iV:∀(m:Nat)(f g:Nat->Rat),(∀j,j<m->f j=g j)->Ty.sumTo m f=Ty.sumTo m g
 | 0,_,_,_=>rfl
 | m+1,f,g,h=>by
  simp only [Ty.sumTo];rw [h 0 bv,iV m (fun i=>f (i+1)) (fun i=>g (i+1)) (fun j hj=>h (j+1) bv)]
def adM (h:js ts qs b)(hm:qs.length=m)(z:Nat->Rat):ev ts z=(b:Rat)*sumTo m (fun j=>vl (qs.getD j (0,1))*z j):=by
 let hl:=h.1;rw [mK m ts z bv,<-iL];refine iV m _ _ fun j hj=>?_;let e1:ts[j]?=some (ts[j]'bv):=gE bv;let e2:qs[j]?=some (qs[j]'(jp hm hj)):=gE (jp hm hj);let w:=h.2 j _ _ e1 e2;rw [getD_mem e1,w,JE,e2];show _=(b:Rat)*(vl (qs[j]'(jp hm hj))*z j);grind
def HL (h:js ts qs b)(hb:0<b)(hm:qs.length=m)(z:Nat->Rat):ev ts z=0 ↔ sumTo m (fun j=>vl (qs.getD j (0,1))*z j)=0:=by
 rw [adM h hm z];have ip :=c_ (show b≠0 by omega);constructor<;>intro q<;>grind
def kr {os:ζ}(kQ:u5 T B m bI os)(len:∀qs∈bI,qs.length=m)(z:Nat->Rat):(∀o∈os,ev o z=0) ↔ ∀qs∈bI,sumTo m (fun j=>vl (qs.getD j (0,1))*z j)=0:=by
 let hl:=kQ.1;constructor
 ·intro h qs hq
  obtain ⟨i,e⟩:=IV hq;let hi:i<bI.length:=(ir.mp e).1;let e1:os[i]?=some (os[i]'(jp hl hi)):=gE (jp hl hi);obtain ⟨b,hb,wh⟩:=kQ.2 i _ qs e1 e;exact (HL wh hb (len qs hq) z).mp (h _ (Wp e1))
 ·intro h o ho
  obtain ⟨i,e⟩:=IV ho;let hi:i<os.length:=(ir.mp e).1;let e1:bI[i]?=some (bI[i]'(jw hl hi)):=gE (jw hl hi);obtain ⟨b,hb,wh⟩:=kQ.2 i o _ e e1;exact (HL wh hb (len _ (Wp e1)) z).mpr (h _ (Wp e1))
def lT (pX:θ)(qe:ρ){k:Nat}(h:pX[k]?=some p)(j:Nat)(c:Rat×Rat->Rat)(hj:∀F,vl ((dS F pX).getD j (0,1))=c (mv F p.nm)):
  (dR (bh pX qe) j).map vl=(pX.flatMap fun q=>q.ws.map fun w=>c (mv (fO q.nm w) p.nm))++qe.map fun b=>c (mv (dD b) p.nm):=by
 have:=acR pX qe (fun _=>none) h j c hj;unfold dR at this ⊢;rw [IX,IX] at this;exact (List.append_inj' this rfl).1
def sy {pX:θ}{qe:ρ}{T:Ι}{U:χ}{c:Rat×Rat->Rat}(c0:c (0,0)=0)(nd:(pX.map (·.nm)).Nodup)(hl:∀q∈pX,(U q.nm).length=q.ws.length)(hp:p∈pX):
  sP ((pX.flatMap fun q=>U q.nm)++qe.map (fun b=>T b.nm)) ((pX.flatMap fun q=>q.ws.map fun w=>c (mv (fO q.nm w) p.nm))++qe.map fun b=>c (mv (dD b) p.nm))=fL qe T U p c:=by
 let l1:(pX.flatMap fun q=>U q.nm).length=(pX.flatMap fun q=>q.ws.map fun w=>c (mv (fO q.nm w) p.nm)).length:=by
  clear hp nd
  induction pX with
  | nil=>rfl
  | cons q ps ih=>rw [JJ,JJ,CL,CL,ih fun r hr=>hl r (DM _ hr),hl q CU,AU]
 have:=afX (L:=fun _=>none) (qe:=qe) (T:=T) c0 nd hl hp 0;rw [lR _ _ (by rw [CL,CL,l1,AU,AU]),cw,g_] at this;grind
def dE {U:χ}(hl:∀q∈pX,(U q.nm).length=q.ws.length):(pX.flatMap fun q=>U q.nm).length=ay pX:=by
 unfold ay
 induction pX with
 | nil=>rfl
 | cons q ps ih=>rw [JJ,JJ,CL,CL,ih fun r hr=>hl r (DM _ hr),hl q CU]
def fM (pX:θ)(qe:ρ)(T:Ι)(U:χ):Prop:=∀p∈pX,fL qe T U p (·.1)=0/\fL qe T U p (·.2)=0
def ku (g:bT pX qe){T:Ι}{U:χ}(hl:∀q∈pX,(U q.nm).length=q.ws.length)(h:∀j,j<2*pX.length->sP ((pX.flatMap fun q=>U q.nm)++qe.map (fun b=>T b.nm)) ((dR (bh pX qe) j).map vl)=0):fM pX qe T U:=fun p hp=>by
 obtain ⟨k,ek⟩:=IV hp;let hk:=(ir.mp ek).1
 let one:∀(j:Nat)(c:Rat×Rat->Rat),j<2*pX.length->c (0,0)=0->(∀F,vl ((dS F pX).getD j (0,1))=c (mv F p.nm))->fL qe T U p c=0:=fun j c hj c0 hc=>by
  have:=h j hj;rwa [lT pX qe ek j c hc,sy c0 g.np hl hp] at this
 show ⟨one (2*k) (·.1) bv rfl fun F=>(mY F ek).1,one (2*k+1) (·.2) bv rfl fun F=>(mY F ek).2⟩
theorem oQ:∀(rs:Ν)(qs:π),rs.length=qs.length->Ty.sumTo qs.length (fun j=>vl (qs.getD j (0,1))*rs.getD j 0)=sP rs (qs.map vl)
 | [],[],_=>by simp [Ty.sumTo,sP]
 | r::rs,q::qs,h=>by
  rw [BS,cw,<-oQ rs qs (by simpa using h),L7];show vl q*r+Ty.sumTo qs.length (fun j=>vl (qs.getD j (0,1))*rs.getD j 0)=_;grind
def hW (pX:θ)(qe:ρ)(T:Ι)(U:χ):List Rat:=(pX.flatMap fun q=>U q.nm)++qe.map (fun b=>T b.nm)
def yU (hl:∀q∈pX,(U q.nm).length=q.ws.length):(hW pX qe T U).length=ay pX+qe.length:=by
 unfold hW;rw [CL,dE hl,AU]
def afB (hl:∀q∈pX,(U q.nm).length=q.ws.length)(e:qe[k]?=some b):(hW pX qe T U)[ay pX+k]?=some (T b.nm):=by
 unfold hW;rw [JZ (by rw [dE hl];exact nQ),dE hl,SH,AY,e];rfl
def pV (g:bT pX qe)(hl:∀q∈pX,(U q.nm).length=q.ws.length)(h:fM pX qe T U):∀j,j<2*pX.length->sP (hW pX qe T U) ((dR (bh pX qe) j).map vl)=0:=fun j hj=>by
 let hk:j / 2<pX.length:=bv
 let ek:pX[j / 2]?=some (pX[j / 2]'hk):=gE hk;let mp:=Wp ek;let two:j=2*(j / 2)\/j=2*(j / 2)+1:=bv
 rcases two with e|e
 ·rw [lT pX qe ek j (·.1) (fun F=>by
   have:=(mY F ek).1;rw [<-e] at this
   exact this)]
  unfold hW;rw [sy rfl g.np hl mp];exact (h _ mp).1
 ·rw [lT pX qe ek j (·.2) (fun F=>by
   have:=(mY F ek).2;rw [<-e] at this
   exact this)]
  unfold hW;rw [sy rfl g.np hl mp];exact (h _ mp).2
def CY (ws:υ):Prop:=∀us:List Rat,us.length=ws.length->sP us (ws.map (·.1))=0->sP us (ws.map (·.2))=0->∀u∈us,u=0
def afM (wi:∀p∈pX,CY p.ws)(hl:∀q∈pX,(U q.nm).length=q.ws.length)(no:fM pX qe T U)(h1:(hW pX qe T U)[c]?=some 1)(h0:∀j r,c<j->(hW pX qe T U)[j]?=some r->r=0):ay pX<=c:=by
 rcases Nat.lt_or_ge c (ay pX) with z|z
 ·exfalso
  let tz:∀b∈qe,T b.nm=0:=fun b hb=>by
   obtain ⟨k,ek⟩:=IV hb;exact h0 _ _ (nX z) (afB (T:=T) hl ek)
  let f0:∀(p:ar)(cc:Rat×Rat->Rat),fL qe T U p cc=sP (U p.nm) (p.ws.map cc):=fun p cc=>by
   unfold fL;have:(qe.map fun b=>T b.nm*cc (mv (dD b) p.nm))=qe.map fun _=>(0:Rat):=NF fun b hb=>by rw [tz b hb];grind
   rw [this]
   let s0:∀l:List aI,(l.map fun _=>(0:Rat)).sum=0:=fun l=>by
    induction l with
    | nil=>rfl
    | cons a l ih=>rw [BS,Kv,ih];grind
   rw [s0];grind
  let uz:∀p∈pX,∀u∈U p.nm,u=0:=fun p hp=>wi p hp (U p.nm) (hl p hp) (by rw [<-f0];exact (no p hp).1) (by rw [<-f0];exact (no p hp).2)
  let m1:(1:Rat)∈pX.flatMap fun q=>U q.nm:=by
   let e:=h1;unfold hW at e;rw [JU (by rwa [dE hl])] at e;exact Wp e
  obtain ⟨p,hp,hu⟩:=Nz.mp m1;have:=uz p hp 1 hu;grind
 ·exact z
theorem M0.ex (c:Nat):∀{nd:ι},(nd.map (·.1)).Pairwise (· < ·)->(∀y∈nd,y.1≠c)->∃z,M0 nd c z
 | [],_,_=>⟨fun j=>if j=c then 1 else 0,tu rfl,(fun y hy=>nomatch hy),fun j h _=>qA h⟩
 | x::r,a,f=>by
  rw [BS,ahU] at a;obtain ⟨z,hz⟩:=M0.ex c a.2 (fun y hy=>f y (DM _ hy));show ⟨fun j=>if j=x.1 then (-(x.2.getD c 0):Int) / ((x.2.getD x.1 0:Int):Rat) else z j,?_,fun y hy=>?_,fun j h1 h2=>?_⟩
  ·show (if c=x.1 then _ else z c)=1
   rw [qA (CA (f x CU))];exact hz.one
  ·rcases JC.mp hy with q|q
   ·subst q
    exact tu rfl
   ·have:=a.1 y.1 (AW.mpr ⟨y,q,rfl⟩)
    show (if y.1=x.1 then _ else z y.1)=_;rw [qA bv];exact hz.at' y q
  ·show (if j=x.1 then _ else z j)=0
   rw [qA (CA (h2 x CU))];exact hz.no j h1 (fun y hy=>h2 y (DM _ hy))
def pZ {os lv:ζ}(R:Red os L m b nd lv)(z1:z c≠0)(zb:∀j,c<j->z j=0)(hz:∀o∈os,ev o z=0):∀y∈nd,y.1≠c:=by
 intro y hy e;let e0:=((R.sol z).mpr hz).1 y hy;rw [lH y.2 z c (fun j hj=>?_)] at e0
 ·let hh:=c_ (R.here y hy)
  rw [e] at hh;grind
 ·by_cases q:j<c
  ·rw [R.low y hy j (by rwa [e])]
   simp
  ·rw [zb j bv]
   grind
theorem m9:∀{l1 l2:Ζ},l1.Pairwise (· < ·)->l2.Pairwise (· < ·)->(∀c,c∈l1 ↔ c∈l2)->l1=l2
 | [],[],_,_,_=>rfl
 | [],b::l2,_,_,h=>BH ((h b).mpr CU) cr
 | a::l1,[],_,_,h=>BH ((h a).mp CU) cr
 | a::l1,b::l2,p,q,h=>by
  rw [ahU] at p q
  let e:a=b:=by
   let h1:=(h a).mp CU;let h2:=(h b).mpr CU
   rcases JC.mp h1 with z|z
   ·exact z
   ·rcases JC.mp h2 with y|y
    ·exact y.symm
    ·have:=p.1 b y
     have:=q.1 a z;omega
  subst e;rw [m9 p.2 q.2 (fun c=>⟨fun hc=>?_,fun hc=>?_⟩)]
  ·have:=p.1 c hc
   rcases JC.mp ((h c).mp (DM _ hc)) with z|z
   ·omega
   ·exact z
  ·have:=q.1 c hc
   rcases JC.mp ((h c).mpr (DM _ hc)) with z|z
   ·omega
   ·exact z
inductive q4 (K:Frag)(vs:ε)(H:Hp)(Q:VK)(E_:XK):Prop
|mk (l:AO)(us:ε)(rs:Ν)(_:vs=[.ref l])(_:H l=some (.lst us))(_:Paired (gL K H) us rs)(_:us.length<=100)(_:∀(l':AO)(gm :ε)(H':Hp),aq H H' ->H' l'=some (.lst gm)->Paired (gL K H') gm (rs.map fun r=> -r)->Q (.ref l') H')
theorem iW :∀{us:ε} {zs:List Z},us.length=zs.length->(∀(i:Nat)(u:V),us[i]?=some u->∃z,zs[i]?=some z/\R u z)->Paired R us zs
 | [],[],_,_=>.nil
 | u::us,z::zs,l,h=>by
  obtain ⟨z',e,hz⟩:=h 0 u rfl;cases e;exact .cons hz (iW (by simpa using l) fun i u e=>h (i+1) u (by simpa using e))
def abh:aC V7 V7 (ae KR):=sq
def abi (D:Def K mg "signs_turned" KR V7):ac P w K mg qf 1 "signs_turned" V7 (q4 K):=by
 refine D.oo abh fun H hr h=>?_;obtain ⟨l,us,rs,rfl,hl,pp,ln,q⟩:=h;let lu:=CV pp;show ⟨_,(ah (aE (dj (tn:=["number"]) (fr:=[]) (tw:=[]) (bw (pv 0)) (aZ (aT (uB om (bG (cR (K:=K) rfl) (pv 0) ag)) (bG (cR (K:=K) rfl) (pv 0) ag)))))),_,rfl,l,rfl,⟨_,aV.of hl⟩,fun D1 n1=>?_⟩;refine cE (tG:=[]) (K:=K) (a:=l) (xs:=us) (fun i v H'=>∃r,rs[i]?=some r/\gL K H' v (-r)) n1 (IY ln ce) (fun H2 s2=>aV.of (s2 _ _ hl)) (fun i v H6 H7 ys e ks ⟨r,h1,h2⟩=>⟨r,h1,h2.aX (bq.ks e ks)⟩) ?_ ?_
 ·intro i u H2 R hu s2 k
  obtain ⟨r,er,hr⟩:=aA pp hu;obtain ⟨p,rfl,hq⟩:og K H2 u (qr r):=hr.qg s2;show ⟨_,rfl,p,_,_,_,rfl,rfl,hq,jz,_,rfl,_,rfl,p,_,_,_,rfl,rfl,hq,jQ,uo,?_⟩;intros p3 n3 H3 s3 e3;refine k _ _ s3 ⟨r,er,p3,rfl,?_⟩;rw [BO];exact bL.of e3
 ·intro ys H2 ly hy s2 hD
  refine q D1 ys H2 s2 hD (iW (by rw [ly,lu,AU]) fun i v e=>?_);obtain ⟨r,er,hr⟩:=hy i v e;show ⟨-r,by rw [AY,er];rfl,hr⟩
def acg (h:l1.Perm l2)(f:Nat->Rat):fsum l1 f=fsum l2 f:=by
 induction h with
 | nil=>rfl
 | cons a _ ih=>rw [bF,bF,ih]
 | swap a b l=>
  rw [bF,bF,bF,bF];grind
 | trans _ _ ih1 ih2=>exact ih1.trans ih2
theorem sE (f g:Nat->Rat):∀l:List Nat,fsum l (fun i=>f i+g i)=fsum l f+fsum l g
 | []=>by simp [fsum];grind
 | a::l=>by
  rw [bF,bF,bF,sE f g l];grind
theorem oR (F:Nat->Nat->Rat)(l2:Ζ):∀l1:List Nat,fsum l1 (fun a=>fsum l2 (fun b=>F a b))=fsum l2 (fun b=>fsum l1 (fun a=>F a b))
 | []=>by
  rw [yT,f7 _ l2 (fun i _=>yT _)]
 | a::l1=>by
  rw [bF,oR F l2 l1,<-sE];refine cN _ fun b _=>?_;rw [bF]
theorem gx:∀(n:Nat)(es:List (Nat->Rat))(ps:Ζ),es.length=n->ps.Nodup->es.length<ps.length->∃x:Nat->Rat,(∀j,j∉ps->x j=0)/\(∃p∈ps,x p≠0)/\∀e∈es,fsum ps (fun p=>e p*x p)=0
 | _,[],ps,_,_,h=>by
  cases ps with
  | nil=>simp at h
  | cons p0 ps=>
   show ⟨fun j=>if j=p0 then 1 else 0,fun j hj=>qA (fun z=>hj (by rw [z];exact CU)),⟨p0,CU,?_⟩,(fun e he=>nomatch he)⟩;show (if p0=p0 then (1:Rat) else 0)≠0;rw [tu rfl];decide
 | 0,e::es,ps,l,nd,h=>by simp at l
 | n+1,e::es,ps,l,nd,h=>by
  by_cases z:∀p∈ps,e p=0
  ·obtain ⟨x,h1,h2,h3⟩:=gx n es ps (by simpa using l) nd (by simp at h;omega)
   show ⟨x,h1,h2,fun f hf=>?_⟩
   rcases JC.mp hf with y|y
   ·rw [y]
    refine f7 _ _ fun p hp=>?_;rw [z p hp];grind
   ·exact h3 f y
  ·obtain ⟨p0,hp0,ne⟩:∃p0,p0∈ps/\e p0≠0:=by
    apply Md;intro y;exact z fun p hp=>Md fun q=>y ⟨p,hp,q⟩
   let pe:=List.perm_cons_erase hp0;have jy :(p0::ps.erase p0).Nodup:=pe.nodup_iff.mp nd;rw [KC] at jy;let le:=pe.length_eq;rw [L7] at le;obtain ⟨x,h1,⟨p1,hp1,nz⟩,h3⟩:=gx n (es.map fun f=>fun p=>f p-f p0 / e p0*e p) (ps.erase p0) (by rw [AU];simpa using l) jy.2 (by rw [AU];simp at h;omega)
   let off:∀p∈ps.erase p0,p≠p0:=fun p hp y=>by
    subst y;exact jy.1 hp
   let sm:∀f:Nat->Rat,fsum ps (fun p=>f p*(if p=p0 then -(fsum (ps.erase p0) fun p=>e p*x p) / e p0 else x p))=f p0*(-(fsum (ps.erase p0) fun p=>e p*x p) / e p0)+fsum (ps.erase p0) (fun p=>f p*x p):=fun f=>by
    rw [acg pe,bF,tu rfl];congr 1;refine cN _ fun p hp=>?_;rw [qA (off p hp)]
   show ⟨fun p=>if p=p0 then -(fsum (ps.erase p0) fun p=>e p*x p) / e p0 else x p,fun j hj=>?_,⟨p1,aiy hp1,?_⟩,fun f hf=>?_⟩
   ·show (if j=p0 then _ else x j)=0
    rw [qA (fun y=>hj (by rwa [y]))];exact h1 j (fun y=>hj (aiy y))
   ·show (if p1=p0 then _ else x p1)≠0
    rw [qA (off p1 hp1)];exact nz
   ·rw [sm f]
    rcases JC.mp hf with y|y
    ·rw [y]
     grind
    ·let k:=h3 _ (AW.mpr ⟨f,y,rfl⟩)
     let k2:fsum (ps.erase p0) (fun p=>(f p-f p0 / e p0*e p)*x p)=fsum (ps.erase p0) (fun p=>f p*x p)+(-(f p0 / e p0))*fsum (ps.erase p0) (fun p=>e p*x p):=by
      rw [<-hG,<-sE];refine cN _ fun p _=>?_;grind
     let k':fsum (ps.erase p0) (fun p=>(f p-f p0 / e p0*e p)*x p)=0:=k;rw [k2] at k';grind
def ahh (es:List (Nat->Rat))(ps:Ζ)(nd:ps.Nodup)(h:es.length<ps.length):∃x:Nat->Rat,(∀j,j∉ps->x j=0)/\(∃p∈ps,x p≠0)/\∀e∈es,fsum ps (fun p=>e p*x p)=0:=gx _ es ps rfl nd h
theorem wm {x:Nat->Rat}:∀(m:Nat),(∀j,m<=j->x j=0)->(∃p,x p≠0)->∃c,c<m/\x c≠0/\∀j,c<j->x j=0
 | 0,h,⟨p,hp⟩=>BH (h p (JS _)) hp
 | m+1,h,hp=>by
  by_cases z:x m=0
  ·obtain ⟨c,h1,h2,h3⟩:=wm m (fun j hj=>by
    by_cases y:j=m
    ·rwa [y]
    ·exact h j bv) hp
   show ⟨c,io h1,h2,h3⟩
  ·show ⟨m,im,z,fun j hj=>h j (nR hj)⟩
def aQ (bI:ξ)(i j:Nat):Rat:=vl ((bI.getD i []).getD j (0,1))
inductive Rk (m:Nat)(bI:ξ)(N:Nat):Prop
|mk (T B b:Nat)(os lv:ζ)(nd:ι)(_:u5 T B m bI os)(_:(∀qs∈bI,qs.length=m))(_:Red os m m b nd lv)(_:nd.length=N)
inductive Fac (n m:Nat)(a:Nat->Nat->Rat)(k:Nat):Prop
|mk (cs:Ζ)(B C:Nat->Nat->Rat)(_:cs.length=k)(_:∀i j,i<n->j<m->a i j=fsum cs (fun c=>B i c*C c j))
def wo {bI:ξ}{i:Nat}{qs:π}(e:bI[i]?=some qs)(j:Nat):aQ bI i j=vl (qs.getD j (0,1)):=by
 unfold aQ;rw [JE (l:=bI),e];rfl
def u6 {z:Nat->Rat}:(∀qs∈bI,sumTo m (fun j=>vl (qs.getD j (0,1))*z j)=0) ↔ ∀i,i<bI.length->sumTo m (fun j=>aQ bI i j*z j)=0:=by
 constructor
 ·intro h i hi
  let e:bI[i]?=some bI[i]:=gE hi;let k:=h _ (Wp e);rw [<-k];congr 1;funext j;rw [wo e]
 ·intro h qs hq
  obtain ⟨i,e⟩:=IV hq;let k:=h i (ir.mp e).1;rw [<-k];congr 1;funext j;rw [wo e]
def jV (hc:∀y∈nd,y.1<m)(asc:(nd.map (·.1)).Pairwise (· < ·)):nd.map (·.1)=(JA m).filter (fun i=> !free nd i):=by
 refine m9 asc (aij.filter _) fun c=>⟨fun h=>?_,fun h=>?_⟩
 ·obtain ⟨y,hy,rfl⟩:=AW.mp h
  refine N0.mpr ⟨JW.mpr (hc y hy),?_⟩;cases q:free nd y.1
  ·rfl
  ·exact BH rfl (dW.mp q y hy)
 ·obtain ⟨_,h2⟩:=N0.mp h
  apply Md;intro nc;have:free nd c=true:=dW.mpr fun y hy e=>nc (AW.mpr ⟨y,hy,e⟩);erw [this] at h2
def Rk.Ue (h:Rk m bI N):Fac bI.length m (aQ bI) N:=by
 obtain ⟨T,B,b,os,lv,nd,kQ,len,R,rfl⟩:=h;let nod:(nd.map (·.1)).Nodup:=ahV.mpr (R.asc.imp fun {a b} h=>JK h)
 let zz:∀j,∃z:Nat->Rat,(∀y∈nd,y.1≠j)->M0 nd j z:=fun j=>by
  by_cases q:∀y∈nd,y.1≠j
  ·obtain ⟨z,hz⟩:=M0.ex j R.asc q
   show ⟨z,fun _=>hz⟩
  ·show ⟨fun _=>0,fun y=>BH y q⟩
 obtain ⟨z,hz⟩:=Classical.axiomOfChoice zz;show ⟨nd.map (·.1),aQ bI,fun c j=>if free nd j=true then -(z j c) else if c=j then 1 else 0,AU _,fun i j hi hj=>?_⟩;by_cases fr:free nd j=true
 ·let fr':=dW.mp fr
  let hzj:=hz j fr';let k:=u6.mp ((kr kQ len _).mp (hzj.sol R hj fr')) i hi;rw [hV,jU (free nd),<-jV R.cols R.asc] at k
  let e1:fsum ((JA m).filter (free nd)) (fun c=>aQ bI i c*z j c)=aQ bI i j*z j j:=by
   refine m8 _ j _ (YZ.filter _) (N0.mpr ⟨JW.mpr hj,fr⟩) fun c hc ne=>?_;rw [hzj.no c ne (dW.mp (N0.mp hc).2)];grind
  rw [e1,hzj.one] at k
  let e2:fsum (nd.map (·.1)) (fun c=>aQ bI i c*(if free nd j=true then -(z j c) else if c=j then 1 else 0))=(-1)*fsum (nd.map (·.1)) (fun c=>aQ bI i c*z j c):=by
   rw [<-hG];refine cN _ fun c _=>?_;rw [tu fr];grind
  rw [e2];grind
 ·let nf:∃y∈nd,y.1=j:=by
   apply Md;intro z;exact fr (dW.mpr fun y hy e=>z ⟨y,hy,e⟩)
  obtain ⟨y,hy,ey⟩:=nf
  rw [m8 _ j _ nod (by rw [<-ey];exact AW.mpr ⟨y,hy,rfl⟩) (fun c _ ne=>by
   show aQ bI i c*(if free nd j=true then -(z j c) else if c=j then 1 else 0)=0;rw [qA fr,qA ne]
   grind)]
  show aQ bI i j=aQ bI i j*(if free nd j=true then -(z j j) else if j=j then 1 else 0);rw [qA fr,tu rfl];grind
def Rk.le (h:Rk m bI N)(f:Fac bI.length m (aQ bI) k):N<=k:=by
 obtain ⟨T,B,b,os,lv,nd,kQ,len,R,rfl⟩:=h;obtain ⟨cs,BB,C,rfl,Ue⟩:=f;apply Md;intro lt;let nod:(nd.map (·.1)).Nodup:=ahV.mpr (R.asc.imp fun {a b} h=>JK h);obtain ⟨x,h1,⟨p,hp,hpz⟩,h3⟩:=ahh (cs.map fun c=>C c) (nd.map (·.1)) nod (by rw [AU,AU];omega)
 let abj:∀c,c∈nd.map (·.1)->c<m:=fun c hc=>by
  obtain ⟨y,hy,rfl⟩:=AW.mp hc;exact R.cols y hy
 obtain ⟨c,cm,cz,cb⟩:=wm (x:=x) m (fun j hj=>h1 j (fun z=>by have:=abj j z;omega)) ⟨p,hpz⟩;let cin:c∈nd.map (·.1):=Md fun z=>cz (h1 c z);obtain ⟨y,hy,rfl⟩:=AW.mp cin;refine pZ R cz cb ((kr kQ len x).mpr (u6.mpr fun i hi=>?_)) y hy rfl
 rw [hV,jU (free nd),<-jV R.cols R.asc,f7 _ ((JA m).filter (free nd)) (fun j hj=>by
  rw [h1 j (fun z=>by
   obtain ⟨u,hu,e⟩:=AW.mp z
   exact dW.mp (N0.mp hj).2 u hu e)]
  grind)]
 let e1:fsum (nd.map (·.1)) (fun j=>aQ bI i j*x j)=fsum (nd.map (·.1)) (fun j=>fsum cs (fun c=>BB i c*C c j*x j)):=by
  refine cN _ fun j hj=>?_;rw [Ue i j hi (abj j hj)];have:=hG (x j) (fun c=>BB i c*C c j) cs;rw [show fsum cs (fun c=>BB i c*C c j)*x j=x j*fsum cs (fun c=>BB i c*C c j) by grind,<-this];refine cN _ fun c _=>?_;grind
 rw [e1,oR,f7 _ cs (fun c hc=>?_)]
 ·grind
 ·let k:=h3 (C c) (AW.mpr ⟨c,hc,rfl⟩)
  have:fsum (nd.map (·.1)) (fun a=>BB i c*C c a*x a)=BB i c*fsum (nd.map (·.1)) (fun p=>C c p*x p):=by
   rw [<-hG];refine cN _ fun a _=>?_;grind
  rw [this,k];grind
def Rk.turn (h:Rk m bI N)(h':Rk m' W9 N')(e:∀i j,i<W9.length->j<m' ->j<bI.length/\i<m/\aQ W9 i j=aQ bI j i):N' <=N:=by
 obtain ⟨cs,B,C,l,k⟩:=h.Ue;refine h'.le ⟨cs,fun i c=>C c i,fun c j=>B j c,l,fun i j hi hj=>?_⟩;obtain ⟨e1,e2,e3⟩:=e i j hi hj;rw [e3,k _ _ e1 e2];exact cN _ fun c _=>by grind
def Rk.turned (h:Rk m bI N)(h':Rk bI.length ((JA m).map fun j=>dR bI j) N'):N'=N:=by
 let at':∀i j,i<m->j<bI.length->aQ ((JA m).map fun j=>dR bI j) i j=aQ bI j i:=fun i j hi hj=>by
  let e:bI[j]?=some bI[j]:=gE hj;rw [wo (qs:=dR bI i) (by rw [AY,YX hi];rfl),wo e];unfold dR;rw [JE,AY,e];rfl
 refine Nat.le_antisymm (h.turn h' fun i j hi hj=>?_) (h'.turn h fun i j hi hj=>?_)
 ·rw [AU,RU] at hi
  show ⟨hj,hi,at' i j hi hj⟩
 ·show ⟨by rwa [AU,RU],hi,(at' j i hj hi).symm⟩
def ac0 (h:gw K H cu bI)(sh:Shape T B m bI)(hj:j<m):eJ K H (vY cu j) (dR bI j):=by
 show ⟨by simp [vY,dR,h.1],fun i u q e1 e2=>?_⟩;unfold vY at e1;unfold dR at e2;rw [AY] at e1 e2;obtain ⟨vs,ev,rfl⟩:=JI.mp e1;obtain ⟨qs,eq,rfl⟩:=JI.mp e2;let N:=h.2 i vs qs ev eq;let hl:=(sh qs (Wp eq)).1;let lN:=N.1;refine N.2 j _ _ ?_ ?_
 ·rw [JE,gE bv];rfl
 ·rw [JE,gE (nY hj hl)];rfl
def eL (pX:θ)(qe:ρ):List (List (Int×Int)):=(JA (2*pX.length)).map fun j=>dR (bh pX qe) j
theorem jW :∀{ug:List Z} {uf:List β} {a:Z} {b:β},Paired F ug uf->F a b->Paired F (ug++[a]) (uf++[b])
 | _,_,_,_,.nil,h=>.cons h .nil
 | _,_,_,_,.cons h t,h'=>.cons h (jW t h')
def jX :∀qs∈eL pX qe,qs.length=ay pX+qe.length:=fun qs hq=>by
 let dl:(bh pX qe).length=ay pX+qe.length:=fj pX qe;obtain ⟨i,_,rfl⟩:=AW.mp hq;unfold dR;rw [AU,dl]
def u9 (pX:θ)(qe:ρ):(eL pX qe).length=2*pX.length:=by unfold eL;simp
def af5 (g:bT pX qe)(h:gw K H cu (bh pX qe)):gw K H (jt cu (2*pX.length)) (eL pX qe):=⟨by unfold jt eL;simp,fun i vs qs e1 e2=>by
 unfold jt at e1;unfold eL at e2;rw [AY] at e1 e2;obtain ⟨j,ej,rfl⟩:=JI.mp e1;erw [ej] at e2
 exact ac0 h (eZ g) (JW.mp (Wp ej))⟩
def acG (g:bT pX qe):Shape 90 90 (ay pX+qe.length) (eL pX qe):=fun qs hq=>by
 show ⟨jX qs hq,?_⟩;obtain ⟨j,hj,rfl⟩:=AW.mp hq;exact ai' (eZ g) (JW.mp hj)
def afJ (g:bT pX qe):bb (90+90*(ay pX+qe.length)) (min (ay pX+qe.length) (eL pX qe).length)<=140000:=by
 let gl:=g.lp;let gb:=g.lb;let wl:ay pX<=2*pX.length:=gf pX g.lw;unfold bb;rw [u9];let h1:min (ay pX+qe.length) (2*pX.length)+1<=19:=bv
 let h2:90+90*(ay pX+qe.length)+11<=7121:=bv
 exact BX (OT h1 h2) ce
def aef (g:bT pX qe)(h:gw K H cu (bh pX qe)):∀vs∈cu,((2*pX.length:Nat):Int)<=(vs.length:Int):=fun vs hv=>by
 obtain ⟨i,ei⟩:=IV hv;let hi:=(ir.mp ei).1;let l1:=h.1;obtain ⟨qs,eq⟩:∃qs,(bh pX qe)[i]?=some qs:=⟨_,gE (oZ hi l1)⟩;let l2:=(h.2 i vs qs ei eq).1;let l3:=(eZ g qs (Wp eq)).1;omega
def gC (m:Nat)(bI:ξ)(j:Nat):Prop:=∃z:Nat->Rat,z j≠0/\(∀i,j<i->z i=0)/\∀qs∈bI,Ty.sumTo m (fun i=>vl (qs.getD i (0,1))*z i)=0
def Nd (m:Nat)(bI:ξ)(cs:Ζ):Prop:=cs.Pairwise (· < ·)/\∀c,c∈cs ↔ c<m/\¬ gC m bI c
def Nd.eq (h:Nd m bI cs)(h':Nd m bI AI):cs=AI :=m9 h.1 h'.1 fun c=>(h.2 c).trans (h'.2 c).symm
section
variable {m α:Nat}{bI:ξ}{nd:ι}
def abk (asc:(nd.map (·.1)).Pairwise (· < ·))(cl:∀y∈nd,y.1<m)(h:∀j,j<m->((∀y∈nd,y.1≠j) ↔ gC m bI j)):Nd m bI (nd.map (·.1)):=by
 show ⟨asc,fun c=>⟨fun hc=>?_,fun hc=>?_⟩⟩
 ·obtain ⟨y,hy,rfl⟩:=AW.mp hc
  show ⟨cl y hy,fun f=>(h y.1 (cl y hy)).mpr f y hy rfl⟩
 ·apply Md
  intro no;exact hc.2 ((h c hc.1).mp fun y hy e=>no (AW.mpr ⟨y,hy,e⟩))
def abl {os lv:ζ}(kQ:u5 T B m bI os)(len:∀qs∈bI,qs.length=m)(R:Red os m m α nd lv):Nd m bI (nd.map (·.1)):=abk R.asc R.cols fun j hj=>by
 constructor
 ·intro fr
  obtain ⟨z,hz⟩:=M0.ex j R.asc fr;show ⟨z,by rw [hz.one];decide,fun i hi=>M0.behind R hz hi,(kr kQ len z).mp (M0.sol R hj hz fr)⟩
 ·rintro ⟨z,z1,zb,hz⟩
  exact pZ R z1 zb ((kr kQ len z).mpr hz)
end
theorem sG {Z:Type}(p:Z->Bool):∀l:List Z,(l.filter p).length+(l.filter fun x=> !p x).length=l.length
 | []=>rfl
 | a::l=>by
  let ih:=sG p l;cases h:p a
  ·rw [SI (by simp [h]),SJ (by simp [h])]
   simp only [L7];omega
  ·rw [SJ h,SI (by simp [h])]
   simp only [L7];omega
def u_ {os lv:ζ}(kQ:u5 T B m bI os)(len:∀qs∈bI,qs.length=m)(R:Red os m m α nd lv):((JA m).filter (free nd)).length+(nd.map (·.1)).length=m/\Rk m bI (nd.map (·.1)).length:=by
 let h:=sG (free nd) (JA m);rw [<-jV R.cols R.asc,RU] at h;show ⟨h,T,B,α,os,lv,nd,kQ,len,R,by rw [AU]⟩
theorem p_ {f g:ar->List Rat}:∀{l:θ},(∀x∈l,f x=g x)->l.flatMap f=l.flatMap g
 | [],_=>rfl
 | x::l,h=>by rw [JJ,JJ,h x CU,p_ fun y hy=>h y (DM _ hy)]
theorem lV:∀(pX:θ)(l:Ν),(pX.map (·.nm)).Nodup->l.length=ay pX->∃U:Str->List Rat,(∀q∈pX,(U q.nm).length=q.ws.length)/\(pX.flatMap fun q=>U q.nm)=l
 | [],l,_,h=>⟨fun _=>[],(fun q hq=>nomatch hq),by
  have:l=[]:=ZC.mp h;rw [this]
  rfl⟩
 | q::ps,l,nd,h=>by
  rw [BS,KC] at nd
  let hw:ay (q::ps)=q.ws.length+ay ps:=by
   unfold ay;rw [JJ,CL]
  obtain ⟨U,h1,h2⟩:=lV ps (l.drop q.ws.length) nd.2 (by rw [Rw];omega);let ne:∀r∈ps,r.nm≠q.nm:=fun r hr z=>nd.1 (by rw [<-z];exact AW.mpr ⟨r,hr,rfl⟩);show ⟨fun x=>if x=q.nm then l.take q.ws.length else U x,fun r hr=>?_,?_⟩
  ·rcases JC.mp hr with e|hr
   ·rw [e]
    show (if q.nm=q.nm then l.take q.ws.length else U q.nm).length=_;rw [tu rfl,JT];omega
   ·show (if r.nm=q.nm then l.take q.ws.length else U r.nm).length=_
    rw [qA (ne r hr)];exact h1 r hr
  ·rw [JJ]
   show (if q.nm=q.nm then l.take q.ws.length else U q.nm)++_=l;rw [tu rfl,p_ (g:=fun r=>U r.nm) (fun r hr=>qA (ne r hr)),h2,Ry]
theorem lW:∀(qe:ρ)(l:Ν),(qe.map (·.nm)).Nodup->l.length=qe.length->∃T:Str->Rat,(qe.map fun b=>T b.nm)=l
 | [],l,_,h=>⟨fun _=>0,(ZC.mp h).symm⟩
 | b::bs,[],_,h=>(nomatch h)
 | b::bs,r::l,nd,h=>by
  rw [BS,KC] at nd;obtain ⟨T,hT⟩:=lW bs l nd.2 (by simpa using h);show ⟨fun x=>if x=b.nm then r else T x,?_⟩;rw [BS];show (if b.nm=b.nm then r else T b.nm)::_=r::l;rw [tu rfl];congr 1;refine Eq.trans (NF fun c hc=>?_) hT;exact qA fun z=>nd.1 (by rw [<-z];exact AW.mpr ⟨c,hc,rfl⟩)
def yV (g:bT pX qe)(wi:∀p∈pX,CY p.ws)(hj:j<ay pX+qe.length)(h:gC (ay pX+qe.length) (eL pX qe) j):ay pX<=j:=by
 obtain ⟨z,z1,zb,hz⟩:=h;refine let l:List Rat:=(JA (ay pX+qe.length)).map fun i=>z i / z j;?_;let ll:l.length=ay pX+qe.length:=by simp [l]
 let la:∀i,i<ay pX+qe.length->l[i]?=some (z i / z j):=fun i hi=>by
  show ((JA (ay pX+qe.length)).map fun i=>z i / z j)[i]? =_;rw [AY,YX hi];rfl
 obtain ⟨U,u1,u2⟩:=lV pX (l.take (ay pX)) g.np (by rw [JT];omega);obtain ⟨T,hT⟩:=lW qe (l.drop (ay pX)) g.nb (by rw [Rw];omega)
 let e:hW pX qe T U=l:=by
  unfold hW;rw [u2,hT,Ry]
 let no:fM pX qe T U:=ku g u1 fun c hc=>by
  let lq:(dR (bh pX qe) c).length=ay pX+qe.length:=by
   unfold dR;rw [AU];exact fj pX qe
  have:=hz (dR (bh pX qe) c) (AW.mpr ⟨c,JW.mpr hc,rfl⟩);show sP (hW pX qe T U) _=0;rw [<-oQ _ _ (by rwa [lq,e]),lq,e]
  let e2:Ty.sumTo (ay pX+qe.length) (fun i=>vl ((dR (bh pX qe) c).getD i (0,1))*l.getD i 0)=Ty.sumTo (ay pX+qe.length) (fun i=>(1 / z j)*(vl ((dR (bh pX qe) c).getD i (0,1))*z i)):=iV _ _ _ fun i hi=>by
   let hl:l.getD i 0=z i / z j:=by rw [JE,la i hi];rfl
   rw [hl];grind
  rw [e2,iL,this];grind
 refine afM (T:=T) wi u1 no ?_ fun i r hi er=>?_
 ·rw [e,la j hj]
  congr 1;grind
 ·rw [e] at er
  have MU :i<ay pX+qe.length:=by
   have:=(ir.mp er).1;omega
  rw [la i MU] at er;have:=C_ er;rw [<-this,zb i hi];grind
def yW (g:bT pX qe):∀qs∈bh pX qe,qs.length=2*pX.length:=fun qs hq=>(eZ g qs hq).1
structure R9 (K:Frag)(H:Hp)(pX:θ)(d:AO)(kM:δ)(M:ω)(N:Nat):Prop where
 hM:H d=some (.dK kM)
 keys:kM.map (·.1)=pX.map (fun p=>(J' p.nm:Key))
 tM:∀p∈pX,∃t v1 v2,cv kM (.inr p.nm)=some (.ref t)/\H t=some (.tup [v1,v2])/\gL K H v1 (M p.nm).1/\gL K H v2 (M p.nm).2
 zb:∀p∈pX,Zb N (M p.nm).1/\Zb N (M p.nm).2
 hN:N<=6000000
theorem R9.qg (h:R9 K H pX d kM M N)(s:aq H H'):R9 K H' pX d kM M N:=⟨s _ _ h.hM,h.keys,fun p hp=>by
 obtain ⟨t,v1,v2,a,b,c,d⟩:=h.tM p hp
 show ⟨t,v1,v2,a,s _ _ b,c.qg s,d.qg s⟩,h.zb,h.hN⟩
def HM (u:HO):Prop:=(∀xs,u≠.tup xs)/\∀o xs,u≠.gP o (.tup xs)
def abm :HM (.dK AN):=⟨fun _ z=>(nomatch z),fun _ _ z=>(nomatch z)⟩
def abn :HM (.dT AN):=⟨fun _ z=>(nomatch z),fun _ _ z=>(nomatch z)⟩
def gD (pX:θ):List (Str×Nat):=pX.flatMap fun p=>[(p.nm,0),(p.nm,1)]
theorem ky:∀pX:List ar,(gD pX).length=2*pX.length
 | []=>rfl
 | p::ps=>by
  have:=ky ps;unfold gD at this ⊢;rw [JJ,CL,this];simp;omega
def ju (H:Hp)(v:V)(x:Str×Nat):Prop:=∃t,v=.ref t/\H t=some (.tup [.str x.1,.int (x.2:Int)])
def ju.qg (h:ju H v x)(s:aq H H'):ju H' v x:=by
 obtain ⟨t,a,b⟩:=h;show ⟨t,a,s _ _ b⟩
def ju.ks (h:ju H v x)(e:H d=some u)(n:HM u)(k:bo d H H'):ju H' v x:=by
 obtain ⟨t,a,b⟩:=h;show ⟨t,a,k _ _ (fun z=>by erw [z,e] at b;exact n.1 _ rfl) b⟩
inductive wu (K:Frag)(C:AO)(vs:ε)(H:Hp)(Q:VK)(E_:XK):Prop
|mk (a:AO)(pX:θ)(qe:ρ)(_:vs=[.ref a])(_:qQ K H C a pX qe)(_:bT pX qe)(_:∀(r:AO)(us:ε)(H':Hp),aq H H' ->H r=none->H' r=some (.lst us)->Paired (ju H') us (gD pX)->Q (.ref r) H')
def abg (ps:θ)(p:ar):gD (ps++[p])=gD ps++[(p.nm,0),(p.nm,1)]:=by
 unfold gD;rw [RX];simp
def jY:aC ["F","pairs","pin"] JR (ae fW):=sq
def adu (D:Def K mg "pairs_of" fW JR)(MP:am P w K mg qf 1 C "pins" JB (g8 K C)):ac P w K mg qf 2 "pairs_of" JR (wu K C):=by
 refine D.oo jY fun H hr h=>?_;obtain ⟨a,pX,qe,rfl,R,g,q⟩:=h
 show ⟨_,(aa (aJ 1 jY.nd (bW iA)) (aa (bJ I_ rfl (bw (dy (k:=1) (pv 0) hr.mo (AG P w))) (bZ 2 jY.nd) (ah (bx (jq Of PySem.F.slot_list_extend PySem.F.type_list_extend afC (pv 1) (aK (bW (aT (aZ (aT (pv 2) ag)) (aZ (aT (pv 2) ag))))))))) (ah (aE (pv 1))))),?_⟩
 show ⟨z0L,?_⟩;intros r nr H1 s1 er;let big:(40:Nat)<=BL:=ce
 let L2:2<=BL:=ce
 let gl:=g.lp;let R1:=R.qg s1;obtain ⟨dx,pP,pW,pB,kP,kW,kB,F1,W1⟩:=R1.ex;show ⟨_,rfl,a,C,dx,_,_,_,rfl,F1.obj,rfl,MP,a,dx,pP,pW,pB,_,_,kP,kW,kB,rfl,F1,fun lp H2 s2 u3 mT=>?_⟩;rw [fK] at mT;let RP:lp≠r:=fun z=>by erw [z,er] at u3
 show ⟨lp,rfl,⟨_,aV.of mT⟩,let I:bn:=fun i Y H'=>Ov fun (o2:Ε) (us:ε)=>Y=[ap a,ap r,o2]/\aq H H'/\H' lp=some (.lst ((pX.map (·.nm)).map V.str))/\H' r=some (.lst us)/\Paired (ju H') us (gD (pX.take i));cC (K:=K) (a:=lp) (xs:=(pX.map (·.nm)).map V.str) I ⟨none,[],rfl,s1.trans s2,mT,s2 _ _ er,.nil⟩ (fun i Y H' _ h=>by
   obtain ⟨_,_,_,_,h,_⟩:=h
   exact aV.of h) ?_ ?_⟩
 ·rintro i z Y H4 hi ⟨o2,us,rfl,s4,l4,r4,p4⟩
  rw [AY,AY] at hi;obtain ⟨x,hx,rfl⟩:=JI.mp hi;obtain ⟨p,hp,rfl⟩:=JI.mp hx;let il:=(ir.mp hp).1
  let lu:us.length<=18:=by
   let h1:=CV p4;rw [ky,JT] at h1;omega
  show ⟨_,rfl,.inl ⟨rfl,_,aV.of r4⟩,_,rfl,L2,?_⟩;intros t5 n5 H5 s5 e5;show ⟨_,rfl,L2,?_⟩;intros t6 n6 H6 s6 e6;show ⟨L2,?_⟩;intros l7 n7 H7 s7 e7;let s47:=s5.trans (s6.trans s7);let r7:=s47 _ _ r4;show ⟨r,l7,us,_,rfl,rfl,r7,e7,(by simp;omega),?_⟩;let ks:bo r H7 (upd H7 r (.lst (us++[.ref t5,.ref t6]))):=bo.upd;let nt:HM (.lst us):=⟨fun _ z=>(nomatch z),fun _ _ z=>(nomatch z)⟩;show ⟨_,us++[.ref t5,.ref t6],rfl,fun b o e=>?_,?_,aj,?_⟩
  ·rw [ak (ao e nr)]
   exact s47 _ _ (s4 _ _ e)
  ·rw [ak RP]
   exact s47 _ _ l4
  ·rw [take_snoc hp,abg]
   let p5:=jW (jW (Paired.bP p4 fun _ _ z=>z.qg s47) (show ju H7 (.ref t5) (p.nm,0) from ⟨t5,rfl,(s6.trans s7) _ _ e5⟩)) (show ju H7 (.ref t6) (p.nm,1) from ⟨t6,rfl,s7 _ _ e6⟩);rw [QW,QW] at p5;exact Paired.bP p5 fun _ _ z=>z.ks r7 nt ks
 ·rintro Y H4 ⟨o2,us,rfl,s4,l4,r4,p4⟩
  rw [AU,AU,OU] at p4;show ⟨_,rfl,q r us H4 s4 nr r4 p4⟩
inductive HN (K:Frag)(C:AO)(vs:ε)(H:Hp)(Q:VK)(E_:XK):Prop
|mk (a:AO)(pX:θ)(qe:ρ)(_:vs=[.ref a])(_:qQ K H C a pX qe)(_:bT pX qe)(_:(∀p∈pX,CY p.ws))(_:∀(d:AO)(AN:δ)(cs:Ζ)(H':Hp),aq H H' ->H' d=some (.dK AN)->Nd (ay pX+qe.length) (eL pX qe) cs->Rk (ay pX+qe.length) (eL pX qe) cs.length->(∀c,c<ay pX->c∈cs)->AN.length+cs.length=ay pX+qe.length->(∀x:Str,(J' x:Key)∈AN.map (·.1) ↔ ∃c,c<ay pX+qe.length/\gC (ay pX+qe.length) (eL pX qe) c/\ay pX<=c/\(qe.map (·.nm))[c-ay pX]?=some x)->Q (.ref d) H')
def dz:aC ["F","rows","bars","ways","spares","column","numbers"] JR (ae ff):=sq
def aez (D:Def K mg "spares_of" ff JR)(aL:mg "len"=none)(MP:am P w K mg qf 1 C "pins" JB (g8 K C))(MB:am P w K mg qf 1 C "bars" JB (jR K C))
  (C':ac P w K mg qf 38 "draw_rows" JR (fZ K C)) (Wz:ac P w K mg qf 1 "turned" Oo mR) (gy:ac P w K mg qf 36 "spare_columns" Oo (mZ K)) (OW:ac P w K mg qf 3 "pulls_and_pushes" OF (OP K C)):
  ac P w K mg qf 39 "spares_of" JR (HN K C):=by
 refine D.op dz fun f cD A qw s H vs Q E hr h=>?_;obtain ⟨a,pX,qe,rfl,R,g,wi,q⟩:=h;let gl:=g.lp;let gb:=g.lb;let wl:ay pX<=2*pX.length:=gf pX g.lw;let lcq:=u9 pX qe;let dl:(bh pX qe).length=ay pX+qe.length:=fj pX qe
 show ⟨_,(aa (aJ 1 dz.nd (aS C' hr (aK (pv 0)))) (aa (aJ 2 dz.nd (dy (k:=1) (pv 0) hr.mo (pY P w))) (aa (aJ 3 dz.nd (aH dc (aD av rfl aL bM (aK (pv 1))) (aD av rfl aL bM (aK (pv 2))))) (aa (aJ 4 dz.nd fF) (aa (qO (bJ I_ rfl (jO (aS gy hr (aT (aS Wz hr (aT (pv 1) (aH di ag (aD av rfl aL bM (aK (dy (k:=1) (pv 0) hr.mo (pY P w))))))) (aD av rfl aL bM (aK (pv 1)))))) (eU rfl (a_ (bZ 5 dz.nd) (a_ (bZ 6 dz.nd) cY))) (ah (fE (cf hr) (pv 4) (bG aU (pv 2) (aH dc (pv 5) (pv 3))) (aS OW hr (aT (pv 0) (pv 6))) rfl)))) (ah (aE (pv 4)))))))),?_⟩;sleep 4
 show ⟨_,rfl,a,pX,qe,rfl,R,g,fun r ls cu H1 s1 nr RR=>?_⟩;obtain ⟨dx,pP,pW,pB,kP,kW,kB,F0,W0⟩:=R.ex;let F1:=F0.qg s1;show ⟨_,rfl,a,C,dx,_,_,_,rfl,F1.obj,rfl,MB,a,dx,pP,pW,pB,_,_,kP,kW,kB,rfl,F1,fun lb H2 s2 nlb CQ=>?_⟩;rw [mV] at CQ;let RR2:=RR.qg s2;show ⟨_,rfl,r,_,rfl,.inl (aV.of RR2.kH.1),_,rfl,lb,_,rfl,.inl (aV.of CQ),_,_,rfl,rfl,?_⟩;intros d GX H3 s3 e3;let RR3:=RR2.qg s3;let F3:=F1.qg (s2.trans s3);let tZ:=s1.trans (s2.trans s3);let nmp:((pX.map fun p=>(p.nm,qP p.sp)).map (·.1))=pX.map (·.nm):=by rw [DP];rfl
 let YD:ls.length=ay pX+qe.length:=by rw [RR.kH.2.1,RR.num.1,dl]
 show ⟨_,rfl,_,rfl,a,C,dx,_,_,_,rfl,F3.obj,rfl,MP,a,dx,pP,pW,pB,_,_,kP,kW,kB,rfl,F3,fun lp H4 s4 u3 mT=>?_⟩;rw [nmp] at mT;let RR4:=RR3.qg s4;let sz4:((pX.map (·.nm)).map V.str).length=pX.length:=by rw [AU,AU]
 let c2:uN 2 ((pX.length:Nat):Int):=⟨by decide+kernel,BX (intBits_le_64 bv bv) ce⟩;show ⟨lp,_,rfl,.inl (aV.of mT),_,_,rfl,rfl,(by rwa [AU,AU]),?_⟩;let em:(2*((((pX.map (·.nm)).map V.str).length:Nat):Int))=((2*pX.length:Nat):Int):=by rw [sz4];omega
 show ⟨r,ls,cu,((2*pX.length:Nat):Int),ud (fun i:Int=>[V.ref r,V.int i]) em,RR4.kH,bv,bv,bv,aef g RR4.num,fun c cs H5 s5 M5=>?_⟩;rw [ai3] at M5;let RR5:=RR4.qg s5;show ⟨_,rfl,r,_,rfl,.inl (aV.of RR5.kH.1),?_⟩;let emm:(((ls.map V.ref).length:Nat):Int)=((ay pX+qe.length:Nat):Int):=by rw [AU,YD]
 show ⟨c,ay pX+qe.length,cs,_,eL pX qe,90,90,140000,ud (fun i:Int=>[V.ref c,V.int i]) emm,M5,af5 g RR5.num,acG g,bv,bv,ce,bv,ce,afJ g,ce,fun sd m7 AI os lv nd H6 s6 RW L_ hSp kQ RZ BU=>?_⟩
 let eW:((((ls.map V.ref).length:Nat):Int)-((((qe.map (·.nm)).map V.str).length:Nat):Int))=(ay pX:Int):=by
  rw [AU,AU,AU,YD];omega
 let CP:=s4.trans (s5.trans s6);let AJ:=tZ.trans CP;let Qm:H sd=none:=(tZ.trans (s4.trans s5)).free RW;let Hd:H d=none:=(s1.trans s2).free GX;let ed6:=CP _ _ e3;let W_:=CP _ _ (s3 _ _ CQ)
 let R_:d≠sd:=fun z=>by
  have:=(s4.trans s5) _ _ e3;erw [z,RW] at this
 show ⟨sd,m7,rfl,L_,fun o=>?_⟩;let k0:bo sd H6 (upd H6 sd (.gP o (.dK m7))):=bo.upd;let lsk:m7.length=AI.length:=hSp.1;let ndS:=abl kQ jX RZ
 let WC:AI.length<=ay pX+qe.length:=by
  have:=ud O3 BU;let h2:=SE (free nd) (JA (ay pX+qe.length));rw [RU] at h2;omega
 let ndc:AI.Nodup:=by
  rw [BU];exact YZ.filter _
 let wcs:∀c∈AI,c<ay pX+qe.length/\ay pX<=c:=fun c hc=>by
  rw [BU] at hc;obtain ⟨h1,h2⟩:=N0.mp hc;have eI :=JW.mp h1;show ⟨eI,yV g wi eI ?_⟩;apply Md;intro no;obtain ⟨y,hy,e⟩:=AW.mp ((ndS.2 c).mpr ⟨eI,no⟩);exact dW.mp h2 y hy e
 refine let I:bn:=fun t Y H'=>MY fun (o5 o6:Ε) (AN:δ)=>Y=[ap a,ap r,ap lb,some (.int ((((ls.map V.ref).length:Nat):Int)-((((qe.map (·.nm)).map V.str).length:Nat):Int))),ap d,o5,o6]/\aq H H'/\H' lb=some (.lst ((qe.map (·.nm)).map V.str))/\Ql H' (ay pX+qe.length) m7 AI /\H' sd=some (.gP o (.dK m7))/\H' d=some (.dK AN)/\AN.length=t/\(∀k∈AN.map (·.1),∃c∈AI.take t,∃x,(qe.map (·.nm))[c-ay pX]?=some x/\k=.inr x)/\∀c∈AI.take t,∀x,(qe.map (·.nm))[c-ay pX]?=some x->(J' x:Key)∈AN.map (·.1);gK (d:=sd) (o:=o) (AN:=m7) I ⟨none,none,[],rfl,fun b o' e=>k0 _ _ (ao e Qm) (AJ _ _ e),k0 _ _ (fun z=>by erw [z,L_] at W_) W_,hSp.mono fun b xs e=>k0 _ _ (fun z=>by erw [z,L_] at e) e,aj,k0 _ _ R_ ed6,rfl,(fun k h=>nomatch h),fun c h=>(by simp at h)⟩ (fun t Y H' _ h=>by
   obtain ⟨_,_,_,_,_,_,_,h,_⟩:=h
   exact h) ?_ ?_
 ·rintro t k y Y H7 p7 xE ⟨o5,o6,AN,rfl,s7,OX,Xa,Xb,d7,Xc,Ur,kk8⟩ n7
  let ht:t<m7.length:=(ir.mp xE).1;obtain ⟨x,ex⟩:∃x,AI[t]?=some x:=⟨_,gE (jw lsk ht)⟩;let mx:=Wp ex;obtain ⟨ek,lx,us,ey,hlx,hus⟩:=Xa.2 t (k,y) x xE ex;let ek':k=.inl (x:Int):=ek;have GL :y=.ref lx:=ey;subst ek';subst GL;let t7:=aG n7 (.tup [kV (.inl (x:Int)),.ref lx]);let e7:(upd H7 p7 (.tup [kV (.inl (x:Int)),.ref lx])) p7=some (.tup [kV (.inl (x:Int)),.ref lx]):=aj;generalize upd H7 p7 (.tup [kV (.inl (x:Int)),.ref lx])=H8 at t7 e7 ⊢;let s8:=s7.trans t7;show ⟨p7,_,rfl,bL.of e7,rfl,_,_,rfl,_,_,rfl,rfl,?_⟩;obtain ⟨cx,wc⟩:=wcs x mx;show ⟨_,rfl,_,rfl,false,a,lx,pX,qe,us,_,rfl,R.qg s8,g,t7 _ _ hlx,CT us,by rwa [AU],fun _ _ _ p _ _ _ _ H9 s9 _ _ _=>?_⟩;obtain ⟨b,eb⟩:∃b,qe[x-ay pX]?=some b:=⟨_,gE bv⟩;let Mc:=t7.trans s9;let d9:=Mc _ _ d7
  let ai:ib ((qe.map (·.nm)).map V.str) ((x:Int)-((((ls.map V.ref).length:Nat):Int)-((((qe.map (·.nm)).map V.str).length:Nat):Int)))=some (.str b.nm):=by
   rw [eW,show (x:Int)-(ay pX:Int)=((x-ay pX:Nat):Int) by omega];exact bK (by rw [AY,AY,eb];rfl)
  show ⟨_,rfl,_,rfl,_,rfl,_,rfl,_,_,rfl,rfl,lb,_,_,_,rfl,rfl,aV.of (Mc _ _ OX),ai,d,_,rfl,jx.k (k:=.inr b.nm) d9 (IY (show AN.length<=1000 by omega) ce),?_⟩;let f1:(qe.map (·.nm))[x-ay pX]?=some b.nm:=by rw [AY,eb];rfl
  let HP:(J' b.nm:Key)∉AN.map (·.1):=fun z=>by
   obtain ⟨c,hc,x',P7,e'⟩:=Ur _ z;let e'':b.nm=x':=Ky e';rw [<-e''] at P7;let e5:=bU g.nb f1 P7;obtain ⟨_,wc'⟩:=wcs c (ahE hc);obtain ⟨i,ei⟩:=IV hc
   let hi:i<t:=by
    have:=(ir.mp ei).1;rw [JT] at this;omega
   rw [vt hi,show c=x by omega] at ei;have:=bU ndc ei ex;omega
  rw [dq _ (b_ HP)];let ks:bo d H9 (upd H9 d (.dK (AN++[(.inr b.nm,.ref p)]))):=bo.upd;show ⟨_,_,AN++[(.inr b.nm,.ref p)],rfl,fun b' o' e=>?_,?_,?_,?_,aj,by rw [CL,Xc];rfl,fun k hk=>?_,fun c hc x' AB =>?_⟩
  ·exact ks _ _ (ao e Hd) (s9 _ _ (s8 _ _ e))
  ·exact ks _ _ (fun z=>by erw [z,d7] at OX) (Mc _ _ OX)
  ·exact Xa.mono fun b xs e=>ks _ _ (fun z=>by erw [z,d7] at e) (Mc _ _ e)
  ·exact ks _ _ (CA R_) (Mc _ _ Xb)
  ·rw [IX] at hk
   rw [take_snoc ex]
   rcases DL.mp hk with h|h
   ·obtain ⟨j,hj,z⟩:=Ur _ h
    show ⟨j,DL.mpr (.inl hj),z⟩
   ·show ⟨x,DL.mpr (.inr CU),b.nm,f1,by simpa using h⟩
  ·rw [take_snoc ex] at hc
   rw [IX]
   rcases DL.mp hc with h|h
   ·exact M3 _ (kk8 c h x' AB)
   ·rw [IZ.mp h,f1] at AB
    cases AB;exact Ma _ CU
 ·rintro Y H7 ⟨o5,o6,AN,rfl,s7,OX,Xa,Xb,d7,Xc,Ur,kk8⟩
  let kS:bo sd H7 (upd H7 sd (.dK m7)):=bo.upd;show ⟨sd,o,m7,Xb,fun o' u' z=>(by have z':H sd=some (.gP o' u'):=z;erw [Qm] at z'),_,rfl,?_⟩;obtain ⟨c1,c2⟩:=u_ kQ jX RZ;refine q d AN _ _ (fun b' o' e=>kS _ _ (ao e Qm) (s7 _ _ e)) (kS _ _ R_ d7) ndS c2 (fun c hc=>(ndS.2 c).mpr ⟨nX hc,fun f=>?_⟩) (by rwa [Xc,lsk,BU]) (fun x=>⟨fun h=>?_,fun h=>?_⟩);rotate_left
  ·obtain ⟨c,hc,x',P7,e'⟩:=Ur _ h
   let mc:=ahE hc;obtain ⟨h1,h2⟩:=wcs c mc;rw [BU] at mc;show ⟨c,h1,?_,h2,by rw [P7,Ky e']⟩;apply Md;intro no;obtain ⟨y,hy,e⟩:=AW.mp ((ndS.2 c).mpr ⟨h1,no⟩);exact dW.mp (N0.mp mc).2 y hy e
  ·obtain ⟨c,h1,h2,h3,h4⟩:=h
   let mc:c∈AI :=by
    rw [BU];refine N0.mpr ⟨JW.mpr h1,?_⟩;exact dW.mpr fun y hy e=>((ndS.2 c).mp (AW.mpr ⟨y,hy,e⟩)).2 h2
   exact kk8 c (by rwa [Vj bv]) x h4
  have:=yV g wi (nX hc) f;omega
def ab4 (h:x∈gD pX):x.1∈pX.map (·.nm)/\x.2<=1:=by
 unfold gD at h;obtain ⟨p,hp,h⟩:=Nz.mp h
 rcases JC.mp h with e|h
 ·rw [e]
  show ⟨AW.mpr ⟨p,hp,rfl⟩,JS _⟩
 ·rw [IZ.mp h]
  show ⟨AW.mpr ⟨p,hp,rfl⟩,BW _⟩
theorem sH :∀{us:List Z} {l:List β},Paired R us l->∀{i:Nat} {b:β},l[i]?=some b->∃u,us[i]?=some u/\R u b
 | _,_,.nil,i,b,e=>by simp at e
 | _,_,.cons h t,0,b,e=>by
  cases e;show ⟨_,rfl,h⟩
 | _,_,.cons h t,i+1,b,e=>by
  obtain ⟨u,a,c⟩:=sH t (i:=i) (b:=b) (by simpa using e);show ⟨u,by simpa using a,c⟩
def ack (np:(pX.map (·.nm)).Nodup):(gD pX).Nodup:=by
 induction pX with
 | nil=>exact tf
 | cons p ps ih=>
  rw [BS,KC] at np;let e:gD (p::ps)=[(p.nm,0),(p.nm,1)]++gD ps:=rfl;rw [e,Po];show ⟨by simp,ih np.2,fun a ha b hb z=>np.1 ?_⟩;let h1:=(ab4 hb).1;rw [<-z] at h1
  rcases JC.mp ha with y|y
  ·rw [y] at h1
   exact h1
  ·rw [IZ.mp y] at h1
   exact h1
def yY (x:Str×Nat):List Key:=[.inr x.1,.inl (x.2:Int)]
def acZ (h:yY x=yY y):x=y:=by
 unfold yY at h;injection h with h1 h2
 injection h2 with h2 _
 let h3:=VM h2;exact OO (Ky h1) bv
inductive DA (K:Frag)(C:AO)(vs:ε)(H:Hp)(Q:VK)(E_:XK):Prop
|mk (a:AO)(pX:θ)(qe:ρ)(_:vs=[.ref a])(_:qQ K H C a pX qe)(_:bT pX qe)(_:∀(d:AO)(AN:Θ)(cs:Ζ)(H':Hp),aq H H' ->H' d=some (.dT AN)->Nd (2*pX.length) (bh pX qe) cs->Rk (2*pX.length) (bh pX qe) cs.length->AN.length+cs.length=2*pX.length->Q (.ref d) H')
def eO:aC ["F","pairs","motions","column","numbers"] JR (ae d3):=sq
def ahg (D:Def K mg "motions_of" d3 JR)(aL:mg "len"=none)
  (DB:ac P w K mg qf 2 "pairs_of" JR (wu K C)) (C':ac P w K mg qf 38 "draw_rows" JR (fZ K C)) (gy:ac P w K mg qf 36 "spare_columns" Oo (mZ K)) (OZ:ac P w K mg qf 2 "motion_from" OF (jT K C)):
  ac P w K mg qf 39 "motions_of" JR (DA K C):=by
 refine D.oo eO fun H hr h=>?_;obtain ⟨a,pX,qe,rfl,R,g,q⟩:=h;let gl:=g.lp;let gb:=g.lb;let wl:(pX.flatMap fun p=>p.ws).length<=2*pX.length:=gf pX g.lw;let dl:(bh pX qe).length=(pX.flatMap fun p=>p.ws).length+qe.length:=fj pX qe
 show ⟨_,(aa (aJ 1 eO.nd (aS DB hr (aK (pv 0)))) (aa (aJ 2 eO.nd afq) (aa (qO (bJ I_ rfl (jO (aS gy hr (aT (aS C' hr (aK (pv 0))) (aD av rfl aL bM (aK (pv 1)))))) (eU rfl (a_ (bZ 3 eO.nd) (a_ (bZ 4 eO.nd) cY))) (ah (fE (cf hr) (pv 2) (bG aU (pv 1) (pv 3)) (aS OZ hr (aT (pv 0) (pv 4))) rfl)))) (ah (aE (pv 2)))))),?_⟩;sleep 3
 show ⟨_,rfl,a,pX,qe,rfl,R,g,fun r us H1 s1 nr er pr=>?_⟩;intros d GX H2 s2 e2;let qu:=s1.trans s2;let lus:us.length=2*pX.length:=by rw [CV pr,ky]
 show ⟨_,rfl,a,pX,qe,rfl,R.qg qu,g,fun rr ls cu H3 s3 nrr RR=>?_⟩;let r3:=s3 _ _ (s2 _ _ er);show ⟨_,rfl,r,_,rfl,.inl (aV.of r3),?_⟩;let sh:Shape 90 90 (2*pX.length) (bh pX qe):=eZ g
 let zz:bb (90+90*(2*pX.length)) (min (2*pX.length) (bh pX qe).length)<=33000:=by
  unfold bb;let h1:min (2*pX.length) (bh pX qe).length+1<=19:=bv
  let h2:90+90*(2*pX.length)+11<=1721:=bv
  exact BX (OT h1 h2) ce
 show ⟨rr,2*pX.length,ls,cu,bh pX qe,90,90,33000,(by rw [lus];rfl),RR.kH,RR.num,sh,bv,bv,ce,bv,ce,zz,ce,fun sd m7 cs os lv nd H6 s6 RW L_ hSp kQ RZ BU=>?_⟩;let s26:=s3.trans s6;let AJ:=qu.trans s26;let Qm:H sd=none:=(qu.trans s3).free RW;let Hd:H d=none:=s1.free GX;let ed6:=s26 _ _ e2;let er6:=s6 _ _ r3
 let R_:d≠sd:=fun z=>by
  have:=s3 _ _ e2;erw [z,RW] at this
 show ⟨sd,m7,rfl,L_,fun o=>?_⟩;let k0:bo sd H6 (upd H6 sd (.gP o (.dK m7))):=bo.upd;let lsk:m7.length=cs.length:=hSp.1
 let WC:cs.length<=2*pX.length:=by
  have:=ud O3 BU;let h2:=SE (free nd) (JA (2*pX.length));rw [RU] at h2;omega
 let ndc:cs.Nodup:=by
  rw [BU];exact YZ.filter _
 let pr6:Paired (ju H6) us (gD pX):=Paired.bP pr fun _ _ z=>z.qg (s2.trans s26)
 refine let I:bn:=fun t Y H'=>MY fun (o3 o4:Ε) (AN:Θ)=>Y=[ap a,ap r,ap d,o3,o4]/\aq H H'/\H' r=some (.lst us)/\Paired (ju H') us (gD pX)/\Ql H' (2*pX.length) m7 cs/\H' sd=some (.gP o (.dK m7))/\H' d=some (.dT AN)/\AN.length=t/\∀k∈AN.map (·.1),∃j∈cs.take t,∃x,(gD pX)[j]?=some x/\k=yY x;gK (d:=sd) (o:=o) (AN:=m7) I ⟨none,none,[],rfl,fun b o' e=>k0 _ _ (ao e Qm) (AJ _ _ e),k0 _ _ (fun z=>by erw [z,L_] at er6) er6,Paired.bP pr6 fun _ _ z=>z.ks L_ abm k0,hSp.mono fun b xs e=>k0 _ _ (fun z=>by erw [z,L_] at e) e,aj,k0 _ _ R_ ed6,rfl,fun k h=>nomatch h⟩ (fun t Y H' _ h=>by
   obtain ⟨_,_,_,_,_,_,_,_,h,_⟩:=h
   exact h) ?_ ?_
 ·rintro t k y Y H7 p7 xE ⟨o3,o4,AN,rfl,s7,er7,pr7,Xa,Xb,d7,Xc,Ur⟩ n7
  let ht:t<m7.length:=(ir.mp xE).1;obtain ⟨x,ex⟩:∃x,cs[t]?=some x:=⟨_,gE (jw lsk ht)⟩;let mx:=Wp ex;obtain ⟨ek,lx,xs,ey,hlx,hus⟩:=Xa.2 t (k,y) x xE ex;let ek':k=.inl (x:Int):=ek;have GL :y=.ref lx:=ey;subst ek';subst GL;let t7:=aG n7 (.tup [kV (.inl (x:Int)),.ref lx]);let e7:(upd H7 p7 (.tup [kV (.inl (x:Int)),.ref lx])) p7=some (.tup [kV (.inl (x:Int)),.ref lx]):=aj;generalize upd H7 p7 (.tup [kV (.inl (x:Int)),.ref lx])=H8 at t7 e7 ⊢;let s8:=s7.trans t7;show ⟨p7,_,rfl,bL.of e7,rfl,_,_,rfl,_,_,rfl,rfl,?_⟩
  let cx:x<2*pX.length:=by
   rw [BU] at mx;exact JW.mp (N0.mp mx).1
  show ⟨_,rfl,_,rfl,false,a,lx,pX,qe,xs,_,rfl,R.qg s8,g,t7 _ _ hlx,CT xs,by rwa [AU],fun _ dM _ H9 s9 _ _ _ _ _=>?_⟩;let Mc:=t7.trans s9;let d9:=Mc _ _ d7;obtain ⟨pq,epq⟩:∃pq,(gD pX)[x]?=some pq:=⟨_,gE (by rwa [ky])⟩;obtain ⟨u,eu,tp,rfl,htp⟩:=sH pr7 epq;let ht9:H9 tp=some (.tup ((yY pq).map kV)):=Mc _ _ htp;let ai:ib us (x:Int)=some (.ref tp):=bK eu;show ⟨_,rfl,_,rfl,_,rfl,r,_,_,_,rfl,rfl,aV.of (Mc _ _ er7),ai,d,_,rfl,jx.t d9 ht9 (IY (show AN.length<=1000 by omega) ce),?_⟩;let ks:bo d H9 (upd H9 d (.dT (putK AN (yY pq) (.ref dM)))):=bo.upd
  let HP:yY pq∉AN.map (·.1):=fun z=>by
   obtain ⟨j,hj,x',P7,e'⟩:=Ur _ z;rw [acZ e'] at epq;let e5:=bU (ack g.np) epq P7;obtain ⟨i,ei⟩:=IV hj
   let hi:i<t:=by
    have:=(ir.mp ei).1;rw [JT] at this;omega
   rw [vt hi,<-e5] at ei;have:=bU ndc ei ex;omega
  rw [dq _ (b_ HP)] at ks ⊢;show ⟨_,_,AN++[(yY pq,.ref dM)],rfl,fun b' o' e=>?_,?_,Paired.bP pr7 fun _ _ z=>(z.qg Mc).ks d9 abn ks,?_,?_,aj,by rw [CL,Xc];rfl,fun k hk=>?_⟩
  ·exact ks _ _ (ao e Hd) (s9 _ _ (s8 _ _ e))
  ·exact ks _ _ (fun z=>by erw [z,d7] at er7) (Mc _ _ er7)
  ·exact Xa.mono fun b xs e=>ks _ _ (fun z=>by erw [z,d7] at e) (Mc _ _ e)
  ·exact ks _ _ (CA R_) (Mc _ _ Xb)
  ·rw [IX] at hk
   rw [take_snoc ex]
   rcases DL.mp hk with h|h
   ·obtain ⟨j,hj,z⟩:=Ur _ h
    show ⟨j,DL.mpr (.inl hj),z⟩
   ·show ⟨x,DL.mpr (.inr CU),pq,epq,by simpa using h⟩
 ·rintro Y H7 ⟨o3,o4,AN,rfl,s7,er7,pr7,Xa,Xb,d7,Xc,Ur⟩
  let kS:bo sd H7 (upd H7 sd (.dK m7)):=bo.upd;show ⟨sd,o,m7,Xb,fun o' u' z=>(by have z':H sd=some (.gP o' u'):=z;erw [Qm] at z'),_,rfl,?_⟩;obtain ⟨c1,c2⟩:=u_ kQ (yW g) RZ;exact q d AN _ _ (fun b' o' e=>kS _ _ (ao e Qm) (s7 _ _ e)) (kS _ _ R_ d7) (abl kQ (yW g) RZ) c2 (by rwa [Xc,lsk,BU])
def Cnt (pX:θ)(qe:ρ)(s m:Nat):Prop:=∃cs AI :List Nat,Nd (ay pX+qe.length) (eL pX qe) cs/\(∀c,c<ay pX->c∈cs)/\s+cs.length=ay pX+qe.length/\Nd (2*pX.length) (bh pX qe) AI /\m+AI.length=2*pX.length/\cs.length=AI.length
theorem yZ:∀pX:List ar,(pX.map fun p=>((p.ws.length:Nat):Int)).sum=((ay pX:Nat):Int)
 | []=>rfl
 | p::ps=>by
  rw [BS,Kv,yZ ps];unfold ay;rw [JJ,CL];omega
inductive sI (K:Frag)(C:AO)(vs:ε)(H:Hp)(Q:VK)(E_:XK):Prop
|mk (a:AO)(pX:θ)(qe:ρ)(_:vs=[.ref a])(_:qQ K H C a pX qe)(_:bT pX qe)(_:(∀p∈pX,CY p.ws))(_:∀(t:AO)(s m:Nat)(H':Hp),aq H H' ->H' t=some (.tup [.int (pX.length:Int),.int (ay pX:Int),.int (qe.length:Int),.int (s:Int),.int (m:Int)])->Cnt pX qe s m->Q (.ref t) H')
def m_:aC ["F","ways"] JR (ae fg):=sq
def ag3 (D:Def K mg "counts_of" fg JR)(aL:mg "len"=none)(O0:mg "sum"=none)(MP:am P w K mg qf 1 C "pins" JB (g8 K C))(MB:am P w K mg qf 1 C "bars" JB (jR K C))(MW:am P w K mg qf 2 C "ways" Mg (oO K C))
  (jZ:ac P w K mg qf 39 "spares_of" JR (HN K C)) (wB:ac P w K mg qf 39 "motions_of" JR (DA K C)):
  ac P w K mg qf 40 "counts_of" JR (sI K C):=by
 refine D.op m_ fun f cD A qw s H vs Q E hr h=>?_;obtain ⟨a,pX,qe,rfl,R,g,wi,q⟩:=h;let gl:=g.lp;let gb:=g.lb;let wl:ay pX<=2*pX.length:=gf pX g.lw;let dl:(bh pX qe).length=ay pX+qe.length:=fj pX qe;obtain ⟨dx,pP,pW,pB,kP,kW,kB,F0,W0⟩:=R.ex
 show ⟨_,(aa (aJ 1 m_.nd (aD (adC rfl) rfl O0 af8 (aK (dj (tn:=["pin"]) (fr:=JR) (tw:=[0]) (bw (dy (k:=1) (pv 0) hr.mo (pY P w))) (aD (ahp (K:=K) rfl) rfl aL bM (aK (afY (P:=P) (w:=w) (K:=K) (mg:=mg) (qf:=qf) (CX:=aY P w) rfl rfl rfl rfl rfl (k:=2) (pv 1) hr.mo (T6 (by first|assumption|exact aY.yd) rfl) (aK (pv 0)))))))))
  (ah (aE (aZ (jr (aD av rfl aL bM (aK (dy (k:=1) (pv 0) hr.mo (pY P w)))) (jr (pv 1) (bE (aD av rfl aL bM (aK (dy (k:=1) (pv 0) hr.mo (pY P w)))) (aD oI rfl aL bM (aK (aS jZ hr (aK (pv 0))))) (aD acP rfl aL bM (aK (aS wB hr (aK (pv 0)))))))))))),?_⟩;try dsimp only [xk,mz,Cx.xC,Cx.tQ]
 show ⟨_,rfl,a,C,dx,_,_,_,rfl,F0.obj,rfl,MP,a,dx,pP,pW,pB,_,_,kP,kW,kB,rfl,F0,fun lp H1 s1 u3 mT=>?_⟩;rw [fK] at mT;show ⟨lp,rfl,⟨_,aV.of mT⟩,fun D2 n2=>?_⟩;refine cE (tG:=[some (.ref a)]) (K:=K) (a:=lp) (xs:=(pX.map (·.nm)).map V.str) (fun i v _=>∃p,pX[i]?=some p/\v=.int ((p.ws.length:Nat):Int)) n2 (by rw [AU,AU];exact IY (show pX.length<=1000 by omega) ce) (fun H5 s5=>aV.of (s5 _ _ mT)) (fun _ _ _ _ _ _ _ h=>h) ?_ ?_
 ·intro i u H5 RR hu s5 k
  rw [AY,AY] at hu;obtain ⟨x,hx,rfl⟩:=JI.mp hu;obtain ⟨p,hp,rfl⟩:=JI.mp hx;let mp:=Wp hp;let R5:=R.qg (s1.trans s5);obtain ⟨dx,pP,pW,pB,kP,kW,kB,F5,W5⟩:=R5.ex;let mpn:p.nm∈(pX.map fun p=>(p.nm,qP p.sp)).map (·.1):=by rw [fK];exact AW.mpr ⟨p,mp,rfl⟩
  show ⟨_,rfl,a,C,dx,_,_,_,rfl,F5.obj,rfl,MW,_,rfl,a,dx,pP,pW,pB,_,_,kP,kW,kB,_,p.nm,p.ws,rfl,F5,W5,OM g.np,AW.mpr ⟨p,mp,rfl⟩,mpn,fun m vs H6 s6 n6 e6 p6=>?_⟩;let lv:vs.length=p.ws.length:=CV p6;show ⟨m,_,rfl,.inl (aV.of e6),k _ _ s6 ⟨p,hp,by rw [lv]⟩⟩
 intro ys H2 ly hr2 s2 hD
 let ey:ys=(pX.map fun p=>((p.ws.length:Nat):Int)).map V.int:=by
  refine N_ fun i=>?_;rw [AU,AU] at ly;by_cases hi:i<ys.length
  ·obtain ⟨p,ep,e⟩:=hr2 i _ (gE hi)
   rw [gE hi,e,AY,AY,ep];rfl
  ·rw [IW (ii hi),IW (by rw [AU,AU];omega)]
 rw [ey] at hD;show ⟨D2,_,rfl,aV.of hD,?_⟩;rw [yZ];let qu:=s1.trans s2;let F2:=F0.qg qu;show ⟨_,rfl,a,C,dx,_,_,_,rfl,F2.obj,rfl,MP,a,dx,pP,pW,pB,_,_,kP,kW,kB,rfl,F2,fun l3 H3 s3 n3 e3=>?_⟩;rw [fK] at e3;show ⟨l3,_,rfl,.inl (aV.of e3),_,rfl,?_⟩;let tZ:=qu.trans s3;let F3:=F0.qg tZ;show ⟨_,rfl,a,C,dx,_,_,_,rfl,F3.obj,rfl,MB,a,dx,pP,pW,pB,_,_,kP,kW,kB,rfl,F3,fun l4 H4 s4 n4 e4=>?_⟩;rw [mV] at e4;show ⟨l4,_,rfl,.inl (aV.of e4),?_⟩;let kJ:=tZ.trans s4;show ⟨_,rfl,a,pX,qe,rfl,R.qg kJ,g,wi,fun d5 kv5 cs5 H5 s5 e5 nd5 rk5 w5 l5 _=>?_⟩;show ⟨d5,kv5,rfl,.inl e5,?_⟩;let mj:=kJ.trans s5;show ⟨_,rfl,a,pX,qe,rfl,R.qg mj,g,fun d6 kv6 cs6 H6 s6 e6 nd6 rk6 l6=>?_⟩;show ⟨d6,kv6,rfl,.inl e6,z5L,?_⟩;intros t7 n7 H7 s7 e7;rw [AU,AU,AU,AU] at e7;rw [<-dl] at rk5;exact q t7 _ _ H7 (mj.trans (s6.trans s7)) e7 ⟨cs5,cs6,nd5,w5,l5,nd6,l6,rk6.turned rk5⟩
def ua (n t:Nat):List (Int×Int):=(DQ n ((0,1):Int×Int)).set t (-1,1)
def wC (h:(ua n t)[i]?=some d):d=if i=t then (-1,1) else (0,1):=by
 unfold ua at h;rw [Pq] at h;by_cases c:t=i
 ·rw [tu c,Vm] at h
  rw [tu c.symm];split at h
  ·exact (C_ h).symm
  ·cases h
 ·rw [qA c,Vk] at h
  rw [qA (fun z=>c z.symm)];split at h
  ·exact (C_ h).symm
  ·cases h
def af7:∀{ys:Ν} {n t:Nat},ys.length=n->t<n->sP ys ((ua n t).map vl)= -(ys.getD t 0):=fun {ys n t}=>by
 let v0:vl ((0,1):Int×Int)=0:=by decide+kernel
 let v1:vl ((-1,1):Int×Int)= -1:=by decide+kernel
 unfold ua
 induction ys generalizing n t with
 | nil=>
  intro h1 h2;simp at h1;omega
 | cons y ys ih=>
  intro h1 h2;obtain ⟨n,rfl⟩:∃m,n=m+1:=⟨n-1,bv⟩;rw [Rx]
  match t with
  | 0=>
   rw [aiS,BS,cw,List.map_replicate,v0,v1];let ez:DQ n (0:Rat)=(DQ n ()).map fun _=>(0:Rat):=by simp
   rw [ez,qZ];show y* -1+0= -y;grind
  | t+1=>
   rw [aiX,BS,cw,v0,ih (n:=n) (by simpa using h1) bv];show y*0+ -(ys.getD t 0)= -((y::ys).getD (t+1) 0);rw [List.getD_cons_succ];grind
inductive kA (K:Frag)(C:AO)(vs:ε)(H:Hp)(Q:VK)(E_:XK):Prop
|mk (a r:AO)(pX:θ)(qe:ρ)(ls:Β)(cu:List (List V:_))(bI:ξ)(t:Nat)(_:vs=[.ref a,.ref r,.int (t:Int)])(_:qQ K H C a pX qe)(_:bT pX qe)(_:iT K H r ls cu bI)(_:Shape 90 90 (2*pX.length) bI)(_:bI.length<=40)(_:t<bI.length)(_:(∀(p x:AO)(us:ε)(xs:Ν)(H':Hp),aq H H' ->H' p=some (.tup [.str "solved",.ref x])->H' x=some (.lst us)->Paired (gL K H') us xs->xs.length=2*pX.length->(∀r∈xs,Zb (zR pX.length) r)->(∀(i:Nat)(qs:π),bI[i]?=some qs->sP (qs.map vl) xs=if i=t then -1 else 0)->Q (.ref p) H'))(_:(∀(p y:AO)(us:ε)(ys:Ν)(H':Hp),aq H H' ->H' p=some (.tup [.str "paper",.ref y])->H' y=some (.lst us)->Paired (gL K H') us ys->ys.length=bI.length->(∀r∈ys,Zb (zR pX.length) r)->(∀j,j<2*pX.length->sP ys ((dR bI j).map vl)=0)->ys.getD t 0= -1->Q (.ref p) H'))
def Us:aC ["F","rows","at","due"] Wn (ae Ld):=sq
def abv (hN:∀H:Hp,bL K H aN [.int 0,.int 1])(vX:mg "NOUGHT"=some (.ref aN))(D:Def K mg "stretch_of" Ld Wn)(aL:mg "len"=none)(MP:am P w K mg qf 1 C "pins" JB (g8 K C))(aif:ac P w K mg qf 37 "solve_rows" Zn (v3 K)):
  ac P w K mg qf 38 "stretch_of" Wn (kA K C):=by
 refine D.oo Us fun H hr h=>?_;obtain ⟨a,r,pX,qe,ls,cu,bI,t,rfl,R,g,RR,sh,lq,ht,q1,q2⟩:=h;let gl:=g.lp;let big:(100:Nat)<=BL:=ce
 show ⟨_,(aa (aJ 3 Us.nd (aH BE (bW (aK (i5 (v:=.ref aN) rfl vX rfl))) (aD av rfl aL bM (aK (pv 1))))) (aa (ft (aZ (aT (uB om ag) ag)) (fS (pv 3) (pv 2) set_list)) (ah (aE (aS aif hr (bE (pv 1) (pv 3) (aH di ag (aD av rfl aL bM (aK (dy (k:=1) (pv 0) hr.mo (AG P w))))))))))),?_⟩;sleep 2
 show ⟨z1L,?_⟩;intros l5 n5 H5 s5 e5;let RR5:=RR.qg s5;let YD:ls.length=bI.length:=by rw [RR.kH.2.1,RR.num.1]
 show ⟨_,rfl,r,_,rfl,.inl (aV.of RR5.kH.1),l5,_,_,rfl,rfl,e5,bv,(by rw [AU];omega),(by rw [AU];simp;omega),?_⟩;intros l6 n6 H6 s6 e6;let aih:(DQ (((ls.map V.ref).length:Nat):Int).toNat [V.ref aN]).flatten=DQ ls.length (V.ref aN):=by simp
 rw [aih] at e6;show ⟨_,rfl,uo,?_⟩;intros p7 n7 H7 s7 e7
 let ix:BA (DQ ls.length (V.ref aN)).length (t:Int)=some t:=by
  rw [Vm];unfold BA;simp;exact nY ht YD
 show ⟨_,rfl,_,rfl,l6,_,_,t,rfl,rfl,s7 _ _ e6,ix,?_⟩;let s57:=s5.trans (s6.trans s7)
 let h8:aq H (upd H7 l6 (.lst ((DQ ls.length (V.ref aN)).set t (.ref p7)))):=fun b o z=>by
  rw [ak (fun e=>by rw [e] at z;erw [s5 _ _ z] at n6)];exact s57 _ _ z
 let e8:(upd H7 l6 (.lst ((DQ ls.length (V.ref aN)).set t (.ref p7)))) l6=some (.lst ((DQ ls.length (V.ref aN)).set t (.ref p7))):=aj;let p8:bL K (upd H7 l6 (.lst ((DQ ls.length (V.ref aN)).set t (.ref p7)))) p7 [.int (-1),.int 1]:=bL.of (by rw [ak (fun e=>by erw [e,s7 _ _ e6] at e7)];exact e7);generalize upd H7 l6 (.lst ((DQ ls.length (V.ref aN)).set t (.ref p7)))=H8 at h8 e8 p8 ⊢;let R8:=R.qg h8;obtain ⟨dx,pP,pW,pB,kP,kW,kB,F8,W8⟩:=R8.ex;let c2:uN 2 ((pX.length:Nat):Int):=⟨by decide+kernel,BX (intBits_le_64 bv bv) ce⟩;show ⟨_,rfl,_,rfl,_,rfl,a,C,dx,_,_,_,rfl,F8.obj,rfl,MP,a,dx,pP,pW,pB,_,_,kP,kW,kB,rfl,F8,fun lp H9 s9 u3 mT=>?_⟩;rw [fK] at mT;show ⟨lp,_,rfl,.inl (aV.of mT),_,_,rfl,rfl,(by rwa [AU,AU]),?_⟩;let em:(2:Int)*((((pX.map (·.nm)).map V.str).length:Nat):Int)=((2*pX.length:Nat):Int):=by rw [AU,AU];omega
 let Ut:=h8.trans s9;let RQ:=RR.qg Ut
 let R_:eJ K H9 ((DQ ls.length (V.ref aN)).set t (.ref p7)) (ua ls.length t):=by
  show ⟨by simp [ua],fun i u d e1 e2=>?_⟩;let ed:=wC e2;rw [Pq] at e1;by_cases c:t=i
  ·rw [tu c,Vm,tu (nY ht YD)] at e1
   rw [tu c.symm] at ed;cases e1;rw [ed];show ⟨p7,rfl,Ty.aq.bO s9 p8⟩
  ·rw [qA c,Vk] at e1
   rw [qA (fun z=>c z.symm)] at ed;split at e1
   ·cases e1
    rw [ed];show ⟨aN,rfl,hN _⟩
   ·cases e1
 let s01:Sm 90 90 ((0,1):Int×Int):=⟨ce,ce,by decide+kernel,by decide+kernel⟩;let NO:Sm 90 90 ((-1,1):Int×Int):=⟨ce,ce,by decide+kernel,by decide+kernel⟩;show ⟨r,l6,2*pX.length,ls,cu,bI,_,ua ls.length t,90,90,bb (90+90*(2*pX.length+1)) (2*pX.length+1),(by rw [<-em];rfl),RQ.kH,RQ.num,s9 _ _ e8,R_,by simp [YD,ua],sh,fun d hd=>?_,bv,bv,ce,bv,ce,vT _ (Nat.min_le_left _ _),afQ g.lp,?_,?_⟩
 ·obtain ⟨i,ei⟩:=IV hd
  rw [wC ei];split
  ·exact NO
  ·exact s01
 ·intro p x gm xs HA sA ep ex nx lx zx hx
  refine q1 p x gm (xs.map vl) HA (Ut.trans sA) ep ex (sr nx zx) (by rwa [AU]) (fun r hr=>?_) fun i qs e=>?_
  ·obtain ⟨q,hq,rfl⟩:=AW.mp hr
   exact Up (m:=0) (zx q hq) (ah9 _ _) (ah9 _ _)
  ·let hi:=(ir.mp e).1
   let hd:i<(ua ls.length t).length:=by simp [ua];exact jp YD hi
   let h2:=hx i qs _ e (gE hd);rw [qW,wC (gE hd)] at h2;rw [h2];split
   ·decide+kernel
   ·decide+kernel
 ·intro p y gm ys HA sA ep ey ny ly zy yL Sb
  refine q2 p y gm (ys.map vl) HA (Ut.trans sA) ep ey (sr ny zy) (by rwa [AU]) (fun r hr=>?_) (fun j hj=>?_) ?_
  ·obtain ⟨q,hq,rfl⟩:=AW.mp hr
   exact Up (m:=0) (zy q hq) (by unfold zR;omega) (ah9 _ _)
  ·have:=yL j hj
   rwa [qW] at this
  ·rw [qW,af7 (by rw [AU];omega) (nY ht YD)] at Sb
   grind
structure j0 (pX:θ)(qe:ρ)(x:Str)(M:ω):Prop where
 Xd:∀p∈pX,∀w∈p.ws,dt w (M p.nm)=0
 qe:∀b∈qe,yS M b=if b.nm=x then 1 else 0
theorem DC:∀(ys zs:Ν),sP (ys.map fun r=> -r) zs= -(sP ys zs)
 | [],_=>by simp [sP]
 | _::_,[]=>by simp [sP]
 | y::ys,z::zs=>by
  rw [BS,cw,cw,DC ys zs];grind
def oT (pX:θ)(qe:ρ)(h:qe[j]?=some b):(bh pX qe)[ay pX+j]?=some (dS (dD b) pX):=by
 let e:(pX.flatMap fun p=>lQ pX p).length=ay pX:=iU pX pX;unfold bh;rw [JZ bv,e,SH,AY,h];rfl
def acY (pX:θ)(qe:ρ)(hp:p∈pX){w:Rat×Rat}(hw:w∈p.ws):∃i,i<ay pX/\(bh pX qe)[i]?=some (dS (fO p.nm w) pX):=by
 let e:(pX.flatMap fun p=>lQ pX p).length=ay pX:=iU pX pX;let m:dS (fO p.nm w) pX∈pX.flatMap fun p=>lQ pX p:=Nz.mpr ⟨p,hp,AW.mpr ⟨w,hw,rfl⟩⟩;obtain ⟨i,ei⟩:=IV m;let hi:=(ir.mp ei).1;show ⟨i,jw e hi,?_⟩;unfold bh;rwa [JU hi]
def y4 (g:bT pX qe)(h0:qe[j]?=some b0)(h:∀(i:Nat)(qs:π),(bh pX qe)[i]?=some qs->sP (qs.map vl) (pX.flatMap fun p=>[(M p.nm).1,(M p.nm).2])=if i=ay pX+j then -1 else 0):j0 pX qe b0.nm M:=by
 show ⟨fun p hp w hw=>?_,fun b hb=>?_⟩
 ·obtain ⟨i,hi,ei⟩:=acY pX qe hp hw
  have:=h i _ ei;rwa [qX,qY g.np hp w M,qA bv] at this
 ·obtain ⟨k,ek⟩:=IV hb
  have:=h _ _ (oT pX qe ek);obtain ⟨m1,m2,m3⟩:=g.ends b hb;rw [qX,we g.np b m1 m2 m3] at this;by_cases c:b.nm=b0.nm
  ·let ekj:k=j:=bU g.nb (x:=b0.nm) (by rw [AY,ek,<-c];rfl) (by rw [AY,h0];rfl)
   rw [tu bv] at this;rw [tu c];grind
  ·let ekj:k≠j:=fun z=>c (by rw [z,h0] at ek;rw [C_ ek])
   rw [qA bv] at this;rw [qA c];grind
def Zb.neg (h:Zb n r):Zb n (-r):=by
 show ⟨?_,?_⟩
 ·rw [BO]
  show (-(qr r).1).natAbs<=_;rw [aiz];exact h.top
 ·rw [BO]
  exact h.bot
def sJ (pX:θ)(qe:ρ)(b:aI):bh pX (qe++[b])=bh pX qe++[dS (dD b) pX]:=by
 unfold bh;rw [IX,QW];rfl
def acE (g:bT pX (qe++[b])):bT pX qe:=⟨g.np,g.nb.sublist ((List.sublist_append_left _ _).map _),fun c hc=>g.ends c (M3 _ hc),g.sz,g.lp,by have:=g.lb;rw [CL] at this;omega,g.lw⟩
def zap (h:xs.length=n+1):eV xs none (some (-1))=xs.take n:=by
 unfold eV
 let e:HT.fm xs.length xs.length (some (-1))=n:=by
  rw [h];unfold HT.fm;simp;omega
 rw [e];rfl
inductive abw (K:Frag)(C a:AO)(x one qz:Str)(H:Hp)(Q:VK):Prop
|mk (pX:θ)(qe:ρ)(b:aI)(_:qQ K H C a pX qe)(_:bT pX (qe++[b]))(_:b.nm=x)(_:b.one.nm=one)(_:b.qz.nm=qz)(_:(∀(M:ω)(p dM:AO)(kM:δ)(H':Hp),aq H H' ->H' p=some (.tup [.str "stiffer",.ref dM])->MoR K H H' pX dM kM M->j0 pX (qe++[b]) x M->(∀p∈pX,Zb (zR pX.length) (M p.nm).1/\Zb (zR pX.length) (M p.nm).2)->Q (.ref p) H'))(_:(∀(T:Ι)(U:χ)(Lx:Str->AO)(p dT dU:AO)(kT kU:δ)(H':Hp),aq H H' ->H' p=some (.tup [.str "spare",.ref dT,.ref dU])->PPR K H H' pX (qe++[b]) dT dU kT kU T U Lx->fM pX (qe++[b]) T U->T x=1->(∀c∈qe++[b],Zb (zR pX.length) (T c.nm))->(∀p∈pX,∀u∈U p.nm,Zb (zR pX.length) u)->Q (.ref p) H'))
inductive lX (K:Frag)(C:AO)(vs:ε)(H:Hp)(Q:VK)(E_:XK):Prop
|mk (a dx pP pW pB:AO)(ps:Κ)(bs:Α)(kP kW kB:δ)(x one qz:Str)(_:vs=[.ref a,.str x,.str one,.str qz])(_:fq K H C a dx pP pW pB ps bs kP kW kB)(_:x∉bs.map (·.1))(_:one∈ps.map (·.1))(_:qz∈ps.map (·.1))(_:one≠qz)(_:bs.length<60)(_:abw K C a x one qz H Q)
def eh:aC ["F","name","one","other","rows","told","own","forces","pulls"] Wq (ae fe):=sq
def ag' (D:Def K mg "would_put" fe Wq)(aL:mg "len"=none)(MCb:am P w K mg qf 2 C "check_bar" Oi (g9 K C))
  (C':ac P w K mg qf 38 "draw_rows" JR (fZ K C)) (WR:ac P w K mg qf 37 "bar_row" Oh (mU K C)) (Xe:ac P w K mg qf 38 "stretch_of" Wn (kA K C)) (Xf:ac P w K mg qf 1 "signs_turned" V7 (q4 K)) (OZ:ac P w K mg qf 2 "motion_from" OF (jT K C)) (OW:ac P w K mg qf 3 "pulls_and_pushes" OF (OP K C)):
  ac P w K mg qf 39 "would_put" Wq (lX K C):=by
 refine D.op eh fun f cD A qw s H vs Q E hr h=>?_;obtain ⟨a,dx,pP,pW,pB,ps,bs,kP,kW,kB,x,one,qz,rfl,R0,x0,x1,x2,x3,x4,q⟩:=h
 show ⟨_,(aa (bx (cT (k:=2) (pv 0) hr.mo (pY P w) (bE (pv 1) (pv 2) (pv 3)))) (aa (aJ 4 eh.nd (aH i8 (aS C' hr (aK (pv 0))) (bW (aK (aS WR hr (bE (pv 0) (pv 2) (pv 3))))))) (aa (aJ 5 eh.nd (aS Xe hr (bE (pv 0) (pv 4) (aH dc (aD av rfl aL bM (aK (pv 4))) ag)))) (aa (bg (bB cZ (aF (pv 5)) cy) (ah (aE (aZ (aT cy (aS OZ hr (aT (pv 0) (aF (pv 5)))))))) aR) (aa (aJ 6 eh.nd (aS Xf hr (aK (aF (pv 5))))) (aa (aJ 7 eh.nd (aS OW hr (aT (pv 0) (dB ig (pv 6) ie (dh (uB om ag)))))) (aa (aJ 8 eh.nd (aF (pv 7))) (aa (fE (cf hr) (pv 8) (pv 1) (bG aU (pv 6) (uB om ag)) rfl) (ah (aE (aZ (bE cy (pv 8) (aF (pv 7)))))))))))))),?_⟩;sleep 8
 show ⟨_,rfl,a,C,dx,_,_,_,rfl,R0.obj,rfl,MCb,_,rfl,_,rfl,_,rfl,a,dx,pP,pW,pB,ps,bs,kP,kW,kB,x,one,qz,rfl,R0,x0,x1,x2,x3,x4,?_⟩;obtain ⟨pX,qe,b,R,g,rfl,rfl,rfl,q1,q2⟩:=q;let g0:=acE g;let gl:=g.lp;let gb:=g.lb;rw [CL,NP] at gb;let wl:ay pX<=2*pX.length:=gf pX g.lw;let ql:(bh pX qe).length=ay pX+qe.length:=fj pX qe;obtain ⟨m1,m2,m3⟩:=g.ends b (Ma _ CU);let ebj:(qe++[b])[qe.length]?=some b:=by rw [JZ (BW _),al_];rfl
 show ⟨_,rfl,a,pX,qe,rfl,R,g0,fun r ls cu H1 s1 nr RR=>?_⟩;let YD:ls.length=(bh pX qe).length:=by rw [RR.kH.2.1,RR.num.1]
 show ⟨_,rfl,_,rfl,_,rfl,a,pX,qe,b,rfl,R.qg s1,g0,m1,m2,m3,fun l us H2 s2 nl el nm=>⟨z1L,?_⟩⟩;intros l3 n3 H3 s3 e3;let vO:=s2.trans s3;show ⟨r,l3,_,_,rfl,rfl,vO _ _ RR.kH.1,e3,(by rw [AU];exact BX (show ls.length+1<=100 by omega) ce),?_⟩;intros r4 n4 H4 s4 e4;let Qj:=vO.trans s4;let kJ:=s1.trans Qj
 let RR4:iT K H4 r4 (ls++[l]) (cu++[us]) (bh pX (qe++[b])):=by
  rw [sJ];let el4:=(s3.trans s4) _ _ el;show ⟨⟨by rw [e4,IX];rfl,by simp [RR.kH.2.1],HG RR.kH.2.1 (fun i l' vs e1 e2=>Qj _ _ (RR.kH.2.2 i l' vs e1 e2)) el4⟩,sj (RR.num.qg Qj) (nm.qg (s3.trans s4)),fun z=>?_⟩
  rcases DL.mp z with z|z
  ·obtain ⟨i,ei⟩:=IV z
   let hi:=(ir.mp ei).1;let e5:=RR.kH.2.2 i r4 _ ei (gE (by have:=RR.kH.2.1;exact oZ hi this));erw [vO _ _ e5] at n4
  ·rw [IZ.mp z,s3 _ _ el] at n4
   cases n4
 show ⟨_,rfl,_,rfl,_,rfl,r4,_,rfl,.inl (aV.of e4),_,_,rfl,rfl,?_⟩
 let et:(((ls.map V.ref++[V.ref l]).length:Nat):Int)-1=((ay pX+qe.length:Nat):Int):=by
  rw [CL,AU,NP];omega
 rw [et];let ql2:(bh pX (qe++[b])).length=ay pX+qe.length+1:=by rw [sJ,CL,ql];rfl
 show ⟨a,r4,pX,qe,ls++[l],cu++[us],bh pX (qe++[b]),ay pX+qe.length,rfl,R.qg kJ,g0,RR4,fun qs hq=>eZ g qs hq,bv,bv,?_,?_⟩
 ·intro p y us xs HA sA ep ex nx lx zx Qg
  show ⟨_,rfl,p,_,_,_,rfl,rfl,bL.of ep,rfl,rfl,_,rfl,bf (fun _=>?_) (fun c=>BH (by simp [jI]) c)⟩;let O1:=kJ.trans sA;show ⟨_,rfl,_,rfl,p,_,_,_,rfl,rfl,bL.of ep,rfl,true,a,y,pX,qe,us,xs,rfl,R.qg O1,g0,ex,qV nx,lx,fun M dM kM HB sB eM nM hM ks tM=>⟨uo,?_⟩⟩;let tM:=tM rfl;intros pt nC HC sC eC;rw [eM] at Qg zx;refine q1 M pt dM kM HC (O1.trans (sB.trans sC)) eC ⟨O1.free nM,sC _ _ hM,ks,fun p hp=>?_⟩ (y4 g ebj Qg) fun p hp=>?_
  ·obtain ⟨t,v1,v2,h1,h2,h3,h4⟩:=tM p hp
   show ⟨t,v1,v2,h1,sC _ _ h2,h3.qg sC,h4.qg sC⟩
  ·show ⟨zx _ (Nz.mpr ⟨p,hp,CU⟩),zx _ (Nz.mpr ⟨p,hp,DM _ CU⟩)⟩
 ·intro p y us ys HA sA ep ey ny ly zy yL Sb
  show ⟨_,rfl,p,_,_,_,rfl,rfl,bL.of ep,rfl,rfl,_,rfl,bf (fun c=>BH c (by simp [jI];decide+kernel)) (fun _=>?_)⟩;let O1:=kJ.trans sA;let lus:us.length=ys.length:=CV ny;show ⟨_,rfl,p,_,_,_,rfl,rfl,bL.of ep,rfl,y,us,ys,rfl,ey,ny,bv,fun l9 WG HB sB eB pB'=>?_⟩;let Xg:=O1.trans sB;let l99:WG.length=ay pX+qe.length+1:=by rw [CV pB',AU];omega
  obtain ⟨N,eN⟩:∃N,N=ay pX+qe.length:=⟨_,rfl⟩;rw [<-eN] at l99 Sb;rw [ql2,<-eN] at ly
  let y1:(ys.map fun r=> -r)[N]?=some 1:=by
   rw [AY,gE (show N<ys.length by omega)];rw [JE,gE (show N<ys.length by omega)] at Sb;have ail :ys[N]= -1:=Sb;show some (-ys[N])=some 1;rw [ail];rfl
  let full:(ys.map fun r=> -r)=(ys.map fun r=> -r).take N++[1]:=by
   let h1:=(Ry N (ys.map fun r=> -r)).symm
   let h2:(ys.map fun r=> -r).drop N=[1]:=by
    refine N_ fun i=>?_;rw [List.getElem?_drop]
    match i with
    | 0=>exact y1
    | i+1=>rw [IW (by rw [AU];omega)];rfl
   rwa [h2] at h1
  show ⟨_,rfl,_,rfl,_,rfl,_,rfl,l9,_,rfl,aV.of eB,?_⟩;rw [zap l99];intros l10 n10 HC AF e10;let YE:=Xg.trans AF;show ⟨true,a,l10,pX,qe,WG.take N,(ys.map fun r=> -r).take N,rfl,R.qg YE,g0,e10,qV (jh _ (Paired.bP pB' fun _ _ z=>z.qg AF)),by rw [JT,AU];omega,fun T U Lx pf dT dU kT kU HD sD er Xh PR=>?_⟩;let PR:=PR rfl;let sBD:=AF.trans sD;obtain ⟨v,ev,nv⟩:=aA (bN pB') y1
  let lkT:kT.length<=14:=by
   have:=ud O3 PR.yQ;rw [AU,AU] at this;omega
  let ate:ib WG (-1)=some v:=afP (by rw [l99];exact ev);show ⟨_,rfl,pf,_,_,_,rfl,rfl,bL.of Xh,rfl,_,rfl,_,rfl,l9,_,_,_,rfl,rfl,aV.of (sBD _ _ eB),ate,_,rfl,_,rfl,dT,_,rfl,jx.k (k:=.inr b.nm) PR.hT (IY (show kT.length<=1000 by omega) ce),?_⟩
  let YF:b.nm∉qe.map (·.nm):=fun z=>by
   have:=g.nb;rw [IX,Po] at this;exact this.2.2 b.nm z b.nm CU rfl
  let Q0:(J' b.nm:Key)∉kT.map (·.1):=by
   rw [PR.yQ];intro z;obtain ⟨c,hc,e⟩:=AW.mp z;exact YF (AW.mpr ⟨c,hc,Ky e⟩)
  rw [dq _ (b_ Q0)];let kE:∀b' o,b'≠dT->HD b'=some o->(upd HD dT (.dK (kT++[(.inr b.nm,v)]))) b'=some o:=fun b' o n e=>by rwa [ak n]
  let eE:(upd HD dT (.dK (kT++[(.inr b.nm,v)]))) dT=some (.dK (kT++[(.inr b.nm,v)])):=aj;let tE:bq HD (upd HD dT (.dK (kT++[(.inr b.nm,v)]))):=.dict PR.hT;generalize upd HD dT (.dK (kT++[(.inr b.nm,v)]))=HE at kE eE tE ⊢;let aim:=kE _ _ (fun z=>by erw [z,PR.hT] at Xh) Xh;show ⟨_,rfl,_,rfl,pf,_,_,_,rfl,rfl,bL.of aim,rfl,z3L,?_⟩;intros pt nF HF sF eF;let sx:aq H HF:=fun b' o e=>sF _ _ (kE _ _ (fun z=>by erw [z,YE.free PR.nT] at e) (sD _ _ (YE _ _ e)));obtain ⟨T',t1,t2⟩:∃T':Str->Rat,T' b.nm=1/\∀y,y≠b.nm->T' y=T y:=⟨fun y=>if y=b.nm then 1 else T y,tu rfl,fun y h=>qA h⟩;let nbc:∀c∈qe,c.nm≠b.nm:=fun c hc z=>YF (by rw [<-z];exact AW.mpr ⟨c,hc,rfl⟩)
  let al:(pX.flatMap fun q=>U q.nm)++(qe++[b]).map (fun c=>T' c.nm)=ys.map fun r=> -r:=by
   rw [full,er,IX,QW];congr 2
   ·exact NF fun c hc=>t2 _ (nbc c hc)
   ·show [T' b.nm]=[1]
    rw [t1]
  let mem:∀r∈(pX.flatMap fun p=>U p.nm)++(qe++[b]).map (fun c=>T' c.nm),Zb (zR pX.length) r:=fun r hr=>by
   rw [al] at hr;obtain ⟨z,hz,rfl⟩:=AW.mp hr;exact (zy z hz).neg
  let col:∀k,k<2*pX.length->sP ((pX.flatMap fun q=>U q.nm)++(qe++[b]).map (fun c=>T' c.nm)) ((dR (bh pX (qe++[b])) k).map vl)=0:=fun k hk=>by
   rw [al,DC,yL k hk];grind
  refine q2 T' U Lx pt dT dU (kT++[(.inr b.nm,v)]) kU HF sx eF ⟨YE.free PR.nT,YE.free PR.nU,PR.ne,sF _ _ eE,sF _ _ (kE _ _ (CA PR.ne) PR.hU),by rw [IX,PR.yQ,IX];rfl,PR.L8,fun c hc=>?_,fun p hp=>?_,PR.lU,PR.inj⟩ (ku g PR.lU col) t1 (fun c hc=>mem _ (Ma _ (AW.mpr ⟨c,hc,rfl⟩))) fun p hp u hu=>mem _ (M3 _ (Nz.mpr ⟨p,hp,hu⟩))
  ·rcases DL.mp hc with z|z
   ·obtain ⟨w',h1,h2⟩:=PR.tT c z
    let hz:=nbc c z;show ⟨w',?_,by rw [t2 _ (nbc c z)];exact (h2.aX tE).qg sF⟩;rwa [ka _ _ _ _ (b_ Q0),qA (fun z=>hz (Ky z))]
   ·rw [IZ.mp z,t1]
    show ⟨v,?_,((nv.qg sBD).aX tE).qg sF⟩;rw [ka _ _ _ _ (b_ Q0),tu rfl]
  ·obtain ⟨vs,h1,h2,h3,h4⟩:=PR.tU p hp
   show ⟨vs,h1,YE.free h2,sF _ _ (kE _ _ (fun z=>by erw [z,PR.hT] at h3) h3),Paired.bP h4 fun _ _ z=>(z.aX tE).qg sF⟩
inductive sL (K:Frag)(C:AO)(vs:ε)(H:Hp)(Q:VK)(E_:XK):Prop
|mk (a:AO)(pX:θ)(qe:ρ)(x:Str)(_:vs=[.ref a,.str x])(_:qQ K H C a pX qe)(_:bT pX qe)(_:x∈qe.map (·.nm))(_:(∀(M:ω)(p dM:AO)(kM:δ)(H':Hp),aq H H' ->H' p=some (.tup [.str "looser",.ref dM])->MoR K H H' pX dM kM M->j0 pX qe x M->(∀p∈pX,Zb (zR pX.length) (M p.nm).1/\Zb (zR pX.length) (M p.nm).2)->Q (.ref p) H'))(_:(∀(T:Ι)(U:χ)(Lx:Str->AO)(p dT dU:AO)(kT kU:δ)(H':Hp),aq H H' ->H' p=some (.tup [.str "less",.ref dT,.ref dU])->PPR K H H' pX qe dT dU kT kU T U Lx->fM pX qe T U->T x=1->(∀b∈qe,Zb (zR pX.length) (T b.nm))->(∀p∈pX,∀u∈U p.nm,Zb (zR pX.length) u)->Q (.ref p) H'))
def y6:aC ["F","name","bars","rows","told","forces"] ["F","name"] (ae Lc):=sq
def abx (D:Def K mg "would_take" Lc ["F","name"])(aL:mg "len"=none)(MB:am P w K mg qf 1 C "bars" JB (jR K C))
  (C':ac P w K mg qf 38 "draw_rows" JR (fZ K C)) (Xe:ac P w K mg qf 38 "stretch_of" Wn (kA K C)) (Xf:ac P w K mg qf 1 "signs_turned" V7 (q4 K)) (OZ:ac P w K mg qf 2 "motion_from" OF (jT K C)) (OW:ac P w K mg qf 3 "pulls_and_pushes" OF (OP K C)):
  ac P w K mg qf 39 "would_take" ["F","name"] (sL K C):=by
 refine D.op y6 fun f cD A qw s H vs Q E hr h=>?_;obtain ⟨a,pX,qe,x,rfl,R,g,hx,q1,q2⟩:=h;let gl:=g.lp;let gb:=g.lb;let wl:ay pX<=2*pX.length:=gf pX g.lw;let ql:(bh pX qe).length=ay pX+qe.length:=fj pX qe
 show ⟨_,(aa (aJ 2 y6.nd (dy (k:=1) (pv 0) hr.mo (pY P w))) (aa (bg (my mD (pv 1) (pv 2) rfl) (ah (dA)) aR) (aa (aJ 3 y6.nd (aS C' hr (aK (pv 0)))) (aa (aJ 4 y6.nd (aS Xe hr (bE (pv 0) (pv 3) (aH bV (aH dc (aD av rfl aL bM (aK (pv 3))) (aD av rfl aL bM (aK (pv 2)))) (jq Of PySem.F.slot_list_index PySem.F.type_list_index af4 (pv 2) (aK (pv 1))))))) (aa (bg (bB cZ (aF (pv 4)) cy) (ah (aE (aZ (aT cy (aS OZ hr (aT (pv 0) (aF (pv 4)))))))) aR) (aa (aJ 5 y6.nd (aS OW hr (aT (pv 0) (aS Xf hr (aK (aF (pv 4))))))) (ah (aE (aZ (bE cy (aF (pv 5)) (aF (pv 5)))))))))))),?_⟩;sleep 6
 obtain ⟨dx,pP,pW,pB,kP,kW,kB,F1,W1⟩:=R.ex;show ⟨_,rfl,a,C,dx,_,_,_,rfl,F1.obj,rfl,MB,a,dx,pP,pW,pB,_,_,kP,kW,kB,rfl,F1,fun lb H1 s1 nlb CQ=>?_⟩;rw [mV] at CQ;show ⟨_,rfl,_,rfl,lb,_,rfl,.inl (aV.of CQ),rfl,afu _,_,rfl,?_⟩;refine bf (fun c=>?_) (fun c=>?_)
 ·let c':(!Q7 (.str x) ((qe.map (·.nm)).map V.str))=true:=c
  let nx:x∉qe.map (·.nm):=fun z=>by
   erw [yz,JO z] at c'
  exact BH hx nx
 obtain ⟨j,ej⟩:=IV hx
 let hj:j<qe.length:=by
  have:=(ir.mp ej).1;rwa [AU] at this
 obtain ⟨b0,eb⟩:∃b0,qe[j]?=some b0:=⟨_,gE hj⟩
 let xb:x=b0.nm:=by
  rw [AY,eb] at ej;exact (C_ ej).symm
 let first:∀i,i<j->(qe.map (·.nm))[i]? ≠some x:=fun i hi e=>by
  have:=bU g.nb e ej;omega
 show ⟨_,rfl,a,pX,qe,rfl,R.qg s1,g,fun r ls cu H2 s2 nr RR=>?_⟩;let YD:ls.length=(bh pX qe).length:=by rw [RR.kH.2.1,RR.num.1]
 let Xi:=s2 _ _ CQ
 let et:((ls.map V.ref).length:Int)-(((qe.map (·.nm)).map V.str).length:Int)+(j:Int)=((ay pX+j:Nat):Int):=by
  rw [AU,AU,AU];omega
 show ⟨_,rfl,_,rfl,_,rfl,r,_,rfl,.inl (aV.of RR.kH.1),_,rfl,lb,_,rfl,.inl (aV.of Xi),_,_,rfl,rfl,_,rfl,.inl ⟨rfl,_,aV.of Xi⟩,_,rfl,lb,_,x,j,rfl,rfl,Xi,(by rw [AU];omega),ej,first,_,_,rfl,rfl,?_⟩;rw [et];let qu:=s1.trans s2;show ⟨a,r,pX,qe,ls,cu,bh pX qe,ay pX+j,rfl,R.qg qu,g,RR,fun qs hq=>eZ g qs hq,bv,bv,?_,?_⟩
 ·intro p y us xs HA sA ep ex nx lx zx Qg
  show ⟨_,rfl,p,_,_,_,rfl,rfl,bL.of ep,rfl,rfl,_,rfl,bf (fun _=>?_) (fun c=>BH (by simp [jI]) c)⟩;let O1:=qu.trans sA;show ⟨_,rfl,_,rfl,p,_,_,_,rfl,rfl,bL.of ep,rfl,true,a,y,pX,qe,us,xs,rfl,R.qg O1,g,ex,qV nx,lx,fun M dM kM HB sB eM nM hM ks tM=>⟨uo,?_⟩⟩;let tM:=tM rfl;intros pt nC HC sC eC;rw [eM] at Qg zx;refine q1 M pt dM kM HC (O1.trans (sB.trans sC)) eC ⟨O1.free nM,sC _ _ hM,ks,fun p hp=>?_⟩ (by rw [xb];exact y4 g eb Qg) fun p hp=>?_
  ·obtain ⟨t,v1,v2,h1,h2,h3,h4⟩:=tM p hp
   show ⟨t,v1,v2,h1,sC _ _ h2,h3.qg sC,h4.qg sC⟩
  ·show ⟨zx _ (Nz.mpr ⟨p,hp,CU⟩),zx _ (Nz.mpr ⟨p,hp,DM _ CU⟩)⟩
 ·intro p y us ys HA sA ep ey ny ly zy yL Sb
  show ⟨_,rfl,p,_,_,_,rfl,rfl,bL.of ep,rfl,rfl,_,rfl,bf (fun c=>BH c (by simp [jI];decide+kernel)) (fun _=>?_)⟩;let O1:=qu.trans sA;let lus:us.length=ys.length:=CV ny;show ⟨_,rfl,_,rfl,p,_,_,_,rfl,rfl,bL.of ep,rfl,y,us,ys,rfl,ey,ny,bv,fun l9 WG HB sB eB pB=>?_⟩;let Xg:=O1.trans sB;show ⟨true,a,l9,pX,qe,WG,_,rfl,R.qg Xg,g,eB,qV pB,by rw [AU,ly,ql],fun T U Lx pf dT dU kT kU HC sC er Xh PR=>?_⟩;let PR:=PR rfl;show ⟨_,rfl,pf,_,_,_,rfl,rfl,bL.of Xh,rfl,_,rfl,pf,_,_,_,rfl,rfl,bL.of Xh,rfl,z3L,?_⟩;intros pt nD HD sD eD;let sx:=Xg.trans (sC.trans sD)
  let mem:∀r∈(pX.flatMap fun p=>U p.nm)++qe.map (fun b=>T b.nm),Zb (zR pX.length) r:=fun r hr=>by
   rw [<-er] at hr;obtain ⟨z,hz,rfl⟩:=AW.mp hr;exact (zy z hz).neg
  let col:∀k,k<2*pX.length->sP ((pX.flatMap fun q=>U q.nm)++qe.map (fun b=>T b.nm)) ((dR (bh pX qe) k).map vl)=0:=fun k hk=>by
   rw [<-er,DC,yL k hk];grind
  let tx:T x=1:=by
   let e1:((pX.flatMap fun q=>U q.nm)++qe.map (fun b=>T b.nm)).getD (ay pX+j) 0=T x:=by
    rw [JE,JZ (by rw [dE PR.lU];exact nQ),dE PR.lU,SH,AY,eb,xb];rfl
   rw [<-er,JE,AY] at e1;rw [JE] at Sb;let hl:ay pX+j<ys.length:=bv
   rw [gE hl] at Sb e1;let h1:ys[ay pX+j]= -1:=Sb;let h2: -ys[ay pX+j]=T x:=e1;rw [<-h2,h1];grind
  refine q2 T U Lx pt dT dU kT kU HD sx eD ⟨Xg.free PR.nT,Xg.free PR.nU,PR.ne,sD _ _ PR.hT,sD _ _ PR.hU,PR.yQ,PR.L8,fun b hb=>?_,fun p hp=>?_,PR.lU,PR.inj⟩ (ku g PR.lU col) tx (fun b hb=>mem _ (Ma _ (AW.mpr ⟨b,hb,rfl⟩))) fun p hp u hu=>mem _ (M3 _ (Nz.mpr ⟨p,hp,hu⟩))
  ·obtain ⟨v,h1,h2⟩:=PR.tT b hb
   show ⟨v,h1,h2.qg sD⟩
  ·obtain ⟨vs,h1,h2,h3,h4⟩:=PR.tU p hp
   show ⟨vs,h1,Xg.free h2,sD _ _ h3,Paired.bP h4 fun _ _ z=>z.qg sD⟩
theorem sM {Z β:Type}(f:Z->β->Rat)(bs:List β):∀as:List Z,(as.map fun a=>(bs.map fun b=>f a b).sum).sum=(bs.map fun b=>(as.map fun a=>f a b).sum).sum
 | []=>by
  induction bs with
  | nil=>rfl
  | cons b bs ih=>
   rw [BS,Kv,<-ih];simp only [Mi,RM];grind
 | a::as=>by
  rw [BS,Kv,sM f bs as];clear sM
  induction bs with
  | nil=>
   simp only [Mi,RM];grind
  | cons b bs ih=>
   simp only [BS,Kv] at ih ⊢;grind
theorem HQ {Z:Type}(t:Rat)(f:Z->Rat):∀l:List Z,(l.map fun a=>t*f a).sum=t*(l.map f).sum
 | []=>by
  simp only [Mi,RM];grind
 | a::l=>by
  rw [BS,Kv,BS,Kv,HQ t f l];grind
theorem sum_neg {Z:Type}(f:Z->Rat):∀l:List Z,(l.map fun a=> -(f a)).sum= -(l.map f).sum
 | []=>by
  simp only [Mi,RM];grind
 | a::l=>by
  rw [BS,Kv,BS,Kv,sum_neg f l];grind
theorem Uu (m:Rat×Rat):∀(us:Ν)(ws:υ),sP us (ws.map (·.1))*m.1+sP us (ws.map (·.2))*m.2=sP us (ws.map fun w=>dt w m)
 | [],_=>by
  simp only [g_];grind
 | _::_,[]=>by
  simp [sP];grind
 | u::us,w::ws=>by
  let ih:=Uu m us ws;simp only [BS,cw];unfold dt at ih ⊢;grind
theorem HR (T:Ι)(p:ar)(m:Rat×Rat):∀qe:List aI,(qe.map fun b=>T b.nm*(mv (dD b) p.nm).1).sum*m.1+(qe.map fun b=>T b.nm*(mv (dD b) p.nm).2).sum*m.2=(qe.map fun b=>T b.nm*dt (mv (dD b) p.nm) m).sum
 | []=>by
  simp only [Mi,RM];grind
 | b::qe=>by
  let ih:=HR T p m qe;simp only [BS,Kv];unfold dt at ih ⊢;grind
def adz {ws:υ}(us:Ν)(h:∀w∈ws,dt w m=0):sP us (ws.map fun w=>dt w m)=0:=by
 have:(ws.map fun w=>dt w m)=ws.map fun _=>(0:Rat):=NF h;rw [this];exact qZ us ws
def aio (g:bT pX qe)(h:CW pX qe T U L)(hw:∀p∈pX,∀w∈p.ws,dt w (M p.nm)=0):OQ pX L M=(qe.map fun b=>T b.nm*yS M b).sum:=by
 let e1:∀p∈pX,dt (mv L p.nm) (M p.nm)= -((qe.map fun b=>T b.nm*dt (mv (dD b) p.nm) (M p.nm)).sum):=fun p hp=>by
  obtain ⟨r1,r2⟩:=h p hp;unfold fL at r1 r2;let a:=Uu (M p.nm) (U p.nm) p.ws;rw [adz _ (hw p hp)] at a;let b:=HR T p (M p.nm) qe;rw [<-b];unfold dt;grind
 unfold OQ;rw [NF e1,sum_neg,sM (fun (p:ar) (b:aI)=>T b.nm*dt (mv (dD b) p.nm) (M p.nm)) qe pX]
 let e2:∀b∈qe,(pX.map fun p=>T b.nm*dt (mv (dD b) p.nm) (M p.nm)).sum= -(T b.nm*yS M b):=fun b hb=>by
  obtain ⟨m1,m2,m3⟩:=g.ends b hb;rw [HQ (T b.nm) (fun p:ar=>dt (mv (dD b) p.nm) (M p.nm)) pX,we g.np b m1 m2 m3];grind
 rw [NF e2,sum_neg];grind
theorem HS:∀(a b:Ν),sP a b=sP b a
 | [],b=>by cases b<;>simp [sP]
 | x::a,[]=>by simp [sP]
 | x::a,y::b=>by
  rw [cw,cw,HS a b];grind
def fP (m:Nat)(r:π)(z:Nat->Rat):Rat:=Ty.sumTo m fun i=>vl (r.getD i (0,1))*z i
def Mh (m:Nat)(bI:ξ)(z:Nat->Rat):Prop:=∀qs∈bI,fP m qs z=0
def wG (m:Nat)(r:π)(x y:Nat->Rat)(c:Rat):fP m r (fun i=>x i+c*y i)=fP m r x+c*fP m r y:=by
 unfold fP;rw [<-Ty.iL,<-Ty.oH];exact iV _ _ _ fun i _=>by grind
def Mh.kQ (h:Mh m bI x)(k:Mh m bI y)(c:Rat):Mh m bI fun i=>x i+c*y i:=fun qs hq=>by
 rw [wG,h qs hq,k qs hq];grind
def HU (m:Nat)(bI:ξ):∃cs,Nd m bI cs:=⟨(JA m).filter fun c=> @decide (¬ gC m bI c) (Rb _),aij.filter _,fun c=>by
 rw [N0,JW, @decide_eq_true_iff _ (Rb _)]⟩
def least {P:Nat->Prop}:∀n,P n->∃k,P k/\∀j,j<k->¬ P j:=fun n=>by
 induction n using Nat.strongRecOn with
 | ind n ih=>
  intro hn;by_cases c:∃j,j<n/\P j
  ·obtain ⟨j,hj,pj⟩:=c
   exact ih j hj pj
  ·show ⟨n,hn,fun j hj pj=>c ⟨j,hj,pj⟩⟩
def ady (h:∀z,Mh m A z ↔ Mh m B z)(ha:Nd m A ca)(hb:Nd m B cb):ca.length=cb.length:=by
 let e:∀c,gC m A c ↔ gC m B c:=fun c=>⟨fun ⟨z,a,b,d⟩=>⟨z,a,b,(h z).mp d⟩,fun ⟨z,a,b,d⟩=>⟨z,a,b,(h z).mpr d⟩⟩;rw [m9 ha.1 hb.1 fun c=>by rw [ha.2 c,hb.2 c,e c]]
def adt (h:∀z,Mh m A z ↔ Mh m B z/\fP m r z=0)(hM:Mh m B M)(hr:fP m r M≠0)(ha:Nd m A ca)(hb:Nd m B cb):ca.length=cb.length+1:=by
 let cut:∀(q:π)(z:Nat->Rat),fP m q (fun i=>if i<m then z i else 0)=fP m q z:=fun q z=>iV _ _ _ fun i hi=>by
  show _*(if i<m then z i else 0)=_;rw [tu hi]
 let nz:∀{z:Nat->Rat} (k:Nat),(∀j,k<=j->z j=0)->fP m r z≠0->∃c,c<k/\z c≠0/\∀j,c<j->z j=0:=fun {z} k hk hz=>by
  refine wm k hk (Md fun no=>hz ?_);refine Ty.gX _ _ fun i=>?_;have:z i=0:=Md fun y=>no ⟨i,y⟩;rw [this];grind
 obtain ⟨c1,hc1,hz1,tJ⟩:=nz (z:=fun i=>if i<m then M i else 0) m (fun j hj=>qA bv) (by rwa [cut]);obtain ⟨c0,⟨hc0,z0,n0,f0,l0,b0⟩,lst⟩:=least (P:=fun c=>c<m/\∃z,Mh m B z/\fP m r z≠0/\z c≠0/\∀j,c<j->z j=0) c1 ⟨hc1,_,fun qs hq=>by rw [cut];exact hM qs hq,by rwa [cut],hz1,tJ⟩
 let aip:¬ gC m A c0:=fun ⟨z,za,zb,zn⟩=>by
  obtain ⟨zB,z0'⟩:=(h z).mp zn
  let e1:fP m r (fun i=>z0 i+ -(z0 c0 / z c0)*z i)≠0:=by
   rw [wG,z0'];intro q;exact f0 (by grind)
  obtain ⟨c,hc,hcz,hcb⟩:=nz c0 (fun j hj=>by
   by_cases e:j=c0
   ·rw [e]
    grind
   ·rw [b0 j bv,zb j bv]
    grind) e1
  exact lst c hc ⟨bv,_,n0.kQ zB _,e1,hcz,hcb⟩
 let iff:∀c,c<m->(gC m B c ↔ gC m A c\/c=c0):=fun c hc=>by
  constructor
  ·rintro ⟨z,za,zb,zn⟩
   by_cases e:fP m r z=0
   ·exact .inl ⟨z,za,zb,(h z).mpr ⟨zn,e⟩⟩
   ·by_cases c':c=c0
    ·exact .inr c'
    ·let lt:c0<c:=by
      rcases Nat.lt_or_ge c c0 with q|q
      ·exact BH ⟨hc,z,zn,e,za,zb⟩ (lst c q)
      ·omega
     refine .inl ⟨fun i=>z i+ -(fP m r z / fP m r z0)*z0 i,?_,fun i hi=>?_,(h _).mpr ⟨Mh.kQ zn n0 _,?_⟩⟩
     ·show z c+ -(fP m r z / fP m r z0)*z0 c≠0
      rw [b0 c lt];intro q;exact za (by grind)
     ·show z i+ -(fP m r z / fP m r z0)*z0 i=0
      rw [zb i hi,b0 i bv];grind
     ·rw [wG]
      grind
  ·rintro (⟨z,za,zb,zn⟩|rfl)
   ·show ⟨z,za,zb,((h z).mp zn).1⟩
   ·show ⟨z0,l0,b0,n0⟩
 let m0:c0∈ca:=(ha.2 c0).mpr ⟨hc0,aip⟩;let ndc:ca.Nodup:=ha.1.imp fun {a b} l=>JK l
 let e:cb=ca.erase c0:=m9 hb.1 (ha.1.sublist List.erase_sublist) fun c=>by
  rw [hb.2 c,ndc.mem_erase_iff,ha.2 c];constructor
  ·rintro ⟨x,y⟩
   have:=mt (iff c x).mpr y;show ⟨fun q=>this (.inr q),x,fun q=>this (.inl q)⟩
  ·rintro ⟨x,y,z⟩
   show ⟨y,fun q=>((iff c y).mp q).elim z x⟩
 rw [e,ah6 m0];have:=aie m0;omega
def adk (ll:l.length=rows.length)(hc:∀j,j<m->sP l ((dR rows j).map vl)=0)(h0:i0<rows.length)(h1:l.getD i0 0=1)(hz:∀i,i<rows.length->i≠i0->fP m (rows.getD i []) z=0):fP m (rows.getD i0 []) z=0:=by
 let all:fsum (JA rows.length) (fun i=>l.getD i 0*fP m (rows.getD i []) z)=0:=by
  let e1:fsum (JA rows.length) (fun i=>l.getD i 0*fP m (rows.getD i []) z)=fsum (JA rows.length) (fun i=>fsum (JA m) fun j=>l.getD i 0*(vl ((rows.getD i []).getD j (0,1))*z j)):=cN _ fun i _=>by
   unfold fP;rw [hV,<-hG]
  rw [e1,oR];refine f7 _ _ fun j hj=>?_;have Wi :=JW.mp hj;let k:=hc j Wi;let lc:(dR rows j).length=rows.length:=by unfold dR;rw [AU]
  rw [<-oQ l _ (by rw [lc,ll]),lc,hV] at k
  let e2:fsum (JA rows.length) (fun i=>l.getD i 0*(vl ((rows.getD i []).getD j (0,1))*z j))=z j*fsum (JA rows.length) (fun i=>vl ((dR rows j).getD i (0,1))*l.getD i 0):=by
   rw [<-hG];refine cN _ fun i hi=>?_;have MU :=JW.mp hi
   have:(dR rows j).getD i (0,1)=(rows.getD i []).getD j (0,1):=by
    unfold dR;rw [JE,AY,JE (l:=rows),gE MU];rfl
   rw [this];grind
  rw [e2,k];grind
 rw [m8 _ i0 _ YZ (JW.mpr h0) (fun i hi ne=>by rw [hz i (JW.mp hi) ne];grind),h1] at all;grind
def zM (pX:θ)(M:ω)(i:Nat):Rat:=(pX.flatMap fun p=>[(M p.nm).1,(M p.nm).2]).getD i 0
theorem va (M:ω):∀pX:List ar,(pX.flatMap fun p=>[(M p.nm).1,(M p.nm).2]).length=2*pX.length
 | []=>rfl
 | p::ps=>by
  rw [JJ,CL,va M ps];show 2+2*ps.length=2*(ps.length+1);omega
def Uv (F:ψ)(pX:θ)(M:ω):fP (2*pX.length) (dS F pX) (zM pX M)=(pX.map fun p=>dt (mv F p.nm) (M p.nm)).sum:=by
 rw [<-qX,HS,<-oQ _ _ (by rw [va,iS]),iS];rfl
def gh {qs:π}:qs∈bh pX qe ↔ (∃p∈pX,∃w∈p.ws,qs=dS (fO p.nm w) pX)\/∃b∈qe,qs=dS (dD b) pX:=by
 unfold bh lQ;rw [DL,Nz,AW];constructor
 ·rintro (⟨p,hp,h⟩|⟨b,hb,rfl⟩)
  ·obtain ⟨w,hw,rfl⟩:=AW.mp h
   exact .inl ⟨p,hp,w,hw,rfl⟩
  ·exact .inr ⟨b,hb,rfl⟩
 ·rintro (⟨p,hp,w,hw,rfl⟩|⟨b,hb,rfl⟩)
  ·exact .inl ⟨p,hp,AW.mpr ⟨w,hw,rfl⟩⟩
  ·exact .inr ⟨b,hb,rfl⟩
section
variable {pX:θ}{qe:ρ}{k:Nat}{b:aI}{ca cb:Ζ}
def wH (eb:qe[k]?=some b):c∈qe ↔ c∈qe.eraseIdx k\/c=b:=by
 constructor
 ·intro h
  obtain ⟨i,ei⟩:=IV h;by_cases e:i=k
  ·rw [e,eb] at ei
   exact .inr (C_ ei).symm
  ·exact .inl (agm.mpr ⟨i,e,ei⟩)
 ·rintro (h|rfl)
  ·exact (QU _ _).subset h
  ·exact Wp eb
def wI (eb:qe[k]?=some b)(z:Nat->Rat):Mh (2*pX.length) (bh pX qe) z ↔ Mh (2*pX.length) (bh pX (qe.eraseIdx k)) z/\fP (2*pX.length) (dS (dD b) pX) z=0:=by
 constructor
 ·intro h
  show ⟨fun qs hq=>h qs (gh.mpr ?_),h _ (gh.mpr (.inr ⟨b,Wp eb,rfl⟩))⟩
  rcases gh.mp hq with q|⟨c,hc,e⟩
  ·exact .inl q
  ·exact .inr ⟨c,(wH eb).mpr (.inl hc),e⟩
 ·rintro ⟨h,h0⟩ qs hq
  rcases gh.mp hq with q|⟨c,hc,rfl⟩
  ·exact h qs (gh.mpr (.inl q))
  ·rcases (wH eb).mp hc with q|rfl
   ·exact h _ (gh.mpr (.inr ⟨c,q,rfl⟩))
   ·exact h0
def y8 (g:bT pX qe)(eb:qe[k]?=some b)(tk:j0 pX qe b.nm M)(ha:Nd (2*pX.length) (bh pX qe) ca)(hb:Nd (2*pX.length) (bh pX (qe.eraseIdx k)) cb):ca.length=cb.length+1:=by
 let len:∀c∈qe,fP (2*pX.length) (dS (dD c) pX) (zM pX M)= -(yS M c):=fun c hc=>by
  obtain ⟨m1,m2,m3⟩:=g.ends c hc;rw [Uv,we g.np c m1 m2 m3]
 refine adt (wI eb) (M:=zM pX M) (fun qs hq=>?_) ?_ ha hb
 ·rcases gh.mp hq with ⟨p,hp,w,hw,rfl⟩|⟨c,hc,rfl⟩
  ·rw [Uv,qY g.np hp w M]
   exact tk.Xd p hp w hw
  ·let mc:=(wH eb).mpr (.inl hc)
   let ne:c.nm≠b.nm:=fun e=>by
    obtain ⟨i,ni,ei⟩:=agm.mp hc;exact ni (bU g.nb (x:=b.nm) (by rw [AY,ei,<-e];rfl) (by rw [AY,eb];rfl))
   rw [len c mc,tk.qe c mc,qA ne];grind
 ·rw [len b (Wp eb),tk.qe b (Wp eb),tu rfl]
  decide
def y_ (g:bT pX qe)(eb:qe[k]?=some b)(lU:∀q∈pX,(U q.nm).length=q.ws.length)(no:fM pX qe T U)(tb:T b.nm=1)(ha:Nd (2*pX.length) (bh pX qe) ca)(hb:Nd (2*pX.length) (bh pX (qe.eraseIdx k)) cb):ca.length=cb.length:=by
 refine ady (fun z=>⟨fun h=>((wI eb z).mp h).1,fun h=>(wI eb z).mpr ⟨h,?_⟩⟩) ha hb;let dl:(bh pX qe).length=ay pX+qe.length:=fj pX qe;let hk:=(ir.mp eb).1;let er:=oT pX qe eb;let eg:(bh pX qe).getD (ay pX+k) []=dS (dD b) pX:=by rw [JE,er];rfl
 rw [<-eg];refine adk (l:=hW pX qe T U) (by rw [yU lU,dl]) (pV g lU no) bv ?_ fun i hi ni=>?_
 ·unfold hW
  rw [JE,JZ (by rw [dE lU];exact nQ),dE lU,SH,AY,eb];show T b.nm=1;exact tb
 ·obtain ⟨qs,eq⟩:∃qs,(bh pX qe)[i]?=some qs:=⟨_,gE hi⟩
  rw [JE,eq];show fP _ qs z=0;by_cases c:i<ay pX
  ·refine h qs (M3 _ ?_)
   let wl:(pX.flatMap fun p=>lQ pX p).length=ay pX:=iU pX pX;unfold bh at eq;rw [JU (nY c wl)] at eq;exact Wp eq
  ·obtain ⟨c',ec⟩:∃c',qe[i-ay pX]?=some c':=⟨_,gE bv⟩
   have:=oT pX qe ec;rw [show ay pX+(i-ay pX)=i by omega,eq] at this;rw [C_ this];exact h _ (gh.mpr (.inr ⟨c',agm.mpr ⟨_,bv,ec⟩,rfl⟩))
end
def gi (pX:θ)(qe:ρ)(s m:Int):Prop:=∃cs:List Nat,Nd (2*pX.length) (bh pX qe) cs/\s+(cs.length:Int)=((ay pX+qe.length:Nat):Int)/\m+(cs.length:Int)=((2*pX.length:Nat):Int)
def Cnt.i (h:Cnt pX qe s m):gi pX qe s m:=by
 obtain ⟨c1,c2,a1,a2,a3,a4,a5,a6⟩:=h;show ⟨c2,a4,bv,bv⟩
def gi.one (h:gi pX qe s m)(h':gi pX qe s' m'):s'=s/\m'=m:=by
 obtain ⟨c1,a1,a2,a3⟩:=h;obtain ⟨c2,b1,b2,b3⟩:=h';rw [b1.eq a1] at b2 b3;omega
def gi.Xj (h:gi pX qe s m)(g:bT pX qe)(eb:qe[k]?=some b)(tk:j0 pX qe b.nm M):gi pX (qe.eraseIdx k) s (m+1):=by
 obtain ⟨ca,a1,a2,a3⟩:=h;obtain ⟨cb,b1⟩:=HU (2*pX.length) (bh pX (qe.eraseIdx k));let e:=y8 g eb tk a1 b1;let hk:=(ir.mp eb).1;show ⟨cb,b1,by rw [Pf,tu hk];omega,bv⟩
def gi.less (h:gi pX qe s m)(g:bT pX qe)(eb:qe[k]?=some b)(lU:∀q∈pX,(U q.nm).length=q.ws.length)(no:fM pX qe T U)(tb:T b.nm=1):gi pX (qe.eraseIdx k) (s-1) m:=by
 obtain ⟨ca,a1,a2,a3⟩:=h;obtain ⟨cb,b1⟩:=HU (2*pX.length) (bh pX (qe.eraseIdx k));let e:=y_ g eb lU no tb a1 b1;let hk:=(ir.mp eb).1;show ⟨cb,b1,by rw [Pf,tu hk];omega,bv⟩
def ng (qe:ρ)(b:aI):(qe++[b])[qe.length]?=some b/\(qe++[b]).eraseIdx qe.length=qe:=by
 constructor
 ·rw [JZ (BW _),al_]
  rfl
 ·rw [List.eraseIdx_append_of_length_le (BW _),al_]
  show qe++[]=qe;rw [V_]
def gi.Sh (h:gi pX qe s m)(g:bT pX (qe++[b]))(tk:j0 pX (qe++[b]) b.nm M):gi pX (qe++[b]) s (m-1):=by
 obtain ⟨cb,b1,b2,b3⟩:=h;obtain ⟨ca,a1⟩:=HU (2*pX.length) (bh pX (qe++[b]));obtain ⟨l1,l2⟩:=ng qe b;let e:=y8 (cb:=cb) g l1 tk a1 (by rwa [l2]);show ⟨ca,a1,by rw [CL,NP];omega,bv⟩
def gi.aby (h:gi pX qe s m)(g:bT pX (qe++[b]))(lU:∀q∈pX,(U q.nm).length=q.ws.length)(no:fM pX (qe++[b]) T U)(tb:T b.nm=1):gi pX (qe++[b]) (s+1) m:=by
 obtain ⟨cb,b1,b2,b3⟩:=h;obtain ⟨ca,a1⟩:=HU (2*pX.length) (bh pX (qe++[b]));obtain ⟨l1,l2⟩:=ng qe b;let e:=y_ (cb:=cb) g l1 lU no tb a1 (by rwa [l2]);show ⟨ca,a1,by rw [CL,NP];omega,bv⟩
def cell (ns:ο)(k:Int):Int:=if k<(ns.length:Int) then (ns[k.toNat]?).getD 0 else ((((k+5)*(k+5)*48271).fmod 2147483647)*(((k+5)*(k+5)*48271).fmod 2147483647)).fmod 2147483629
def nh {x m:Int}(h:0<m):0<=x.fmod m/\x.fmod m<m:=⟨vB x h,ahQ x h⟩
inductive sN (K:Frag)(vs:ε)(H:Hp)(Q:VK)(E_:XK):Prop
|mk (a:AO)(ns:ο)(k:Int)(_:vs=[.ref a,.int k])(_:aV K H a (ns.map V.int))(_:0<=k)(_:k<=1000)(_:Q (.int (cell ns k)) H)
def cell_in {ns:ο}(h0:0<=k)(h:k<(ns.length:Int)):ib (ns.map V.int) k=some (.int (cell ns k)):=by
 let hk:k.toNat<ns.length:=bv
 let ek:k=((k.toNat:Nat):Int):=bv
 let q:ib (ns.map V.int) ((k.toNat:Nat):Int)=some (.int (cell ns k)):=bK (by
  unfold cell;rw [tu h,AY,gE hk]
  rfl)
 rwa [<-ek] at q
def lY (h:i.natAbs<2^k):intBits i<=k:=intBits_le_iff.mpr h
def Uw:aC ["_law_script","_law_k","_law_part"] So (ae Le):=sq
def abz (D:Def K mg "_law_cell_at" Le So)(aL:mg "len"=none):Fn P w K mg qf CX 1 "_law_cell_at" So (sN K):=by
 refine D.oo Uw fun H hr h=>?_;obtain ⟨a,ns,k,rfl,hS,h0,h1,q⟩:=h
 show ⟨_,(aa (bg (bB rm (pv 1) (aD av rfl aL bM (aK (pv 0)))) (ah (aE (bG aU (pv 0) (pv 1)))) aR) (aa (aJ 2 Uw.nd (aH gG (aH di (aH di (aH bV (pv 1) ag) (aH bV (pv 1) ag)) ag) ag)) (ah (aE (aH gG (aH di (pv 2) (pv 2)) ag))))),?_⟩
 let hl:(ns.map V.int).length=ns.length:=AU _;show ⟨_,rfl,_,rfl,a,_,rfl,.inl hS,_,_,rfl,rfl,_,rfl,?_⟩;refine bf (fun c=>?_) (fun c=>?_)
 ·let c':k<(((ns.map V.int).length:Nat):Int):=Mp c
  rw [hl] at c';show ⟨_,rfl,_,rfl,a,_,k,_,rfl,rfl,hS,cell_in h0 c',q⟩
 ·let c':¬ k<(((ns.map V.int).length:Nat):Int):=of_decide_eq_false (s_.mpr c)
  rw [hl] at c';let b5:intBits (k+5)<=11:=lY (by show _<2048;omega);let e1:=nh (x:=(k+5)*(k+5)*48271) (m:=2147483647) ce;let bp:intBits (((k+5)*(k+5)*48271).fmod 2147483647)<=31:=lY (by show _<2147483648;omega);show ⟨_,rfl,_,_,rfl,rfl,_,rfl,_,_,rfl,rfl,_,_,rfl,rfl,⟨BX b5 ce,BX b5 ce⟩,_,_,rfl,rfl,⟨BX (Sf b5 b5) ce,by decide+kernel⟩,_,_,rfl,rfl,nz ce,_,rfl,_,rfl,_,_,rfl,rfl,⟨BX bp ce,BX bp ce⟩,_,_,rfl,rfl,nz ce,?_⟩
  let e:cell ns k=((((k+5)*(k+5)*48271).fmod 2147483647)*(((k+5)*(k+5)*48271).fmod 2147483647)).fmod 2147483629:=by
   unfold cell;rw [qA c']
  rwa [e] at q
def field (c p m:Int):Int:=(((c.fmod p+11)*48271).fmod p).fmod m
def ba (h:0<m):0<=field c p m/\field c p m<m:=nh h
inductive eT (vs:ε)(H:Hp)(Q:VK)(E_:XK):Prop
|mk (c p m:Int)(_:vs=[.int c,.int p,.int m])(_:0<p)(_:p<=2000000)(_:0<m)(_:Q (.int (field c p m)) H)
def abA:aC NW NW (ae Lf):=sq
def abB (D:Def K mg "_law_field" Lf NW):Fn P w K mg qf CX 1 "_law_field" NW eT:=by
 refine D.oo abA fun H hr h=>?_;obtain ⟨c,p,m,rfl,hp,Rg,hm,q⟩:=h;show ⟨_,(ah (aE (aH gG (aH gG (aH di (aH bV (aH gG (pv 0) (pv 1)) ag) ag) (pv 1)) (pv 2)))),?_⟩;let e1:=nh (x:=c) hp;show ⟨_,rfl,_,rfl,_,_,rfl,rfl,nz (ms hp),_,_,rfl,rfl,_,_,rfl,rfl,⟨BX (lY (k:=22) (by show _<4194304;omega)) ce,by decide+kernel⟩,_,rfl,_,_,rfl,rfl,nz (ms hp),_,rfl,_,_,rfl,rfl,nz (ms hm),q⟩
inductive eQ (vs:ε)(H:Hp)(Q:VK)(E_:XK):Prop
|mk (t b:Int)(_:vs=[.int t,.int b])(_:0<b)(_:gives H Q (low t b))
def HV:aC ["_law_top","_law_bottom","_law_one","_law_other"] V' (ae Lg):=sq
def abC (ht:P.given.tree=none)(D:Def K mg "_law_lowest" Lg V')(uY:mg "abs"=none):ac P w K mg qf 33 "_law_lowest" V' eQ:=by
 refine D.oo HV fun H hr h=>?_;obtain ⟨t,b,rfl,hb,q⟩:=h
 show ⟨_,(aa (aJ 2 HV.nd (aD xQ rfl uY T1 (aK (pv 0)))) (aa (aJ 3 HV.nd (pv 1)) (aa (rh I_ (bB jo (pv 3) ag) (ah (adi (i:=2) (j:=3) rfl HV.nd rfl rfl ce rfl rfl (aT (pv 3) (aH gG (pv 2) (pv 3))) rfl))) (ah (aE (aZ (aT (aH (gW ht (Ty.cG.py hr ce) rfl rfl rfl rfl rfl) (pv 0) (pv 2)) (aH (gW ht (Ty.cG.py hr ce) rfl rfl rfl rfl rfl) (pv 1) (pv 2))))))))),?_⟩
 show ⟨_,rfl,t,rfl,_,rfl,?_⟩;refine xP (fun Y H'=>∃x y:Int,Y=[some (.int t),some (.int b),some (.int x),some (.int y)]/\H'=H/\0<=x/\0<=y/\JF x y=JF t b) (fun Y _=>match Y with|[_,_,_,some (.int y)]=>y.natAbs|_=>0) ⟨_,b,rfl,rfl,?_,bv,?_⟩ ?_ ?_
 ·split<;>omega
 ·split
  ·exact Int.neg_gcd
  ·rfl
 ·rintro Y H' ⟨x,y,rfl,rfl,hx,hy,g⟩
  show ⟨_,rfl,rfl,_,rfl,?_⟩;refine bf (fun c=>?_) (fun c=>?_)
  ·let yL:y≠0:=by
    intro z;subst z;simp at c
   show ⟨_,rfl,_,rfl,_,rfl,_,_,rfl,rfl,yL,_,_,rfl,⟨_,_,rfl,rfl,hy,vB _ bv,by rwa [x6]⟩,uL yL⟩
  ·let yL:y=0:=by
    have:=s_.mpr c;simp at this;exact this
   subst yL
   let e:x=sg t b:=by
    rw [aiR] at g;unfold sg;rw [qA bv];unfold gz;rw [<-g];omega
   subst e;let AE:b≠0:=ms hb
   let c:=rC (t:=t) AE;show ⟨_,rfl,_,rfl,_,_,rfl,rfl,c,_,rfl,_,rfl,_,_,rfl,rfl,c,uo,fun p hp=>?_⟩;exact q p _ (aG hp _) aj
 ·rintro Y H' Q1 Q2 h ⟨v,e1,e2,k,ek,z⟩
  show ⟨v,e1,e2,k,ek,h _ _ z⟩
structure Ns (n:Nat)(q:Int×Int):Prop where
 top:q.1.natAbs<=2^n
 bot:q.2.natAbs<=2^n
def Ns.up (h:Ns m q)(l:m<=n):Ns n q:=⟨BX h.top (Me ce l),BX h.bot (Me ce l)⟩
def j3 (K:Frag)(H:Hp)(v:V)(n:Nat)(r:Rat):Prop:=∃q:Int×Int,og K H v q/\0<q.2/\vl q=r/\Ns n q
theorem j3.qg (h:j3 K H v n r)(s:aq H H'):j3 K H' v n r:=by
 obtain ⟨q,h1,h2⟩:=h;show ⟨q,h1.qg s,h2⟩
theorem j3.aX (h:j3 K H v n r)(s:bq H H'):j3 K H' v n r:=by
 obtain ⟨q,h1,h2⟩:=h;show ⟨q,h1.aX s,h2⟩
theorem j3.up (h:j3 K H v m r)(l:m<=n):j3 K H v n r:=by
 obtain ⟨q,h1,h2,h3,h4⟩:=h;show ⟨q,h1,h2,h3,h4.up l⟩
def gA (h:gL K H v r)(z:Zb n r):j3 K H v n r:=⟨qr r,h,dQ r,gY r,⟨z.top,z.bot⟩⟩
def vb (h:Sz k r)(l:k<=n):Zb n r:=⟨Oj (JQ (intBits_le_iff.mp h.top) (Me ce l)),Oj (JQ (intBits_le_iff.mp h.bot) (Me ce l))⟩
def Zb.up (h:Zb m r)(l:m<=n):Zb n r:=⟨BX h.top (Me ce l),BX h.bot (Me ce l)⟩
def wJ (h:0<q.2):q.1=0 ↔ vl q=0:=by
 unfold vl;let z:((q.2:Int):Rat)≠0:=c_ (O5 h);constructor
 ·intro e
  rw [e];have:((0:Int):Rat)=0:=by rfl
  rw [this];grind
 ·intro e
  apply Md;intro n;let y:((q.1:Int):Rat)≠0:=c_ n;exact (by grind:¬ ((q.1:Int):Rat) / ((q.2:Int):Rat)=0) e
def ahb (h:0<q.2):q.1=q.2 ↔ vl q=1:=by
 unfold vl;let z:((q.2:Int):Rat)≠0:=c_ (O5 h);constructor
 ·intro e
  rw [e];grind
 ·intro e
  have:((q.1:Int):Rat)=((q.2:Int):Rat):=by grind
  exact Xk.mp this
def gB (x y:Int×Int):Int×Int:=(x.1*y.2+y.1*x.2,x.2*y.2)
def oU (x y:Int×Int):Int×Int:=(x.1*y.1,x.2*y.2)
def gj {a b:Int}(h1:a.natAbs<=2^m)(h2:b.natAbs<=2^n):(a*b).natAbs<=2^(m+n):=by
 rw [QX,VH];exact OT h1 h2
def adf (hx:0<x.2)(hy:0<y.2)(zx:Ns m x)(zy:Ns n y):0<(gB x y).2/\vl (gB x y)=vl x+vl y/\Ns (m+n+1) (gB x y):=by
 show ⟨RT hx hy,?_,?_,?_⟩
 ·unfold vl gB
  let z1:((x.2:Int):Rat)≠0:=c_ (O5 hx);let z2:((y.2:Int):Rat)≠0:=c_ (O5 hy);push_cast;grind
 ·let h1:=gj zx.top zy.bot
  let h2:=gj zy.top zx.bot;rw [qj n m] at h2;let h3:=α8 (x.1*y.2) (y.1*x.2);show (x.1*y.2+y.1*x.2).natAbs<=2^(m+n+1);rw [V9];omega
 ·exact BX (gj zx.bot zy.bot) (Me ce bv)
def adK (hx:0<x.2)(hy:0<y.2)(zx:Ns m x)(zy:Ns n y):0<(oU x y).2/\vl (oU x y)=vl x*vl y/\Ns (m+n) (oU x y):=by
 show ⟨RT hx hy,?_,gj zx.top zy.top,gj zx.bot zy.bot⟩;unfold vl oU;let z1:((x.2:Int):Rat)≠0:=c_ (O5 hx);let z2:((y.2:Int):Rat)≠0:=c_ (O5 hy);push_cast;grind
inductive cO (K:Frag)(f:Int×Int->Int×Int->Int×Int)(vs:ε)(H:Hp)(Q:VK)(E_:XK):Prop
|mk (u v:V)(x y:Int×Int)(m n:Nat)(_:vs=[u,v])(_:og K H u x)(_:og K H v y)(_:Ns m x)(_:Ns n y)(_:m+n<=130000000)(_:gives H Q (f x y))
def nj (h1:j3 K H u m x)(h2:j3 K H v n y)(l:m+n<=130000000)(k:∀(p:AO)(H':Hp),aq H H' ->j3 K H' (.ref p) (m+n+1) (x+y)->Q (.ref p) H'):cO K gB [u,v] H Q E:=by
 obtain ⟨q1,a1,a2,a3,a4⟩:=h1;obtain ⟨q2,b1,b2,b3,b4⟩:=h2;obtain ⟨c1,c2,c3⟩:=adf a2 b2 a4 b4;show ⟨u,v,q1,q2,m,n,rfl,a1,b1,a4,b4,l,fun p H' s e=>k p H' s ⟨gB q1 q2,⟨p,rfl,bL.of e⟩,c1,by rw [c2,a3,b3],c3⟩⟩
def q5 (h1:j3 K H u m x)(h2:j3 K H v n y)(l:m+n<=130000000)(k:∀(p:AO)(H':Hp),aq H H' ->j3 K H' (.ref p) (m+n) (x*y)->Q (.ref p) H'):cO K oU [u,v] H Q E:=by
 obtain ⟨q1,a1,a2,a3,a4⟩:=h1;obtain ⟨q2,b1,b2,b3,b4⟩:=h2;obtain ⟨c1,c2,c3⟩:=adK a2 b2 a4 b4;show ⟨u,v,q1,q2,m,n,rfl,a1,b1,a4,b4,l,fun p H' s e=>k p H' s ⟨oU q1 q2,⟨p,rfl,bL.of e⟩,c1,by rw [c2,a3,b3],c3⟩⟩
inductive gH (K:Frag)(vs:ε)(H:Hp)(Q:VK)(E_:XK):Prop
|mk (u:V)(x:Int×Int)(_:vs=[u])(_:og K H u x)(_:gives H Q (0-x.1,x.2))
def sO (h1:j3 K H u m x)(k:∀(p:AO)(H':Hp),aq H H' ->j3 K H' (.ref p) m (-x)->Q (.ref p) H'):gH K [u] H Q E:=by
 obtain ⟨q1,a1,a2,a3,a4⟩:=h1;show ⟨u,q1,rfl,a1,fun p H' s e=>k p H' s ⟨(0-q1.1,q1.2),⟨p,rfl,bL.of e⟩,a2,?_,?_,a4.bot⟩⟩
 ·rw [<-a3]
  unfold vl;push_cast;grind
 ·have:=a4.top
  show (0-q1.1).natAbs<=2^m;omega
def abD:aC KA KA (ae Lh):=sq
def abE (D:Def K mg "_law_sum" Lh KA):ac P w K mg qf 1 "_law_sum" KA (cO K gB):=by
 refine D.oo abD fun H hr h=>?_;obtain ⟨u,v,x,y,m,n,rfl,⟨p1,rfl,h1⟩,⟨p2,rfl,h2⟩,zx,zy,l,q⟩:=h;show ⟨_,(ah (aE (aZ (aT (aH bV (aH kc (aF (pv 0)) (aF (pv 1))) (aH kc (aF (pv 1)) (aF (pv 0)))) (aH kc (aF (pv 0)) (aF (pv 1))))))),_,rfl,p1,_,_,_,rfl,rfl,h1,jz,_,rfl,p2,_,_,_,rfl,rfl,h2,jQ,_,_,rfl,rfl,iK zx.top zy.bot bv,_,rfl,p2,_,_,_,rfl,rfl,h2,jz,_,rfl,p1,_,_,_,rfl,rfl,h1,jQ,_,_,rfl,rfl,iK zy.top zx.bot bv,_,_,rfl,rfl,_,rfl,p1,_,_,_,rfl,rfl,h1,jQ,_,rfl,p2,_,_,_,rfl,rfl,h2,jQ,_,_,rfl,rfl,iK zx.bot zy.bot bv,uo,?_⟩;intros p3 n3 H3 s3 e3;exact q p3 H3 s3 e3
def abF:aC KA KA (ae Li):=sq
def abG (D:Def K mg "_law_times" Li KA):ac P w K mg qf 1 "_law_times" KA (cO K oU):=by
 refine D.oo abF fun H hr h=>?_;obtain ⟨u,v,x,y,m,n,rfl,⟨p1,rfl,h1⟩,⟨p2,rfl,h2⟩,zx,zy,l,q⟩:=h;show ⟨_,(ah (aE (aZ (aT (aH kc (aF (pv 0)) (aF (pv 1))) (aH kc (aF (pv 0)) (aF (pv 1))))))),_,rfl,p1,_,_,_,rfl,rfl,h1,jz,_,rfl,p2,_,_,_,rfl,rfl,h2,jz,_,_,rfl,rfl,iK zx.top zy.top bv,_,rfl,p1,_,_,_,rfl,rfl,h1,jQ,_,rfl,p2,_,_,_,rfl,rfl,h2,jQ,_,_,rfl,rfl,iK zx.bot zy.bot bv,uo,?_⟩;intros p3 n3 H3 s3 e3;exact q p3 H3 s3 e3
def abH:aC RL RL (ae Lj):=sq
def abI (D:Def K mg "_law_turned" Lj RL):ac P w K mg qf 1 "_law_turned" RL (gH K):=by
 refine D.oo abH fun H hr h=>?_;obtain ⟨u,x,rfl,⟨p1,rfl,h1⟩,q⟩:=h;show ⟨_,(ah (aE (aZ (aT (aH dc ag (aF (pv 0))) (aF (pv 0)))))),_,rfl,p1,_,_,_,rfl,rfl,h1,jz,_,_,rfl,rfl,_,rfl,p1,_,_,_,rfl,rfl,h1,jQ,uo,?_⟩;intros p3 n3 H3 s3 e3;exact q p3 H3 s3 e3
def nameOf (st a k:Int):Str:=if st=0 then Txt.mul "p" (k+1) else if st=1 then Txt.mul "p" a++⟨#[(ib (L9 "bcdefghijklm").cps.toList k).getD 0]⟩++Txt.mul "p" (5-a) else Txt.slice "12345" none (some a)++(toString k:String)
def ze:∀st:Fin 3,∀a:Fin 6,∀k:Fin 12,∀j:Fin 12,k≠j->nameOf (st.val:Int) (a.val:Int) (k.val:Int)≠nameOf (st.val:Int) (a.val:Int) (j.val:Int):=by decide+kernel
def aha:∀n:Fin 20,MulOk "p" (n.val:Int):=by
 intro n;unfold MulOk
 revert n
 decide+kernel
def ahZ:∀k:Fin 12,ib (L9 "bcdefghijklm").cps.toList (k.val:Int)=some ((ib (L9 "bcdefghijklm").cps.toList (k.val:Int)).getD 0):=by decide+kernel
def afZ:∀a:Fin 6,∀k:Fin 12,(Txt.mul "p" (a.val:Int)).length+(⟨#[(ib (L9 "bcdefghijklm").cps.toList (k.val:Int)).getD 0]⟩:Str).length<=1000/\
  (Txt.mul "p" (a.val:Int)++(⟨#[(ib (L9 "bcdefghijklm").cps.toList (k.val:Int)).getD 0]⟩:Str)).length+(Txt.mul "p" (5-(a.val:Int))).length<=1000/\(Txt.slice "12345" none (some (a.val:Int))).length+(L9 (toString (k.val:Int))).length<=1000:=by decide+kernel
inductive wK (vs:ε)(H:Hp)(Q:VK)(E_:XK):Prop
|mk (c k:Int)(_:vs=[.int c,.int k])(_:0<=k)(_:k<12)(_:Q (.str (nameOf (field c 3001 3) (field c 4001 6) k)) H)
def O4:aC zaM Wo (ae CH):=sq
def abJ (hM:ya CX)(D:Def K mg "_law_name" CH Wo)(nq:mg "str"=none)(dr:Fn P w K mg qf CX 1 "_law_field" NW eT):Fn P w K mg qf CX 2 "_law_name" Wo wK:=by
 refine D.op O4 fun f cD A qw s H vs Q E hr h=>?_;obtain ⟨c,k,rfl,h0,h12,q⟩:=h;let px:=rH (X:=mz CX P w K mg qf zaM "_law_name" (ae CH) f cD A qw s H E) hM
 show ⟨_,(aa (aJ 2 O4.nd (rJ dr hr.mo px (bE (pv 0) ag ag))) (aa (aJ 3 O4.nd (rJ dr hr.mo px (bE (pv 0) ag ag))) (aa (bg (bB cZ (pv 2) ag) (ah (aE (aH vF cy (aH bV (pv 1) ag)))) aR) (aa (bg (bB cZ (pv 2) ag) (ah (aE (aH gR (aH gR (aH vF cy (pv 3)) (bG ahD cy (pv 1))) (aH vF cy (aH dc ag (pv 3)))))) aR) (ah (aE (aH gR (dB agH cy ie (dh (pv 3))) (b9 i7 rfl nq NI (aK (pv 1)))))))))),?_⟩
 let i1:=ba (c:=c) (p:=3001) (m:=3) ce;let i2:=ba (c:=c) (p:=4001) (m:=6) ce;show ⟨_,rfl,_,_,_,rfl,ce,ce,ce,_,rfl,_,_,_,rfl,ce,ce,ce,?_⟩;generalize field c 3001 3=st at i1 q ⊢;generalize field c 4001 6=a at i2 q ⊢;obtain ⟨kn,rfl⟩:∃n:Nat,k=(n:Int):=⟨k.toNat,bv⟩;obtain ⟨an,rfl⟩:∃n:Nat,a=(n:Int):=⟨a.toNat,bv⟩
 let mk:∀i:Int,0<=i->i<20->MulOk "p" i:=fun i a b=>by
  have:=aha ⟨i.toNat,bv⟩
  rwa [show ((⟨i.toNat,bv⟩:Fin 20).val:Int)=i by show ((i.toNat:Nat):Int)=i;omega] at this
 show ⟨_,rfl,rfl,_,rfl,?_⟩;refine bf (fun z=>?_) (fun z=>?_)
 ·let z':st=0:=by simpa [jI] using z
  subst z';show ⟨_,rfl,_,_,rfl,rfl,_,_,rfl,rfl,mk _ bv bv,q⟩
 let z':¬ st=0:=by simpa [jI] using z
 let nl:=afZ ⟨an,bv⟩ ⟨kn,bv⟩;show ⟨_,rfl,rfl,_,rfl,?_⟩;refine bf (fun z3=>?_) (fun z3=>?_)
 ·let z3':st=1:=by simpa [jI] using z3
  subst z3';show ⟨_,rfl,_,_,rfl,rfl,mk _ gV bv,_,rfl,_,_,_,rfl,rfl,(by decide+kernel),ahZ ⟨kn,bv⟩,_,_,rfl,rfl,BX nl.1 ce,_,rfl,_,_,rfl,rfl,_,_,rfl,rfl,mk _ bv bv,_,_,rfl,rfl,BX nl.2.1 ce,q⟩
 ·let z3':¬ st=1:=by simpa [jI] using z3
  show ⟨_,rfl,_,rfl,_,rfl,(by decide+kernel),?_⟩;let lg:(kn:Int).natAbs.log2<1920:=IY (ah_ _) (by show kn<1920;omega);show ⟨_,rfl,_,rfl,lg,_,_,rfl,rfl,BX nl.2.2 ce,?_⟩
  let e:nameOf st (an:Int) (kn:Int)=Txt.slice "12345" none (some (an:Int))++L9 (toString (kn:Int)):=by
   unfold nameOf;rw [qA z',qA z3']
  rwa [e] at q
def jk (ws:υ):Prop:=ws=[]\/(∃x y:Rat,ws=[(x,y)]/\¬ (x=0/\y=0)/\Sz 22 x/\Sz 22 y)\/ws=[(1,0),(0,1)]
def sQ (i:Int)(h:H p=some (.tup [.int i,.int 1])):gL K H (.ref p) (i:Rat):=⟨p,rfl,by rw [rX];exact bL.of h⟩
def nE (h:H p=some (.tup [.int (qr r).1,.int (qr r).2])):gL K H (.ref p) r:=⟨p,rfl,bL.of h⟩
def nG (h:H p=some (.tup [u,v]))(h1:gL K H u r)(h2:gL K H v s):f_ K H (.ref p) (r,s):=⟨p,u,v,rfl,bL.of h,h1,h2⟩
def nH {i:Int}(h:i.natAbs<524288)(hk:19<=k):Sz k (i:Rat):=jP (JQ h (show 2^19<=2^k from Me ce hk)) bv
def kC {t b:Int}(h:0<b)(h1:t.natAbs<524288)(h2:b<524288):Sz 19 ((t:Rat) / (b:Rat)):=Od (O5 h) (intBits_le_iff.mpr (by show _<524288;omega)) (intBits_le_iff.mpr (by show _<524288;omega))
def zf {i:Int}(h:i<=500002):(i:Rat)<=500002:=by
 have:=Pk.mpr h;simpa using this
def q_ {t b:Int}(hb:0<b)(h:t<=500002):(t:Rat) / (b:Rat)<=500002:=by
 have ip :(0:Rat)<(b:Rat):=by
  have:=aik.mpr hb;simpa using this
 let h1:t<=500002*b:=by
  have:(500002:Int)*1<=500002*b:=Int.mul_le_mul_of_nonneg_left bv ce;omega
 let h2:(t:Rat)<=500002*(b:Rat):=by
  have:=Pk.mpr h1;simpa using this
 let e:(t:Rat) / (b:Rat)*(b:Rat)=(t:Rat):=by
  let xD:(b:Rat)≠0:=by grind
  grind
 generalize (t:Rat) / (b:Rat)=z at e;by_cases c:z<=500002
 ·exact c
 ·let c':500002<z:=by grind
  have:=Rat.mul_lt_mul_of_pos_right c' ip;grind
def afS {i:Int}(h:i<=500002)(h2: -500002<=i): -500002<=(i:Rat)/\(i:Rat)<=500002:=by
 show ⟨?_,zf h⟩;have:=Pk.mpr h2;simpa using this
def HW {t b:Int}(hb:0<b)(h:t<=500002)(h2: -500002<=t): -500002<=(t:Rat) / (b:Rat)/\(t:Rat) / (b:Rat)<=500002:=by
 show ⟨?_,q_ hb h⟩;have:=q_ (t:= -t) hb bv
 let e:((-t:Int):Rat) / (b:Rat)= -((t:Rat) / (b:Rat)):=by
  push_cast;grind
 rw [e] at this;grind
inductive wL (K:Frag)(vs:ε)(H:Hp)(Q:VK)(E_:XK):Prop
|mk (c k:Int)(_:vs=[.int c,.int k])(_:∀(p:AO)(x y:Rat)(H':Hp),aq H H' ->Sz 19 x->Sz 19 y->x<=500002->(-500002<=y/\y<=500002)->f_ K H' (.ref p) (x,y)->Q (.ref p) H')
def O6:aC ["_law_cell","_law_kind","_law_x"] mS (ae Lk):=sq
def abK (D:Def K mg "_law_spot" Lk mS)(dr:ac P w K mg qf 1 "_law_field" NW eT)(wM:ac P w K mg qf 33 "_law_lowest" V' eQ):ac P w K mg qf 34 "_law_spot" mS (wL K):=by
 refine D.oo O6 fun H hr h=>?_;obtain ⟨c,k,rfl,q⟩:=h;let L2:2<=BL:=ce
 show ⟨_,(aa (bg (bB cZ (pv 1) ag) (ah (aE (aZ (aT (aZ (aT (aS dr hr (bE (pv 0) ag ag)) ag)) (aZ (aT (aS dr hr (bE (pv 0) ag ag)) ag)))))) aR) (aa (bg (bB cZ (pv 1) ag) (aa (aJ 2 O6.nd (aS wM hr (aT (aH dc (aS dr hr (bE (pv 0) ag ag)) ag) (aH bV ag (aS dr hr (bE (pv 0) ag ag)))))) (ah (aE (aZ (aT (pv 2) (aS wM hr (aT (aH dc (aS dr hr (bE (pv 0) ag ag)) ag) (aH bV ag (aS dr hr (bE (pv 0) ag ag)))))))))) aR) (aa (aJ 2 O6.nd (aS wM hr (aT (aH dc (aS dr hr (bE (pv 0) ag ag)) ag) (aH bV ag (aS dr hr (bE (pv 0) ag ag)))))) (ah (aE (aZ (aT (pv 2) (aS wM hr (aT (aH dc (aS dr hr (bE (pv 0) ag ag)) ag) (aH bV ag (aS dr hr (bE (pv 0) ag ag)))))))))))),?_⟩;sleep 3
 show ⟨_,rfl,rfl,_,rfl,?_⟩;refine bf (fun _=>?_) (fun _=>?_)
 ·let i1:=ba (c:=c) (p:=1009) (m:=4) ce
  let i2:=ba (c:=c) (p:=2003) (m:=4) ce;show ⟨_,rfl,_,_,_,rfl,ce,ce,ce,L2,?_⟩;intros p1 n1 H1 s1 e1;show ⟨_,rfl,_,_,_,rfl,ce,ce,ce,L2,?_⟩;intros p2 n2 H2 s2 e2;show ⟨L2,?_⟩;intros p3 n3 H3 s3 e3;exact q p3 _ _ H3 ((s1.trans s2).trans s3) (nH bv ce) (nH bv ce) (zf bv) (afS bv bv) (nG e3 (((sQ _ e1).qg s2).qg s3) ((sQ _ e2).qg s3))
 show ⟨_,rfl,rfl,_,rfl,?_⟩;refine bf (fun _=>?_) (fun _=>?_)
 ·let i1:=ba (c:=c) (p:=1009) (m:=13) ce
  let i2:=ba (c:=c) (p:=3001) (m:=3) ce;let i3:=ba (c:=c) (p:=2003) (m:=13) ce;let i4:=ba (c:=c) (p:=4001) (m:=2) ce;show ⟨_,rfl,_,_,_,rfl,ce,ce,ce,_,_,rfl,rfl,_,rfl,_,_,_,rfl,ce,ce,ce,_,_,rfl,rfl,_,_,rfl,bv,fun p1 H1 s1 e1=>?_⟩;rw [ja bv] at e1;show ⟨_,rfl,_,rfl,_,_,_,rfl,ce,ce,ce,_,_,rfl,rfl,_,rfl,_,_,_,rfl,ce,ce,ce,_,_,rfl,rfl,_,_,rfl,bv,fun p2 H2 s2 e2=>⟨L2,?_⟩⟩;rw [ja bv] at e2;intros p3 n3 H3 s3 e3;exact q p3 _ _ H3 ((s1.trans s2).trans s3) (kC bv bv bv) (kC bv bv bv) (q_ bv bv) (HW bv bv bv) (nG e3 (((nE e1).qg s2).qg s3) ((nE e2).qg s3))
 ·let i1:=ba (c:=c) (p:=1000003) (m:=1000003) ce
  let i2:=ba (c:=c) (p:=3001) (m:=997) ce;let i3:=ba (c:=c) (p:=1000033) (m:=1000003) ce;let i4:=ba (c:=c) (p:=4001) (m:=997) ce;show ⟨_,rfl,_,_,_,rfl,ce,ce,ce,_,_,rfl,rfl,_,rfl,_,_,_,rfl,ce,ce,ce,_,_,rfl,rfl,_,_,rfl,bv,fun p1 H1 s1 e1=>?_⟩;rw [ja bv] at e1;show ⟨_,rfl,_,rfl,_,_,_,rfl,ce,ce,ce,_,_,rfl,rfl,_,rfl,_,_,_,rfl,ce,ce,ce,_,_,rfl,rfl,_,_,rfl,bv,fun p2 H2 s2 e2=>⟨L2,?_⟩⟩;rw [ja bv] at e2;intros p3 n3 H3 s3 e3;exact q p3 _ _ H3 ((s1.trans s2).trans s3) (kC bv bv bv) (kC bv bv bv) (q_ bv bv) (HW bv bv bv) (nG e3 (((nE e1).qg s2).qg s3) ((nE e2).qg s3))
inductive ra (K:Frag)(vs:ε)(H:Hp)(Q:VK)(E_:XK):Prop
|mk (c:Int)(_:vs=[.int c])(_:∀(l:AO)(us:ε)(ws:υ)(H':Hp),jk ws->aq H H' ->H l=none->H' l=some (.lst us)->jc K H' us ws->Q (.ref l) H')
def adJ :(qr r).1=0 ↔ r=0:=⟨v9,fun e=>by rw [e,dH]⟩
def zg:aC ["_law_cell","_law_kind","_law_x","_law_y"] Wh (ae Ll):=sq
def abL (D:Def K mg "_law_ways" Ll Wh)(dr:ac P w K mg qf 1 "_law_field" NW eT)(wM:ac P w K mg qf 33 "_law_lowest" V' eQ):ac P w K mg qf 34 "_law_ways" Wh (ra K):=by
 refine D.op zg fun f cD A qw s H vs Q E hr h=>?_;obtain ⟨c,rfl,q⟩:=h;let L0:0<=BL:=ce
 let L1:1<=BL:=ce
 let L2:2<=BL:=ce
 show ⟨_,(aa (aJ 1 zg.nd (aS dr hr (bE (pv 0) ag ag))) (aa (bg (bB rm (pv 1) ag) (ah (aE (bW iA))) aR) (aa (bg (bB rm (pv 1) ag) (ah (aE (bW (aT (aZ (aT (aZ (aT ag ag)) (aZ (aT ag ag)))) (aZ (aT (aZ (aT ag ag)) (aZ (aT ag ag)))))))) aR) (aa (aJ 2 zg.nd (aS wM hr (aT (aH dc (aS dr hr (bE (pv 0) ag ag)) ag) (aH bV ag (aS dr hr (bE (pv 0) ag ag)))))) (aa (aJ 3 zg.nd (aS wM hr (aT (aH dc (aS dr hr (bE (pv 0) ag ag)) ag) (aH bV ag (aS dr hr (bE (pv 0) ag ag)))))) (aa (bg (PW.pt (rg (bB cZ (aF (pv 2)) ag) (qD (bB cZ (aF (pv 3)) ag)))) (ah (aJ 3 zg.nd (aZ (aT ag ag)))) aR) (ah (aE (bW (aK (aZ (aT (pv 2) (pv 3))))))))))))),?_⟩;sleep 6
 show ⟨_,rfl,_,_,_,rfl,ce,ce,ce,_,rfl,_,_,rfl,rfl,_,rfl,?_⟩;refine bf (fun _=>?_) (fun _=>?_)
 ·show ⟨L0,?_⟩
  intros l nl H1 s1 e1;exact q l [] [] H1 (.inl rfl) s1 nl e1 .nil
 show ⟨_,rfl,_,_,rfl,rfl,_,rfl,?_⟩;refine bf (fun _=>?_) (fun _=>?_)
 ·show ⟨L2,?_⟩
  intros p1 n1 H1 s1 e1;show ⟨L2,?_⟩;intros p2 n2 H2 s2 e2;show ⟨L2,?_⟩;intros p3 n3 H3 s3 e3;show ⟨L2,?_⟩;intros p4 n4 H4 s4 e4;show ⟨L2,?_⟩;intros p5 n5 H5 s5 e5;show ⟨L2,?_⟩;intros p6 n6 H6 s6 e6;show ⟨L2,?_⟩;intros p7 n7 H7 s7 e7;let sh:=s1.trans (s2.trans (s3.trans (s4.trans (s5.trans s6))));let w1:f_ K H7 (.ref p3) (1,0):=yO si dH (s7 _ _ (s6 _ _ (s5 _ _ (s4 _ _ e3)))) (s7 _ _ (s6 _ _ (s5 _ _ (s4 _ _ (s3 _ _ (s2 _ _ e1)))))) (s7 _ _ (s6 _ _ (s5 _ _ (s4 _ _ (s3 _ _ e2)))));let w2:f_ K H7 (.ref p6) (0,1):=yO dH si (s7 _ _ e6) (s7 _ _ (s6 _ _ (s5 _ _ e4))) (s7 _ _ (s6 _ _ e5));exact q p7 _ [(1,0),(0,1)] _ (.inr (.inr rfl)) (sh.trans s7) (sh.free n7) e7 (.cons w1 (.cons w2 .nil))
 let i1:=ba (c:=c) (p:=6007) (m:=7) ce;let i2:=ba (c:=c) (p:=7001) (m:=3) ce;let i3:=ba (c:=c) (p:=8009) (m:=7) ce;let i4:=ba (c:=c) (p:=9001) (m:=2) ce;show ⟨_,rfl,_,_,_,rfl,ce,ce,ce,_,_,rfl,rfl,_,rfl,_,_,_,rfl,ce,ce,ce,_,_,rfl,rfl,_,_,rfl,bv,fun p1 H1 s1 e1=>?_⟩;rw [ja bv] at e1;show ⟨_,rfl,_,_,_,rfl,ce,ce,ce,_,_,rfl,rfl,_,rfl,_,_,_,rfl,ce,ce,ce,_,_,rfl,rfl,_,_,rfl,bv,fun p2 H2 s2 e2=>?_⟩;rw [ja bv] at e2;let z1:=kC (t:=field c 6007 7-3) (b:=1+field c 7001 3) bv bv bv;let z2:=kC (t:=field c 8009 7-3) (b:=1+field c 9001 2) bv bv bv;generalize ((field c 6007 7-3:Int):Rat) / ((1+field c 7001 3:Int):Rat)=x at e1 z1 ⊢;generalize ((field c 8009 7-3:Int):Rat) / ((1+field c 9001 2:Int):Rat)=y at e2 z2 ⊢;have NL :=s2 _ _ e1;let B_:=s1.trans s2
 let fin:∀(v:V)(y':Rat)(H3:Hp),aq H2 H3->gL K H3 v y' ->Sz 22 y' ->¬ (x=0/\y'=0)->∀(p:AO)(l:AO)(H5:Hp),aq H3 H5->H3 l=none->H5 p=some (.tup [.ref p1,v])->H5 l=some (.lst [.ref p])->Q (.ref l) H5:=fun v y' H3 s3 hv zy hn p l H5 s5 nl ep el=>
  q l [.ref p] [(x,y')] H5 (.inr (.inl ⟨x,y',rfl,hn,z1.up ce,zy⟩)) (B_.trans (s3.trans s5)) ((B_.trans s3).free nl) el (.cons (nG ep (((nE NL).qg s3).qg s5) (hv.qg s5)) .nil)
 show ⟨_,rfl,p1,_,_,_,rfl,rfl,bL.of NL,jz,rfl,_,rfl,?_⟩;refine bf (fun c1=>?_) (fun c1=>?_)
 ·let c1':x=0:=adJ.mp (by simpa using Mp c1)
  show ⟨_,rfl,p2,_,_,_,rfl,rfl,bL.of e2,jz,rfl,_,rfl,?_⟩;refine bf (fun c2=>?_) (fun c2=>?_)
  ·show ⟨L2,?_⟩
   intros p3 n3 H3 s3 e3;show ⟨_,rfl,_,rfl,L2,?_⟩;intros p4 n4 H4 s4 e4;show ⟨L1,?_⟩;intros l5 n5 H5 s5 e5;exact fin (.ref p3) 1 H3 s3 (sQ 1 e3) (nH (i:=1) ce ce) (fun z=>BH z.2 ce) p4 l5 H5 (s4.trans s5) (s4.free n5) (s5 _ _ e4) e5
  ·let c2':¬ y=0:=fun z=>c2 (by rw [z,dH];decide)
   show ⟨_,rfl,_,rfl,L2,?_⟩;intros p4 n4 H4 s4 e4;show ⟨L1,?_⟩;intros l5 n5 H5 s5 e5;exact fin (.ref p2) y H2 (aq.refl _) (nE e2) (z2.up ce) (fun z=>c2' z.2) p4 l5 H5 (s4.trans s5) (s4.free n5) (s5 _ _ e4) e5
 ·let c1':¬ x=0:=fun z=>c1 (by rw [z,dH];decide)
  refine VN ?_;show ⟨_,rfl,_,rfl,L2,?_⟩;intros p4 n4 H4 s4 e4;show ⟨L1,?_⟩;intros l5 n5 H5 s5 e5;exact fin (.ref p2) y H2 (aq.refl _) (nE e2) (z2.up ce) (fun z=>c1' z.1) p4 l5 H5 (s4.trans s5) (s4.free n5) (s5 _ _ e4) e5
inductive lZ (K:Frag)(H:Hp)(d:AO)(v:V)(p:ar):Prop
|mk (a l:AO)(s:V)(us:ε)(_:v=.ref a)(_:bL K H a [.str p.nm,s,.ref l])(_:f_ K H s p.sp)(_:H l=some (.lst us))(_:jc K H us p.ws)(_:l≠d)
inductive jA (K:Frag)(H:Hp)(v:V)(p:ar):Prop
|mk (a l:AO)(s:V)(us:ε)(_:v=.ref a)(_:bL K H a [.str p.nm,s,.ref l])(_:f_ K H s p.sp)(_:H l=some (.lst us))(_:jc K H us p.ws)
inductive h_ (K:Frag)(H:Hp)(pX:θ)(v:V)(b:aI):Prop
|mk (a:AO)(i j:Nat)(_:v=.ref a)(_:bL K H a [.str b.nm,.int (i:Int),.int (j:Int)])(_:pX[i]?=some b.one)(_:pX[j]?=some b.qz)
section
variable {K:Frag}{H H':Hp}{v:V}{p:ar}{d:AO}
theorem lZ.qg (h:lZ K H d v p)(s:aq H H'):lZ K H' d v p:=by
 obtain ⟨a,l,sv,us,e,h1,h2,h3,h4,h5⟩:=h;show ⟨a,l,sv,us,e,Ty.aq.bO s h1,h2.qg s,s _ _ h3,h4.qg s,h5⟩
theorem lZ.upd (h:lZ K H d v p)(e:H d=some (.lst xs)):lZ K (L2.upd H d o) d v p:=by
 obtain ⟨a,l,sv,us,ev,h1,h2,h3,h4,h5⟩:=h;let t:bq H (L2.upd H d o):=.list e;show ⟨a,l,sv,us,ev,t.bO h1,h2.aX t,by rwa [ak h5],h4.aX t,h5⟩
def lZ.r (h:lZ K H d v p):jA K H v p:=by
 obtain ⟨a,l,sv,us,e,h1,h2,h3,h4,_⟩:=h;show ⟨a,l,sv,us,e,h1,h2,h3,h4⟩
theorem jA.qg (h:jA K H v p)(s:aq H H'):jA K H' v p:=by
 obtain ⟨a,l,sv,us,e,h1,h2,h3,h4⟩:=h;show ⟨a,l,sv,us,e,Ty.aq.bO s h1,h2.qg s,s _ _ h3,h4.qg s⟩
def h_.qg (h:h_ K H pX v b)(s:aq H H'):h_ K H' pX v b:=by
 obtain ⟨a,i,j,e,h1,h2,h3⟩:=h;show ⟨a,i,j,e,Ty.aq.bO s h1,h2,h3⟩
end
structure fk (pX:θ):Prop where
 np:(pX.map (·.nm)).Nodup
 ns:(pX.map (·.sp)).Nodup
 sz:∀p∈pX,Sz 44 p.sp.1/\Sz 44 p.sp.2
 ws:∀p∈pX,jk p.ws
def jk.sz (h:jk ws):∀w∈ws,Sz 22 w.1/\Sz 22 w.2:=fun w hw=>by
 rcases h with rfl|⟨x,y,rfl,_,h1,h2⟩|rfl
 ·cases hw
 ·have:w=(x,y):=by simpa using hw
  rw [this];show ⟨h1,h2⟩
 ·let e1:Sz 22 (1:Rat):=nH (k:=22) (i:=1) ce ce
  let e0:Sz 22 (0:Rat):=ji ce;have:w=(1,0)\/w=(0,1):=by simpa using hw
  rcases this with rfl|rfl
  ·show ⟨e1,e0⟩
  ·show ⟨e0,e1⟩
def jk.len (h:jk ws):ws.length<=2:=by
 rcases h with rfl|⟨x,y,rfl,_⟩|rfl<;>simp
def fk.snoc (g:fk pX)(h1:p.nm∉pX.map (·.nm))(h2:p.sp∉pX.map (·.sp))(h3:Sz 44 p.sp.1/\Sz 44 p.sp.2)(h4:jk p.ws):fk (pX++[p]):=by
 show ⟨?_,?_,fun q hq=>?_,fun q hq=>?_⟩
 ·rw [IX,Po]
  show ⟨g.np,by simp,fun a ha b hb e=>h1 ?_⟩;have:b=p.nm:=by simpa using hb
  rwa [<-this,<-e]
 ·rw [IX,Po]
  show ⟨g.ns,by simp,fun a ha b hb e=>h2 ?_⟩;have:b=p.sp:=by simpa using hb
  rwa [<-this,<-e]
 ·rcases DL.mp hq with z|z
  ·exact g.sz q z
  ·rw [IZ.mp z]
   exact h3
 ·rcases DL.mp hq with z|z
  ·exact g.ws q z
  ·rw [IZ.mp z]
   exact h4
structure j4 (pX:θ)(qe:ρ):Prop where
 nb:(qe.map (·.nm)).Nodup
 ends:∀b∈qe,b.one∈pX/\b.qz∈pX/\b.one.nm≠b.qz.nm
theorem dX :∀{ug:List Z} {uf:List β} {a:Z} {b:β},Paired F ug uf->F a b->Paired F (ug++[a]) (uf++[b])
 | _,_,_,_,.nil,h=>.cons h .nil
 | _,_,_,_,.cons h t,h'=>.cons h (dX t h')
def gk (inv:L2.St->Hp->Prop)(h1:∀N:L2.St->Hp->Prop,(∀Y' H',inv Y' H' ->N Y' H')->t {D with nx:=N} Y H)(h2:∀Y' H',inv Y' H' ->u D Y' H'):YY t u D Y H:=h1 _ h2
def HX (g:fk pX)(b:j4 pX qe)(lp:pX.length<=9)(lb:qe.length<=14):bT pX qe:=
 ⟨g.np,b.nb,b.ends,fun p hp=>⟨(g.sz p hp).1,(g.sz p hp).2,(g.ws p hp).sz⟩,lp,lb,fun p hp=>(g.ws p hp).len⟩
def abM:JX "min"=some (.builtin "min"):=by decide+kernel
def cnt (pX:θ)(x:Rat):Nat:=(pX.filter fun p=>decide (x<=p.sp.1)).length
theorem O7 (x:Rat):∀pX:List ar,cnt pX (x+1)<=cnt pX x
 | []=>BW _
 | p::ps=>by
  let ih:=O7 x ps;unfold cnt at ih ⊢;rw [Rh,Rh];by_cases c:x+1<=p.sp.1
  ·let c2:x<=p.sp.1:=by grind
   rw [tu (JO c),tu (JO c2)];simpa using ih
  ·rw [qA (by simpa using c)]
   split
   ·rw [L7]
    omega
   ·exact ih
theorem O8 :∀{pX:θ},(∃p∈pX,p.sp.1=x)->cnt pX (x+1)<cnt pX x
 | [],⟨p,h,_⟩=>by simp at h
 | p::ps,⟨q,hq,e⟩=>by
  unfold cnt;rw [Rh,Rh];by_cases c0:p.sp.1=x
  ·let c:¬ x+1<=p.sp.1:=by grind
   let c2:x<=p.sp.1:=by grind
   rw [qA (by simpa using c),tu (JO c2),L7];have:=O7 x ps;unfold cnt at this;omega
  ·have qi :q∈ps:=by
    rcases JC.mp hq with z|z
    ·exact BH (by rwa [<-z]) c0
    ·exact z
   let ih:=O8 (pX:=ps) ⟨q,qi,e⟩;unfold cnt at ih;by_cases c:x+1<=p.sp.1
   ·let c2:x<=p.sp.1:=by grind
    rw [tu (JO c),tu (JO c2)];simpa using ih
   ·rw [qA (by simpa using c)]
    split
    ·rw [L7]
     exact io ih
    ·exact ih
def ac3 (pX:θ)(x:Rat):cnt pX x<=pX.length:=SE _ _
def ac2 (r:Rat):gB (qr r) (1,1)=qr (r+1):=by
 let e:gB (qr r) (1,1)=((qr r).1+(qr r).2,(qr r).2):=by
  unfold gB;simp
 let g:JF ((qr r).1+(qr r).2) (qr r).2=1:=by
  have:=oJ r;rw [<-this];simp
 rw [e,rW (q:=((qr r).1+(qr r).2,(qr r).2)) (dQ r) g];congr 1;let z:=BP (r:=r);let v:=gY r;unfold vl at v ⊢;push_cast;grind
def Ux (h:Sz k r):Ns k (qr r):=⟨Oj (intBits_le_iff.mp h.top),Oj (intBits_le_iff.mp h.bot)⟩
def zaz:∀i:Fin 10,∃N:Fin 6,ib [V.int 0,.int 1,.int 2,.int 2,.int 3,.int 3,.int 3,.int 4,.int 4,.int 5] (i.val:Int)=some (.int (N.val:Int)):=by decide+kernel
def wN (k:Int):Str:="far"++L9 (toString k)
def afz:∀st:Fin 3,∀a:Fin 6,∀k:Fin 12,∀f:Fin 4,nameOf (st.val:Int) (a.val:Int) (k.val:Int)≠wN (f.val:Int):=by decide+kernel
inductive wO (K:Frag)(vs:ε)(H:Hp)(Q:VK)(E_:XK):Prop
|mk (sA:AO)(ns:ο)(_:vs=[.ref sA])(_:aV K H sA (ns.map V.int))(_:∀(l:AO)(us:ε)(pX:θ)(H':Hp),aq H H' ->H l=none->H' l=some (.lst us)->Paired (lZ K H' l) us pX->fk pX->pX.length<=5->(∀p∈pX,(∀f:Fin 4,p.nm≠wN (f.val:Int))/\p.sp.1<=500010/\Sz 19 p.sp.2/\ -500002<=p.sp.2/\p.sp.2<=500002)->Q (.ref l) H')
def nI:aC ["_law_script","_law_cell","_law_many","_law_kind","_law_pins_here","_law_k","_law_spot_here"] V8 (ae Lm):=sq
def abN (D:Def K mg "_law_pins" Lm V8)(bD:mg "range"=none)(O9:mg "min"=none)(wQ:ac P w K mg qf 1 "_law_cell_at" So (sN K))(dr:ac P w K mg qf 1 "_law_field" NW eT)
  (ais:ac P w K mg qf 34 "_law_spot" mS (wL K)) (Sq:ac P w K mg qf 34 "_law_ways" Wh (ra K)) (Xn:ac P w K mg qf 2 "_law_name" Wo wK) (oV:ac P w K mg qf 1 "_law_sum" KA (cO K gB)):
  ac P w K mg qf 35 "_law_pins" V8 (wO K):=by
 refine D.oo nI fun H hr h=>?_;obtain ⟨sA,ns,rfl,hS,q⟩:=h;let L2:2<=BL:=ce
 let L3:3<=BL:=ce
 show ⟨_,(aa (aJ 1 nI.nd (aS wQ hr (aT (pv 0) ag))) (aa (aJ 2 nI.nd (bG aU (bW (jr ag (jr ag (jr ag (jr ag (jr ag (jr ag (jr ag (bE ag ag ag))))))))) (aS dr hr (bE (pv 1) ag ag)))) (aa (aJ 3 nI.nd (aS dr hr (bE (pv 1) ag ag))) (aa (bg (bB cZ (pv 3) ag) (ah (aJ 2 nI.nd (aD (acC rfl) rfl O9 abM (aT (pv 2) ag)))) aR) (aa (aJ 4 nI.nd (bW iA)) (aa (bJ I_ rfl (cp rfl bD (aK (pv 2))) (bZ 5 nI.nd) (aa (aJ 6 nI.nd (aS ais hr (aT (aS wQ hr (aT (pv 0) (aH bV ag (pv 5)))) (pv 3)))) (aa (rh I_ (my (zaF hr.units) (pv 6) (dj (tn:=Wd) (fr:=[]) (tw:=[]) (bw (pv 4)) (bG (cR (K:=K) rfl) (pv 0) ag)) rfl) (ah (aJ 6 nI.nd (aZ (aT (aS oV hr (aT (aF (pv 6)) (aZ (aT ag ag)))) (aF (pv 6))))))) (ah (bx (jq Of Sn Sl e_ (pv 4) (aK (aZ (bE (aS Xn hr (aT (pv 1) (pv 5))) (pv 6) (aS Sq hr (aK (aS wQ hr (aT (pv 0) (aH bV ag (pv 5))))))))))))))) (ah (aE (pv 4))))))))),?_⟩;try dsimp only [xk,mz,Cx.xC,Cx.tQ]
 show ⟨_,rfl,sA,ns,0,rfl,hS,ce,ce,?_⟩;generalize cell ns 0=c0;show ⟨z10L,?_⟩;intros t0 nt0 H0 st0 et0;let i1:=ba (c:=c0) (p:=1009) (m:=10) ce;show ⟨_,rfl,_,_,_,rfl,ce,ce,ce,?_⟩;generalize field c0 1009 10=fi at i1 ⊢;obtain ⟨fn,rfl⟩:∃n:Nat,fi=(n:Int):=⟨fi.toNat,bv⟩;obtain ⟨N,eN⟩:=zaz ⟨fn,bv⟩;show ⟨t0,_,_,_,rfl,rfl,aV.of et0,eN,_,rfl,_,_,_,rfl,ce,ce,ce,?_⟩;generalize field c0 2003 3=kind;dsimp only;refine gk (fun Y' H'=>∃N:Nat,N<=5/\Y' =[some (.ref sA),some (.int c0),some (.int (N:Int)),some (.int kind),none,none,none]/\H'=H0) (fun Nx zh=>?_) ?_
 ·show ⟨_,rfl,rfl,_,rfl,?_⟩
  refine bf (fun _=>?_) (fun _=>?_)
  ·let hN:=N.isLt
   show ⟨_,rfl,_,_,rfl,zh _ _ ⟨min N.val 4,bv,?_,rfl⟩⟩
   have:(if (4:Int)<(N.val:Int) then (4:Int) else (N.val:Int))=((min N.val 4:Nat):Int):=by
    split<;>omega
   rw [this];rfl
  ·exact zh _ _ ⟨N.val,by have:=N.isLt;omega,rfl,rfl⟩
 rintro Y' H' ⟨N,hN,rfl,rfl⟩;show ⟨z0L,?_⟩;intros lp np H1 sp ep;let s01:=st0.trans sp;let u3:H lp=none:=st0.free np;show ⟨_,rfl,(N:Int),rfl,bv,bv,let I:bn:=fun i Y H'=>Ow fun (o5 o6:Ε) (us:ε) (pX:θ)=>Y=[ap sA,some (.int c0),some (.int (N:Int)),some (.int kind),ap lp,o5,o6]/\aq H H'/\H' lp=some (.lst us)/\Paired (lZ K H' lp) us pX/\fk pX/\pX.length=i/\∀p∈pX,∃j,j<i/\p.nm=nameOf (field c0 3001 3) (field c0 4001 6) (j:Int)/\p.sp.1<=500010/\Sz 19 p.sp.2/\ -500002<=p.sp.2/\p.sp.2<=500002;cJ (lo:=0) (n:=N) I ⟨none,none,[],[],rfl,s01,ep,.nil,⟨by simp,by simp,by simp,by simp⟩,rfl,by simp⟩ ?_ ?_⟩
 ·rintro i Y H2 hi ⟨o5,o6,us,pX,rfl,s2,e2,pp,gp,lpi,nm⟩
  let ei:(0:Int)+(i:Int)=(i:Int):=Kz _;rw [ei];let lu:us.length=pX.length:=CV pp;show ⟨_,rfl,_,rfl,_,_,rfl,rfl,sA,ns,_,rfl,s2.seq hS,bv,bv,_,rfl,_,_,rfl,fun p3 x0 y0 H3 s3 zx zy xb yb h3=>?_⟩;let s23:=s2.trans s3
  let h30:f_ K H3 (.ref p3) (x0+((0:Nat):Rat),y0):=by
   let e:x0+((0:Nat):Rat)=x0:=by
    have:((0:Nat):Rat)=0:=by rfl
    rw [this];grind
   rwa [e]
  dsimp only;refine gk (fun Y' H'=>Ov fun (sv:V) (x:Rat)=>Y' =[some (.ref sA),some (.int c0),some (.int (N:Int)),some (.int kind),some (.ref lp),some (.int (i:Int)),some sv]/\aq H3 H'/\f_ K H' sv (x,y0)/\(Sz 44 x/\x<=500010)/\(x,y0)∉pX.map (·.sp)) (fun Nx zh=>?_) ?_
  ·show ⟨fun m Y H'=>Ov fun (sv:V) (j:Nat)=>Y=[ap sA,some (.int c0),some (.int (N:Int)),some (.int kind),ap lp,some (.int (i:Int)),some sv]/\aq H3 H'/\f_ K H' sv (x0+(j:Rat),y0)/\m=cnt pX (x0+(j:Rat))/\j+cnt pX (x0+(j:Rat))<=pX.length,⟨_,_,0,rfl,aq.refl _,h30,rfl,by have:=ac3 pX (x0+((0:Nat):Rat));omega⟩,?_⟩
   rintro m Y H4 ⟨sv,j,rfl,s4,h4,rfl,hj⟩;let e4:=(s3.trans s4) _ _ e2;let pp4:Paired (lZ K H4 lp) us pX:=Paired.bP pp fun _ _ z=>z.qg (s3.trans s4);let zj:Sz 44 (x0+(j:Rat)):=(zx.add (jP (i:=(j:Int)) (k:=3) (show _<8 by omega) ce)).up ce;show ⟨_,rfl,_,rfl,lp,rfl,⟨_,aV.of e4⟩,fun D1 n1=>?_⟩
   refine cE (tG:=[]) (K:=K) (a:=lp) (xs:=us) (fun i v H=>∃p,pX[i]?=some p/\f_ K H v p.sp) n1 (by rw [lu];exact IY (show pX.length<=1000 by omega) ce) (fun H2 s2=>aV.of (s2 _ _ e4)) (fun _ _ _ _ _ h0 ks h=>by
     obtain ⟨p,h1,h2⟩:=h;show ⟨p,h1,h2.aX fun b xs r=>?_⟩
     rcases r with r|⟨o',r⟩
     ·exact .inl (ks _ _ (fun e=>by erw [e,h0] at r) r)
     ·exact .inr ⟨o',ks _ _ (fun e=>by erw [e,h0] at r) r⟩) ?_ ?_
   ·intro jj u H6 R hu s6 k
    obtain ⟨p,AA,hp⟩:=aA pp4 hu;obtain ⟨a,l,sv,gm,rfl,h1,h2,_⟩:=hp;show ⟨_,rfl,a,_,_,_,rfl,rfl,Ty.aq.bO s6 h1,rfl,k _ _ (aq.refl _) ⟨p,AA,h2.qg s6⟩⟩
   intro ys H6 hy gv s6 hD
   let pq:jc K H6 ys (pX.map (·.sp)):=cV (by rw [AU,hy,lu]) fun j u q' NL YG =>by
    obtain ⟨p,h1,h2⟩:=gv j u NL;erw [AY,h1] at YG;exact h2
   let h6:=h4.qg s6;show ⟨(x0+(j:Rat),y0),D1,ys,_,rfl,aV.of hD,h6,pq,_,rfl,?_⟩;refine bf (fun cc=>?_) (fun cc=>?_)
   ·let mem:(x0+(j:Rat),y0)∈pX.map (·.sp):=by simpa using cc
    obtain ⟨p,hp,AA⟩:=AW.mp mem;let lt:=O8 (x:=x0+(j:Rat)) ⟨p,hp,by rw [AA]⟩
    let ej:x0+(j:Rat)+1=x0+((j+1:Nat):Rat):=by
     push_cast;grind
    rw [ej] at lt;show ⟨fun Y' H'=>∃(sv:V),Y' =[some (.ref sA),some (.int c0),some (.int (N:Int)),some (.int kind),some (.ref lp),some (.int (i:Int)),some sv]/\aq H3 H'/\f_ K H' sv (x0+((j+1:Nat):Rat),y0),fun Y' H' ⟨sv',h1,h2,h3⟩=>⟨_,lt,sv',j+1,h1,h2,h3,rfl,bv⟩,?_⟩;obtain ⟨sa,u1,u2,rfl,wU,Xo,Qb⟩:=h6;show ⟨_,rfl,sa,_,_,_,rfl,rfl,wU,jz,L2,?_⟩;intros p7 n7 H7 s7 e7;show ⟨u1,.ref p7,qr (x0+(j:Rat)),(1,1),44,1,rfl,Xo.qg s7,⟨p7,rfl,bL.of e7⟩,Ux zj,⟨ce,ce⟩,ce,fun p8 H8 s8 e8=>?_⟩;rw [ac2,ej] at e8;show ⟨_,rfl,sa,_,_,_,rfl,rfl,Ty.aq.bO (s7.trans s8) wU,jQ,L2,?_⟩;intros p9 n9 H9 s9 e9;let s69:=(s7.trans s8).trans s9;show ⟨.ref p9,rfl,(s4.trans s6).trans s69,nG e9 ((nE e8).qg s9) (Qb.qg s69)⟩
   ·let fresh:(x0+(j:Rat),y0)∉pX.map (·.sp):=by simpa using cc
    exact zh _ _ ⟨sv,x0+(j:Rat),rfl,s4.trans s6,h6,⟨zj,(by have Wi :((j:Int):Rat)<=((5:Int):Rat):=Pk.mpr bv;let e1:((j:Int):Rat)=(j:Rat):=rfl;let e2:((5:Int):Rat)=5:=rfl;rw [e1,e2] at Wi;grind)⟩,fresh⟩
  rintro Y' H4 ⟨sv,x,rfl,s4,h4,⟨zx',xb'⟩,fresh⟩;let O_:=s3.trans s4;let kJ:=s2.trans O_;let e4:=O_ _ _ e2;let pp4:Paired (lZ K H4 lp) us pX:=Paired.bP pp fun _ _ z=>z.qg O_;show ⟨_,rfl,.inl ⟨rfl,_,aV.of e4⟩,_,rfl,_,rfl,_,_,rfl,gV,bv,_,rfl,_,rfl,_,rfl,_,_,rfl,rfl,sA,ns,_,rfl,kJ.seq hS,bv,bv,_,rfl,fun l8 us8 ws H8 wk s8 n8 e8 p8=>⟨L3,?_⟩⟩;intros p9 n9 H9 s9 e9;let s49:=s8.trans s9;let e49:=s49 _ _ e4;let pp9:Paired (lZ K H9 lp) us pX:=Paired.bP pp4 fun _ _ z=>z.qg s49;show ⟨lp,_,_,rfl,rfl,e49,(by rw [lu];exact IY (show pX.length<=1000 by omega) ce),?_⟩;let rq:lZ K H9 lp (.ref p9) ⟨nameOf (field c0 3001 3) (field c0 4001 6) (i:Int),(x,y0),ws⟩:=⟨p9,l8,sv,us8,rfl,bL.of e9,h4.qg s49,s9 _ _ e8,p8.qg s9,fun z=>by erw [z,e4] at n8⟩;show ⟨_,_,_,pX++[⟨nameOf (field c0 3001 3) (field c0 4001 6) (i:Int),(x,y0),ws⟩],rfl,fun b o z=>?_,aj,dX (Paired.bP pp9 fun _ _ z=>z.upd e49) (rq.upd e49),gp.snoc (fun z=>?_) fresh ⟨zx',zy.up ce⟩ wk,by simp [lpi],fun p hp=>?_⟩
  ·rw [ak (ao z u3)]
   exact s49 _ _ (kJ _ _ z)
  ·obtain ⟨p,hp,AA⟩:=AW.mp z
   obtain ⟨j,hj,ej,_⟩:=nm p hp;let i3:=ba (c:=c0) (p:=3001) (m:=3) ce;let i4:=ba (c:=c0) (p:=4001) (m:=6) ce
   have:=ze ⟨(field c0 3001 3).toNat,bv⟩ ⟨(field c0 4001 6).toNat,bv⟩ ⟨j,bv⟩ ⟨i,bv⟩ (fun z=>by
    have:=ud Fin.val z;simp at this
    omega)
   refine this ?_;show nameOf (((field c0 3001 3).toNat:Nat):Int) (((field c0 4001 6).toNat:Nat):Int) (j:Int)=nameOf (((field c0 3001 3).toNat:Nat):Int) (((field c0 4001 6).toNat:Nat):Int) (i:Int);rwa [show (((field c0 3001 3).toNat:Nat):Int)=field c0 3001 3 by omega,show (((field c0 4001 6).toNat:Nat):Int)=field c0 4001 6 by omega,<-ej]
  ·rcases DL.mp hp with z|z
   ·obtain ⟨j,hj,ej,eb⟩:=nm p z
    show ⟨j,io hj,ej,eb⟩
   ·rw [IZ.mp z]
    show ⟨i,im,rfl,xb',zy,yb⟩
 ·rintro Y H2 ⟨o5,o6,us,pX,rfl,s2,e2,pp,gp,lpi,nm⟩
  show ⟨_,rfl,q lp us pX H2 s2 u3 e2 pp gp bv fun p hp=>?_⟩;obtain ⟨j,hj,ej,eb⟩:=nm p hp;show ⟨?_,eb⟩;rw [ej];let f1:=ba (c:=c0) (p:=3001) (m:=3) ce;let f2:=ba (c:=c0) (p:=4001) (m:=6) ce;obtain ⟨u,hu⟩:∃n:Nat,field c0 3001 3=(n:Int):=⟨(field c0 3001 3).toNat,bv⟩;obtain ⟨v,hv⟩:∃n:Nat,field c0 4001 6=(n:Int):=⟨(field c0 4001 6).toNat,bv⟩;rw [hu,hv];exact afz ⟨u,bv⟩ ⟨v,bv⟩ ⟨j,bv⟩
inductive wV (K:Frag)(vs:ε)(H:Hp)(Q:VK)(E_:XK):Prop
|mk (sA pA:AO)(ns:ο)(us:ε)(pX:θ)(_:vs=[.ref sA,.ref pA])(_:aV K H sA (ns.map V.int))(_:H pA=some (.lst us))(_:us.length=pX.length)(_:(pX.map (·.nm)).Nodup)(_:pX.length<=6)(_:∀(l:AO)(eR :ε)(qe:ρ)(H':Hp),aq H H' ->H l=none->H' l=some (.lst eR)->Paired (h_ K H' pX) eR qe->j4 pX qe->qe.length<=7->(∀b∈qe,b.nm≠ "new0"/\b.nm≠ "new1"/\b.nm≠ "new2"/\b.nm≠ "new3"/\b.nm≠ "last")->Q (.ref l) H')
def j4.snoc (g:j4 pX qe)(h1:b.nm∉qe.map (·.nm))(h2:b.one∈pX/\b.qz∈pX/\b.one.nm≠b.qz.nm):j4 pX (qe++[b]):=by
 show ⟨?_,fun q hq=>?_⟩
 ·rw [IX,Po]
  show ⟨g.nb,by simp,fun a ha c hc e=>h1 ?_⟩;have:c=b.nm:=by simpa using hc
  rwa [<-this,<-e]
 ·rcases DL.mp hq with z|z
  ·exact g.ends q z
  ·rw [IZ.mp z]
   exact h2
def ahO:∀st:Fin 3,∀a:Fin 6,∀k:Fin 8,nameOf (st.val:Int) (a.val:Int) (k.val:Int)≠ "new0"/\nameOf (st.val:Int) (a.val:Int) (k.val:Int)≠ "new1"/\nameOf (st.val:Int) (a.val:Int) (k.val:Int)≠ "new2"/\nameOf (st.val:Int) (a.val:Int) (k.val:Int)≠ "new3"/\nameOf (st.val:Int) (a.val:Int) (k.val:Int)≠ "last":=by decide+kernel
def qa:aC ["_law_script","_law_pins_here","_law_cell","_law_many","_law_bars_here","_law_k","_law_one","_law_step"] oF (ae Lo):=sq
def abQ (D:Def K mg "_law_bars" Lo oF)(bD:mg "range"=none)(aL:mg "len"=none)(wQ:ac P w K mg qf 1 "_law_cell_at" So (sN K))(dr:ac P w K mg qf 1 "_law_field" NW eT)(Xn:ac P w K mg qf 2 "_law_name" Wo wK):
  ac P w K mg qf 3 "_law_bars" oF (wV K):=by
 refine D.oo qa fun H hr h=>?_;obtain ⟨sA,pA,ns,us,pX,rfl,hS,hp,lu,np,lp,q⟩:=h;let L3:3<=BL:=ce
 show ⟨_,(aa (aJ 2 qa.nd (aS wQ hr (aT (pv 0) ag))) (aa (aJ 3 qa.nd (aS dr hr (bE (pv 2) ag ag))) (aa (bg (bB rm (aD av rfl aL bM (aK (pv 1))) ag) (ah (aJ 3 qa.nd ag)) aR) (aa (aJ 4 qa.nd (bW iA)) (aa (bJ I_ rfl (cp rfl bD (aK (pv 3))) (bZ 5 qa.nd) (aa (aJ 6 qa.nd (aS dr hr (bE (aS wQ hr (aT (pv 0) (aH bV ag (pv 5)))) ag (aD av rfl aL bM (aK (pv 1)))))) (aa (aJ 7 qa.nd (aH bV ag (aS dr hr (bE (aS wQ hr (aT (pv 0) (aH bV ag (pv 5)))) ag (aH dc (aD av rfl aL bM (aK (pv 1))) ag))))) (ah (bx (jq Of Sn Sl e_ (pv 4) (aK (aZ (bE (aS Xn hr (aT (pv 2) (pv 5))) (pv 6) (aH gG (aH bV (pv 6) (pv 7)) (aD av rfl aL bM (aK (pv 1))))))))))))) (ah (aE (pv 4)))))))),?_⟩;try dsimp only [xk,mz,Cx.xC,Cx.tQ]
 show ⟨_,rfl,sA,ns,1,rfl,hS,ce,ce,?_⟩;generalize cell ns 1=c0;let i1:=ba (c:=c0) (p:=1009) (m:=8) ce;show ⟨_,rfl,_,_,_,rfl,ce,ce,ce,?_⟩;generalize field c0 1009 8=fi at i1 ⊢;obtain ⟨fn,rfl⟩:∃n:Nat,fi=(n:Int):=⟨fi.toNat,bv⟩;dsimp only;refine gk (fun Y' H'=>∃N:Nat,N<=7/\(0<N->2<=pX.length)/\Y' =[some (.ref sA),some (.ref pA),some (.int c0),some (.int (N:Int)),none,none,none,none]/\H'=H) (fun Nx zh=>?_) ?_
 ·show ⟨_,rfl,pA,_,rfl,.inl (aV.of hp),_,_,rfl,rfl,_,rfl,?_⟩
  refine bf (fun _=>?_) (fun c=>?_)
  ·exact zh _ _ ⟨0,bv,bv,rfl,rfl⟩
  ·let c':¬ (us.length:Int)<2:=fun z=>c (JO z)
   exact zh _ _ ⟨fn,bv,fun _=>bv,rfl,rfl⟩
 rintro Y' Hy ⟨N,hN,α5,rfl,rfl⟩;show ⟨z0L,?_⟩;intros lb nb H1 sb eb;show ⟨_,rfl,(N:Int),rfl,bv,bv,let I:bn:=fun i Y H'=>Yu fun (o5 o6 o7:Ε) (eR :ε) (qe:ρ)=>Y=[ap sA,ap pA,some (.int c0),some (.int (N:Int)),ap lb,o5,o6,o7]/\aq Hy H'/\H' lb=some (.lst eR)/\Paired (h_ K H' pX) eR qe/\j4 pX qe/\qe.length=i/\∀b∈qe,∃j,j<i/\b.nm=nameOf (field c0 3001 3) (field c0 4001 6) (j:Int);cJ (lo:=0) (n:=N) I ⟨none,none,none,[],[],rfl,sb,eb,.nil,⟨by simp,by simp⟩,rfl,by simp⟩ ?_ ?_⟩
 ·rintro i Y H2 hi ⟨o5,o6,o7,eR,qe,rfl,s2,e2,pb,gb,lbi,nm⟩
  let ei:(0:Int)+(i:Int)=(i:Int):=Kz _;rw [ei];let n2:2<=pX.length:=α5 bv;let lv:eR.length=qe.length:=CV pb;let sp:=aV.of (K:=K) (s2 _ _ hp);show ⟨_,rfl,_,rfl,_,_,rfl,rfl,sA,ns,_,rfl,s2.seq hS,bv,bv,_,rfl,pA,_,rfl,.inl sp,_,_,_,rfl,ce,ce,bv,?_⟩;let j1:=ba (c:=cell ns (8+(i:Int))) (p:=1009) (m:=(us.length:Int)) bv;let j2:=ba (c:=cell ns (8+(i:Int))) (p:=2003) (m:=(us.length:Int)-1) bv;show ⟨_,rfl,_,rfl,_,_,rfl,rfl,sA,ns,_,rfl,s2.seq hS,bv,bv,_,rfl,pA,_,rfl,.inl sp,_,_,rfl,rfl,_,_,_,rfl,ce,ce,bv,_,_,rfl,rfl,?_⟩;generalize field (cell ns (8+(i:Int))) 1009 (us.length:Int)=one at j1 ⊢;generalize field (cell ns (8+(i:Int))) 2003 ((us.length:Int)-1)=step at j2 ⊢;obtain ⟨on,rfl⟩:∃n:Nat,one=(n:Int):=⟨one.toNat,oe j1⟩
  let oo:∃m:Nat,((on:Int)+(1+step)).fmod (us.length:Int)=(m:Int)/\m<us.length/\m≠on:=by
   let f:=nh (x:=(on:Int)+(1+step)) (m:=(us.length:Int)) bv;show ⟨(((on:Int)+(1+step)).fmod (us.length:Int)).toNat,oe f,bv,fun z=>?_⟩;let e:((on:Int)+(1+step)).fmod (us.length:Int)=(on:Int):=bv
   rw [ahW _ gV] at e;by_cases c:(on:Int)+(1+step)<(us.length:Int)
   ·rw [rS bv c] at e
    omega
   ·rw [<-aiZ,rS bv bv] at e
    omega
  obtain ⟨YH,YG,l2',ne2⟩:=oo;show ⟨_,rfl,.inl ⟨rfl,_,aV.of e2⟩,_,rfl,_,rfl,_,_,rfl,gV,bv,_,rfl,_,rfl,_,rfl,_,_,rfl,rfl,_,rfl,pA,_,rfl,.inl sp,_,_,rfl,rfl,nz bv,L3,?_⟩;intros p9 n9 H9 s9 e9;let e9:H9 p9=some (.tup [.str (nameOf (field c0 3001 3) (field c0 4001 6) (i:Int)),.int (on:Int),.int (((on:Int)+(1+step)).fmod (us.length:Int))]):=e9;rw [YG] at e9;let e29:=s9 _ _ e2;show ⟨lb,_,_,rfl,rfl,e29,(by rw [lv];exact IY (show qe.length<=1000 by omega) ce),?_⟩;let l1:on<pX.length:=bv
  let l2:YH<pX.length:=jw lu l2'
  let st:bq H9 (upd H9 lb (.lst (eR ++[.ref p9]))):=.list e29
  let ns9:∀(v:V)(b:aI),h_ K H2 pX v b->h_ K (upd H9 lb (.lst (eR ++[.ref p9]))) pX v b:=fun v b h=>by
   obtain ⟨a,i',j',e,h1,h2,h3⟩:=h.qg s9;show ⟨a,i',j',e,st.bO h1,h2,h3⟩
  show ⟨_,_,_,eR ++[.ref p9],qe++[⟨nameOf (field c0 3001 3) (field c0 4001 6) (i:Int),pX[on],pX[YH]⟩],rfl,fun b o z=>?_,aj,dX (Paired.bP pb fun _ _ z=>ns9 _ _ z) ?_,gb.snoc (fun z=>?_) ⟨QV l1,QV l2,fun z=>?_⟩,by simp [lbi],fun b hb=>?_⟩
  ·rw [ak (ao z nb)]
   exact s9 _ _ (s2 _ _ z)
  ·show ⟨p9,on,YH,rfl,st.bO (bL.of e9),gE l1,gE l2⟩
  ·obtain ⟨b,hb,AA⟩:=AW.mp z
   obtain ⟨j,hj,ej⟩:=nm b hb;let i3:=ba (c:=c0) (p:=3001) (m:=3) ce;let i4:=ba (c:=c0) (p:=4001) (m:=6) ce
   have:=ze ⟨(field c0 3001 3).toNat,bv⟩ ⟨(field c0 4001 6).toNat,bv⟩ ⟨j,bv⟩ ⟨i,bv⟩ (fun z=>by
    have:=ud Fin.val z;simp at this
    omega)
   refine this ?_;show nameOf (((field c0 3001 3).toNat:Nat):Int) (((field c0 4001 6).toNat:Nat):Int) (j:Int)=nameOf (((field c0 3001 3).toNat:Nat):Int) (((field c0 4001 6).toNat:Nat):Int) (i:Int);rwa [show (((field c0 3001 3).toNat:Nat):Int)=field c0 3001 3 by omega,show (((field c0 4001 6).toNat:Nat):Int)=field c0 4001 6 by omega,<-ej]
  ·let q1:(pX.map (·.nm))[on]?=some pX[on].nm:=by rw [AY,gE l1];rfl
   let q2:(pX.map (·.nm))[YH]?=some pX[on].nm:=by rw [AY,gE l2];exact ud some z.symm
   exact ne2 ((tS (by rw [AU];omega) np).mp (q1.trans q2.symm)).symm
  ·rcases DL.mp hb with z|z
   ·obtain ⟨j,hj,ej⟩:=nm b z
    show ⟨j,io hj,ej⟩
   ·rw [IZ.mp z]
    show ⟨i,im,rfl⟩
 ·rintro Y H2 ⟨o5,o6,o7,eR,qe,rfl,s2,e2,pb,gb,lbi,nm⟩
  show ⟨_,rfl,q lb eR qe H2 s2 nb e2 pb gb bv fun b hb=>by
   obtain ⟨j,hj,ej⟩:=nm b hb;let i3:=ba (c:=c0) (p:=3001) (m:=3) ce;let i4:=ba (c:=c0) (p:=4001) (m:=6) ce;have:=ahO ⟨(field c0 3001 3).toNat,bv⟩ ⟨(field c0 4001 6).toNat,bv⟩ ⟨j,bv⟩;rw [show ((⟨(field c0 3001 3).toNat,bv⟩:Fin 3).val:Int)=field c0 3001 3 by show (((field c0 3001 3).toNat:Nat):Int)=_;omega,show ((⟨(field c0 4001 6).toNat,bv⟩:Fin 6).val:Int)=field c0 4001 6 by show (((field c0 4001 6).toNat:Nat):Int)=_;omega] at this;rw [ej]
   exact this⟩
def HY (v:V):OV ("ways":Str) [(("way":Str),v)]=none:=by
 let h:(("ways":Str)=="way")=false:=by decide+kernel
 simp [OV,h]
inductive sR (K:Frag)(C:AO)(vs:ε)(H:Hp)(Q:VK)(E_:XK):Prop
|mk (pA bA:AO)(us eR :ε)(pX:θ)(qe:ρ)(_:vs=[.ref pA,.ref bA])(_:H pA=some (.lst us))(_:Paired (jA K H) us pX)(_:H bA=some (.lst eR))(_:Paired (h_ K H pX) eR qe)(_:fk pX)(_:j4 pX qe)(_:pX.length<=9)(_:qe.length<=14)(_:∀(a dx pP pW pB:AO)(kP kW kB:δ)(H':Hp),aq H H' ->fq K H' C a dx pP pW pB (pX.map fun p=>(p.nm,qP p.sp)) (qe.map fun b=>(b.nm,b.one.nm,b.qz.nm)) kP kW kB->rY K H' (pX.map fun p=>(p.nm,p.ws)) kW->(∀kv∈kW,∀b o,H b=some o->kv.2≠.ref b)->H pP=none->H pW=none->H pB=none->Q (.ref a) H')
def qb:aC ["_law_pins_here","_law_bars_here","_law_frame_here","_law_name_here","_law_spot_here","_law_ways_here","_law_one","_law_other"] oP (ae Lp):=sq
def abR {C CR CF fI fR:AO}(D:Def K mg "_law_frame" Lp oP)(aL:mg "len"=none)(Xq:Mk K C fI)(Xr:mg "Frame"=some (.ref C))(aiv:ad P w K mg qf 1 fI fdI JB (v7 K C))(Xs:Binds K fdI JB [])
  (Mj:mg "Roller"=some (.ref CR)) (Ml:mg "Fixed"=some (.ref CF)) (Mm:Yn K CF) (Mn:Mk K CR fR) (Xt:ad P w K mg qf 1 fR fdR Rt (qU K CR)) (Mo:Binds K fdR Rt [])
  (wR:am P w K mg qf 2 CR "ways" JB (jd K CR)) (wF:am P w K mg qf 2 CF "ways" JB (je K))
  (Sr:am P w K mg qf 3 C "put_bar" Oi (iR K C)) (Uy:am P w K mg qf 3 C "put_pin" V1 (dI P w K mg qf C)) (YI:vL P w K mg qf (aY P w) 3 C "put_pin" V1 [.none] (dI P w K mg qf C)):
  ac P w K mg qf 4 "_law_frame" oP (sR K C):=by
 refine D.op qb fun f cD A qw s H vs Q E hr h=>?_;obtain ⟨pA,bA,us,eR,pX,qe,rfl,hp,pp,hb,pb,gp,gb,lp6,lb8,q⟩:=h;let lu:us.length=pX.length:=CV pp
 show ⟨_,(aa (aJ 2 qb.nd (acU Xq aiv hr.mo rfl Xr Xs .nil (pY P w))) (aa (bJ I_ rfl (bw (pv 0)) (eU rfl (a_ (bZ 3 qb.nd) (a_ (bZ 4 qb.nd) (a_ (bZ 5 qb.nd) cY)))) (aa (bg (bB cZ (aD av rfl aL bM (aK (pv 5))) ag) (ah (bx (FY (k:=3) (pv 2) hr.mo (pY P w) (bE (pv 3) (aF (pv 4)) (aF (pv 4)))))) aR) (aa (bg (bB cZ (aD av rfl aL bM (aK (pv 5))) ag) (ah (bx (cT (k:=3) (pv 2) hr.mo (pY P w) (jr (pv 3) (bE (aF (pv 4)) (aF (pv 4)) (adG Mn Xt hr.mo rfl Mj Mo .nil (pY P w) (aT (aF (iw (pv 5))) (aF (iw (pv 5)))))))))) aR) (ah (bg (bB cZ (aD av rfl aL bM (aK (pv 5))) ag) (ah (bx (cT (k:=3) (pv 2) hr.mo (pY P w) (jr (pv 3) (bE (aF (pv 4)) (aF (pv 4)) (NQ Mm rfl Ml)))))) aR))))) (aa (bJ I_ rfl (bw (pv 1)) (eU rfl (a_ (bZ 3 qb.nd) (a_ (bZ 6 qb.nd) (a_ (bZ 7 qb.nd) cY)))) (ah (bx (cT (k:=3) (pv 2) hr.mo (pY P w) (bE (pv 3) (aF (bG aU (pv 0) (pv 6))) (aF (bG aU (pv 0) (pv 7)))))))) (ah (aE (pv 2)))))),?_⟩;sleep 3
 intro a dx na ndx nad;let sF:aq H (upd (upd H dx (.own a)) a (.ins C dx [])):=fun b o e=>by rwa [ak (ao e na),ak (ao e ndx)]
 show ⟨a,dx,rfl,aj,fun pP pW pB H1 k1 nP nW nB R1=>⟨rfl,?_⟩⟩;let s1:aq H H1:=fun b o e=>k1 b o (ao e na) (sF _ _ e);let nP:=oK sF nP;let nW:=oK sF nW;let nB:=oK sF nB
 show ⟨_,rfl,pA,rfl,⟨_,aV.of (s1 _ _ hp)⟩,let I:bn:=fun i Y H'=>Yu fun (o4 o5 o6:Ε) (kP kW:δ)=>Y=[ap pA,ap bA,ap a,o4,o5,o6,none,none]/\aq H H'/\fq K H' C a dx pP pW pB ((pX.take i).map fun p=>(p.nm,qP p.sp)) [] kP kW []/\rY K H' ((pX.take i).map fun p=>(p.nm,p.ws)) kW/\∀kv∈kW,∀b o,H b=some o->kv.2≠.ref b;cC (K:=K) (a:=pA) (xs:=us) I ⟨none,none,none,[],[],rfl,s1,R1,.nil,fun kv h=>(nomatch h)⟩ (fun i Y H' _ h=>by
   obtain ⟨_,_,_,_,_,_,s,_⟩:=h
   exact aV.of (s _ _ hp)) ?_ ?_⟩
 ·rintro i u Y H2 hu ⟨o4,o5,o6,kP,kW,rfl,s2,R2,W2,nw⟩
  obtain ⟨p,ep,Pa⟩:=aA pp hu;let mp:p∈pX:=Wp ep;obtain ⟨ta,l,sv,ws,rfl,h1,h2,h3,h4⟩:=Pa.qg s2;obtain ⟨sa,x1,y1,rfl,wU,Xo,Qb⟩:=h2;show ⟨ta,_,rfl,h1,rfl,_,_,rfl,_,_,rfl,_,_,rfl,rfl,?_⟩;let tk:=take_snoc ep;let il:i<pX.length:=(ir.mp ep).1;let nlP:l≠pP:=fun z=>by erw [z,R2.pl] at h3
  let nlW:l≠pW:=fun z=>by erw [z,R2.wy] at h3
  let fin:∀(hv:V)(H5:Hp)(Q5:VK)(E5:XK),aq H2 H5->OJ P w K mg qf H5 hv p.ws->
    (∀H' xF mM,aq H H' ->H' l=some (.lst ws)->fq K H' C a dx pP pW pB ((pX.take (i+1)).map fun p=>(p.nm,qP p.sp)) [] xF mM []->rY K H' ((pX.take (i+1)).map fun p=>(p.nm,p.ws)) mM ->(∀kv∈mM,∀b o,H b=some o->kv.2≠.ref b)->Q5 .cL H')->dI P w K mg qf C [.ref a,.str p.nm,x1,y1,hv] H5 Q5 E5:=fun hv H5 Q5 E5 s5 hY fin=>by
   show ⟨a,dx,pP,pW,pB,_,_,kP,kW,_,_,p.nm,x1,y1,hv,qP p.sp,p.ws,rfl,R2.qg s5,W2.qg s5,by rw [DP,DP];rfl,Xo.qg s5,Qb.qg s5,fun z=>?_,fun z hz e=>?_,?_,hY,fun H' xF mM k' R' W' nl'=>?_⟩
   ·rw [DP] at z
    obtain ⟨p',kI,e'⟩:=AW.mp z;exact iN (nm:=ar.nm) gp.np ep kI e'
   ·obtain ⟨p',kI,e'⟩:=AW.mp hz
    rw [<-e'] at e;let e1:=ud Wr e;let e2:=ud Ww e;let e3:p'.sp=p.sp:=OO (jb e1) (jb e2);obtain ⟨j,hj,ej⟩:=RY.mp kI;rw [aj_] at ej;rw [JT] at hj;let q1:(pX.map (·.sp))[j]?=some p.sp:=by rw [AY,gE (ox hj),ej,<-e3];rfl
    let q2:(pX.map (·.sp))[i]?=some p.sp:=by rw [AY,ep];rfl
    have:=(tS (by rw [AU];exact ox hj) gp.ns).mp (q1.trans q2.symm);omega
   ·rw [AU,JT]
    omega
   ·refine fin H' xF mM (fun b o z=>k' b o (ao z nP) (ao z nW) (s5 _ _ (s2 _ _ z))) (k' _ _ nlP nlW (s5 _ _ h3)) ?_ ?_ ?_
    ·rw [tk,IX]
     exact R'
    ·rw [tk,IX]
     exact W'
    ·obtain ⟨l9,e9,n9⟩:=nl'
     rw [e9];intro kv Uq b o hb z
     rcases DL.mp Uq with h|h
     ·exact nw kv h b o hb z
     ·rw [IZ.mp h] at z
      injection z with z
      have:=(s2.trans s5).free n9;erw [z,hb] at this
  let l2:=aV.of (K:=K) h3;let lw:ws.length=p.ws.length:=CV h4;show ⟨_,rfl,l,_,rfl,.inl l2,rfl,_,rfl,?_⟩
  rcases gp.ws p mp with hw|⟨wx,wy,hw,wn,_,_⟩|hw
  ·rw [hw] at lw
   refine bf (fun _=>?_) (fun c=>by rw [lw] at c;simp at c);show ⟨_,rfl,a,C,dx,_,_,_,rfl,R2.obj,rfl,YI,_,rfl,_,rfl,sa,_,_,_,rfl,rfl,wU,jz,_,rfl,sa,_,_,_,rfl,rfl,wU,jQ,?_⟩;dsimp only [eG];refine fin .cL H2 _ _ (aq.refl _) (.inl ⟨rfl,hw⟩) fun H' xF mM s' l' R' W' nw'=>?_;let l':=aV.of (K:=K) l';show ⟨_,rfl,l,_,rfl,.inl l',rfl,_,rfl,bf (fun c=>by rw [lw] at c;simp at c) (fun _=>?_)⟩;show ⟨_,rfl,l,_,rfl,.inl l',rfl,_,rfl,bf (fun c=>by rw [lw] at c;simp at c) (fun _=>?_)⟩;show ⟨_,_,_,xF,mM,rfl,s',R',W',nw'⟩
  ·rw [hw] at lw h4
   obtain ⟨w0,rfl⟩:=w8.mp lw
   let hw0:f_ K H2 w0 (wx,wy):=by
    cases h4 with
    | cons h _=>exact h
   obtain ⟨wa,y2,y3,rfl,vE,N2,Uz⟩:=hw0;refine bf (fun c=>by simp at c) (fun _=>?_);show ⟨_,rfl,l,_,rfl,.inl l2,rfl,_,rfl,bf (fun _=>?_) (fun c=>BH rfl c)⟩;show ⟨_,rfl,a,C,dx,_,_,_,rfl,R2.obj,rfl,Uy,_,rfl,_,rfl,sa,_,_,_,rfl,rfl,wU,jz,_,rfl,sa,_,_,_,rfl,rfl,wU,jQ,_,rfl,l,_,_,_,rfl,rfl,l2,rfl,wa,_,_,_,rfl,rfl,vE,jz,_,rfl,l,_,_,_,rfl,rfl,l2,rfl,wa,_,_,_,rfl,rfl,vE,jQ,?_⟩;intro eI d1 Ss Xu ne1;let s4:aq H2 (upd (upd H2 d1 (.own eI)) eI (.ins CR d1 [])):=fun b o e=>by rwa [ak (ao e Ss),ak (ao e Xu)]
   let e4:(upd (upd H2 d1 (.own eI)) eI (.ins CR d1 [])) eI =some (.ins CR d1 []):=aj;generalize upd (upd H2 d1 (.own eI)) eI (.ins CR d1 [])=H4 at s4 e4 ⊢;show ⟨eI,d1,y2,y3,wx,wy,rfl,e4,N2.qg s4,Uz.qg s4,wn,fun p5 n5=>⟨rfl,?_⟩⟩;let xD:p5≠eI :=fun z=>by erw [z,e4] at n5
   let s5:aq H2 (upd (upd H4 p5 (.tup [y2,y3])) eI (.ins CR d1 [("way",.ref p5)])):=fun b o e=>by
    let z:b≠eI :=fun z=>by erw [z,Ss] at e
    rw [ak z];exact aG n5 _ _ _ (s4 _ _ e)
   let e5:(upd (upd H4 p5 (.tup [y2,y3])) eI (.ins CR d1 [("way",.ref p5)])) eI =some (.ins CR d1 [("way",.ref p5)]):=aj;let t5:(upd (upd H4 p5 (.tup [y2,y3])) eI (.ins CR d1 [("way",.ref p5)])) p5=some (.tup [y2,y3]):=by rw [ak xD,aj]
   generalize upd (upd H4 p5 (.tup [y2,y3])) eI (.ins CR d1 [("way",.ref p5)])=H5 at s5 e5 t5 ⊢;let Xv:f_ K H5 (.ref p5) (wx,wy):=nG t5 (N2.qg s5) (Uz.qg s5);dsimp only [eG];refine fin (.ref eI) H5 _ _ s5 (.inr ⟨eI,CR,d1,_,JB,jd K CR,rfl,e5,HY _,wR,fun H6 e6 t6 Q' an=>⟨eI,d1,p5,(wx,wy),rfl,e6,Xv.aX t6,by rwa [hw] at an⟩⟩) fun H' xF mM s' l' R' W' nw'=>?_;show ⟨_,rfl,l,_,rfl,.inl (aV.of (K:=K) l'),rfl,_,rfl,bf (fun c=>by simp at c) (fun _=>?_)⟩;show ⟨_,_,_,xF,mM,rfl,s',R',W',nw'⟩
  ·rw [hw] at lw
   refine bf (fun c=>by rw [lw] at c;simp at c) (fun _=>?_);show ⟨_,rfl,l,_,rfl,.inl l2,rfl,_,rfl,bf (fun c=>by rw [lw] at c;simp at c) (fun _=>?_)⟩;show ⟨_,rfl,l,_,rfl,.inl l2,rfl,_,rfl,bf (fun _=>?_) (fun c=>by rw [lw] at c;simp at c)⟩;show ⟨_,rfl,a,C,dx,_,_,_,rfl,R2.obj,rfl,Uy,_,rfl,_,rfl,sa,_,_,_,rfl,rfl,wU,jz,_,rfl,sa,_,_,_,rfl,rfl,wU,jQ,?_⟩;intro eI d1 Ss Xu ne1;let s4:aq H2 (upd (upd H2 d1 (.own eI)) eI (.ins CF d1 [])):=fun b o e=>by rwa [ak (ao e Ss),ak (ao e Xu)]
   let e4:(upd (upd H2 d1 (.own eI)) eI (.ins CF d1 [])) eI =some (.ins CF d1 []):=aj;generalize upd (upd H2 d1 (.own eI)) eI (.ins CF d1 [])=H4 at s4 e4 ⊢;dsimp only [eG];refine fin (.ref eI) H4 _ _ s4 (.inr ⟨eI,CF,d1,_,JB,je K,rfl,e4,rfl,wF,fun H6 _ _ Q' an=>⟨eI,rfl,by rwa [hw] at an⟩⟩) fun H' xF mM s' l' R' W' nw'=>?_;show ⟨_,_,_,xF,mM,rfl,s',R',W',nw'⟩
 ·rintro Y H2 ⟨o4,o5,o6,kP,kW,rfl,s2,R2,W2,nw⟩
  rw [lu,OU] at R2 W2;let lv:eR.length=qe.length:=CV pb
  show ⟨_,rfl,bA,rfl,⟨_,aV.of (s2 _ _ hb)⟩,let I:bn:=fun i Y H'=>Ow fun (o3 o7 o8:Ε) (kB:δ)=>Y=[ap pA,ap bA,ap a,o3,o5,o6,o7,o8]/\aq H H'/\fq K H' C a dx pP pW pB (pX.map fun p=>(p.nm,qP p.sp)) ((qe.take i).map fun b=>(b.nm,b.one.nm,b.qz.nm)) kP kW kB/\rY K H' (pX.map fun p=>(p.nm,p.ws)) kW;cC (K:=K) (a:=bA) (xs:=eR) I ⟨_,none,none,[],rfl,s2,R2,W2⟩ (fun i Y H' _ h=>by
    obtain ⟨_,_,_,_,_,s,_⟩:=h
    exact aV.of (s _ _ hb)) ?_ ?_⟩
  ·rintro i u Y H3 hu ⟨o3,o7,o8,kB,rfl,s3,R3,W3⟩
   obtain ⟨b,ebr,Qn⟩:=aA pb hu;let mb:b∈qe:=Wp ebr;obtain ⟨ta,i1,j1,rfl,h1,g1,g2⟩:=Qn.qg s3;obtain ⟨m1,m2,m3⟩:=gb.ends b mb;let tk:=take_snoc ebr;let il:i<qe.length:=(ir.mp ebr).1
   have abU :∀(k:Nat)(p:ar),pX[k]?=some p->∃(c la:AO)(sv:V),ib us (k:Int)=some (.ref c)/\bL K H3 c [.str p.nm,sv,.ref la]:=fun k p ek=>by
    obtain ⟨u',UA,hu'⟩:=aA (bN pp) ek;obtain ⟨c,la,sv,ws,rfl,q1,_⟩:=jA.qg hu' s3;show ⟨c,la,sv,bK UA,q1⟩
   obtain ⟨c1,la1,sv1,Xw,q1⟩:=abU _ _ g1;obtain ⟨c2,la2,sv2,Xx,q2⟩:=abU _ _ g2;show ⟨ta,_,rfl,h1,rfl,_,_,rfl,_,_,rfl,_,_,rfl,rfl,?_⟩;let lp3:=aV.of (K:=K) (s3 _ _ hp);show ⟨_,rfl,a,C,dx,_,_,_,rfl,R3.obj,rfl,Sr,_,rfl,_,rfl,_,rfl,pA,_,_,_,rfl,rfl,lp3,Xw,c1,_,_,_,rfl,rfl,q1,rfl,_,rfl,_,rfl,pA,_,_,_,rfl,rfl,lp3,Xx,c2,_,_,_,rfl,rfl,q2,rfl,?_⟩;show ⟨a,dx,pP,pW,pB,_,_,kP,kW,kB,b.nm,b.one.nm,b.qz.nm,rfl,R3,fun z=>?_,?_,?_,m3,?_,fun H' Yz k' R'=>?_⟩
   ·rw [DP] at z
    obtain ⟨b',ip,e'⟩:=AW.mp z;exact iN (nm:=aI.nm) gb.nb ebr ip e'
   ·rw [DP]
    exact AW.mpr ⟨_,m1,rfl⟩
   ·rw [DP]
    exact AW.mpr ⟨_,m2,rfl⟩
   ·rw [AU,JT]
    omega
   ·show ⟨_,_,_,Yz,rfl,fun c o z=>k' c o (ao z nB) (s3 _ _ z),?_,?_⟩
    ·rw [tk,IX]
     exact R'
    ·refine Paired.bP W3 fun p' kv z=>⟨z.1,?_⟩
     obtain ⟨l',gm,z1,z2,z3⟩:=z.2;show ⟨l',gm,z1,k' _ _ (fun z=>by erw [z,R3.br] at z2) z2,z3.aX fun c xs r=>?_⟩
     rcases r with r|⟨o',r⟩
     ·exact .inl (k' _ _ (fun e=>by erw [e,R3.br] at r) r)
     ·exact .inr ⟨o',k' _ _ (fun e=>by erw [e,R3.br] at r) r⟩
  ·rintro Y H3 ⟨o3,o7,o8,kB,rfl,s3,R3,W3⟩
   rw [lv,OU] at R3;show ⟨_,rfl,q a dx pP pW pB kP kW kB H3 s3 R3 W3 nw nP nW nB⟩
def ax (k:Int)(p:Rat×Rat):Rat:=if k=0 then p.1 else p.2
def zi (hk:k=0\/k=1)(h:f_ K H v p):∃(a:AO)(xs:ε)(u:V),v=.ref a/\bL K H a xs/\ib xs k=some u/\gL K H u (ax k p):=by
 obtain ⟨a,u1,u2,rfl,hq,h1,h2⟩:=h
 rcases hk with rfl|rfl
 ·show ⟨a,_,u1,rfl,hq,rfl,h1⟩
 ·show ⟨a,_,u2,rfl,hq,rfl,h2⟩
def Pb (h:Sz n p.1/\Sz n p.2):Sz n (ax k p):=by
 unfold ax;split
 ·exact h.1
 ·exact h.2
def wW {us:ε}{pX:θ}{k:Nat}(pp:Paired (jA K H) us pX)(e:pX[k]?=some p):∃(c la:AO)(sv:V),ib us (k:Int)=some (.ref c)/\bL K H c [.str p.nm,sv,.ref la]/\f_ K H sv p.sp:=by
 obtain ⟨u',UA,hu'⟩:=aA (bN pp) e;obtain ⟨c,la,sv,ws,rfl,q1,q2,_⟩:jA K H u' p:=hu';show ⟨c,la,sv,bK UA,q1,q2⟩
inductive wX (K:Frag)(vs:ε)(H:Hp)(Q:VK)(E_:XK):Prop
|mk (pA:AO)(us:ε)(pX:θ)(u:V)(b:aI)(k:Int)(_:vs=[.ref pA,u,.int k])(_:H pA=some (.lst us))(_:Paired (jA K H) us pX)(_:fk pX)(_:h_ K H pX u b)(_:(k=0\/k=1))(_:∀(v:V)(H':Hp),aq H H' ->j3 K H' v 89 (ax k b.qz.sp-ax k b.one.sp)->Q v H')
def abV:aC V2 V2 (ae Lq):=sq
def abW (D:Def K mg "_law_arm" Lq V2)(oV:ac P w K mg qf 1 "_law_sum" KA (cO K gB))(Pc:ac P w K mg qf 1 "_law_turned" RL (gH K)):
  ac P w K mg qf 2 "_law_arm" V2 (wX K):=by
 refine D.oo abV fun H hr h=>?_;obtain ⟨pA,us,pX,u,b,k,rfl,hp,pp,gp,⟨ta,i,j,rfl,hb,e1,e2⟩,hk,q⟩:=h;show ⟨_,(ah (aE (aS oV hr (aT (bG lC (aF (bG aU (pv 0) (aF (pv 1)))) (pv 2)) (aS Pc hr (aK (bG lC (aF (bG aU (pv 0) (aF (pv 1)))) (pv 2)))))))),?_⟩;obtain ⟨c1,l1,sv1,Xw,q1,r1⟩:=wW pp e1;obtain ⟨c2,l2,sv2,Xx,q2,r2⟩:=wW pp e2;obtain ⟨a1,xs1,u1,rfl,t1,v1,n1⟩:=zi hk r1;obtain ⟨a2,xs2,u2,rfl,t2,v2,n2⟩:=zi hk r2;let z1:=Pb (k:=k) (gp.sz _ (Wp e1));let z2:=Pb (k:=k) (gp.sz _ (Wp e2));let lp:=aV.of (K:=K) hp;show ⟨_,rfl,_,rfl,ta,_,_,_,rfl,rfl,hb,rfl,pA,_,_,_,rfl,rfl,lp,Xx,c2,_,_,_,rfl,rfl,q2,rfl,_,rfl,a2,_,_,_,rfl,rfl,t2,v2,_,rfl,_,rfl,ta,_,_,_,rfl,rfl,hb,rfl,pA,_,_,_,rfl,rfl,lp,Xw,c1,_,_,_,rfl,rfl,q1,rfl,_,rfl,a1,_,_,_,rfl,rfl,t1,v1,?_⟩;dsimp only [eG];show gH K [_] _ _ E0;refine sO (gA n1 (vb z1 (BW _))) fun p3 H3 s3 n3=>?_;show cO K gB [_,_] _ _ E0;refine nj ((gA n2 (vb z2 (BW _))).qg s3) n3 ce fun p4 H4 s4 n4=>?_;refine q (.ref p4) H4 (s3.trans s4) ?_;rwa [ai0]
inductive wY (K:Frag)(vs:ε)(H:Hp)(Q:VK)(E_:XK):Prop
|mk (l1 l2:AO)(u1 u2 v1 v2:V)(x1 x2 y1 y2:Rat)(m n:Nat)(_:vs=[.ref l1,.ref l2])(_:(aV K H l1 [u1,u2]\/bL K H l1 [u1,u2]))(_:(aV K H l2 [v1,v2]\/bL K H l2 [v1,v2]))(_:j3 K H u1 m x1)(_:j3 K H u2 m x2)(_:j3 K H v1 n y1)(_:j3 K H v2 n y2)(_:m+n<=30000000)(_:∀(v:V)(H':Hp),aq H H' ->j3 K H' v (m+n+(m+n)+1) (x1*y1+x2*y2)->Q v H')
def abX:aC KA KA (ae Lz):=sq
def abY (D:Def K mg "_law_dot" Lz KA)(oV:ac P w K mg qf 1 "_law_sum" KA (cO K gB))(Pd:ac P w K mg qf 1 "_law_times" KA (cO K oU)):
  ac P w K mg qf 2 "_law_dot" KA (wY K):=by
 refine D.oo abX fun H hr h=>?_;obtain ⟨l1,l2,u1,u2,v1,v2,x1,x2,y1,y2,m,n,rfl,h1,h2,a1,a2,b1,b2,le,q⟩:=h;show ⟨_,(ah (aE (aS oV hr (aT (aS Pd hr (aT (bG GB (pv 0) ag) (bG GB (pv 1) ag))) (aS Pd hr (aT (bG GB (pv 0) ag) (bG GB (pv 1) ag))))))),_,rfl,l1,_,_,_,rfl,rfl,h1,rfl,_,rfl,l2,_,_,_,rfl,rfl,h2,rfl,?_⟩;dsimp only [eG];show cO K oU [_,_] _ _ E0;refine q5 a1 b1 bv fun p3 H3 s3 n3=>?_;show ⟨_,rfl,l1,_,_,_,rfl,rfl,(h1.imp s3.seq (Ty.aq.bO s3)),rfl,_,rfl,l2,_,_,_,rfl,rfl,(h2.imp s3.seq (Ty.aq.bO s3)),rfl,?_⟩;dsimp only [eG];show cO K oU [_,_] _ _ E0;refine q5 (a2.qg s3) (b2.qg s3) bv fun p4 H4 s4 n4=>?_;show cO K gB [_,_] _ _ E0;refine nj (n3.qg s4) n4 bv fun p5 H5 s5 n5=>?_;exact q (.ref p5) H5 (s3.trans (s4.trans s5)) n5
def R9.get (h:R9 K H pX d kM M N)(hp:p∈pX):∃t v1 v2,dZ H d (.str p.nm) (some (.ref t))/\H t=some (.tup [v1,v2])/\gL K H v1 (M p.nm).1/\gL K H v2 (M p.nm).2:=by
 obtain ⟨t,v1,v2,a,b,c,d⟩:=h.tM p hp;show ⟨t,v1,v2,?_,b,c,d⟩;have:=dZ.k (k:=.inr p.nm) h.hM;rwa [a] at this
def UB (h:Zb n p.1/\Zb n p.2):Zb n (ax k p):=by
 unfold ax;split
 ·exact h.1
 ·exact h.2
inductive sS (K:Frag)(vs:ε)(H:Hp)(Q:VK)(E_:XK):Prop
|mk (pA dM:AO)(us:ε)(pX:θ)(u:V)(b:aI)(kM:δ)(M:ω)(N:Nat)(_:vs=[.ref pA,u,.ref dM])(_:H pA=some (.lst us))(_:Paired (jA K H) us pX)(_:fk pX)(_:h_ K H pX u b)(_:R9 K H pX dM kM M N)(_:∀(v:V)(H':Hp),aq H H' ->j3 K H' v (4*N+200) (yS M b)->Q v H')
def HZ:aC ["_law_pins_here","_law_bar","_law_motion","_law_here","_law_there","_law_more"] ZQ (ae LA):=sq
def abZ (D:Def K mg "_law_longer" LA ZQ)(bD:mg "range"=none)(oV:ac P w K mg qf 1 "_law_sum" KA (cO K gB))(Pc:ac P w K mg qf 1 "_law_turned" RL (gH K))(Su:ac P w K mg qf 2 "_law_arm" V2 (wX K))(Xy:ac P w K mg qf 2 "_law_dot" KA (wY K)):
  ac P w K mg qf 3 "_law_longer" ZQ (sS K):=by
 refine D.oo HZ fun H hr h=>?_;obtain ⟨pA,dM,us,pX,u,b,kM,M,N,rfl,hp,pp,gp,Qn,mo,q⟩:=h;let hN:=mo.hN;let L2:2<=BL:=ce
 show ⟨_,(aa (aJ 3 HZ.nd (cS (cf hr) (pv 2) (aF (bG aU (pv 0) (aF (pv 1)))) (fun _ _=>rfl))) (aa (aJ 4 HZ.nd (cS (cf hr) (pv 2) (aF (bG aU (pv 0) (aF (pv 1)))) (fun _ _=>rfl))) (aa (r6 (i:=5) (tn:=["_law_axis"]) (fr:=["_law_there","_law_here"]) (tw:=[4,3]) HZ.nd (cp rfl bD (aK ag)) (pS oV hr (aT (bG (cR (K:=K) rfl) (pv 1) (pv 0)) (pS Pc hr (aK (bG (cR (K:=K) rfl) (pv 2) (pv 0))))))) (ah (aE (aS Xy hr (aT (bW (aT (aS Su hr (bE (pv 0) (pv 1) ag)) (aS Su hr (bE (pv 0) (pv 1) ag)))) (pv 5)))))))),?_⟩;sleep 3
 obtain ⟨ta,i,j,rfl,hb,e1,e2⟩:=id Qn;obtain ⟨c1,l1,sv1,Xw,q1,_⟩:=wW pp e1;obtain ⟨c2,l2,sv2,Xx,q2,_⟩:=wW pp e2;obtain ⟨t1,y1,y1',dg1,et1,m11,m12⟩:=mo.get (Wp e1);obtain ⟨t2,y2,y2',dg2,et2,m21,m22⟩:=mo.get (Wp e2);let hw1:f_ K H (.ref t1) (M b.one.nm):=⟨t1,y1,y1',rfl,bL.of et1,m11,m12⟩;let hw2:f_ K H (.ref t2) (M b.qz.nm):=⟨t2,y2,y2',rfl,bL.of et2,m21,m22⟩;let lp:=aV.of (K:=K) hp;show ⟨_,rfl,_,rfl,_,rfl,ta,_,_,_,rfl,rfl,hb,rfl,pA,_,_,_,rfl,rfl,lp,Xw,c1,_,_,_,rfl,rfl,q1,rfl,dM,_,rfl,dg1,_,rfl,_,rfl,_,rfl,ta,_,_,_,rfl,rfl,hb,rfl,pA,_,_,_,rfl,rfl,lp,Xx,c2,_,_,_,rfl,rfl,q2,rfl,dM,_,rfl,dg2,?_⟩;let z1:=mo.zb _ (Wp e1);let z2:=mo.zb _ (Wp e2);show ⟨(2:Int),rfl,ce,ce,fun D1 n1=>?_⟩
 refine acA (lo:=0) (n:=2) (tG:=[some (.ref t2),some (.ref t1)]) (fun k v H=>j3 K H v (N+N+1) (ax (k:Int) (M b.qz.nm)-ax (k:Int) (M b.one.nm))) n1 ce (fun _ _ _ _ _ h0 ks h=>by
   refine j3.aX h fun b xs r=>?_
   rcases r with r|⟨o',r⟩
   ·exact .inl (ks _ _ (fun e=>by erw [e,h0] at r) r)
   ·exact .inr ⟨o',ks _ _ (fun e=>by erw [e,h0] at r) r⟩) ?_ ?_
 ·intro k H3 R hk s3 kk
  let ek:(0:Int)+(k:Int)=(k:Int):=Kz _;rw [ek];let OC:(k:Int)=0\/(k:Int)=1:=bv
  obtain ⟨a1,xs1,u1,Xw,t1,v1,m1⟩:=zi OC (hw1.qg s3);obtain ⟨a2,xs2,u2,Xx,t2,v2,m2⟩:=zi OC (hw2.qg s3);cases Xw;cases Xx;show ⟨_,rfl,_,rfl,_,_,_,_,rfl,rfl,t2,v2,_,rfl,_,rfl,_,_,_,_,rfl,rfl,t1,v1,?_⟩;dsimp only [eG];show gH K [_] _ _ E0;refine sO (gA m1 (UB z1)) fun p4 H4 s4 n4=>?_;show cO K gB [_,_] _ _ E0;refine nj ((gA m2 (UB z2)).qg s4) n4 bv fun p5 H5 s5 n5=>?_;refine kk _ _ (s4.trans s5) ?_;rwa [ai0]
 intro ys H3 ly hy s3 hD
 obtain ⟨y1,y2,rfl⟩:∃y1 y2,ys=[y1,y2]:=by
  cases ys with
  | nil=>cases ly
  | cons a l=>
   obtain ⟨b,rfl⟩:=w8.mp (Nat.succ.inj ly);show ⟨a,b,rfl⟩
 let k1:=hy 0 y1 rfl;let k2:=hy 1 y2 rfl;show ⟨_,rfl,_,rfl,pA,us,pX,_,b,0,rfl,s3 _ _ hp,Paired.bP pp fun _ _ z=>z.qg s3,gp,Qn.qg s3,.inl rfl,fun v4 H4 s4 n4=>?_⟩;let kJ:=s3.trans s4;show ⟨_,rfl,_,rfl,pA,us,pX,_,b,1,rfl,kJ _ _ hp,Paired.bP pp fun _ _ z=>z.qg kJ,gp,Qn.qg kJ,.inr rfl,fun v5 H5 s5 n5=>⟨L2,?_⟩⟩;intros l6 m6 H6 s6 e6;let UC:=s4.trans (s5.trans s6);show ⟨_,rfl,l6,D1,_,_,_,_,_,_,_,_,89,N+N+1,rfl,.inl (aV.of e6),.inl (aV.of (UC _ _ hD)),(n4.qg (s5.trans s6)),n5.qg s6,k1.qg UC,k2.qg UC,bv,fun v H7 s7 n7=>?_⟩;exact q v H7 (s3.trans (UC.trans s7)) (n7.up bv)
inductive wZ (K:Frag)(vs:ε)(H:Hp)(Q:VK)(E_:XK):Prop
|mk (pA dM:AO)(us:ε)(pX:θ)(kM:δ)(M:ω)(N:Nat)(_:vs=[.ref pA,.ref dM])(_:H pA=some (.lst us))(_:Paired (jA K H) us pX)(_:fk pX)(_:R9 K H pX dM kM M N)(_:(∀p∈pX,∀w∈p.ws,dt w (M p.nm)=0))(_:∀(H':Hp),aq H H' ->Q (.bl true) H')
def zk:aC ["_law_pins_here","_law_motion","_law_name_here","_law_spot_here","_law_ways_here","_law_way"] RE (ae LB):=sq
def ab0 (D:Def K mg "_law_keeps" LB RE)(Xy:ac P w K mg qf 2 "_law_dot" KA (wY K)):
  ac P w K mg qf 3 "_law_keeps" RE (wZ K):=by
 refine D.op zk fun f cD A qw s H vs Q E hr h=>?_;obtain ⟨pA,dM,us,pX,kM,M,N,rfl,hp,pp,gp,mo,ke,q⟩:=h;let hN:=mo.hN
 show ⟨_,(aa (bJ I_ rfl (bw (pv 0)) (eU rfl (a_ (bZ 2 zk.nd) (a_ (bZ 3 zk.nd) (a_ (bZ 4 zk.nd) cY)))) (ah (bJ I_ rfl (bw (pv 4)) (bZ 5 zk.nd) (ah (bg (bB jo (aF (aS Xy hr (aT (pv 5) (cS (cf hr) (pv 1) (pv 2) (fun _ _=>rfl))))) ag) (ah (aE du)) aR))))) (ah (aE du))),?_⟩
 show ⟨_,rfl,pA,rfl,⟨_,aV.of hp⟩,let I:bn:=fun i Y H'=>Ow fun (o2 o3 o4 o5:Ε)=>Y=[ap pA,ap dM,o2,o3,o4,o5]/\aq H H';cC (K:=K) (a:=pA) (xs:=us) I ⟨none,none,none,none,rfl,aq.refl _⟩ (fun i Y H' _ h=>by
   obtain ⟨_,_,_,_,_,s⟩:=h
   exact aV.of (s _ _ hp)) ?_ ?_⟩
 ·rintro i u Y H4 hu ⟨o2,o3,o4,o5,rfl,s4⟩
  obtain ⟨p,ep,Pa⟩:=aA pp hu;let mp:p∈pX:=Wp ep;obtain ⟨ta,l,sv,ws,rfl,h1,h2,h3,h4⟩:=Pa.qg s4;show ⟨ta,_,rfl,h1,rfl,_,_,rfl,_,_,rfl,_,_,rfl,rfl,?_⟩
  show ⟨_,rfl,l,rfl,⟨_,aV.of h3⟩,let I:bn:=fun j Y H'=>∃(o5:Ε),Y=[ap pA,ap dM,some (.str p.nm),some sv,ap l,o5]/\aq H4 H';cC (K:=K) (a:=l) (xs:=ws) I ⟨o5,rfl,aq.refl _⟩ (fun j Y H' _ h=>by
     obtain ⟨_,_,s⟩:=h
     exact aV.of (s _ _ h3)) ?_ ?_⟩
  ·rintro j wv Y H5 hwv ⟨o5,rfl,s5⟩
   obtain ⟨wq,ewq,hwq⟩:=aA h4 hwv;let mw:wq∈p.ws:=Wp ewq;let zw:=(gp.ws p mp).sz wq mw;obtain ⟨wa,y1,y2,rfl,vE,b1,b2⟩:=hwq.qg s5;let mj:=s4.trans s5;obtain ⟨t,v1,v2,dg,et,m1,m2⟩:=(mo.qg mj).get mp;let zp:=mo.zb p mp;show ⟨_,rfl,_,rfl,_,rfl,dM,_,rfl,dg,?_⟩;dsimp only [eG];show ⟨wa,t,y1,y2,v1,v2,_,_,_,_,22,N,rfl,.inr vE,.inr (bL.of et),gA b1 (vb zw.1 (BW _)),gA b2 (vb zw.2 (BW _)),gA m1 zp.1,gA m2 zp.2,bv,fun v H6 s6 n6=>?_⟩;obtain ⟨x,⟨p6,rfl,k1⟩,k2,k3,k4⟩:=n6;show ⟨p6,_,_,_,rfl,rfl,k1,jz,rfl,_,rfl,?_⟩;let e0:x.1=0:=(wJ k2).mpr (by rw [k3];exact ke p mp wq mw);rw [e0];refine bf (fun c=>by simp at c) (fun _=>?_);show ⟨_,rfl,s5.trans s6⟩
  ·rintro Y H5 ⟨o5,rfl,s5⟩
   show ⟨_,_,_,_,rfl,s4.trans s5⟩
 ·rintro Y H4 ⟨o2,o3,o4,o5,rfl,s4⟩
  exact q H4 s4
structure Found (K:Frag)(H:Hp)(fA:AO)(ls:Β)(F:Nat->Rat×Rat)(B:Nat):Prop where
 hf:H fA=some (.lst (ls.map V.ref))
 nd:ls.Nodup
 nf:fA∉ls
 row:∀(i:Nat)(l:AO),ls[i]?=some l->∃v1 v2,H l=some (.lst [v1,v2])/\j3 K H v1 B (F i).1/\j3 K H v2 B (F i).2
def KL (ls:Β)(H H':Hp):Prop:=∀b o,b∉ls->H b=some o->H' b=some o
theorem Found.qg (h:Found K H fA ls F B)(s:aq H H'):Found K H' fA ls F B:=⟨s _ _ h.hf,h.nd,h.nf,fun i l e=>by
 obtain ⟨v1,v2,a,b,c⟩:=h.row i l e
 show ⟨v1,v2,s _ _ a,b.qg s,c.qg s⟩⟩
theorem Found.up (h:Found K H fA ls F B)(l:B<=B'):Found K H fA ls F B':=⟨h.hf,h.nd,h.nf,fun i x e=>by
 obtain ⟨v1,v2,a,b,c⟩:=h.row i x e
 show ⟨v1,v2,a,b.up l,c.up l⟩⟩
def Found.aX (h:Found K H fA ls F B)(k:KL ls H H'):bq H H':=fun b xs r=>by
 let key:∀o,H b=some o->(∀ys,o≠.lst ys)->H' b=some o:=fun o e n=>k b o (fun m=>by
  obtain ⟨i,ei⟩:=IV m;obtain ⟨v1,v2,a,_⟩:=h.row i b ei;rw [a] at e
  exact n _ (C_ e).symm) e
 rcases r with r|⟨o',r⟩
 ·exact .inl (key _ r fun ys z=>nomatch z)
 ·exact .inr ⟨o',key _ r fun ys z=>nomatch z⟩
def fB (F:Nat->Rat×Rat)(k:Nat)(a:Int)(d:Rat):Nat->Rat×Rat:=fun i=>if i=k then (if a=0 then ((F i).1+d,(F i).2) else ((F i).1,(F i).2+d)) else F i
def w4 (ha:a=0\/a=1)(hc:c=0\/c=1)(i:Nat):ax c (fB F k a d i)=ax c (F i)+if i=k/\c=a then d else 0:=by
 unfold fB ax;by_cases hi:i=k
 ·subst hi
  rcases ha with rfl|rfl<;>rcases hc with rfl|rfl<;>simp<;>grind
 ·simp [hi]
  grind
inductive DF (K:Frag)(vs:ε)(H:Hp)(Q:VK)(E_:XK):Prop
|mk (fA:AO)(ls:Β)(F:Nat->Rat×Rat)(B:Nat)(k:Nat)(a:Int)(v:V)(m:Nat)(d:Rat)(_:vs=[.ref fA,.int (k:Int),.int a,v])(_:Found K H fA ls F B)(_:k<ls.length)(_:(a=0\/a=1))(_:j3 K H v m d)(_:B+m<=130000000)(_:∀(H':Hp),KL ls H H' ->Found K H' fA ls (fB F k a d) (B+m+1)->Q .cL H')
def ab1:aC WT WT (ae Lr):=sq
def ab2 (D:Def K mg "_law_add" Lr WT)(oV:ac P w K mg qf 1 "_law_sum" KA (cO K gB)):
  ac P w K mg qf 2 "_law_add" WT (DF K):=by
 refine D.op ab1 fun f cD A qw s H vs Q E hr h=>?_;obtain ⟨fA,ls,F,B,k,a,v,m,d,rfl,hF,hk,ha,nv,le,q⟩:=h;show ⟨_,(ah (ft (aS oV hr (aT (bG aU (bG aU (pv 0) (pv 1)) (pv 2)) (pv 3))) (fS (bG aU (pv 0) (pv 1)) (pv 2) set_list))),?_⟩;obtain ⟨l,el⟩:∃l,ls[k]?=some l:=⟨_,gE hk⟩;obtain ⟨v1,v2,hl,n1,n2⟩:=hF.row k l el;let ek:ib (ls.map V.ref) (k:Int)=some (.ref l):=bK (by rw [AY,el];rfl);let lm:l∈ls:=Wp el;let lf:l≠fA:=fun z=>hF.nf (z▸lm)
 obtain ⟨u,ea,nu⟩:∃u,ib [v1,v2] a=some u/\j3 K H u B (ax a (F k)):=by
  rcases ha with rfl|rfl
  ·show ⟨v1,rfl,n1⟩
  ·show ⟨v2,rfl,n2⟩
 show ⟨_,rfl,_,rfl,fA,_,_,_,rfl,rfl,aV.of hF.hf,ek,_,rfl,l,_,_,_,rfl,rfl,aV.of hl,ea,_,rfl,?_⟩;dsimp only [eG];show cO K gB [_,_] _ _ E0;refine nj nu nv le fun p3 H3 s3 n3=>?_
 obtain ⟨j,ej,hj⟩:∃j,BA [v1,v2].length a=some j/\((a=0/\j=0)\/(a=1/\j=1)):=by
  rcases ha with rfl|rfl
  ·show ⟨0,rfl,.inl ⟨rfl,rfl⟩⟩
  ·show ⟨1,rfl,.inr ⟨rfl,rfl⟩⟩
 show ⟨_,rfl,_,rfl,fA,_,_,_,rfl,rfl,aV.of (s3 _ _ hF.hf),ek,_,rfl,l,_,_,j,rfl,rfl,s3 _ _ hl,ej,?_⟩;let F3:=hF.qg s3
 let kl:KL ls H (upd H3 l (.lst ([v1,v2].set j (.ref p3)))):=fun b o nb e=>by
  rw [ak (fun z=>nb (by rwa [z]))];exact s3 _ _ e
 let k3:KL ls H3 (upd H3 l (.lst ([v1,v2].set j (.ref p3)))):=fun b o nb e=>by
  rw [ak (fun z=>nb (by rwa [z]))];exact e
 let st:=F3.aX k3;refine q _ kl ⟨?_,hF.nd,hF.nf,fun i l' e=>?_⟩
 ·rw [ak (CA lf)]
  exact F3.hf
 ·by_cases c:i=k
  ·subst c
   erw [el] at e;show ⟨([v1,v2].set j (.ref p3))[0]?.getD .cL,([v1,v2].set j (.ref p3))[1]?.getD .cL,?_,?_,?_⟩
   ·rw [aj]
    rcases hj with ⟨_,rfl⟩|⟨_,rfl⟩<;>rfl
   ·unfold fB
    rw [tu rfl]
    rcases hj with ⟨rfl,rfl⟩|⟨rfl,rfl⟩
    ·exact n3.aX st
    ·exact ((n1.qg s3).aX st).up mh
   ·unfold fB
    rw [tu rfl]
    rcases hj with ⟨rfl,rfl⟩|⟨rfl,rfl⟩
    ·exact ((n2.qg s3).aX st).up mh
    ·exact n3.aX st
  ·obtain ⟨w1,w2,g1,g2,g3⟩:=F3.row i l' e
   let nl:l'≠l:=fun z=>c (bU hF.nd e (z▸el));show ⟨w1,w2,?_,?_,?_⟩
   ·rw [ak nl]
    exact g1
   ·unfold fB
    rw [qA c];exact (g2.aX st).up mh
   ·unfold fB
    rw [qA c];exact (g3.aX st).up mh
structure Qo (K:Frag)(H:Hp)(pA bA:AO)(us vs:ε)(pX:θ)(qe:ρ):Prop where
 hp:H pA=some (.lst us)
 pp:Paired (jA K H) us pX
 gp:fk pX
 hb:H bA=some (.lst vs)
 pb:Paired (h_ K H pX) vs qe
 en:∀b∈qe,b.one.nm≠b.qz.nm
 lp:pX.length<=9
 lb:qe.length<=14
theorem Qo.qg (h:Qo K H pA bA us vs pX qe)(s:aq H H'):Qo K H' pA bA us vs pX qe:=⟨s _ _ h.hp,Paired.bP h.pp fun _ _ z=>z.qg s,h.gp,s _ _ h.hb,Paired.bP h.pb fun _ _ z=>z.qg s,h.en,h.lp,h.lb⟩
structure LFo (K:Frag)(H:Hp)(tA uA:AO)(ts xs:ε)(pX:θ)(qe:ρ)(T:Ι)(U:χ)(N:Nat):Prop where
 ht:H tA=some (.lst ts)
 pt:Paired (fun v (b:aI)=>j3 K H v N (T b.nm)) ts qe
 hu:H uA=some (.lst xs)
 pu:Paired (fun v (p:ar)=>∃la ys,v=.ref la/\H la=some (.lst ys)/\Paired (fun v r=>j3 K H v N r) ys (U p.nm)) xs pX
 lU:∀p∈pX,(U p.nm).length=p.ws.length
 hN:N<=1000000
def KL.qg (hn:∀l∈ls,H l=none)(s:aq H H6)(k:KL ls H6 H7):aq H H7:=fun b o e=>k b o (fun m=>by erw [hn b m] at e) (s b o e)
def nJ (T:Ι)(bs:ρ)(a:Int)(p:ar):Rat:=(bs.map fun b=>T b.nm*ax a (mv (dD b) p.nm)).sum
def acF :nJ T (bs++[b]) a p=nJ T bs a p+T b.nm*ax a (mv (dD b) p.nm):=by
 unfold nJ;rw [IX,air,BS,Mi,Kv,RM];grind
def Pe {pX:θ}(nd:(pX.map (·.nm)).Nodup){i j:Nat}(hi:pX[i]?=some p)(hj:pX[j]?=some q)(e:p.nm=q.nm):i=j:=bU nd (x:=q.nm) (by rw [AY,hi,<-e];rfl) (by rw [AY,hj];rfl)
def afx {pX:θ}(nd:(pX.map (·.nm)).Nodup)(hb:b.one.nm≠b.qz.nm){i i1 i2:Nat}(hi:pX[i]?=some p)(h1:pX[i1]?=some b.one)(h2:pX[i2]?=some b.qz)(t:Rat)(k:Int):
  (if i=i1 then t*(ax k b.qz.sp-ax k b.one.sp) else 0)+(if i=i2 then -(t*(ax k b.qz.sp-ax k b.one.sp)) else 0)=t*ax k (mv (dD b) p.nm):=by
 let Yx:i1≠i2:=fun z=>by rw [z,h2] at h1;exact hb (by rw [C_ h1])
 unfold mv dD;by_cases c1:i=i1
 ·subst c1
  erw [h1] at hi;rw [tu rfl,qA Yx,tu rfl];show _=t*ax k (jS b.one b.qz);unfold ax jS;split<;>grind
 ·rw [qA c1,qA (fun z=>c1 (Pe nd hi h1 z))]
  by_cases c2:i=i2
  ·subst c2
   erw [h2] at hi;rw [tu rfl,tu rfl];show _=t*ax k (jS b.qz b.one);unfold ax jS;split<;>grind
  ·rw [qA c2,qA (fun z=>c2 (Pe nd hi h2 z))]
   show (0:Rat)+0=t*ax k (0,0);unfold ax;split<;>grind
inductive sT (K:Frag)(vs:ε)(H:Hp)(Q:VK)(E_:XK):Prop
|mk (pA bA tA uA:AO)(us ws ts xs:ε)(pX:θ)(qe:ρ)(T:Ι)(U:χ)(N:Nat)(_:vs=[.ref pA,.ref bA,.ref tA,.ref uA])(_:Qo K H pA bA us ws pX qe)(_:LFo K H tA uA ts xs pX qe T U N)(_:∀(fA:AO)(ls:Β)(F:Nat->Rat×Rat)(H':Hp),aq H H' ->ls.length=pX.length->Found K H' fA ls F (1+92*(N+91))->(∀(i:Nat)(p:ar),pX[i]?=some p->(F i).1=fL qe T U p (·.1)/\(F i).2=fL qe T U p (·.2))->Q (.ref fA) H')
def qc:aC ["_law_pins_here","_law_bars_here","_law_pulls","_law_pushes","_law_found","_law_k","_law_axis","_law_draw","_law_j"] RG (ae Ls):=sq
def ab3 (D:Def K mg "_law_forces" Ls RG)(aL:mg "len"=none)(bD:mg "range"=none)(Pd:ac P w K mg qf 1 "_law_times" KA (cO K oU))(Pc:ac P w K mg qf 1 "_law_turned" RL (gH K))(Su:ac P w K mg qf 2 "_law_arm" V2 (wX K))(Xz:ac P w K mg qf 2 "_law_add" WT (DF K)):
  ac P w K mg qf 3 "_law_forces" RG (sT K):=by
 refine D.oo qc fun H hr h=>?_;obtain ⟨pA,bA,tA,uA,us,ws,ts,xs,pX,qe,T,U,N,rfl,fr,fo,q⟩:=h;let L2:2<=BL:=ce
 let hN:=fo.hN;let lp:=fr.lp;let lb:=fr.lb;let lu:us.length=pX.length:=CV fr.pp;let lw:ws.length=qe.length:=CV fr.pb
 show ⟨_,(aa (r6 (i:=4) (tn:=Wd) (fr:=[]) (tw:=[]) qc.nd (bw (pv 0)) (bW (aT (aZ (aT ag ag)) (aZ (aT ag ag))))) (aa (bJ I_ rfl (cp rfl bD (aK (aD av rfl aL bM (aK (pv 1))))) (bZ 5 qc.nd) (ah (bJ I_ rfl (cp rfl bD (aK ag)) (bZ 6 qc.nd) (aa (aJ 7 qc.nd (aS Pd hr (aT (bG aU (pv 2) (pv 5)) (aS Su hr (bE (pv 0) (bG aU (pv 1) (pv 5)) (pv 6)))))) (aa (bx (aS Xz hr (jr (pv 4) (bE (aF (bG aU (pv 1) (pv 5))) (pv 6) (pv 7))))) (ah (bx (aS Xz hr (jr (pv 4) (bE (aF (bG aU (pv 1) (pv 5))) (pv 6) (aS Pc hr (aK (pv 7))))))))))))) (aa (bJ I_ rfl (cp rfl bD (aK (aD av rfl aL bM (aK (pv 0))))) (bZ 5 qc.nd) (ah (bJ I_ rfl (cp rfl bD (aK (aD av rfl aL bM (aK (aF (bG aU (pv 0) (pv 5))))))) (bZ 8 qc.nd) (ah (bJ I_ rfl (cp rfl bD (aK ag)) (bZ 6 qc.nd) (ah (bx (aS Xz hr (jr (pv 4) (bE (pv 5) (pv 6) (aS Pd hr (aT (bG aU (bG aU (pv 3) (pv 5)) (pv 8)) (bG lC (bG aU (aF (bG aU (pv 0) (pv 5))) (pv 8)) (pv 6)))))))))))))) (ah (aE (pv 4)))))),?_⟩;sleep 3
 show ⟨_,rfl,pA,rfl,⟨_,aV.of fr.hp⟩,fun fA n1=>?_⟩;refine aas (tG:=[]) (K:=K) (a:=pA) (xs:=us) (fun ys H'=>∃ls:List AO,ys=ls.map V.ref/\ls.Nodup/\fA∉ls/\∀l∈ls,H l=none/\∃p q:AO,H' l=some (.lst [.ref p,.ref q])/\H' p=some (.tup [.int 0,.int 1])/\H' q=some (.tup [.int 0,.int 1])) n1 (by rw [lu];exact IY (show pX.length<=100 by omega) ce) (fun H2 s2=>aV.of (s2 _ _ fr.hp)) ⟨[],rfl,tf,by simp,fun l h=>by cases h⟩ ?_ ?_
 ·intro i x ys H2 R hx ly hJ s2 hD k
  obtain ⟨ls,rfl,nd,nf,hl⟩:=hJ;show ⟨L2,?_⟩;intros p3 n3 H3 s3 e3;show ⟨L2,?_⟩;intros p4 n4 H4 s4 e4;show ⟨L2,?_⟩;intros l5 n5 H5 s5 e5;let s25:=s3.trans (s4.trans s5);let D5:=s25 _ _ hD;let D4:=s4 _ _ (s3 _ _ hD);refine k _ _ s25 ⟨ls++[l5],by simp,?_,?_,fun l hm=>?_⟩
  ·rw [Po]
   show ⟨nd,by simp,fun a ha b hb z=>?_⟩;have ip :b=l5:=by simpa using hb
   obtain ⟨_,p,q,h1,_⟩:=hl a ha;rw [z,ip] at h1;erw [s4 _ _ (s3 _ _ h1)] at n5
  ·intro z
   rcases DL.mp z with z|z
   ·exact nf z
   ·rw [<-IZ.mp z,D4] at n5
    cases n5
  ·rcases DL.mp hm with z|z
   ·obtain ⟨h0,p,q,h1,h2,h3⟩:=hl l z
    show ⟨h0,p,q,?_,?_,?_⟩
    ·rw [ak (fun e:l=fA=>nf (by rwa [<-e]))]
     exact s25 _ _ h1
    ·rw [ak (fun e=>by erw [e,hD] at h2)]
     exact s25 _ _ h2
    ·rw [ak (fun e=>by erw [e,hD] at h3)]
     exact s25 _ _ h3
   ·let z:=IZ.mp z
    subst z;show ⟨(s2.trans (s3.trans s4)).free n5,p3,p4,?_,?_,?_⟩
    ·rw [ak (fun e=>by erw [e,D4] at n5)]
     exact e5
    ·rw [ak (fun e=>by erw [e,hD] at n3)]
     exact s5 _ _ (s4 _ _ e3)
    ·rw [ak (fun e=>by erw [e,s3 _ _ hD] at n4)]
     exact s5 _ _ e4
 intro ys H2 ly hJ s2 hD;obtain ⟨ls,rfl,nd,nf,hl⟩:=hJ;let hn:∀l∈ls,H l=none:=fun l m=>(hl l m).1;let ll:ls.length=pX.length:=by rw [<-lu,<-ly,AU]
 let z0:∀(p:AO)(H':Hp),H' p=some (.tup [.int 0,.int 1])->j3 K H' (.ref p) 1 0:=fun p H' e=>⟨(0,1),⟨p,rfl,bL.of e⟩,ce,by decide+kernel,ce,ce⟩
 let F0:Found K H2 fA ls (fun _=>(0,0)) (1+0*(4*(N+91))):=⟨hD,nd,nf,fun i l e=>by
  obtain ⟨_,p,q,h1,h2,h3⟩:=hl l (Wp e);rw [Xp]
  show ⟨_,_,h1,z0 p _ h2,z0 q _ h3⟩⟩
 let en:((ws.length:Nat):Int).toNat=ws.length:=eA
 show ⟨_,rfl,bA,_,rfl,.inl (aV.of (s2 _ _ fr.hb)),((ws.length:Nat):Int),rfl,bv,bv,let I:bn:=fun t Y H'=>Ow fun (F:Nat->Rat×Rat) (o5 o6 o7:Ε)=>Y=[ap pA,ap bA,ap tA,ap uA,ap fA,o5,o6,o7,none]/\aq H H'/\Found K H' fA ls F (1+t*(4*(N+91)))/\∀(i:Nat)(p:ar),pX[i]?=some p->∀a:Int,(a=0\/a=1)->ax a (F i)=nJ T (qe.take t) a p;cJ (lo:=0) (n:=((ws.length:Nat):Int).toNat) I ⟨_,none,none,none,rfl,s2,F0,fun i p _ a _=>?_⟩ ?_ ?_⟩
 ·show ax a (0,0)=0
  unfold ax;split<;>rfl
 ·rintro t Y H3 ht ⟨F,o5,o6,o7,rfl,s3,F3,hF⟩
  let ek:(0:Int)+(t:Int)=(t:Int):=Kz _;rw [ek];let htw:t<ws.length:=nV ht
  obtain ⟨b,eb,Qn⟩:=aA fr.pb (gE htw);let mb:b∈qe:=Wp eb;obtain ⟨tv,etv,htv⟩:=aA (bN fo.pt) eb;let abt:ib ws (t:Int)=some ws[t]:=bK (gE htw);let att:ib ts (t:Int)=some tv:=bK etv;let bt:t*(4*(N+91))<=13*(4*(N+91)):=NG _ bv;generalize hB:1+t*(4*(N+91))=B at F3;show ⟨(2:Int),rfl,ce,ce,let I:bn:=fun k Y H'=>MY fun (F:Nat->Rat×Rat) (o6 o7:Ε)=>Y=[ap pA,ap bA,ap tA,ap uA,ap fA,some (.int (t:Int)),o6,o7,none]/\aq H H'/\Found K H' fA ls F (B+k*(2*(N+91)))/\∀(i:Nat)(p:ar),pX[i]?=some p->∀a:Int,(a=0\/a=1)->ax a (F i)=nJ T (qe.take t) a p+if a<(k:Int) then T b.nm*ax a (mv (dD b) p.nm) else 0;cJ (lo:=0) (n:=2) I ⟨F,o6,o7,rfl,s3,by rwa [Xp],fun i p e a ha=>?_⟩ ?_ ?_⟩
  ·rw [hF i p e a ha,qA (by rcases ha with rfl|rfl<;>decide)]
   grind
  ·rintro k Y H4 hk ⟨F,o6,o7,rfl,s4,F4,hF⟩
   let ek:(0:Int)+(k:Int)=(k:Int):=Kz _;rw [ek];let OC:(k:Int)=0\/(k:Int)=1:=bv
   let Sv:=fr.qg s4;let bk:k*(2*(N+91))<=1*(2*(N+91)):=NG _ bv;obtain ⟨ta,i1,i2,eta,hbt,e1,e2⟩:=Qn.qg s4;let V0:i1<ls.length:=by rw [ll];exact (ir.mp e1).1
   let Zz:i2<ls.length:=by rw [ll];exact (ir.mp e2).1
   show ⟨_,rfl,_,rfl,tA,_,_,_,rfl,rfl,aV.of (s4 _ _ fo.ht),att,_,rfl,_,rfl,_,rfl,bA,_,_,_,rfl,rfl,aV.of Sv.hb,abt,_,rfl,pA,us,pX,_,b,(k:Int),rfl,Sv.hp,Sv.pp,fr.gp,Qn.qg s4,OC,fun v5 H5 s5 n5=>?_⟩;dsimp only [eG];show cO K oU [_,_] _ _ E0;refine q5 ((htv.qg s4).qg s5) n5 bv fun p6 H6 s6 n6=>?_;let AJ:=s4.trans (s5.trans s6);rw [eta] at abt;let F6:=F4.qg (s5.trans s6);show ⟨_,rfl,_,rfl,_,rfl,bA,_,_,_,rfl,rfl,aV.of (AJ _ _ fr.hb),abt,ta,_,_,_,rfl,rfl,Ty.aq.bO (s5.trans s6) hbt,rfl,_,rfl,_,rfl,fA,ls,F,_,i1,(k:Int),_,_,_,rfl,F6,V0,OC,n6,bv,fun H7 k7 F7=>?_⟩;let UD:=KL.qg hn AJ k7;let n7:=n6.aX (F6.aX k7);show ⟨_,rfl,_,rfl,_,rfl,bA,_,_,_,rfl,rfl,aV.of (UD _ _ fr.hb),abt,ta,_,_,_,rfl,rfl,(F6.aX k7).bO (Ty.aq.bO (s5.trans s6) hbt),rfl,_,rfl,_,rfl,?_⟩;dsimp only [eG];show gH K [_] _ _ E0;refine sO n7 fun p8 H8 s8 n8=>?_;let F8:=F7.qg s8;show ⟨fA,ls,_,_,i2,(k:Int),_,_,_,rfl,F8,Zz,OC,n8,bv,fun H9 k9 F9=>?_⟩;let Ut:=KL.qg hn (UD.trans s8) k9;show ⟨_,_,_,rfl,Ut,F9.up (by rw [Oz];omega),fun i p e a ha=>?_⟩;rw [w4 OC ha,w4 OC ha,hF i p e a ha];let bp:=afx fr.gp.np (fr.en b mb) e e1 e2 (T b.nm) (k:Int);by_cases ca:a=(k:Int)
   ·subst ca
    rw [qA (c:=(k:Int)<(k:Int)) bv,tu (c:=(k:Int)<((k+1:Nat):Int)) bv,<-bp];simp only [and_true];grind
   ·let c1:¬ (i=i1/\a=(k:Int)):=fun z=>ca z.2
    let c2:¬ (i=i2/\a=(k:Int)):=fun z=>ca z.2;rw [qA c1,qA c2];by_cases cl:a<(k:Int)
    ·rw [tu cl,tu (c:=a<((k+1:Nat):Int)) bv]
     grind
    ·rw [qA cl,qA (c:=a<((k+1:Nat):Int)) bv]
     grind
  ·rintro Y H4 ⟨F,o6,o7,rfl,s4,F4,hF⟩
   show ⟨F,_,_,_,rfl,s4,F4.up (by rw [Oz,<-hB];omega),fun i p e a ha=>?_⟩;rw [take_snoc eb,acF,hF i p e a ha,tu (by rcases ha with rfl|rfl<;>decide)]
 ·rintro Y H3 ⟨F,o5,o6,o7,rfl,s3,F3,hF⟩
  rw [en,lw] at F3;rw [en,lw,OU] at hF;let bl:qe.length*(4*(N+91))<=14*(4*(N+91)):=NG _ bv;generalize hB:1+qe.length*(4*(N+91))=B at F3;let en2:((us.length:Nat):Int).toNat=us.length:=eA
  show ⟨_,rfl,pA,_,rfl,.inl (aV.of (s3 _ _ fr.hp)),((us.length:Nat):Int),rfl,bv,bv,let I:bn:=fun k Y H'=>Yu fun (F:Nat->Rat×Rat) (o5 o6 o7 o8:Ε)=>Y=[ap pA,ap bA,ap tA,ap uA,ap fA,o5,o6,o7,o8]/\aq H H'/\Found K H' fA ls F (B+k*(4*(N+91)))/\∀(i:Nat)(p:ar),pX[i]?=some p->∀a:Int,(a=0\/a=1)->ax a (F i)=nJ T qe a p+if i<k then sP (U p.nm) (p.ws.map (ax a)) else 0;cJ (lo:=0) (n:=((us.length:Nat):Int).toNat) I ⟨F,o5,o6,o7,none,rfl,s3,by rwa [Xp],fun i p e a ha=>?_⟩ ?_ ?_⟩
  ·rw [hF i p e a ha,qA bv]
   grind
  ·rintro k Y H4 hk ⟨F,o5,o6,o7,o8,rfl,s4,F4,hF⟩
   let ek:(0:Int)+(k:Int)=(k:Int):=Kz _;rw [ek];let hku:k<us.length:=nV hk
   obtain ⟨p,ep,Pa⟩:=aA fr.pp (gE hku);let mp:p∈pX:=Wp ep;obtain ⟨xv,exv,la,ys,exl,hla,py⟩:=aA (bN fo.pu) ep;subst exl;let lup:=fo.lU p mp;let lwp:=(fr.gp.ws p mp).len;let ly:ys.length=(U p.nm).length:=CV py;let akx:ib xs (k:Int)=some (.ref la):=bK exv;let aku:ib us (k:Int)=some us[k]:=bK (gE hku);obtain ⟨pa,l,sv,eR,epa,h1,h2,h3,h4⟩:=Pa;rw [epa] at aku;let lv:eR.length=p.ws.length:=CV h4;let kp:k<pX.length:=bv
   let bk:k*(4*(N+91))<=8*(4*(N+91)):=NG _ bv;generalize hB2:B+k*(4*(N+91))=B2 at F4;let en3:((eR.length:Nat):Int).toNat=eR.length:=eA
   show ⟨_,rfl,_,rfl,pA,_,_,_,rfl,rfl,aV.of (s4 _ _ fr.hp),aku,pa,_,_,_,rfl,rfl,Ty.aq.bO s4 h1,rfl,l,_,rfl,.inl (aV.of (s4 _ _ h3)),((eR.length:Nat):Int),rfl,bv,bv,let I:bn:=fun j Y H'=>Ow fun (F:Nat->Rat×Rat) (o6 o7 o8:Ε)=>Y=[ap pA,ap bA,ap tA,ap uA,ap fA,some (.int (k:Int)),o6,o7,o8]/\aq H H'/\Found K H' fA ls F (B2+j*(2*(N+91)))/\∀(i:Nat)(p:ar),pX[i]?=some p->∀a:Int,(a=0\/a=1)->ax a (F i)=nJ T qe a p+if i<k then sP (U p.nm) (p.ws.map (ax a)) else if i=k then sP ((U p.nm).take j) ((p.ws.take j).map (ax a)) else 0;cJ (lo:=0) (n:=((eR.length:Nat):Int).toNat) I ⟨F,o6,o7,o8,rfl,s4,by rwa [Xp],fun i p e a ha=>?_⟩ ?_ ?_⟩
   ·rw [hF i p e a ha,List.take_zero,g_]
    split<;>simp
   ·rintro j Y H5 hj ⟨F,o6,o7,o8,rfl,s5,F5,hF⟩
    let ek:(0:Int)+(j:Int)=(j:Int):=Kz _;rw [ek];let hj1:j<eR.length:=nV hj
    let hj2:j<ys.length:=bv
    obtain ⟨x,ex,hx⟩:=aA py (gE hj2);obtain ⟨wq,ewq,hwq⟩:=aA h4 (gE hj1);let zw:=(fr.gp.ws p mp).sz wq (Wp ewq);let axj:ib ys (j:Int)=some ys[j]:=bK (gE hj2);let awj:ib eR (j:Int)=some eR[j]:=bK (gE hj1);let bj:j*(2*(N+91))<=1*(2*(N+91)):=NG _ bv;generalize hB3:B2+j*(2*(N+91))=B3 at F5;show ⟨(2:Int),rfl,ce,ce,let I:bn:=fun c Y H'=>Ov fun (F:Nat->Rat×Rat) (o6:Ε)=>Y=[ap pA,ap bA,ap tA,ap uA,ap fA,some (.int (k:Int)),o6,o7,some (.int (j:Int))]/\aq H H'/\Found K H' fA ls F (B3+c*(N+91))/\∀(i:Nat)(p:ar),pX[i]?=some p->∀a:Int,(a=0\/a=1)->ax a (F i)=(nJ T qe a p+if i<k then sP (U p.nm) (p.ws.map (ax a)) else if i=k then sP ((U p.nm).take j) ((p.ws.take j).map (ax a)) else 0)+if i=k/\a<(c:Int) then x*ax a wq else 0;cJ (lo:=0) (n:=2) I ⟨F,o6,rfl,s5,by rwa [Xp],fun i p e a ha=>?_⟩ ?_ ?_⟩
    ·rw [hF i p e a ha,qA (c:=i=k/\a<((0:Nat):Int)) (fun z=>by rcases ha with rfl|rfl<;>exact BH z.2 ce)]
     grind
    ·rintro c Y H6 hc ⟨F,o6,rfl,s6,F6,hF⟩
     let ek:(0:Int)+(c:Int)=(c:Int):=Kz _;rw [ek];let VE:(c:Int)=0\/(c:Int)=1:=bv
     let bc:c*(N+91)<=1*(N+91):=NG _ bv;obtain ⟨wa,zs,u,ewa,vE,awc,nwc⟩:=zi VE (hwq.qg s6);rw [ewa] at awj;show ⟨_,rfl,_,rfl,_,rfl,_,rfl,_,rfl,uA,_,_,_,rfl,rfl,aV.of (s6 _ _ fo.hu),akx,_,rfl,la,_,_,_,rfl,rfl,aV.of (s6 _ _ hla),axj,_,rfl,_,rfl,pA,_,_,_,rfl,rfl,aV.of (s6 _ _ fr.hp),aku,pa,_,_,_,rfl,rfl,Ty.aq.bO s6 h1,rfl,_,rfl,l,_,_,_,rfl,rfl,aV.of (s6 _ _ h3),awj,_,rfl,wa,_,_,_,rfl,rfl,vE,awc,?_⟩;dsimp only [eG];show cO K oU [_,_] _ _ E0;refine q5 (hx.qg s6) (gA nwc (vb (Pb zw) (BW _))) bv fun p7 H7 s7 n7=>?_;show ⟨fA,ls,F,_,k,(c:Int),_,_,_,rfl,F6.qg s7,bv,VE,n7,bv,fun H8 k8 F8=>?_⟩;show ⟨_,_,rfl,KL.qg hn (s6.trans s7) k8,F8.up (by rw [Oz];omega),fun i p' e a ha=>?_⟩;rw [w4 VE ha,hF i p' e a ha];by_cases ci:i=k
     ·by_cases ca:a=(c:Int)
      ·subst ca
       rw [qA (c:=i=k/\(c:Int)<(c:Int)) (fun z=>bv),tu (c:=i=k/\(c:Int)=(c:Int)) ⟨ci,rfl⟩,tu (c:=i=k/\(c:Int)<((c+1:Nat):Int)) ⟨ci,bv⟩];grind
      ·rw [qA (c:=i=k/\a=(c:Int)) (fun z=>ca z.2)]
       by_cases cl:a<(c:Int)
       ·rw [tu (c:=i=k/\a<(c:Int)) ⟨ci,cl⟩,tu (c:=i=k/\a<((c+1:Nat):Int)) ⟨ci,bv⟩]
        grind
       ·rw [qA (c:=i=k/\a<(c:Int)) (fun z=>cl z.2),qA (c:=i=k/\a<((c+1:Nat):Int)) (fun z=>by have:=z.2;omega)]
        grind
     ·rw [qA (c:=i=k/\a<(c:Int)) (fun z=>ci z.1),qA (c:=i=k/\a=(c:Int)) (fun z=>ci z.1),qA (c:=i=k/\a<((c+1:Nat):Int)) (fun z=>ci z.1)]
      grind
    ·rintro Y H6 ⟨F,o6,rfl,s6,F6,hF⟩
     show ⟨F,_,_,_,rfl,s6,F6.up (by rw [Oz,<-hB3];omega),fun i p' e a ha=>?_⟩;rw [hF i p' e a ha];by_cases ci:i=k
     ·subst ci
      erw [ep] at e;rw [qA (OS _),tu rfl,qA (OS _),tu rfl,tu (c:=i=i/\a<((2:Nat):Int)) ⟨rfl,by rcases ha with rfl|rfl<;>decide⟩];rw [take_snoc ex,take_snoc ewq,IX,lR _ _ (by rw [AU,JT,JT];omega),BS,Mi,cw,g_];grind
     ·rw [qA (c:=i=k/\a<((2:Nat):Int)) (fun z=>ci z.1),qA ci,qA ci]
      grind
   ·rintro Y H5 ⟨F,o6,o7,o8,rfl,s5,F5,hF⟩
    rw [en3] at F5 hF
    show ⟨F,_,_,_,_,rfl,s5,F5.up (by
     have:eR.length*(2*(N+91))<=2*(2*(N+91)):=NG _ bv;rw [Oz,<-hB2]
     omega),fun i p' e a ha=>?_⟩
    rw [hF i p' e a ha];by_cases ci:i=k
    ·subst ci
     erw [ep] at e;rw [qA (OS _),tu rfl,tu (NZ _),Vj bv,Vj bv]
    ·rw [qA ci]
     by_cases cl:i<k
     ·rw [tu cl,tu (io cl)]
     ·rw [qA cl,qA bv]
  ·rintro Y H4 ⟨F,o5,o6,o7,o8,rfl,s4,F4,hF⟩
   rw [en2,lu] at F4 hF;let bp:pX.length*(4*(N+91))<=9*(4*(N+91)):=NG _ bv;show ⟨_,rfl,q fA ls F H4 s4 ll (F4.up bv) fun i p e=>?_⟩;let hi:=(ir.mp e).1;let a0:=hF i p e 0 (.inl rfl);let a1:=hF i p e 1 (.inr rfl);rw [tu hi] at a0 a1;unfold fL;unfold nJ at a0 a1;let e0:ax 0=fun p:Rat×Rat=>p.1:=rfl;let e1:ax 1=fun p:Rat×Rat=>p.2:=rfl;rw [e0] at a0;rw [e1] at a1;show ⟨a0.trans (Rat.add_comm _ _),a1.trans (Rat.add_comm _ _)⟩
def aiB:NU K (.type "int") (.type "int")=some true:=by unfold NU;rw [tu ce]
def aiC:NU K (.type "int") (.type "bool")=some false:=afl ⟨ce,fun _=>⟨by decide+kernel,by decide+kernel⟩⟩
def H_ (x:Int×Int):dC [.v (.int x.1),.v (.int x.2)] [.v (.int x.1),.v (.int x.2)]=true:=by
 simp [dC,jK,jI]
inductive nK (K:Frag)(vs:ε)(H:Hp)(Q:VK)(E_:XK):Prop
|mk (u:V)(r:Rat)(_:vs=[u])(_:gL K H u r)(_:∀H',aq H H' ->Q (.bl true) H')
def UE:aC ["_law_x","_law_part"] Wb (ae Lu):=sq
def ab5 (D:Def K mg "_law_number" Lu Wb)(aL:mg "len"=none)(bC:mg "isinstance"=none)(sU:mg "int"=none)(DH:mg "bool"=none)(gI:mg "tuple"=none)
  (wM:ac P w K mg qf 33 "_law_lowest" V' eQ):ac P w K mg qf 34 "_law_number" Wb (nK K):=by
 refine D.oo UE fun H hr h=>?_;obtain ⟨_,r,rfl,⟨p1,rfl,h1⟩,q⟩:=h;let hp:=dQ r;let hg:=oJ r;generalize qr r=x at h1 hp hg
 show ⟨_,(aa (bg (PW.pt (jn (dN (dk (aD acO rfl bC cH (aT (pv 0) (mG rfl gI vA))))) (gQ (bB jo (aD av rfl aL bM (aK (pv 0))) ag)))) (ah (aE du)) aR) (aa (bJ I_ rfl (adR (pv 0)) (bZ 1 UE.nd) (ah (bg (PW.pt (jn (dN (dk (aD gc rfl bC cH (aT (pv 1) (mG rfl sU NH))))) (gQ (dk (aD gc rfl bC cH (aT (pv 1) (mG rfl DH agh))))))) (ah (aE du)) aR))) (ah (aE (AM (fw uC (aF (pv 0)) ag (iz _)) (AL (fw (qI hr.units) (aS wM hr (aT (aF (pv 0)) (aF (pv 0)))) (pv 0) (iz _)))))))),?_⟩
 show ⟨_,rfl,p1,_,rfl,h1,_,rfl,bf (fun c=>nomatch c) (fun _=>?_)⟩;show ⟨_,rfl,p1,_,rfl,.inr h1,rfl,_,rfl,NA rfl ?_⟩;show ⟨_,rfl,p1,rfl,⟨_,h1⟩,let I:bn:=fun i Y H'=>∃o,Y=[ap p1,o]/\H'=H;ahY (K:=K) (a:=p1) (xs:=[.int x.1,.int x.2]) I ⟨none,rfl,rfl⟩ (fun i Y H' _ ⟨o,_,e⟩=>by rwa [e]) ?_ ?_⟩
 ·rintro i z Y H' hi ⟨o,rfl,rfl⟩
  obtain ⟨n,rfl⟩:∃n,z=V.int n:=by
   match i,hi with
   | 0,hi=>show ⟨_,(C_ hi).symm⟩
   | 1,hi=>show ⟨_,(C_ hi).symm⟩
  show ⟨_,rfl,_,_,_,true,rfl,rfl,.int n,aiB,_,rfl,bf (fun c=>nomatch c) (fun _=>?_)⟩;show ⟨_,rfl,_,_,_,false,rfl,rfl,.int n,aiC,_,rfl,bf (fun c=>nomatch c) (fun _=>?_)⟩;show ⟨_,rfl,rfl⟩
 ·rintro Y H' ⟨o,rfl,rfl⟩
  show ⟨_,rfl,p1,_,_,_,rfl,rfl,h1,jQ,_,_,rfl,rfl,_,rfl,bf (fun _=>?_) (fun c=>BH (JO hp) c)⟩;show ⟨_,rfl,p1,_,_,_,rfl,rfl,h1,jz,_,rfl,p1,_,_,_,rfl,rfl,h1,jQ,_,_,rfl,hp,fun p2 H2 s2 e2=>?_⟩;rw [rF hp hg] at e2;show ⟨_,rfl,_,_,.inl ⟨kd (q:=x) ⟨p2,rfl,bL.of e2⟩,kd (q:=x) ⟨p1,rfl,Ty.aq.bO s2 h1⟩⟩,rfl,FN,?_⟩;rw [H_ x];exact q _ s2
def ab6:NU K (.type "tuple") (.type "tuple")=some true:=by unfold NU;rw [tu ce]
def XA:NU K (.type "dict") (.type "dict")=some true:=by unfold NU;rw [tu ce]
def aiD:NU K (.type "list") (.type "list")=some true:=by unfold NU;rw [tu ce]
theorem sV :∀ws:List Str,iE K H (ws.map fun w=>Da.v (.str w)) (ws.map V.str)
 | []=>by unfold iE;trivial
 | w::ws=>by
  rw [BS,BS];unfold iE;show ⟨?_,sV ws⟩;unfold Is;show ⟨rfl,rfl⟩
theorem IA:∀ws:List Str,dC (ws.map fun w=>Da.v (.str w)) (ws.map fun w=>Da.v (.str w))=true
 | []=>by simp [dC]
 | w::ws=>by
  rw [BS];unfold dC;rw [IA ws];simp [jK,jI]
theorem IC:∀ws:List Str,dO (ws.map fun w=>Da.v (.str w)) (ws.map fun w=>Da.v (.str w))=true
 | []=>by simp [dO]
 | w::ws=>by
  rw [BS];unfold dO;rw [IC ws];simp [alike]
theorem zo:∀ws:List Str,i9 (ws.map fun w=>Da.v (.str w))<=60
 | []=>by simp [i9]
 | w::ws=>by
  rw [BS];unfold i9;have:=zo ws;simp only [dep];omega
def w6 {ws:τ}(e1:H p=some (.lst (ws.map V.str)))(e2:H p2=some (.lst (ws.map V.str)))(q:Q (.bl false) H):FK K (.ref p) (.ref p2) H Q:=by
 show ⟨ws.map fun w=>Da.v (.str w),ws.map fun w=>Da.v (.str w),.inr ⟨?_,?_⟩,IC ws,zo ws,by rwa [IA]⟩
 ·unfold Is
  show ⟨p,_,rfl,aV.of e1,sV ws⟩
 ·unfold Is
  show ⟨p2,_,rfl,aV.of e2,sV ws⟩
def b8 {ys:ε}:ib (x::ys) 0=some x:=bK (xs:=x::ys) (j:=0) rfl
def sW {us:ε}{nm:Z->Str}{tG:L2.St}(n1:H D1=none)(ha:H a=some (.lst us))(pr:Paired (fun u z=>∃c ys,u=.ref c/\bL K H c (.str (nm z)::ys)) us zs)(l:zs.length<=1000)(k:∀H',aq H H' ->H' D1=some (.lst ((zs.map nm).map V.str))->R (.ref D1) H'):
  oB D1 (cX 0) kF (QS (Nr K) (QO 0) (tC (V.int 0))) (QQ K a) (none::tG) H R:=by
 let lu:us.length=zs.length:=CV pr;refine cE (K:=K) (a:=a) (xs:=us) (fun i v _=>∃z,zs[i]?=some z/\v=.str (nm z)) n1 (by rw [lu];exact IY l ce) (fun H2 s2=>aV.of (s2 _ _ ha)) (fun _ _ _ _ _ _ _ h=>h) ?_ ?_
 ·intro i u H2 R hu s2 k
  obtain ⟨z,ez,c,ys,rfl,h1⟩:=aA pr hu;show ⟨_,rfl,c,_,_,_,rfl,rfl,Ty.aq.bO s2 h1,b8,k _ _ (aq.refl _) ⟨z,ez,rfl⟩⟩
 ·intro ys H2 hy gv s2 hD
  refine k H2 s2 ?_;rw [hD];congr 2;refine N_ fun i=>?_;rw [DP,AY];by_cases c:i<ys.length
  ·obtain ⟨p,e1,e2⟩:=gv i ys[i] (gE c)
   rw [gE c,e1,e2];rfl
  ·rw [IW (ii c),IW bv]
   rfl
def mL {Z:Type}{nm:Z->Str}{kM:δ}{zs:List Z}(h:kM.map (·.1)=zs.map (fun p=>(J' (nm p):Key))):(kM.map fun kv=>kV kv.1)=(zs.map nm).map V.str:=by
 have:(kM.map fun kv=>kV kv.1)=(kM.map (·.1)).map kV:=by rw [DP];rfl
 rw [this,h,DP,DP];rfl
def sX {us:ε}{pX:θ}(h:Paired (jA K H) us pX):Paired (fun u (z:ar)=>∃c ys,u=.ref c/\bL K H c (.str z.nm::ys)) us pX:=Paired.bP h fun _ _ ⟨a,l,s,us,e,h1,_,_,_⟩=>⟨a,_,e,h1⟩
def acv {us:ε}{qe:ρ}(h:Paired (h_ K H pX) us qe):Paired (fun u (z:aI)=>∃c ys,u=.ref c/\bL K H c (.str z.nm::ys)) us qe:=Paired.bP h fun _ _ ⟨a,i,j,e,h1,_,_⟩=>⟨a,_,e,h1⟩
def zq {ys:ε}(h:∀(i:Nat)(v:V),ys[i]?=some v->v=.bl true):∃bs:List Bool,ys=bs.map V.bl/\bs.all id=true:=by
 induction ys with
 | nil=>show ⟨[],rfl,rfl⟩
 | cons y ys ih=>
  obtain ⟨bs,e,h2⟩:=ih fun i v e=>h (i+1) v (by simpa using e);show ⟨true::bs,by rw [h 0 y rfl,e];rfl,by simp [h2]⟩
structure Qp (K:Frag)(H:Hp)(pX:θ)(qe:ρ)(dT dU:AO)(kT kU:δ)(T:Ι)(U:χ)(N:Nat):Prop where
 hT:H dT=some (.dK kT)
 hU:H dU=some (.dK kU)
 yQ:kT.map (·.1)=qe.map (fun b=>(J' b.nm:Key))
 L8:kU.map (·.1)=pX.map (fun p=>(J' p.nm:Key))
 tT:∀b∈qe,∃v,cv kT (.inr b.nm)=some v/\gL K H v (T b.nm)
 tU:∀p∈pX,∃la vs,cv kU (.inr p.nm)=some (.ref la)/\H la=some (.lst vs)/\Paired (gL K H) vs (U p.nm)
 lU:∀p∈pX,(U p.nm).length=p.ws.length
 zT:∀b∈qe,Zb N (T b.nm)
 zU:∀p∈pX,∀u∈U p.nm,Zb N u
 hN:N<=1000000
theorem Qp.qg (h:Qp K H pX qe dT dU kT kU T U N)(s:aq H H'):Qp K H' pX qe dT dU kT kU T U N:=⟨s _ _ h.hT,s _ _ h.hU,h.yQ,h.L8,fun b hb=>by
 obtain ⟨v,a,b⟩:=h.tT b hb;show ⟨v,a,b.qg s⟩,fun p hp=>by
 obtain ⟨la,vs,a,b,c⟩:=h.tU p hp
 show ⟨la,vs,a,s _ _ b,Paired.bP c fun _ _ z=>z.qg s⟩,h.lU,h.zT,h.zU,h.hN⟩
def Qp.ab7 (h:Qp K H pX qe dT dU kT kU T U N)(hb:b∈qe):∃v,dZ H dT (.str b.nm) (some v)/\gL K H v (T b.nm):=by
 obtain ⟨v,a,c⟩:=h.tT b hb;show ⟨v,?_,c⟩;have:=dZ.k (k:=.inr b.nm) h.hT;rwa [a] at this
def Qp.XB (h:Qp K H pX qe dT dU kT kU T U N)(hp:p∈pX):∃la vs,dZ H dU (.str p.nm) (some (.ref la))/\H la=some (.lst vs)/\Paired (gL K H) vs (U p.nm):=by
 obtain ⟨la,vs,a,b,c⟩:=h.tU p hp;show ⟨la,vs,?_,b,c⟩;have:=dZ.k (k:=.inr p.nm) h.hU;rwa [a] at this
inductive DJ (K:Frag)(vs:ε)(H:Hp)(Q:VK)(E_:XK):Prop
|mk (pA bA dT dU:AO)(us ws:ε)(pX:θ)(qe:ρ)(kT kU:δ)(T:Ι)(U:χ)(N:Nat)(_:vs=[.ref pA,.ref bA,.ref dT,.ref dU])(_:Qo K H pA bA us ws pX qe)(_:Qp K H pX qe dT dU kT kU T U N)(_:∀H',aq H H' ->Q (.bl true) H')
def ID:aC ["_law_pins_here","_law_bars_here","_law_pulls","_law_pushes","_law_name_here","_law_spot_here","_law_ways_here"] RG (ae Lv):=sq
def ab8 (D:Def K mg "_law_are_forces" Lv RG)(bC:mg "isinstance"=none)(iC:mg "dict"=none)(cg:mg "list"=none)(aL:mg "len"=none)(IE:mg "all"=none)(Pg:ac P w K mg qf 34 "_law_number" Wb (nK K)):
  ac P w K mg qf 35 "_law_are_forces" RG (DJ K):=by
 refine D.op ID fun f cD A qw s H vs Q E hr h=>?_;obtain ⟨pA,bA,dT,dU,us,ws,pX,qe,kT,kU,T,U,N,rfl,fr,pl,q⟩:=h;let lp:=fr.lp;let lb:=fr.lb;let lw:ws.length=qe.length:=CV fr.pb
 show ⟨_,(aa (bg (PW.pt (jn (dN (dk (aD gc rfl bC cH (aT (pv 2) (mG rfl iC BF))))) (gQ (bB (qJ hr.units) (b9 (fT rfl) rfl cg gs (aK (pv 2))) (dj (tn:=["_law_bar"]) (fr:=[]) (tw:=[]) (bw (pv 1)) (bG (cR (K:=K) rfl) (pv 0) ag)))))) (ah (aE du)) aR) (aa (bg (PW.pt (jn (dN (dk (aD gc rfl bC cH (aT (pv 3) (mG rfl iC BF))))) (gQ (bB (qJ hr.units) (b9 (fT rfl) rfl cg gs (aK (pv 3))) (dj (tn:=Wd) (fr:=[]) (tw:=[]) (bw (pv 0)) (bG (cR (K:=K) rfl) (pv 0) ag)))))) (ah (aE du)) aR) (aa (bg (dN (dk (aD (uP rfl) rfl IE T2 (aK (dj (tn:=["_law_bar"]) (fr:=["_law_pulls"]) (tw:=[2]) (bw (pv 1)) (pS Pg hr (aK (cS (cf hr) (pv 1) (bG (cR (K:=K) rfl) (pv 0) ag) (fun _ _=>rfl))))))))) (ah (aE du)) aR) (aa (bJ I_ rfl (bw (pv 0)) (eU rfl (a_ (bZ 4 ID.nd) (a_ (bZ 5 ID.nd) (a_ (bZ 6 ID.nd) cY)))) (aa (bg (PW.pt (jn (dN (dk (aD gc rfl bC cH (aT (cS (cf hr) (pv 3) (pv 4) (fun _ _=>rfl)) (mG rfl cg gs))))) (gQ (bB jo (aD av rfl aL bM (aK (cS (cf hr) (pv 3) (pv 4) (fun _ _=>rfl)))) (aD av rfl aL bM (aK (pv 6))))))) (ah (aE du)) aR) (ah (bg (dN (dk (aD (uP rfl) rfl IE T2 (aK (dj (tn:=RL) (fr:=[]) (tw:=[]) (bw (cS (cf hr) (pv 3) (pv 4) (fun _ _=>rfl))) (pS Pg hr (aK (pv 0)))))))) (ah (aE du)) aR)))) (ah (aE du)))))),?_⟩;sleep 4
 show ⟨_,rfl,_,_,_,true,rfl,rfl,.dK pl.hT,XA,_,rfl,bf (fun c=>nomatch c) (fun _=>?_)⟩;show ⟨_,rfl,dT,_,rfl,.inl pl.hT,?_⟩;intros l1 n1 H1 s1 e1;rw [mL (nm:=aI.nm) pl.yQ] at e1;let fr1:=fr.qg s1;show ⟨_,rfl,bA,rfl,⟨_,aV.of fr1.hb⟩,fun D2 n2=>?_⟩;refine sW (nm:=aI.nm) n2 fr1.hb (acv fr1.pb) bv fun H2 s2 e2=>?_;refine w6 (s2 _ _ e1) e2 ?_;show ⟨_,rfl,bf (fun c=>nomatch c) (fun _=>?_)⟩;let qu:=s1.trans s2;show ⟨_,rfl,_,_,_,true,rfl,rfl,.dK (qu _ _ pl.hU),XA,_,rfl,bf (fun c=>nomatch c) (fun _=>?_)⟩;show ⟨_,rfl,dU,_,rfl,.inl (qu _ _ pl.hU),?_⟩;intros l3 n3 H3 s3 e3;rw [mL (nm:=ar.nm) pl.L8] at e3;let tZ:=qu.trans s3;let Yk:=fr.qg tZ;show ⟨_,rfl,pA,rfl,⟨_,aV.of Yk.hp⟩,fun D4 n4=>?_⟩;refine sW (nm:=ar.nm) n4 Yk.hp (sX Yk.pp) bv fun H4 s4 e4=>?_;refine w6 (s4 _ _ e3) e4 ?_;show ⟨_,rfl,bf (fun c=>nomatch c) (fun _=>?_)⟩;let kJ:=tZ.trans s4;show ⟨_,rfl,bA,rfl,⟨_,aV.of (kJ _ _ fr.hb)⟩,fun D5 n5=>?_⟩;refine cE (tG:=[some (.ref dT)]) (K:=K) (a:=bA) (xs:=ws) (fun _ v _=>v=.bl true) n5 (by rw [lw];exact IY (show qe.length<=100 by omega) ce) (fun H5 s5=>aV.of (s5 _ _ (kJ _ _ fr.hb))) (fun _ _ _ _ _ _ _ h=>h) ?_ ?_
 ·intro i u H5 R hu s5 k
  obtain ⟨b,eb,c,i1,i2,rfl,h1,_⟩:=aA fr.pb hu;let mj:=kJ.trans s5;obtain ⟨v,dg,nv⟩:=(pl.qg mj).ab7 (Wp eb);show ⟨_,rfl,_,rfl,c,_,_,_,rfl,rfl,Ty.aq.bO mj h1,rfl,dT,_,rfl,dg,v,_,rfl,nv,fun H6 s6=>k _ _ s6 rfl⟩
 intro ys H5 hy gv s5 hD;obtain ⟨bs,eb,ea⟩:=zq gv;show ⟨D5,bs,rfl,by rw [<-eb];exact aV.of hD,?_⟩;rw [ea];show ⟨_,rfl,bf (fun c=>nomatch c) (fun _=>?_)⟩;let mj:=kJ.trans s5
 show ⟨_,rfl,pA,rfl,⟨_,aV.of (mj _ _ fr.hp)⟩,let I:bn:=fun i Y H'=>MY fun (o4 o5 o6:Ε)=>Y=[ap pA,ap bA,ap dT,ap dU,o4,o5,o6]/\aq H H';cC (K:=K) (a:=pA) (xs:=us) I ⟨none,none,none,rfl,mj⟩ (fun i Y H' _ h=>by
   obtain ⟨_,_,_,_,s⟩:=h
   exact aV.of (s _ _ fr.hp)) ?_ ?_⟩
 ·rintro i u Y H6 hu ⟨o4,o5,o6,rfl,s6⟩
  obtain ⟨p,ep,Pa⟩:=aA fr.pp hu;let mp:p∈pX:=Wp ep;obtain ⟨ta,l,sv,eR,rfl,h1,h2,h3,h4⟩:=Pa.qg s6;show ⟨ta,_,rfl,h1,rfl,_,_,rfl,_,_,rfl,_,_,rfl,rfl,?_⟩;obtain ⟨la,xs,dg,et,pu⟩:=(pl.qg s6).XB mp;let lw:eR.length=p.ws.length:=CV h4;let lx:xs.length=(U p.nm).length:=CV pu;let lup:=pl.lU p mp;let lwp:=(fr.gp.ws p mp).len;show ⟨_,rfl,_,rfl,dU,_,rfl,dg,_,_,_,true,rfl,rfl,.lst et,aiD,_,rfl,bf (fun c=>nomatch c) (fun _=>?_)⟩;show ⟨_,rfl,_,rfl,dU,_,rfl,dg,la,_,rfl,.inl (aV.of et),_,rfl,l,_,rfl,.inl (aV.of h3),rfl,_,rfl,bf (fun c=>BH (show (xs.length:Int)=(eR.length:Int) by omega) (fun e=>by rw [e] at c;simp at c)) (fun _=>?_)⟩;show ⟨_,rfl,_,rfl,dU,_,rfl,dg,la,rfl,⟨_,aV.of et⟩,fun D7 n7=>?_⟩;refine cE (tG:=[]) (K:=K) (a:=la) (xs:=xs) (fun _ v _=>v=.bl true) n7 (IY (show xs.length<=100 by omega) ce) (fun H7 s7=>aV.of (s7 _ _ et)) (fun _ _ _ _ _ _ _ h=>h) ?_ ?_
  ·intro j x H7 R hx s7 k
   obtain ⟨r,er,nr⟩:=aA pu hx;show ⟨_,rfl,x,r,rfl,nr.qg s7,fun H8 s8=>k _ _ s8 rfl⟩
  intro ys H7 hy gv s7 hD;obtain ⟨bs,eb,ea⟩:=zq gv;show ⟨D7,bs,rfl,by rw [<-eb];exact aV.of hD,?_⟩;rw [ea];show ⟨_,rfl,bf (fun c=>nomatch c) (fun _=>?_)⟩;show ⟨_,_,_,rfl,s6.trans s7⟩
 ·rintro Y H6 ⟨o4,o5,o6,rfl,s6⟩
  exact q H6 s6
inductive Ph (K:Frag)(vs:ε)(H:Hp)(Q:VK)(E_:XK):Prop
|mk (pA dM:AO)(us:ε)(pX:θ)(kM:δ)(M:ω)(N:Nat)(_:vs=[.ref pA,.ref dM])(_:H pA=some (.lst us))(_:Paired (jA K H) us pX)(_:pX.length<=100)(_:R9 K H pX dM kM M N)(_:∀H',aq H H' ->Q (.bl true) H')
def IF:aC ["_law_pins_here","_law_motion","_law_name_here","_law_spot_here","_law_ways_here"] RE (ae Lw):=sq
def ab9 (D:Def K mg "_law_is_motion" Lw RE)(bC:mg "isinstance"=none)(iC:mg "dict"=none)(cg:mg "list"=none)(gI:mg "tuple"=none)(aL:mg "len"=none)(Pg:ac P w K mg qf 34 "_law_number" Wb (nK K)):
  ac P w K mg qf 35 "_law_is_motion" RE (Ph K):=by
 refine D.op IF fun f cD A qw s H vs Q E hr h=>?_;obtain ⟨pA,dM,us,pX,kM,M,N,rfl,hp,pp,lp,mo,q⟩:=h
 show ⟨_,(aa (bg (PW.pt (jn (dN (dk (aD gc rfl bC cH (aT (pv 1) (mG rfl iC BF))))) (gQ (bB (qJ hr.units) (b9 (fT rfl) rfl cg gs (aK (pv 1))) (dj (tn:=Wd) (fr:=[]) (tw:=[]) (bw (pv 0)) (bG (cR (K:=K) rfl) (pv 0) ag)))))) (ah (aE du)) aR) (aa (bJ I_ rfl (bw (pv 0)) (eU rfl (a_ (bZ 2 IF.nd) (a_ (bZ 3 IF.nd) (a_ (bZ 4 IF.nd) cY)))) (aa (bg (PW.pt (jn (dN (dk (aD gc rfl bC cH (aT (cS (cf hr) (pv 1) (pv 2) (fun _ _=>rfl)) (mG rfl gI vA))))) (gQ (bB jo (aD av rfl aL bM (aK (cS (cf hr) (pv 1) (pv 2) (fun _ _=>rfl)))) ag)))) (ah (aE du)) aR) (ah (bg (PW.pt (jn (dN (dk (aS Pg hr (aK (aF (cS (cf hr) (pv 1) (pv 2) (fun _ _=>rfl))))))) (gQ (dN (dk (aS Pg hr (aK (aF (cS (cf hr) (pv 1) (pv 2) (fun _ _=>rfl)))))))))) (ah (aE du)) aR)))) (ah (aE du)))),?_⟩;sleep 2
 show ⟨_,rfl,_,_,_,true,rfl,rfl,.dK mo.hM,XA,_,rfl,bf (fun c=>nomatch c) (fun _=>?_)⟩;show ⟨_,rfl,dM,_,rfl,.inl mo.hM,?_⟩;intros l1 n1 H1 s1 e1;rw [mL (nm:=ar.nm) mo.keys] at e1;let pp1:Paired (jA K H1) us pX:=Paired.bP pp fun _ _ z=>z.qg s1;show ⟨_,rfl,pA,rfl,⟨_,aV.of (s1 _ _ hp)⟩,fun D2 n2=>?_⟩;refine sW (nm:=ar.nm) n2 (s1 _ _ hp) (sX pp1) bv fun H2 s2 e2=>?_;refine w6 (s2 _ _ e1) e2 ?_;show ⟨_,rfl,bf (fun c=>nomatch c) (fun _=>?_)⟩;let qu:=s1.trans s2
 show ⟨_,rfl,pA,rfl,⟨_,aV.of (qu _ _ hp)⟩,let I:bn:=fun i Y H'=>MY fun (o2 o3 o4:Ε)=>Y=[ap pA,ap dM,o2,o3,o4]/\aq H H';cC (K:=K) (a:=pA) (xs:=us) I ⟨none,none,none,rfl,qu⟩ (fun i Y H' _ h=>by
   obtain ⟨_,_,_,_,s⟩:=h
   exact aV.of (s _ _ hp)) ?_ ?_⟩
 ·rintro i u Y H4 hu ⟨o2,o3,o4,rfl,s4⟩
  obtain ⟨p,ep,Pa⟩:=aA pp hu;let mp:p∈pX:=Wp ep;obtain ⟨ta,l,sv,ws,rfl,h1,h2,h3,h4⟩:=Pa.qg s4;show ⟨ta,_,rfl,h1,rfl,_,_,rfl,_,_,rfl,_,_,rfl,rfl,?_⟩;obtain ⟨t,v1,v2,dg,et,m1,m2⟩:=(mo.qg s4).get mp;show ⟨_,rfl,_,rfl,dM,_,rfl,dg,_,_,_,true,rfl,rfl,.tup et,ab6,_,rfl,bf (fun c=>nomatch c) (fun _=>?_)⟩;show ⟨_,rfl,_,rfl,dM,_,rfl,dg,t,_,rfl,.inr (bL.of et),rfl,_,rfl,NA rfl ?_⟩;show ⟨_,rfl,_,rfl,dM,_,rfl,dg,t,_,_,_,rfl,rfl,bL.of et,jz,_,_,rfl,m1,fun H5 s5=>?_⟩;show ⟨_,rfl,bf (fun c=>nomatch c) (fun _=>?_)⟩;obtain ⟨t,v1,v2,dg,et,m1,m2⟩:=(mo.qg (s4.trans s5)).get mp;show ⟨_,rfl,_,rfl,dM,_,rfl,dg,t,_,_,_,rfl,rfl,bL.of et,jQ,_,_,rfl,m2,fun H6 s6=>?_⟩;show ⟨_,rfl,bf (fun c=>nomatch c) (fun _=>?_)⟩;show ⟨_,_,_,rfl,s4.trans (s5.trans s6)⟩
 ·rintro Y H4 ⟨o2,o3,o4,rfl,s4⟩
  exact q H4 s4
def mvL (M:ψ):Prop:=∀x,Sz 1000 (mv M x).1/\Sz 1000 (mv M x).2
inductive sY (K:Frag)(vs:ε)(H:Hp)(Q:VK)(E_:XK):Prop
|mk (pA bA dT dU dL:AO)(us ws:ε)(pX:θ)(qe:ρ)(kT kU kL:δ)(T:Ι)(U:χ)(N:Nat)(L:ψ)(_:vs=[.ref pA,.ref bA,.ref dT,.ref dU,.ref dL])(_:Qo K H pA bA us ws pX qe)(_:Qp K H pX qe dT dU kT kU T U N)(_:H dL=some (.dK kL))(_:Wj K H kL L)(_:mvL L)(_:CW pX qe T U L)(_:∀H',aq H H' ->Q (.bl true) H')
def vc:aC ["_law_pins_here","_law_bars_here","_law_pulls","_law_pushes","_law_load","_law_some","_law_found","_law_k","_law_drawn","_law_axis"] ZX (ae Ly):=sq
def ab' (D:Def K mg "_law_at_rest" Ly ZX)(aL:mg "len"=none)(bD:mg "range"=none)(aiF:ac P w K mg qf 3 "_law_forces" RG (sT K))(oV:ac P w K mg qf 1 "_law_sum" KA (cO K gB)):
  ac P w K mg qf 4 "_law_at_rest" ZX (sY K):=by
 refine D.oo vc fun H hr h=>?_;obtain ⟨pA,bA,dT,dU,dL,us,ws,pX,qe,kT,kU,kL,T,U,N,L,rfl,fr,pl,hL,pL,zL,rest,q⟩:=h;let L2:2<=BL:=ce
 let lp:=fr.lp;let lb:=fr.lb;let hN:=pl.hN;let lu:us.length=pX.length:=CV fr.pp;let lw:ws.length=qe.length:=CV fr.pb
 show ⟨_,(aa (r6 (i:=5) (tn:=Wd) (fr:=["_law_pushes"]) (tw:=[3]) vc.nd (bw (pv 0)) (cS (cf hr) (pv 1) (bG (cR (K:=K) rfl) (pv 0) ag) (fun _ _=>rfl))) (aa (aJ 6 vc.nd (aS aiF hr (jr (pv 0) (bE (pv 1) (dj (tn:=["_law_bar"]) (fr:=["_law_pulls"]) (tw:=[2]) (bw (pv 1)) (cS (cf hr) (pv 1) (bG (cR (K:=K) rfl) (pv 0) ag) (fun _ _=>rfl))) (pv 5))))) (aa (bJ I_ rfl (cp rfl bD (aK (aD av rfl aL bM (aK (pv 0))))) (bZ 7 vc.nd) (aa (aJ 8 vc.nd (yo (cf hr) (pv 4) (aF (bG aU (pv 0) (pv 7))) (aZ (aT (aZ (aT ag ag)) (aZ (aT ag ag)))) ⟨rfl,rfl,rfl,rfl⟩)) (ah (bJ I_ rfl (cp rfl bD (aK ag)) (bZ 9 vc.nd) (ah (bg (bB jo (aF (aS oV hr (aT (bG aU (bG aU (pv 6) (pv 7)) (pv 9)) (bG lC (pv 8) (pv 9))))) ag) (ah (aE du)) aR)))))) (ah (aE du))))),?_⟩;sleep 3
 show ⟨_,rfl,pA,rfl,⟨_,aV.of fr.hp⟩,fun D1 n1=>?_⟩;refine cE (tG:=[some (.ref dU)]) (K:=K) (a:=pA) (xs:=us) (fun i v H'=>∃p la ys,pX[i]?=some p/\v=.ref la/\H la=some (.lst ys)/\Paired (gL K H) ys (U p.nm)) n1 (by rw [lu];exact IY (show pX.length<=100 by omega) ce) (fun H5 s5=>aV.of (s5 _ _ fr.hp)) (fun _ _ _ _ _ _ _ h=>h) ?_ ?_
 ·intro i u H5 R hu s5 k
  obtain ⟨p,ep,c,l,sv,gm,rfl,h1,_⟩:=aA fr.pp hu;obtain ⟨la,ys,dg,hla,pu⟩:=pl.XB (Wp ep);obtain ⟨la',ys',dg',aCl,_⟩:=(pl.qg s5).XB (Wp ep);obtain ⟨la2,ys2,g1,g2,g3⟩:=pl.tU p (Wp ep)
  let dg5:dZ H5 dU (.str p.nm) (some (.ref la2)):=by
   have:=dZ.k (k:=.inr p.nm) (s5 _ _ pl.hU);rwa [g1] at this
  show ⟨_,rfl,_,rfl,c,_,_,_,rfl,rfl,Ty.aq.bO s5 h1,rfl,dU,_,rfl,dg5,k _ _ (aq.refl _) ⟨p,la2,ys2,ep,rfl,g2,g3⟩⟩
 intro xs H2 hx gv s2 hD;show ⟨_,rfl,_,rfl,_,rfl,bA,rfl,⟨_,aV.of (s2 _ _ fr.hb)⟩,fun D3 n3=>?_⟩;refine cE (tG:=[some (.ref dT)]) (K:=K) (a:=bA) (xs:=ws) (fun i v _=>∃b,qe[i]?=some b/\gL K H v (T b.nm)) n3 (by rw [lw];exact IY (show qe.length<=100 by omega) ce) (fun H5 s5=>aV.of (s5 _ _ (s2 _ _ fr.hb))) (fun _ _ _ _ _ _ _ h=>h) ?_ ?_
 ·intro i u H5 R hu s5 k
  obtain ⟨b,eb,c,i1,i2,rfl,h1,_⟩:=aA fr.pb hu;let mj:=s2.trans s5;obtain ⟨v,g1,g2⟩:=pl.tT b (Wp eb)
  let dg5:dZ H5 dT (.str b.nm) (some v):=by
   have:=dZ.k (k:=.inr b.nm) (mj _ _ pl.hT);rwa [g1] at this
  show ⟨_,rfl,_,rfl,c,_,_,_,rfl,rfl,Ty.aq.bO mj h1,rfl,dT,_,rfl,dg5,k _ _ (aq.refl _) ⟨b,eb,g2⟩⟩
 intro ts H3 ht hrt s3 hT;let tZ:=s2.trans s3
 let fo:LFo K H3 D3 D1 ts xs pX qe T U N:=by
  show ⟨hT,iW (or lw ht) fun i v e=>?_,s3 _ _ hD,iW (or lu hx) fun i v e=>?_,pl.lU,pl.hN⟩
  ·obtain ⟨b,eb,nv⟩:=hrt i v e
   show ⟨b,eb,gA (nv.qg tZ) (pl.zT b (Wp eb))⟩
  ·obtain ⟨p,la,ys,ep,rfl,hla,pu⟩:=gv i v e
   let mp:=Wp ep;show ⟨p,ep,la,ys,rfl,tZ _ _ hla,iW (CV pu) fun j y ey=>?_⟩;obtain ⟨r,er,nr⟩:=aA pu ey;show ⟨r,er,gA (nr.qg tZ) (pl.zU p mp r (Wp er))⟩
 show ⟨_,rfl,pA,bA,D3,D1,us,ws,ts,xs,pX,qe,T,U,N,rfl,fr.qg tZ,fo,fun fA ls F H4 s4 ll hF eF=>?_⟩;let kJ:=tZ.trans s4;let en:((us.length:Nat):Int).toNat=us.length:=eA
 show ⟨_,rfl,pA,_,rfl,.inl (aV.of (kJ _ _ fr.hp)),((us.length:Nat):Int),rfl,bv,bv,let I:bn:=fun t Y H'=>MY fun (o7 o8 o9:Ε)=>Y=[ap pA,ap bA,ap dT,ap dU,ap dL,ap D1,ap fA,o7,o8,o9]/\aq H4 H';cJ (lo:=0) (n:=((us.length:Nat):Int).toNat) I ⟨none,none,none,rfl,aq.refl _⟩ ?_ ?_⟩
 ·rintro t Y H5 ht ⟨o7,o8,o9,rfl,s5⟩
  let ek:(0:Int)+(t:Int)=(t:Int):=Kz _;rw [ek];let mj:=kJ.trans s5;let htu:t<us.length:=nV ht
  obtain ⟨p,ep,Pa⟩:=aA fr.pp (gE htu);let mp:=Wp ep;let atu:ib us (t:Int)=some us[t]:=bK (gE htu);obtain ⟨c,l,sv,gm,ec,h1,_,_,_⟩:=Pa;rw [ec] at atu;show ⟨_,rfl,dL,rfl,.inl ⟨_,.inl (mj _ _ hL)⟩,_,rfl,_,rfl,pA,_,_,_,rfl,rfl,aV.of (mj _ _ fr.hp),atu,c,_,_,_,rfl,rfl,Ty.aq.bO mj h1,b8,L2,?_⟩;intros p7 n7 H7 s7 e7;show ⟨L2,?_⟩;intros p8 n8 H8 s8 e8;show ⟨L2,?_⟩;intros p9 n9 H9 s9 e9;let UG:=s7.trans (s8.trans s9);let Ut:=mj.trans UG;show ⟨_,dZ.k (k:=.inr p.nm) (Ut _ _ hL),?_⟩;let hd:f_ K H9 ((cv kL (.inr p.nm)).getD (.ref p9)) (mv L p.nm):=(pL.qg Ut).ZU (yO dH dH e9 (s9 _ _ (s8 _ _ e7)) (s9 _ _ e8));let zd:=zL p.nm;generalize (cv kL (.inr p.nm)).getD (.ref p9)=dv at hd ⊢;obtain ⟨da,u1,u2,rfl,hdq,hd1,hd2⟩:=hd;show ⟨(2:Int),rfl,ce,ce,let I:bn:=fun k Y H'=>∃(o9:Ε),Y=[ap pA,ap bA,ap dT,ap dU,ap dL,ap D1,ap fA,some (.int (t:Int)),ap da,o9]/\aq H9 H';cJ (lo:=0) (n:=2) I ⟨o9,rfl,aq.refl _⟩ ?_ ?_⟩
  ·rintro k Y VX hk ⟨o9,rfl,AF⟩
   let ek:(0:Int)+(k:Int)=(k:Int):=Kz _;rw [ek];let OC:(k:Int)=0\/(k:Int)=1:=bv
   let F10:=hF.qg (s5.trans (UG.trans AF));obtain ⟨lr,elr⟩:∃lr,ls[t]?=some lr:=⟨_,gE bv⟩;obtain ⟨w1,w2,hlr,nw1,nw2⟩:=F10.row t lr elr;obtain ⟨f1,f2⟩:=eF t p ep;obtain ⟨r1,r2⟩:=rest p mp
   obtain ⟨x,y,X,σ,a1,a2,nx,ny,zy,e0⟩:∃(x y:V)(X σ:Rat),ib [w1,w2] (k:Int)=some x/\ib [u1,u2] (k:Int)=some y/\j3 K VX x (1+92*(N+91)) X/\gL K VX y σ/\Sz 1000 σ/\X+σ=0:=by
    rcases OC with e|e
    ·show ⟨w1,u1,_,_,by rw [e];rfl,by rw [e];rfl,nw1,hd1.qg AF,zd.1,by rwa [f1]⟩
    ·show ⟨w2,u2,_,_,by rw [e];rfl,by rw [e];rfl,nw2,hd2.qg AF,zd.2,by rwa [f2]⟩
   let etl:ib (ls.map V.ref) (t:Int)=some (.ref lr):=bK (by rw [AY,elr];rfl);show ⟨_,rfl,_,rfl,fA,_,_,_,rfl,rfl,aV.of F10.hf,etl,_,rfl,lr,_,_,_,rfl,rfl,aV.of hlr,a1,_,rfl,_,rfl,da,_,_,_,rfl,rfl,Ty.aq.bO AF hdq,a2,?_⟩;dsimp only [eG];show cO K gB [_,_] _ _ E0;refine nj nx (gA ny (vb zy (BW _))) bv fun p12 H12 B_ Yx=>?_;rw [e0] at Yx;obtain ⟨z,⟨aCt,e12,k1⟩,k2,k3,_⟩:=Yx;cases e12;let z0:z.1=0:=(wJ k2).mpr k3;rw [z0] at k1;show ⟨p12,_,_,_,rfl,rfl,k1,jz,rfl,_,rfl,bf (fun c=>by simp at c) (fun _=>?_)⟩;show ⟨_,rfl,AF.trans B_⟩
  ·rintro Y VX ⟨o9,rfl,AF⟩
   show ⟨_,_,_,rfl,s5.trans (UG.trans AF)⟩
 ·rintro Y H5 ⟨o7,o8,o9,rfl,s5⟩
  exact q H5 (kJ.trans s5)
abbrev IG (pX:θ):List (Str×Pt):=pX.map fun p=>(p.nm,qP p.sp)
abbrev YJ (pX:θ):List (Str×List (Rat×Rat)):=pX.map fun p=>(p.nm,p.ws)
abbrev xG (qe:ρ):List (Str×Str×Str):=qe.map fun b=>(b.nm,b.one.nm,b.qz.nm)
inductive oW (K:Frag)(H:Hp)(d e:AO)(v:V)(p:ar):Prop
|mk (a l:AO)(s:V)(us:ε)(_:v=.ref a)(_:bL K H a [.str p.nm,s,.ref l])(_:f_ K H s p.sp)(_:H l=some (.lst us))(_:jc K H us p.ws)(_:l≠d)(_:l≠e)
theorem oW.qg (h:oW K H d e v p)(s:aq H H'):oW K H' d e v p:=by
 obtain ⟨a,l,sv,us,ev,h1,h2,h3,h4,h5,h6⟩:=h;show ⟨a,l,sv,us,ev,Ty.aq.bO s h1,h2.qg s,s _ _ h3,h4.qg s,h5,h6⟩
def KO (pP pW pB lP lB:AO)(H H':Hp):Prop:=∀b o,b≠pP->b≠pW->b≠pB->b≠lP->b≠lB->H b=some o->H' b=some o
def KO.trans (a:KO pP pW pB lP lB H H1)(b:KO pP pW pB lP lB H1 H2):KO pP pW pB lP lB H H2:=fun c o n1 n2 n3 n4 n5 e=>b c o n1 n2 n3 n4 n5 (a c o n1 n2 n3 n4 n5 e)
def KO.of (a:aq H H1):KO pP pW pB lP lB H H1:=fun c o _ _ _ _ _ e=>a c o e
structure WS (K:Frag)(H:Hp)(C fA dx pP pW pB lP lB:AO)(us vs:ε)(pX:θ)(qe:ρ):Prop where
 fr:∃kP kW kB,fq K H C fA dx pP pW pB (IG pX) (xG qe) kP kW kB/\rY K H (YJ pX) kW/\∀kv∈kW,kv.2≠.ref lP/\kv.2≠.ref lB
 hp:H lP=some (.lst us)
 pp:Paired (oW K H lP lB) us pX
 hb:H lB=some (.lst vs)
 pb:Paired (h_ K H pX) vs qe
 gp:fk pX
 gb:j4 pX qe
 lp:pX.length<=9
 lb:qe.length<=12
 ne:lP≠lB
section
variable {H H':Hp}{C fA dx pP pW pB lP lB:AO}{us vs:ε}{pX:θ}{qe:ρ}
theorem WS.qg (h:WS K H C fA dx pP pW pB lP lB us vs pX qe)(s:aq H H'):WS K H' C fA dx pP pW pB lP lB us vs pX qe:=by
 obtain ⟨kP,kW,kB,R,W,n⟩:=h.fr;show ⟨⟨kP,kW,kB,R.qg s,W.qg s,n⟩,s _ _ h.hp,Paired.bP h.pp fun _ _ z=>z.qg s,s _ _ h.hb,Paired.bP h.pb fun _ _ z=>z.qg s,h.gp,h.gb,h.lp,h.lb,h.ne⟩
def WS.fa (h:WS K H C fA dx pP pW pB lP lB us vs pX qe):qQ K H C fA pX qe:=by
 obtain ⟨kP,kW,kB,R,W,n⟩:=h.fr;show ⟨dx,pP,pW,pB,kP,kW,kB,R,W⟩
def WS.g (h:WS K H C fA dx pP pW pB lP lB us vs pX qe):bT pX qe:=HX h.gp h.gb (by have:=h.lp;omega) (by have:=h.lb;omega)
def WS.away (h:WS K H C fA dx pP pW pB lP lB us vs pX qe)(e:H b=some o)(n1:∀AN,o≠.dK AN)(n2:∀xs,o≠.lst xs):b≠pP/\b≠pW/\b≠pB/\b≠lP/\b≠lB:=by
 obtain ⟨kP,kW,kB,R,W,_⟩:=h.fr;show ⟨fun z=>?_,fun z=>?_,fun z=>?_,fun z=>?_,fun z=>?_⟩
 ·rw [z,R.pl] at e
  exact n1 _ (C_ e).symm
 ·rw [z,R.wy] at e
  exact n1 _ (C_ e).symm
 ·rw [z,R.br] at e
  exact n1 _ (C_ e).symm
 ·rw [z,h.hp] at e
  exact n2 _ (C_ e).symm
 ·rw [z,h.hb] at e
  exact n2 _ (C_ e).symm
def WS.fresh (h:WS K H C fA dx pP pW pB lP lB us vs pX qe)(e:H b=none):b≠pP/\b≠pW/\b≠pB/\b≠lP/\b≠lB:=by
 obtain ⟨kP,kW,kB,R,W,_⟩:=h.fr;show ⟨fun z=>?_,fun z=>?_,fun z=>?_,fun z=>?_,fun z=>?_⟩
 ·rw [z,R.pl] at e
  cases e
 ·rw [z,R.wy] at e
  cases e
 ·rw [z,R.br] at e
  cases e
 ·rw [z,h.hp] at e
  cases e
 ·rw [z,h.hb] at e
  cases e
def KO.at (k:KO pP pW pB lP lB H H')(n:b≠pP/\b≠pW/\b≠pB/\b≠lP/\b≠lB)(e:H b=some o):H' b=some o:=k b o n.1 n.2.1 n.2.2.1 n.2.2.2.1 n.2.2.2.2 e
def WS.t (h:WS K H C fA dx pP pW pB lP lB us vs pX qe)(k:KO pP pW pB lP lB H H'):bq H H':=fun b xs r=>by
 rcases r with r|⟨o',r⟩
 ·exact .inl (k.at (h.away r (fun _ z=>nomatch z) fun _ z=>nomatch z) r)
 ·exact .inr ⟨o',k.at (h.away r (fun _ z=>nomatch z) fun _ z=>nomatch z) r⟩
def WS.way (h:WS K H C fA dx pP pW pB lP lB us vs pX qe)(e:H l=some (.lst xs))(n1:l≠lP)(n2:l≠lB):l≠pP/\l≠pW/\l≠pB/\l≠lP/\l≠lB:=by
 obtain ⟨kP,kW,kB,R,W,_⟩:=h.fr;show ⟨fun z=>?_,fun z=>?_,fun z=>?_,n1,n2⟩
 ·rw [z,R.pl] at e
  cases e
 ·rw [z,R.wy] at e
  cases e
 ·rw [z,R.br] at e
  cases e
def WS.Sw (h:WS K H C fA dx pP pW pB lP lB us vs pX qe)(k:KO pP pW pB lP lB H H')(y:oW K H lP lB v p):oW K H' lP lB v p:=by
 obtain ⟨a,l,sv,ws,ev,h1,h2,h3,h4,h5,h6⟩:=y;let t:=h.t k;show ⟨a,l,sv,ws,ev,t.bO h1,h2.aX t,k.at (h.way h3 h5 h6) h3,h4.aX t,h5,h6⟩
def WS.wys (h:WS K H C fA dx pP pW pB lP lB us vs pX qe)(k:KO pP pW pB lP lB H H')(W:rY K H pw kW)(n:∀kv∈kW,kv.2≠.ref lP/\kv.2≠.ref lB):rY K H' pw kW:=by
 let t:=h.t k;refine cV (CV W) fun i p kv e1 e2=>?_;obtain ⟨XC,e3,z1,l,gm,z2,z3,z4⟩:=aA W e1;erw [e2] at e3;let nn:=n _ (Wp e2);show ⟨z1,l,gm,z2,k.at (h.way z3 (fun z=>nn.1 (by rw [z2,z])) (fun z=>nn.2 (by rw [z2,z]))) z3,z4.aX t⟩
end
inductive DK (K:Frag)(C:AO)(vs:ε)(H:Hp)(Q:VK)(E_:XK):Prop
|mk (fA dx pP pW pB lP lB:AO)(us eR :ε)(pX:θ)(qe:ρ)(sv:V)(lw:AO)(ws:ε)(p:ar)(_:vs=[.ref fA,.ref lP,.str p.nm,sv,.ref lw])(_:WS K H C fA dx pP pW pB lP lB us eR pX qe)(_:f_ K H sv p.sp)(_:H lw=some (.lst ws))(_:jc K H ws p.ws)(_:(lw≠lP/\lw≠lB))(_:p.nm∉pX.map (·.nm))(_:p.sp∉pX.map (·.sp))(_:(Sz 44 p.sp.1/\Sz 44 p.sp.2))(_:jk p.ws)(_:pX.length<=8)(_:∀(gm :ε)(H':Hp),KO pP pW pB lP lB H H' ->WS K H' C fA dx pP pW pB lP lB gm eR (pX++[p]) qe->Q .cL H')
def ahy:aC WV WV (ae dF):=sq
def ahT {C CR CF fR:AO}(D:Def K mg "_law_put_pin" dF WV)(aL:mg "len"=none)
  (Mj:mg "Roller"=some (.ref CR)) (Ml:mg "Fixed"=some (.ref CF)) (Mm:Yn K CF) (Mn:Mk K CR fR) (Xt:ad P w K mg qf 1 fR fdR Rt (qU K CR)) (Mo:Binds K fdR Rt [])
  (wR:am P w K mg qf 2 CR "ways" JB (jd K CR)) (wF:am P w K mg qf 2 CF "ways" JB (je K))
  (Uy:am P w K mg qf 3 C "put_pin" V1 (dI P w K mg qf C)) (YI:vL P w K mg qf (aY P w) 3 C "put_pin" V1 [.none] (dI P w K mg qf C)):
  ac P w K mg qf 4 "_law_put_pin" WV (DK K C):=by
 refine D.oo ahy fun H hr h=>?_;obtain ⟨fA,dx,pP,pW,pB,lP,lB,us,eR,pX,qe,sv,lw,ws,p,rfl,st,hsv,hlw,hws,⟨nl1,nl2⟩,HP,rq,hsz,wk,lp7,q⟩:=h;let L3:3<=BL:=ce
 let lu:us.length=pX.length:=CV st.pp;obtain ⟨kP,kW,kB,R,W,nW⟩:=st.fr
 show ⟨_,(aa (bx (jq Of Sn Sl e_ (pv 1) (aK (aZ (bE (pv 2) (pv 3) (pv 4)))))) (ah (bg (bB cZ (aD av rfl aL bM (aK (pv 4))) ag) (ah (bx (FY (k:=3) (pv 0) hr.mo (AG P w) (bE (pv 2) (aF (pv 3)) (aF (pv 3)))))) (ah (bg (bB cZ (aD av rfl aL bM (aK (pv 4))) ag) (ah (bx (cT (k:=3) (pv 0) hr.mo (AG P w) (jr (pv 2) (bE (aF (pv 3)) (aF (pv 3)) (adG Mn Xt hr.mo rfl Mj Mo .nil (AG P w) (aT (aF (iw (pv 4))) (aF (iw (pv 4)))))))))) (ah (bx (cT (k:=3) (pv 0) hr.mo (AG P w) (jr (pv 2) (bE (aF (pv 3)) (aF (pv 3)) (NQ Mm rfl Ml))))))))))),?_⟩;try dsimp only [xk,mz,Cx.xC,Cx.tQ]
 show ⟨_,rfl,.inl ⟨rfl,_,aV.of st.hp⟩,_,rfl,_,rfl,_,rfl,L3,?_⟩;intros t1 n1 H1 s1 e1;show ⟨lP,_,_,rfl,rfl,s1 _ _ st.hp,(by rw [lu];exact IY (show pX.length<=1000 by omega) ce),?_⟩;let tK:=st.qg s1;let k2:KO pP pW pB lP lB H (upd H1 lP (.lst (us++[.ref t1]))):=fun b o _ _ _ n4 _ e=>by rw [ak n4];exact s1 _ _ e
 let e2:(upd H1 lP (.lst (us++[.ref t1]))) lP=some (.lst (us++[.ref t1])):=aj;let nP:pP≠lP:=fun z=>by have h:=R.pl;erw [z,st.hp] at h
 let nWl:pW≠lP:=fun z=>by have h:=R.wy;erw [z,st.hp] at h
 let nB:pB≠lP:=fun z=>by have h:=R.br;erw [z,st.hp] at h
 let nP':pP≠lB:=fun z=>by have h:=R.pl;erw [z,st.hb] at h
 let nW':pW≠lB:=fun z=>by have h:=R.wy;erw [z,st.hb] at h
 let ot:∀b o,b≠lP->H b=some o->(upd H1 lP (.lst (us++[.ref t1]))) b=some o:=fun b o n e=>by rw [ak n];exact s1 _ _ e
 let nt:t1≠lP:=fun z=>by erw [z,st.hp] at n1
 let et:(upd H1 lP (.lst (us++[.ref t1]))) t1=some (.tup [.str p.nm,sv,.ref lw]):=by rwa [ak nt]
 generalize upd H1 lP (.lst (us++[.ref t1]))=H2 at k2 e2 ot et ⊢;let t2:=st.t k2;let R2:fq K H2 C fA dx pP pW pB (IG pX) (xG qe) kP kW kB:=R.iM t2 ((k2.at (st.away R.obj (fun _ z=>nomatch z) fun _ z=>nomatch z) R.obj).trans R.obj.symm) ((ot _ _ nP R.pl).trans R.pl.symm) ((ot _ _ nWl R.wy).trans R.wy.symm) ((ot _ _ nB R.br).trans R.br.symm);let W2:=st.wys k2 W nW;let aiK:=ot _ _ nl1 hlw;let aiL:=hsv.aX t2;let acb:=hws.aX t2;obtain ⟨sa,x1,y1,rfl,wU,Xo,Qb⟩:=id aiL
 let fin:∀(hv:V)(H5:Hp)(Q5:VK)(E5:XK),aq H2 H5->OJ P w K mg qf H5 hv p.ws->(∀H',KO pP pW pB lP lB H H' ->WS K H' C fA dx pP pW pB lP lB (us++[.ref t1]) eR (pX++[p]) qe->Q5 .cL H')->dI P w K mg qf C [.ref fA,.str p.nm,x1,y1,hv] H5 Q5 E5:=fun hv H5 Q5 E5 s5 hY fin=>by
  show ⟨fA,dx,pP,pW,pB,_,_,kP,kW,_,_,p.nm,x1,y1,hv,qP p.sp,p.ws,rfl,R2.qg s5,W2.qg s5,by rw [DP,DP];rfl,Xo.qg s5,Qb.qg s5,fun z=>HP ?_,fun z hz e=>rq ?_,?_,hY,fun H' xF mM k' R' W' nl=>?_⟩
  ·rw [DP] at z
   exact z
  ·obtain ⟨p',kI,e'⟩:=AW.mp hz
   rw [<-e'] at e;exact AW.mpr ⟨p',kI,OO (jb (ud Wr e)) (jb (ud Ww e))⟩
  ·rw [AU]
   omega
  let k0:KO pP pW pB lP lB H H':=fun b o m1 m2 m3 m4 m5 e=>k' b o m1 m2 (s5 _ _ (k2 b o m1 m2 m3 m4 m5 e));let t0:=st.t k0;let fr:=st.fresh n1;refine fin H' k0 ⟨⟨xF,mM,kB,?_,?_,fun kv Uq=>?_⟩,k' _ _ (CA nP) (CA nWl) (s5 _ _ e2),dX (Paired.bP st.pp fun _ _ z=>st.Sw k0 z) ⟨t1,lw,_,ws,rfl,bL.of (k' _ _ fr.1 fr.2.1 (s5 _ _ et)),hsv.aX t0,k0.at (st.way hlw nl1 nl2) hlw,hws.aX t0,nl1,nl2⟩,k' _ _ (CA nP') (CA nW') (s5 _ _ (ot _ _ (CA st.ne) st.hb)),Paired.bP st.pb fun u b z=>?_,st.gp.snoc HP rq hsz wk,⟨st.gb.nb,fun b hb=>?_⟩,by rw [CL];simp;omega,st.lb,st.ne⟩
  ·rw [show IG (pX++[p])=IG pX++[(p.nm,qP p.sp)] from IX]
   exact R'
  ·rw [show YJ (pX++[p])=YJ pX++[(p.nm,p.ws)] from IX]
   exact W'
  ·obtain ⟨l9,e9,n9⟩:=nl
   rw [e9] at Uq
   rcases DL.mp Uq with h|h
   ·exact nW kv h
   ·rw [IZ.mp h]
    show ⟨fun z=>?_,fun z=>?_⟩
    ·injection z with z
     erw [z,s5 _ _ e2] at n9
    ·injection z with z
     erw [z,s5 _ _ (ot _ _ (CA st.ne) st.hb)] at n9
  ·obtain ⟨a,i,j,e,h1,g1,g2⟩:=z
   show ⟨a,i,j,e,t0.bO h1,by rwa [JU (ir.mp g1).1],by rwa [JU (ir.mp g2).1]⟩
  ·obtain ⟨m1,m2,m3⟩:=st.gb.ends b hb
   show ⟨M3 _ m1,M3 _ m2,m3⟩
 let l2:=aV.of (K:=K) aiK;have XD :ws.length=p.ws.length:=CV hws;show ⟨_,rfl,lw,_,rfl,.inl l2,rfl,_,rfl,?_⟩
 rcases wk with hw|⟨wx,wy,hw,wn,_,_⟩|hw
 ·rw [hw] at XD
  refine bf (fun _=>?_) (fun c=>by rw [XD] at c;simp at c);show ⟨_,rfl,fA,C,dx,_,_,_,rfl,R2.obj,rfl,YI,_,rfl,_,rfl,sa,_,_,_,rfl,rfl,wU,jz,_,rfl,sa,_,_,_,rfl,rfl,wU,jQ,?_⟩;dsimp only [eG];exact fin .cL H2 _ _ (aq.refl _) (.inl ⟨rfl,hw⟩) fun H' k' W'=>q _ H' k' W'
 ·rw [hw] at XD acb
  obtain ⟨w0,rfl⟩:=w8.mp XD
  let hw0:f_ K H2 w0 (wx,wy):=by
   cases acb with
   | cons h _=>exact h
  obtain ⟨wa,y2,y3,rfl,vE,N2,Uz⟩:=hw0;refine bf (fun c=>by simp at c) (fun _=>?_);show ⟨_,rfl,lw,_,rfl,.inl l2,rfl,_,rfl,bf (fun _=>?_) (fun c=>BH rfl c)⟩;show ⟨_,rfl,fA,C,dx,_,_,_,rfl,R2.obj,rfl,Uy,_,rfl,_,rfl,sa,_,_,_,rfl,rfl,wU,jz,_,rfl,sa,_,_,_,rfl,rfl,wU,jQ,_,rfl,lw,_,_,_,rfl,rfl,l2,rfl,wa,_,_,_,rfl,rfl,vE,jz,_,rfl,lw,_,_,_,rfl,rfl,l2,rfl,wa,_,_,_,rfl,rfl,vE,jQ,?_⟩;intro eI d1 Ss Xu ne1;let s4:aq H2 (upd (upd H2 d1 (.own eI)) eI (.ins CR d1 [])):=fun b o e=>by rwa [ak (ao e Ss),ak (ao e Xu)]
  let e4:(upd (upd H2 d1 (.own eI)) eI (.ins CR d1 [])) eI =some (.ins CR d1 []):=aj;generalize upd (upd H2 d1 (.own eI)) eI (.ins CR d1 [])=H4 at s4 e4 ⊢;show ⟨eI,d1,y2,y3,wx,wy,rfl,e4,N2.qg s4,Uz.qg s4,wn,fun p5 n5=>⟨rfl,?_⟩⟩;let xD:p5≠eI :=fun z=>by erw [z,e4] at n5
  let s5:aq H2 (upd (upd H4 p5 (.tup [y2,y3])) eI (.ins CR d1 [("way",.ref p5)])):=fun b o e=>by
   let z:b≠eI :=fun z=>by erw [z,Ss] at e
   rw [ak z];exact aG n5 _ _ _ (s4 _ _ e)
  let e5:(upd (upd H4 p5 (.tup [y2,y3])) eI (.ins CR d1 [("way",.ref p5)])) eI =some (.ins CR d1 [("way",.ref p5)]):=aj;let t5:(upd (upd H4 p5 (.tup [y2,y3])) eI (.ins CR d1 [("way",.ref p5)])) p5=some (.tup [y2,y3]):=by rw [ak xD,aj]
  generalize upd (upd H4 p5 (.tup [y2,y3])) eI (.ins CR d1 [("way",.ref p5)])=H5 at s5 e5 t5 ⊢;let Xv:f_ K H5 (.ref p5) (wx,wy):=nG t5 (N2.qg s5) (Uz.qg s5);dsimp only [eG];exact fin (.ref eI) H5 _ _ s5 (.inr ⟨eI,CR,d1,_,JB,jd K CR,rfl,e5,HY _,wR,fun H6 e6 t6 Q' an=>⟨eI,d1,p5,(wx,wy),rfl,e6,Xv.aX t6,by rwa [hw] at an⟩⟩) fun H' k' W'=>q _ H' k' W'
 ·rw [hw] at XD
  refine bf (fun c=>by rw [XD] at c;simp at c) (fun _=>?_);show ⟨_,rfl,lw,_,rfl,.inl l2,rfl,_,rfl,bf (fun c=>by rw [XD] at c;simp at c) (fun _=>?_)⟩;show ⟨_,rfl,fA,C,dx,_,_,_,rfl,R2.obj,rfl,Uy,_,rfl,_,rfl,sa,_,_,_,rfl,rfl,wU,jz,_,rfl,sa,_,_,_,rfl,rfl,wU,jQ,?_⟩;intro eI d1 Ss Xu ne1;let s4:aq H2 (upd (upd H2 d1 (.own eI)) eI (.ins CF d1 [])):=fun b o e=>by rwa [ak (ao e Ss),ak (ao e Xu)]
  let e4:(upd (upd H2 d1 (.own eI)) eI (.ins CF d1 [])) eI =some (.ins CF d1 []):=aj;generalize upd (upd H2 d1 (.own eI)) eI (.ins CF d1 [])=H4 at s4 e4 ⊢;dsimp only [eG];exact fin (.ref eI) H4 _ _ s4 (.inr ⟨eI,CF,d1,_,JB,je K,rfl,e4,rfl,wF,fun H6 _ _ Q' an=>⟨eI,rfl,by rwa [hw] at an⟩⟩) fun H' k' W'=>q _ H' k' W'
def Sx (pX:θ)(i:Nat)(b:aI):Bool:=decide ((pX[i]?).map (·.nm)=some b.one.nm) || decide ((pX[i]?).map (·.nm)=some b.qz.nm)
def Sy (pX:θ)(qe:ρ)(i:Nat):Bool:= !(qe.any (Sx pX i))
def UH {pX:θ}(np:(pX.map (·.nm)).Nodup){i j:Nat}(e:pX[j]?=some p):(pX[i]?).map (·.nm)=some p.nm ↔ i=j:=by
 constructor
 ·intro h
  let e1:(pX.map (·.nm))[i]?=some p.nm:=by rwa [AY]
  let e2:(pX.map (·.nm))[j]?=some p.nm:=by rw [AY,e];rfl
  exact bU np e1 e2
 ·rintro rfl
  rw [e];rfl
theorem oX {Z:Type}(g:ar->Str×Z)(hg:∀p,(g p).1=p.nm):∀{pX:θ} {k:Nat} {p:ar},(pX.map (·.nm)).Nodup->pX[k]?=some p->(pX.map g).filter (fun b=>decide (b.1≠p.nm))=(pX.eraseIdx k).map g
 | q::ps,0,p,nd,e=>by
  cases e;rw [BS,KC] at nd;rw [BS,SI (by rw [hg];simp),List.eraseIdx_cons_zero,aiI];intro b hb;obtain ⟨r,hr,rfl⟩:=AW.mp hb;rw [hg];exact JO (fun z=>nd.1 (by rw [<-z];exact AW.mpr ⟨r,hr,rfl⟩))
 | q::ps,k+1,p,nd,e=>by
  rw [BS,KC] at nd;let e':ps[k]?=some p:=by simpa using e
  let ne:q.nm≠p.nm:=fun z=>nd.1 (by rw [z];exact AW.mpr ⟨p,Wp e',rfl⟩);rw [BS,SJ (by rw [hg];exact JO ne),List.eraseIdx_cons_succ,BS,oX g hg nd.2 e']
def tj {pX:θ}(h:i≠k):(pX.eraseIdx k)[if k<i then i-1 else i]?=pX[i]? :=by
 rw [SG];by_cases c:k<i
 ·rw [tu c,qA bv,show i-1+1=i by omega]
 ·rw [qA c,tu bv]
def fk.erase (g:fk pX)(k:Nat):fk (pX.eraseIdx k):=by
 let sub:am_ (pX.eraseIdx k) pX:=QU _ _;show ⟨g.np.sublist (sub.map _),g.ns.sublist (sub.map _),fun p hp=>g.sz p (sub.subset hp),fun p hp=>g.ws p (sub.subset hp)⟩
theorem zu :∀fs:List Nat,iE K H (fs.map fun i:Nat=>Da.v (.int (i:Int))) (fs.map fun i:Nat=>V.int (i:Int))
 | []=>by
  unfold iE;trivial
 | i::fs=>by
  show iE K H (_::_) (_::_);unfold iE;show ⟨?_,zu fs⟩;unfold Is;show ⟨rfl,rfl⟩
def UI :eV [x,y,z] (some 1) (some 3)=[y,z]:=rfl
def aiM :eV [x,y,z] (some 3) none=[]:=rfl
def abp (h:X.K=K)(hc:X.calm=true):fu X (.builtin "any") (Wc K):=by subst h;exact uU hc
inductive Pj (K:Frag)(C:AO)(vs:ε)(H:Hp)(Q:VK)(E_:XK):Prop
|mk (fA dx pP pW pB lP lB:AO)(us eR :ε)(pX:θ)(qe:ρ)(c:Int)(_:vs=[.ref fA,.ref lP,.ref lB,.int c])(_:WS K H C fA dx pP pW pB lP lB us eR pX qe)(_:(∀H',aq H H' ->Q .cL H'))(_:∀(k:Nat)(p:ar)(y:V)(gm zv:ε)(H':Hp),pX[k]?=some p->KO pP pW pB lP lB H H' ->WS K H' C fA dx pP pW pB lP lB gm zv (pX.eraseIdx k) qe->oW K H' lP lB y p->Q y H')
def cP:aC ["_law_frame_here","_law_pins_here","_law_bars_here","_law_cell","_law_free","_law_at","_law_gone","_law_k","_law_one","_law_other"] RK (ae dG):=sq
def ah' (D:Def K mg "_law_pin_out" dG RK)(aL:mg "len"=none)(bD:mg "range"=none)(u0:mg "any"=none)(sU:mg "int"=none)(dr:ac P w K mg qf 1 "_law_field" NW eT)
  (MTk:am P w K mg qf 2 C "take_pin" Rq (jf K C)):
  ac P w K mg qf 3 "_law_pin_out" RK (Pj K C):=by
 refine D.oo cP fun H hr h=>?_;obtain ⟨fA,dx,pP,pW,pB,lP,lB,us,eR,pX,qe,c,rfl,st,q0,q⟩:=h;let L3:3<=BL:=ce
 let lu:us.length=pX.length:=CV st.pp;let lv:eR.length=qe.length:=CV st.pb;let lp8:=st.lp;let lb8:=st.lb;obtain ⟨kP,kW,kB,R,W,nW⟩:=st.fr
 show ⟨_,(aa (aib (i:=4) cP.nd rfl (Np rfl) (yc:="_law_k") (tn:=["_law_k"]) (fr:=["_law_bars_here"]) (tw:=[2]) rfl ⟨rfl,rfl,by decide+kernel,by decide+kernel,rfl,⟨(by first|exact Np rfl|exact Oq rfl),trivial⟩,⟨(by first|exact Np rfl|exact Oq rfl),trivial⟩,fun _ _=>rfl,fun _=>rfl,by decide+kernel,by decide+kernel⟩ (cp rfl bD (aK (aD av rfl aL bM (aK (pv 1))))) (fun _ _ _ _=>(gF (i:=0) (show (["_law_k","_law_bars_here"]:List Str).Nodup from by decide+kernel) rfl (Oq rfl))) (fun _ _ _ _=>(aga (dN (dk (aD (abp (K:=K) rfl rfl) rfl u0 Ua (aK (dj (tn:=["_law_bar"]) (fr:=["_law_k"]) (tw:=[0]) (acT (K:=K) rfl (pv 1)) (fw (abb (K:=K) rfl) (pv 1) (dB (af_ (K:=K) rfl) (pv 0) (dh ag) (dh ag)) rfl)))))))) (fun _ _ _ _=>(pv 0)))
  (aa (bg (bB (qI hr.units) (pv 4) (bW iA)) (ah (aE jC)) aR) (aa (aJ 5 cP.nd (bG aU (pv 4) (aS dr hr (bE (pv 3) ag (aD av rfl aL bM (aK (pv 4))))))) (aa (aJ 6 cP.nd (jq Of PySem.F.slot_list_pop PySem.F.type_list_pop xZ (pv 1) (aK (pv 5)))) (aa (bx (cT (k:=2) (pv 0) hr.mo (AG P w) (aK (aF (pv 6))))) (aa (bJ I_ rfl (cp rfl bD (aK (aD av rfl aL bM (aK (pv 2))))) (bZ 7 cP.nd) (aa (ft (dB A_ (bG aU (pv 2) (pv 7)) (dh ag) (dh ag)) (eU rfl (a_ (bZ 8 cP.nd) (a_ (bZ 9 cP.nd) cY)))) (ah (ft (aH adN (aZ (bE (aF (bG aU (pv 2) (pv 7))) (aH dc (pv 8) (b9 uD rfl sU NH (aK (fw uC (pv 8) (pv 5) (iz _))))) (aH dc (pv 9) (b9 uD rfl sU NH (aK (fw uC (pv 9) (pv 5) (iz _))))))) (dB A_ (bG aU (pv 2) (pv 7)) (dh ag) ie)) (fS (pv 2) (pv 7) set_list))))) (ah (aE (pv 6))))))))),?_⟩;try dsimp only [xk,mz,Cx.xC,Cx.tQ]
 show ⟨_,rfl,lP,_,rfl,.inl (aV.of st.hp),((us.length:Nat):Int),rfl,bv,bv,fun lF nF=>?_⟩;refine ae3 (n:=us.length) (tG:=[some (.ref lB)]) (Sy pX qe) nF (IY (show us.length<=1000 by omega) ce) (fun i H1 RR hi s1 kk=>?_) (fun i H1 RR r=>⟨_,rfl,r⟩) fun H1 s1 eF=>?_
 ·let tJ:=s1 _ _ st.hb
  show ⟨_,rfl,lB,rfl,⟨_,aV.of tJ⟩,fun D2 n2=>?_⟩;refine cE (tG:=[some (.int (i:Int))]) (K:=K) (a:=lB) (xs:=eR) (fun j v _=>∀b,qe[j]?=some b->v=.bl (Sx pX i b)) n2 (IY (show eR.length<=1000 by omega) ce) (fun H2 s2=>aV.of (s2 _ _ tJ)) (fun _ _ _ _ _ _ _ h=>h) ?_ ?_
  ·intro j u H2 R2 hu s2 k2
   obtain ⟨b,eb,a,i1,j1,rfl,h1,g1,g2⟩:=aA st.pb hu;let h2:=Ty.aq.bO (s1.trans s2) h1;show ⟨_,rfl,_,rfl,1,rfl,3,rfl,a,_,rfl,h2,(by show ¬ (HT.fm 3 0 (some 1)=0/\HT.fm 3 3 (some 3)=3);decide),?_⟩;rw [UI];intros p3 n3 H3 s3 e3;show ⟨p3,_,rfl,.inr (bL.of e3),rfl,rfl,k2 _ _ s3 fun b' G'=>?_⟩;erw [eb] at G';congr 1;let a1:=UH st.gp.np (i:=i) g1;let a2:=UH st.gp.np (i:=i) g2;show Q7 (.int (i:Int)) [.int (i1:Int),.int (j1:Int)]=Sx pX i b;unfold Sx Q7;simp only [Rv,List.any_nil,jI,aiJ]
   let d1:((i1:Int)==(i:Int))=decide ((pX[i]?).map (·.nm)=some b.one.nm):=by
    rw [Rc,decide_eq_true_iff,a1,beq_iff_eq];omega
   let d2:((j1:Int)==(i:Int))=decide ((pX[i]?).map (·.nm)=some b.qz.nm):=by
    rw [Rc,decide_eq_true_iff,a2,beq_iff_eq];omega
   rw [d1,d2]
  ·intro zs H2 lz hz s2 hD
   let ez:zs=(qe.map (Sx pX i)).map V.bl:=by
    refine N_ fun j=>?_;by_cases cj:j<zs.length
    ·obtain ⟨b,eb⟩:∃b,qe[j]?=some b:=⟨_,gE bv⟩
     let e1:zs[j]?=some zs[j]:=gE cj;rw [e1,hz j _ e1 b eb,AY,AY,eb];rfl
    ·rw [IW (ii cj),IW (by rw [AU,AU];omega)]
   rw [ez] at hD;show ⟨D2,_,rfl,aV.of hD,_,rfl,?_⟩;have:=kk _ s2;unfold Sy at this;rw [List.any_map];exact this
 let tK:=st.qg s1;let R1:=R.qg s1;let W1:=W.qg s1;generalize ef:(JA us.length).filter (Sy pX qe)=fs at eF;dsimp only [cX];refine gk (fun Y' H'=>Y' =[some (.ref fA),some (.ref lP),some (.ref lB),some (.int c),some (.ref lF),none,none,none,none,none]/\aq H1 H'/\fs≠[]) (fun Nx zh=>?_) ?_
 ·show ⟨_,rfl,z0L,?_⟩
  intros l2 n2 H2 s2 e2;show ⟨fs.map fun i:Nat=>Da.v (.int (i:Int)),[],.inr ⟨?_,?_⟩,by cases fs<;>rfl,?_,_,rfl,?_⟩
  ·unfold Is
   show ⟨lF,_,rfl,aV.of (s2 _ _ eF),zu fs⟩
  ·unfold Is
   show ⟨l2,_,rfl,aV.of e2,?_⟩;unfold iE;trivial
  ·have:∀l:List Nat,i9 (l.map fun i:Nat=>Da.v (.int (i:Int)))<=60:=fun l=>by
    induction l with
    | nil=>exact JS _
    | cons i l ih=>
     show max (dep (Da.v (.int (i:Int)))) (i9 (l.map fun i:Nat=>Da.v (.int (i:Int))))<=60;have:dep (Da.v (.int (i:Int)))=0:=rfl;omega
   exact this fs
  ·refine bf (fun _=>?_) (fun cc=>?_)
   ·exact q0 _ (s1.trans s2)
   ·refine zh _ _ ⟨rfl,s2,fun z=>cc ?_⟩
    rw [z];rfl
 rintro Y' H2 ⟨rfl,s2,nfs⟩;let eF2:=s2 _ _ eF;let oa:=tK.qg s2;let R2:=R1.qg s2;let W2:=W1.qg s2
 let lf:0<fs.length:=by
  cases fs with
  | nil=>exact BH rfl nfs
  | cons a l=>exact Nat.succ_pos _
 show ⟨_,rfl,_,rfl,_,rfl,lF,_,rfl,.inl (aV.of eF2),_,_,_,rfl,ce,ce,(by rw [AU];omega),?_⟩;let fi:=ba (c:=c) (p:=7001) (m:=(((fs.map fun i:Nat=>V.int (i:Int)).length:Nat):Int)) (by rw [AU];omega);generalize field c 7001 (((fs.map fun i:Nat=>V.int (i:Int)).length:Nat):Int)=fv at fi ⊢;rw [AU] at fi;obtain ⟨fn,rfl⟩:∃n:Nat,fv=(n:Int):=⟨fv.toNat,oe fi⟩;let YU:fn<fs.length:=bv
 obtain ⟨k,ek⟩:∃k,fs[fn]?=some k:=⟨_,gE YU⟩;let mk:=Wp ek;rw [<-ef] at mk;obtain ⟨mk1,mk2⟩:=N0.mp mk;let hk:k<us.length:=JW.mp mk1;let af:ib (fs.map fun i:Nat=>V.int (i:Int)) (fn:Int)=some (.int (k:Int)):=bK (by rw [AY,ek];rfl);show ⟨lF,_,_,_,rfl,rfl,aV.of eF2,af,?_⟩;obtain ⟨p,ep⟩:∃p,pX[k]?=some p:=⟨_,gE (jw lu hk)⟩;let mp:=Wp ep;obtain ⟨y,ey,hy⟩:=aA (bN oa.pp) ep;let hy:oW K H2 lP lB y p:=hy
 let free:∀b∈qe,p.nm≠b.one.nm/\p.nm≠b.qz.nm:=fun b hb=>by
  let h1:Sx pX k b=false:=by
   cases hc:Sx pX k b with
   | false=>rfl
   | true=>
    have:(qe.any (Sx pX k))=true:=VO.mpr ⟨b,hb,hc⟩;unfold Sy at mk2;erw [this] at mk2
  unfold Sx at h1;rw [Bool.or_eq_false_iff] at h1;let e1:(pX[k]?).map (·.nm)=some p.nm:=by rw [ep];rfl
  show ⟨fun z=>?_,fun z=>?_⟩
  ·exact BH (by rw [e1,z]) (of_decide_eq_false h1.1)
  ·exact BH (by rw [e1,z]) (of_decide_eq_false h1.2)
 show ⟨_,rfl,.inl ⟨rfl,_,aV.of oa.hp⟩,_,rfl,lP,us,(k:Int),k,y,rfl,rfl,oa.hp,bv,bv,Ob hk,ey,?_⟩;let k3:KO pP pW pB lP lB H2 (upd H2 lP (.lst (us.eraseIdx k))):=fun b o _ _ _ n4 _ e=>by rwa [ak n4]
 let e3:(upd H2 lP (.lst (us.eraseIdx k))) lP=some (.lst (us.eraseIdx k)):=aj;let nP:pP≠lP:=fun z=>by have h:=R2.pl;erw [z,oa.hp] at h
 let nWl:pW≠lP:=fun z=>by have h:=R2.wy;erw [z,oa.hp] at h
 let nB:pB≠lP:=fun z=>by have h:=R2.br;erw [z,oa.hp] at h
 let nP':pP≠lB:=fun z=>by have h:=R2.pl;erw [z,oa.hb] at h
 let nW':pW≠lB:=fun z=>by have h:=R2.wy;erw [z,oa.hb] at h
 let nB':pB≠lB:=fun z=>by have h:=R2.br;erw [z,oa.hb] at h
 let ot:∀b o,b≠lP->H2 b=some o->(upd H2 lP (.lst (us.eraseIdx k))) b=some o:=fun b o n e=>by rwa [ak n]
 generalize upd H2 lP (.lst (us.eraseIdx k))=H3 at k3 e3 ot ⊢;let t3:=oa.t k3;let R3:fq K H3 C fA dx pP pW pB (IG pX) (xG qe) kP kW kB:=R2.iM t3 ((k3.at (oa.away R2.obj (fun _ z=>nomatch z) fun _ z=>nomatch z) R2.obj).trans R2.obj.symm) ((ot _ _ nP R2.pl).trans R2.pl.symm) ((ot _ _ nWl R2.wy).trans R2.wy.symm) ((ot _ _ nB R2.br).trans R2.br.symm);let W3:=oa.wys k3 W2 nW;let hy3:=oa.Sw k3 hy;obtain ⟨ta,la,sv,ws,rfl,h1,h2,h3,h4,h5,h6⟩:=id hy3;show ⟨_,rfl,fA,C,dx,_,_,_,rfl,R3.obj,rfl,MTk,_,rfl,ta,_,_,_,rfl,rfl,h1,rfl,?_⟩;dsimp only [eG];show ⟨fA,dx,pP,pW,pB,IG pX,xG qe,kP,kW,kB,YJ pX,p.nm,rfl,R3,W3,by rw [DP,DP];rfl,by rw [DP];exact AW.mpr ⟨p,mp,rfl⟩,fun b hb=>?_,fun H4 xF mM k4 R4 W4 sub=>?_⟩
 ·obtain ⟨b',ip,rfl⟩:=AW.mp hb
  exact free b' ip
 rw [oX (fun p=>(p.nm,qP p.sp)) (fun _=>rfl) st.gp.np ep] at R4;rw [oX (fun p=>(p.nm,p.ws)) (fun _=>rfl) st.gp.np ep] at W4;let k24:KO pP pW pB lP lB H2 H4:=fun b o m1 m2 m3 m4 m5 e=>k4 b o m1 m2 (k3 b o m1 m2 m3 m4 m5 e);let SA:H4 lB=some (.lst eR):=k4 _ _ (CA nP') (CA nW') (ot _ _ (CA st.ne) oa.hb);let GZ:H4 lP=some (.lst (us.eraseIdx k)):=k4 _ _ (CA nP) (CA nWl) e3;let t24:=oa.t k24
 let pe:∀{us:ε} {l:θ} {j:Nat},Paired (oW K H4 lP lB) us l->Paired (oW K H4 lP lB) (us.eraseIdx j) (l.eraseIdx j):=fun {us l j} h=>by
  induction h generalizing j with
  | nil=>exact .nil
  | cons x t ih=>
   cases j with
   | zero=>exact t
   | succ j=>exact .cons x ih
 let st4:∀(H5:Hp)(vs5:ε),(∀b o,b≠lB->H4 b=some o->H5 b=some o)->H5 lB=some (.lst vs5)->Paired (h_ K H5 (pX.eraseIdx k)) vs5 qe->WS K H5 C fA dx pP pW pB lP lB (us.eraseIdx k) vs5 (pX.eraseIdx k) qe/\KO pP pW pB lP lB H H5:=fun H5 vs5 k5 UJ pb5=>by
  let k25:KO pP pW pB lP lB H2 H5:=fun b o m1 m2 m3 m4 m5 e=>k5 b o m5 (k24 b o m1 m2 m3 m4 m5 e)
  let t5:bq H4 H5:=fun b xs r=>by
   rcases r with r|⟨o',r⟩
   ·exact .inl (k5 _ _ (fun z=>by erw [z,SA] at r) r)
   ·exact .inr ⟨o',k5 _ _ (fun z=>by erw [z,SA] at r) r⟩
  let nw:∀kv∈mM,kv.2≠.ref lP/\kv.2≠.ref lB:=fun kv Uq=>nW kv (sub kv Uq);show ⟨⟨⟨xF,mM,kB,R4.iM t5 ((k5 _ _ (fun z=>by have h:=R4.obj;erw [z,SA] at h) R4.obj).trans R4.obj.symm) ((k5 _ _ nP' R4.pl).trans R4.pl.symm) ((k5 _ _ nW' R4.wy).trans R4.wy.symm) ((k5 _ _ nB' R4.br).trans R4.br.symm),?_,nw⟩,k5 _ _ st.ne GZ,Paired.bP (pe (j:=k) (Paired.bP oa.pp fun _ _ z=>oa.Sw k24 z)) fun _ _ z=>?_,UJ,pb5,st.gp.erase k,⟨st.gb.nb,fun b hb=>?_⟩,?_,st.lb,st.ne⟩,(KO.of (s1.trans s2)).trans k25⟩
  ·refine cV (CV W4) fun i p' kv e1 e2=>?_
   obtain ⟨XC,e3',z1,l,gm,z2,z3,z4⟩:=aA W4 e1;erw [e2] at e3';show ⟨z1,l,gm,z2,k5 _ _ (fun z=>(nw _ (Wp e2)).2 (by rw [z2,z])) z3,z4.aX t5⟩
  ·obtain ⟨a',l',sv',ws',ev',c1,c2,c3,c4,c5,c6⟩:=z
   show ⟨a',l',sv',ws',ev',t5.bO c1,c2.aX t5,k5 _ _ c6 c3,c4.aX t5,c5,c6⟩
  ·obtain ⟨m1,m2,m3⟩:=st.gb.ends b hb
   obtain ⟨f1,f2⟩:=free b hb
   let ins:∀r∈pX,p.nm≠r.nm->r∈pX.eraseIdx k:=fun r hr ne=>by
    obtain ⟨i,ei⟩:=IV hr
    let ik:i≠k:=fun z=>by
     erw [z,ep] at ei;exact ne rfl
    exact Wp ((tj ik).trans ei)
   show ⟨ins _ m1 f1,ins _ m2 f2,m3⟩
  ·rw [Pf]
   split<;>omega
 show ⟨_,rfl,lB,_,rfl,.inl (aV.of SA),((eR.length:Nat):Int),rfl,bv,bv,let I:bn:=fun i Y H'=>Ow fun (o7 o8 o9:Ε) (xs:ε)=>Y=[ap fA,ap lP,ap lB,some (.int c),ap lF,some (.int (k:Int)),ap ta,o7,o8,o9]/\(∀b o,b≠lB->H4 b=some o->H' b=some o)/\H' lB=some (.lst xs)/\xs.length=eR.length/\(∀(j:Nat)(u:V)(b:aI),j<i->xs[j]?=some u->qe[j]?=some b->h_ K H' (pX.eraseIdx k) u b)/\∀j,i<=j->xs[j]?=eR[j]?;cJ (lo:=0) (n:=((eR.length:Nat):Int).toNat) I ⟨none,none,none,eR,rfl,fun _ _ _ e=>e,SA,rfl,fun j u b h=>BH h (QY _),fun _ _=>rfl⟩ ?_ ?_⟩
 ·rintro i Y H5 hi ⟨o7,o8,o9,xs,rfl,k5,UJ,lx,don,rest⟩
  let ei:(0:Int)+(i:Int)=(i:Int):=Kz _;rw [ei];let V0:i<eR.length:=nV hi
  obtain ⟨u,eu⟩:∃u,eR[i]?=some u:=⟨_,gE V0⟩;obtain ⟨b,eb,a,i1,j1,rfl,tJ,g1,g2⟩:=aA oa.pb eu;obtain ⟨f1,f2⟩:=free b (Wp eb)
  let t5:bq H4 H5:=fun b xs r=>by
   rcases r with r|⟨o',r⟩
   ·exact .inl (k5 _ _ (fun z=>by erw [z,SA] at r) r)
   ·exact .inr ⟨o',k5 _ _ (fun z=>by erw [z,SA] at r) r⟩
  let ha5:bL K H5 a [.str b.nm,.int (i1:Int),.int (j1:Int)]:=t5.bO (t24.bO tJ);let ax:ib xs (i:Int)=some (.ref a):=bK (by rwa [rest i (BW _)]);let n1k:i1≠k:=fun z=>by erw [z,ep] at g1;exact f1 rfl
  let n2k:j1≠k:=fun z=>by erw [z,ep] at g2;exact f2 rfl
  show ⟨_,rfl,_,rfl,lB,_,_,_,rfl,rfl,aV.of UJ,ax,1,rfl,3,rfl,a,_,rfl,ha5,(by show ¬ (HT.fm 3 0 (some 1)=0/\HT.fm 3 3 (some 3)=3);decide),?_⟩;rw [UI];intros p6 n6 H6 s6 e6;show ⟨p6,_,rfl,bL.of e6,rfl,_,_,rfl,_,_,rfl,rfl,?_⟩;let hb6:=s6 _ _ UJ;let ha6:=Ty.aq.bO s6 ha5;show ⟨_,rfl,_,rfl,lB,_,_,_,rfl,rfl,aV.of hb6,ax,a,_,_,_,rfl,rfl,ha6,b8,_,rfl,_,rfl,_,rfl,_,_,rfl,rfl,.inr ⟨_,rfl,_,_,rfl,rfl,?_⟩⟩;show ⟨_,rfl,_,rfl,_,rfl,_,_,rfl,rfl,.inr ⟨_,rfl,_,_,rfl,rfl,L3,?_⟩⟩;intros p7 n7 H7 s7 e7;let Uj:=s7 _ _ hb6;let ha7:=Ty.aq.bO s7 ha6;show ⟨_,rfl,_,rfl,lB,_,_,_,rfl,rfl,aV.of Uj,ax,3,rfl,a,_,rfl,ha7,(by show ¬ (HT.fm 3 0 (some 3)=0/\HT.fm 3 3 none=3);decide),?_⟩;rw [aiM];intros p8 n8 H8 s8 e8;let e78:=s8 _ _ e7;let hb8:=s8 _ _ Uj;show ⟨p7,p8,_,_,rfl,rfl,bL.of e78,bL.of e8,by simp,z3L,fun _=>?_,fun z=>BH rfl z⟩;let ixn:BA xs.length (i:Int)=some i:=vW (jp lx V0);show ⟨_,rfl,_,rfl,lB,_,_,i,rfl,rfl,hb8,ixn,?_⟩;let YA:=s6.trans (s7.trans s8)
  let sh:∀m:Nat,((m:Int)-(if decide ((k:Int)<(m:Int))=true then 1 else 0))=(((if k<m then m-1 else m:Nat)):Int):=fun m=>by
   by_cases cm:k<m
   ·rw [tu (JO bv),tu cm]
    omega
   ·rw [qA (by simpa using cm),qA cm]
    omega
  let k9:∀b o,b≠lB->H5 b=some o->(upd H8 lB (.lst (xs.set i (.ref p7)))) b=some o:=fun b o n e=>by rw [ak n];exact YA _ _ e
  let np7:p7≠lB:=fun z=>by erw [z,hb6] at n7
  let e79:(upd H8 lB (.lst (xs.set i (.ref p7)))) p7=some (.tup [.str b.nm,.int (((if k<i1 then i1-1 else i1:Nat)):Int),.int (((if k<j1 then j1-1 else j1:Nat)):Int)]):=by
   rw [ak np7,e78,<-sh i1,<-sh j1]
  let t9:bq H5 (upd H8 lB (.lst (xs.set i (.ref p7)))):=fun b' ys r=>by
   rcases r with r|⟨o',r⟩
   ·exact .inl (k9 _ _ (fun z=>by erw [z,UJ] at r) r)
   ·exact .inr ⟨o',k9 _ _ (fun z=>by erw [z,UJ] at r) r⟩
  show ⟨_,_,_,xs.set i (.ref p7),rfl,fun b' o' n e=>k9 _ _ n (k5 _ _ n e),aj,by rwa [aiq],fun j u' b' hj UA G'=>?_,fun j hj=>?_⟩
  ·by_cases cj:j=i
   ·subst cj
    erw [ahm (jp lx V0)] at UA;erw [eb] at G';show ⟨p7,_,_,rfl,bL.of e79,(tj n1k).trans g1,(tj n2k).trans g2⟩
   ·rw [wA (CA cj)] at UA
    obtain ⟨a',i',j',e',c1,c2,c3⟩:=don j u' b' bv UA G';show ⟨a',i',j',e',t9.bO c1,c2,c3⟩
  ·rw [wA bv]
   exact rest j (nZ hj)
 ·rintro Y H5 ⟨o7,o8,o9,xs,rfl,k5,UJ,lx,don,rest⟩
  let en:((eR.length:Nat):Int).toNat=eR.length:=eA
  rw [en] at don;let pb5:Paired (h_ K H5 (pX.eraseIdx k)) xs qe:=cV (or lv lx) fun j u b e1 e2=>don j u b (by have:=(ir.mp e1).1;exact jw lx this) e1 e2;obtain ⟨w5,ko⟩:=st4 H5 xs k5 UJ pb5;show ⟨_,rfl,q k p (.ref ta) _ xs H5 ep ko w5 ?_⟩;let ta4:=oa.Sw k24 hy;obtain ⟨a',l',sv',ws',ev',c1,c2,c3,c4,c5,c6⟩:=ta4
  let t5:bq H4 H5:=fun b xs r=>by
   rcases r with r|⟨o',r⟩
   ·exact .inl (k5 _ _ (fun z=>by erw [z,SA] at r) r)
   ·exact .inr ⟨o',k5 _ _ (fun z=>by erw [z,SA] at r) r⟩
  show ⟨a',l',sv',ws',ev',t5.bO c1,c2.aX t5,k5 _ _ c6 c3,c4.aX t5,c5,c6⟩
theorem l_ {Z:Type}{f:Z->Rat}:∀{l:List Z},(∀x∈l,f x=0)->(l.map f).sum=0
 | [],_=>rfl
 | b::bs,h=>by
  rw [BS,Kv,h b CU,l_ fun c hc=>h c (DM _ hc)];grind
def qd (h:fM pX qe T U):CW pX qe T U (fun _=>none):=fun p hp=>by
 obtain ⟨h1,h2⟩:=h p hp;show ⟨?_,?_⟩
 ·rw [h1]
  show (0:Rat)+0=0;grind
 ·rw [h2]
  show (0:Rat)+0=0;grind
section
variable {pX:θ}{qe:ρ}{b:aI}
def aaW (g:bT pX (qe++[b]))(lU:∀q∈pX,(U q.nm).length=q.ws.length)(no:fM pX (qe++[b]) T U)(tb:T b.nm=1):gC (ay pX+(qe++[b]).length) (eL pX (qe++[b])) (ay pX+qe.length):=by
 let ll:=yU (qe:=qe++[b]) (T:=T) lU;let lb:(qe++[b]).length=qe.length+1:=by simp
 show ⟨fun i=>(hW pX (qe++[b]) T U).getD i 0,?_,fun i hi=>?_,fun qs hq=>?_⟩
 ·show (hW pX (qe++[b]) T U).getD (ay pX+qe.length) 0≠0
  unfold hW;rw [JE,JZ (by rw [dE lU];exact nQ),dE lU,SH,AY,(ng qe b).1];show T b.nm≠0;rw [tb];decide
 ·show (hW pX (qe++[b]) T U).getD i 0=0
  rw [JE,IW bv];rfl
 ·let lq:=jX qs hq
  obtain ⟨j,hj,rfl⟩:=AW.mp hq;have:=pV g lU no j (JW.mp hj);rw [<-oQ _ _ (by rw [ll,lq]),lq] at this;exact this
def agA (g:bT pX (qe++[b]))(tk:j0 pX (qe++[b]) b.nm M):¬ gC (ay pX+(qe++[b]).length) (eL pX (qe++[b])) (ay pX+qe.length):=by
 rintro ⟨z,z1,zb,hz⟩;let lbb:(qe++[b]).length=qe.length+1:=by simp
 obtain ⟨l,ll,la⟩:∃l:List Rat,l.length=ay pX+(qe++[b]).length/\∀i,i<ay pX+(qe++[b]).length->l[i]?=some (z i):=⟨(JA (ay pX+(qe++[b]).length)).map z,by simp,fun i hi=>by
  rw [AY,YX hi]
  rfl⟩
 obtain ⟨U,u1,u2⟩:=lV pX (l.take (ay pX)) g.np (by rw [JT];omega);obtain ⟨T,hT⟩:=lW (qe++[b]) (l.drop (ay pX)) g.nb (by rw [Rw];omega)
 let e:hW pX (qe++[b]) T U=l:=by
  unfold hW;rw [u2,hT,Ry]
 let no:fM pX (qe++[b]) T U:=ku g u1 fun c hc=>by
  let hq:dR (bh pX (qe++[b])) c∈eL pX (qe++[b]):=AW.mpr ⟨c,JW.mpr hc,rfl⟩;let lq:=jX _ hq;have:=hz _ hq;show sP (hW pX (qe++[b]) T U) _=0;rw [<-oQ _ _ (by rw [lq,e,ll]),lq,e,<-this];exact iV _ _ _ fun i hi=>by rw [JE (l:=l),la i hi];rfl
 let tb:T b.nm=z (ay pX+qe.length):=by
  let h1:=la (ay pX+qe.length) bv;rw [<-e] at h1;unfold hW at h1;rw [JZ (by rw [dE u1];exact nQ),dE u1,SH,AY,(ng qe b).1] at h1;exact C_ h1
 let v:=aio g (qd no) tk.Xd
 let w0:OQ pX (fun _=>none) M=0:=l_ fun p _=>by
  show dt (0,0) (M p.nm)=0;unfold dt;grind
 rw [w0,IX,air] at v
 let YF:∀c∈qe,c.nm≠b.nm:=fun c hc q=>by
  have:=g.nb;rw [IX,Po] at this;exact this.2.2 _ (AW.mpr ⟨c,hc,rfl⟩) _ CU q
 let e0:(qe.map fun c=>T c.nm*yS M c).sum=0:=l_ fun c hc=>by
  rw [tk.qe c (M3 _ hc),qA (YF c hc)];grind
 rw [e0,BS,Mi,Kv,RM,tk.qe b (Ma _ CU),tu rfl,tb] at v;exact z1 (by grind)
end
def afs {b:aI}(g:bT pX (qe++[b])){AN:δ}(h:∀x:Str,(J' x:Key)∈AN.map (·.1) ↔ ∃c,c<ay pX+(qe++[b]).length/\gC (ay pX+(qe++[b]).length) (eL pX (qe++[b])) c/\ay pX<=c/\((qe++[b]).map (·.nm))[c-ay pX]?=some x):(J' b.nm:Key)∈AN.map (·.1) ↔ gC (ay pX+(qe++[b]).length) (eL pX (qe++[b])) (ay pX+qe.length):=by
 let at':((qe++[b]).map (·.nm))[qe.length]?=some b.nm:=by rw [AY,(ng qe b).1];rfl
 rw [h];constructor
 ·rintro ⟨c,h1,h2,h3,h4⟩
  have:=bU g.nb h4 at';rwa [show ay pX+qe.length=c by omega]
 ·intro f
  show ⟨_,by simp,f,nQ,by rwa [SH]⟩
inductive IH (K:Frag)(H:Hp)(pX:θ)(qe:ρ)(x:Str)(p:AO)(N:Nat):Prop
|mk (dM:AO)(kM:δ)(M:ω)(_:H p=some (.tup [.str "stiffer",.ref dM]))(_:R9 K H pX dM kM M N)(_:j0 pX qe x M)
inductive ToldF (K:Frag)(H:Hp)(pX:θ)(qe:ρ)(x:Str)(p:AO)(N:Nat):Prop
|mk (dT dU:AO)(kT kU:δ)(T:Ι)(U:χ)(_:H p=some (.tup [.str "spare",.ref dT,.ref dU]))(_:Qp K H pX qe dT dU kT kU T U N)(_:fM pX qe T U)(_:T x=1)
inductive rf (K:Frag)(vs:ε)(H:Hp)(Q:VK)(E_:XK):Prop
|mk (pA bA nA p:AO)(us ws:ε)(pX:θ)(qe:ρ)(b:aI)(i j N:Nat)(_:vs=[.ref pA,.ref bA,.ref nA,.ref p])(_:Qo K H pA bA us ws pX qe)(_:qe.length<=12)(_:bL K H nA [.str b.nm,.int (i:Int),.int (j:Int)])(_:pX[i]?=some b.one)(_:pX[j]?=some b.qz)(_:b.one.nm≠b.qz.nm)(_:b.nm∉qe.map (·.nm))(_:(IH K H pX (qe++[b]) b.nm p N\/ToldF K H pX (qe++[b]) b.nm p N))(_:∀H',aq H H' ->Q (.bl true) H')
def II:aC ["_law_pins_here","_law_bars_here","_law_new_here","_law_told","_law_more","_law_bar","_law_longer_here"] WU (ae LC):=sq
def acd (D:Def K mg "_law_right" LC WU)(aL:mg "len"=none)(bC:mg "isinstance"=none)(gI:mg "tuple"=none)(aiT:ac P w K mg qf 35 "_law_are_forces" RG (DJ K))(aiU:ac P w K mg qf 4 "_law_at_rest" ZX (sY K))(aiV:ac P w K mg qf 35 "_law_is_motion" RE (Ph K))(ace:ac P w K mg qf 3 "_law_longer" ZQ (sS K))(aiW:ac P w K mg qf 3 "_law_keeps" RE (wZ K)):
  ac P w K mg qf 36 "_law_right" WU (rf K):=by
 refine D.op II fun f cD A qw s H vs Q E hr h=>?_;obtain ⟨pA,bA,nA,p,us,ws,pX,qe,b,i,j,N,rfl,fr,lb7,hN,hi,hj,xD,hx,told,q⟩:=h;let L1:1<=BL:=ce
 let L2:2<=BL:=ce
 let L3:3<=BL:=ce
 let lp:=fr.lp;let lw:ws.length=qe.length:=CV fr.pb
 show ⟨_,(aa (bg (PW.pt (jn (dN (dk (aD gc rfl bC cH (aT (pv 3) (mG rfl gI vA))))) (gQ (my mD (aD av rfl aL bM (aK (pv 3))) (bW (aT ag ag)) rfl)))) (ah (aE du)) aR) (aa (aJ 4 II.nd (aH i8 (pv 1) (bW (aK (pv 2))))) (aa (bg (PW.pt (rg (bB cZ (aF (pv 3)) cy) (rg (bB cZ (aD av rfl aL bM (aK (pv 3))) ag) (qD (dk (aS aiT hr (jr (pv 0) (bE (pv 4) (aF (pv 3)) (aF (pv 3)))))))))) (ah (aE (AM (fw (qI hr.units) (cS (cf hr) (aF (pv 3)) (aF (pv 2)) (fun _ _=>rfl)) (aZ (aT ag ag)) (iz _)) (AL (aS aiU hr (jr (pv 0) (jr (pv 4) (bE (aF (pv 3)) (aF (pv 3)) fF)))))))) aR) (aa (bg (PW.pt (jn (bB jo (aF (pv 3)) cy) (jn (bB jo (aD av rfl aL bM (aK (pv 3))) ag) (gQ (dN (dk (aS aiV hr (aT (pv 0) (aF (pv 3)))))))))) (ah (aE du)) aR) (aa (bJ I_ rfl (bw (pv 1)) (bZ 5 II.nd) (ah (bg (bB jo (aF (aS ace hr (bE (pv 0) (pv 5) (aF (pv 3))))) ag) (ah (aE du)) aR))) (aa (aJ 6 II.nd (aS ace hr (bE (pv 0) (pv 2) (aF (pv 3))))) (ah (aE (AM (aS aiW hr (aT (pv 0) (aF (pv 3)))) (AL (fw cZ (aF (pv 6)) (aF (pv 6)) (iz _)))))))))))),?_⟩;sleep 6
 obtain ⟨zs,hz,lz⟩:∃zs,H p=some (.tup zs)/\(zs.length=2\/zs.length=3):=by
  rcases told with ⟨dM,kM,M,hp,_⟩|⟨dT,dU,kT,kU,T,U,hp,_⟩
  ·show ⟨_,hp,.inl rfl⟩
  ·show ⟨_,hp,.inr rfl⟩
 show ⟨_,rfl,_,_,_,true,rfl,rfl,.tup hz,ab6,_,rfl,bf (fun c=>nomatch c) (fun _=>?_)⟩;show ⟨_,rfl,p,_,rfl,.inr (bL.of hz),L2,?_⟩;intros l1 n1 H1 s1 e1;show ⟨l1,_,rfl,.inl (aV.of e1),rfl,rfl,_,rfl,bf (fun c=>BH c (by rcases lz with z|z<;>rw [z]<;>decide)) (fun _=>?_)⟩;show ⟨_,rfl,_,rfl,L1,?_⟩;intros l3 n3 H3 s3 e3;let vO:=s1.trans s3;show ⟨bA,l3,_,_,rfl,rfl,vO _ _ fr.hb,e3,(by show ws.length+1<=_;rw [lw];exact BX (show qe.length+1<=100 by omega) ce),?_⟩;intros mA n4 H4 s4 e4;let kJ:=vO.trans s4;let SD:bL K H4 nA [.str b.nm,.int (i:Int),.int (j:Int)]:=Ty.aq.bO kJ hN;let br4:h_ K H4 pX (.ref nA) b:=⟨nA,i,j,rfl,SD,hi,hj⟩;let fb:=fr.qg kJ
 let Sv:Qo K H4 pA mA us (ws++[.ref nA]) pX (qe++[b]):=⟨fb.hp,fb.pp,fb.gp,e4,dX fb.pb br4,fun c hc=>by
  rcases DL.mp hc with z|z
  ·exact fb.en c z
  ·rw [IZ.mp z]
   exact xD,lp,by rw [CL,NP];omega⟩
 rcases told with ⟨dM,kM,M,hp,mo,tk⟩|⟨dT,dU,kT,kU,T,U,hp,pl,no,tx⟩
 ·let GZ:=kJ _ _ hp
  let mo4:=mo.qg kJ;show ⟨_,rfl,p,_,_,_,rfl,rfl,bL.of GZ,rfl,rfl,_,rfl,bf (fun c=>BH c (by simp [jI];decide+kernel)) (fun _=>?_)⟩;show ⟨_,rfl,p,_,_,_,rfl,rfl,bL.of GZ,rfl,rfl,_,rfl,bf (fun c=>BH c (by simp [jI])) (fun _=>?_)⟩;show ⟨_,rfl,p,_,rfl,.inr (bL.of GZ),rfl,_,rfl,NA rfl ?_⟩;show ⟨_,rfl,_,rfl,p,_,_,_,rfl,rfl,bL.of GZ,rfl,pA,dM,us,pX,kM,M,N,rfl,Sv.hp,Sv.pp,bv,mo4,fun H5 s5=>?_⟩;show ⟨_,rfl,bf (fun c=>nomatch c) (fun _=>?_)⟩;let Yl:=Sv.qg s5;let fb5:=fb.qg s5;let mo5:=mo4.qg s5;let hp5:=s5 _ _ GZ;let br5:=br4.qg s5;let mj:=kJ.trans s5
  show ⟨_,rfl,bA,rfl,⟨_,aV.of fb5.hb⟩,let I:bn:=fun i Y H'=>∃(o6:Ε),Y=[ap pA,ap bA,ap nA,ap p,ap mA,o6,none]/\aq H5 H';cC (K:=K) (a:=bA) (xs:=ws) I ⟨none,rfl,aq.refl _⟩ (fun i Y H' _ h=>by
    obtain ⟨_,_,s⟩:=h
    exact aV.of (s _ _ fb5.hb)) ?_ ?_⟩
  ·rintro k u Y H6 hu ⟨o6,rfl,s6⟩
   obtain ⟨c,ec,Qn⟩:=aA fb5.pb hu;let mc:c∈qe:=Wp ec;let lc:=tk.qe c (M3 _ mc);rw [qA (fun z=>hx (by rw [<-z];exact AW.mpr ⟨c,mc,rfl⟩))] at lc;let YK:=fb5.qg s6;show ⟨_,rfl,_,rfl,_,rfl,p,_,_,_,rfl,rfl,bL.of (s6 _ _ hp5),rfl,pA,dM,us,pX,u,c,kM,M,N,rfl,YK.hp,YK.pp,fr.gp,Qn.qg s6,mo5.qg s6,fun v H7 s7 n7=>?_⟩;obtain ⟨z,⟨pz,rfl,k1⟩,k2,k3,_⟩:=n7;rw [lc] at k3;let e0:z.1=0:=(wJ k2).mpr k3;rw [e0] at k1;show ⟨pz,_,_,_,rfl,rfl,k1,jz,rfl,_,rfl,bf (fun h=>by simp at h) (fun _=>?_)⟩;show ⟨_,rfl,s6.trans s7⟩
  ·rintro Y H6 ⟨o6,rfl,s6⟩
   let YK:=Yl.qg s6;let lb1:=tk.qe b (Ma _ CU);rw [tu rfl] at lb1;let mo6:=mo5.qg s6;show ⟨_,rfl,_,rfl,_,rfl,p,_,_,_,rfl,rfl,bL.of (s6 _ _ hp5),rfl,pA,dM,us,pX,_,b,kM,M,N,rfl,YK.hp,YK.pp,fr.gp,br5.qg s6,mo6,fun v H7 s7 n7=>?_⟩;let fr7:=YK.qg s7;show ⟨_,rfl,_,rfl,p,_,_,_,rfl,rfl,bL.of (s7 _ _ (s6 _ _ hp5)),rfl,pA,dM,us,pX,kM,M,N,rfl,fr7.hp,fr7.pp,fr.gp,mo6.qg s7,tk.Xd,fun H8 s8=>⟨true,rfl,agP ?_⟩⟩;obtain ⟨z,⟨pz,rfl,k1⟩,k2,k3,_⟩:=n7.qg s8;rw [lb1] at k3;let e0:z.1=z.2:=(ahb k2).mpr k3;rw [e0] at k1;show ⟨_,rfl,pz,_,_,_,rfl,rfl,k1,jz,_,rfl,pz,_,_,_,rfl,rfl,k1,jQ,rfl,?_⟩;have:=q H8 (mj.trans (s6.trans (s7.trans s8)));let eb:decide (V.int z.2=V.int z.2)=true:=JO rfl;rwa [<-eb] at this
 ·let GZ:=kJ _ _ hp
  let pl4:=pl.qg kJ;show ⟨_,rfl,p,_,_,_,rfl,rfl,bL.of GZ,rfl,rfl,_,rfl,bf (fun _=>?_) (fun c=>BH (by simp [jI]) c)⟩;show ⟨_,rfl,p,_,rfl,.inr (bL.of GZ),rfl,_,rfl,bf (fun _=>?_) (fun c=>BH rfl c)⟩;show ⟨_,rfl,_,rfl,_,rfl,p,_,_,_,rfl,rfl,bL.of GZ,rfl,_,rfl,p,_,_,_,rfl,rfl,bL.of GZ,rfl,pA,mA,dT,dU,us,_,pX,_,kT,kU,T,U,N,rfl,Sv,pl4,fun H5 s5=>?_⟩;show ⟨_,rfl,bf (fun _=>?_) (fun c=>BH rfl c)⟩;let mj:=kJ.trans s5;let hp5:=mj _ _ hp;obtain ⟨v,dg,nv⟩:=(pl.qg mj).ab7 (Ma _ CU);show ⟨_,rfl,p,_,_,_,rfl,rfl,bL.of hp5,rfl,_,rfl,nA,_,_,_,rfl,rfl,Ty.aq.bO mj hN,b8,dT,_,rfl,dg,L2,?_⟩;intros t6 n6 H6 s6 e6;rw [tx] at nv
  let nv6:og K H6 v (1,1):=by
   rw [<-si];exact nv.qg s6
  show ⟨_,_,.inl ⟨kd nv6,kd (q:=(1,1)) ⟨t6,rfl,bL.of e6⟩⟩,rfl,FN,?_⟩;rw [H_ (1,1)];show ⟨_,rfl,bf (fun _=>?_) (fun c=>BH rfl c)⟩;let AJ:=mj.trans s6;let hp6:=AJ _ _ hp;show ⟨_,rfl,_,rfl,_,rfl,p,_,_,_,rfl,rfl,bL.of hp6,rfl,_,rfl,p,_,_,_,rfl,rfl,bL.of hp6,rfl,?_⟩;intros d7 n7 H7 s7 e7;let UD:=AJ.trans s7;show ⟨pA,mA,dT,dU,d7,us,_,pX,_,kT,kU,[],T,U,N,fun _=>none,rfl,Sv.qg (s5.trans (s6.trans s7)),pl.qg UD,e7,fun nm=>.inl ⟨rfl,rfl⟩,fun y=>⟨ji ce,ji ce⟩,qd no,fun H8 s8=>q H8 (UD.trans s8)⟩
inductive w_ (K:Frag)(vs:ε)(H:Hp)(Q:VK)(E_:XK):Prop
|mk (lP:AO)(us:ε)(nm:Str)(c:Int)(_:vs=[.ref lP,.str nm,.int c])(_:H lP=some (.lst us))(_:2<=us.length)(_:us.length<=9)(_:∀(t:AO)(i j:Nat)(H':Hp),aq H H' ->H t=none->H' t=some (.tup [.str nm,.int (i:Int),.int (j:Int)])->i<us.length->j<us.length->j≠i->Q (.ref t) H')
def ma:aC ["_law_pins_here","_law_name_here","_law_cell","_law_one","_law_other"] WO (ae gM):=sq
def acI (D:Def K mg "_law_new" gM WO)(aL:mg "len"=none)(dr:ac P w K mg qf 1 "_law_field" NW eT):
  ac P w K mg qf 2 "_law_new" WO (w_ K):=by
 refine D.op ma fun f cD A qw s H vs Q E hr h=>?_;obtain ⟨lP,us,nm,c,rfl,hp,l2,l9,q⟩:=h;let L3:3<=BL:=ce
 let sp:=aV.of (K:=K) hp
 show ⟨_,(aa (aJ 3 ma.nd (aS dr hr (bE (pv 2) ag (aD av rfl aL bM (aK (pv 0)))))) (aa (aJ 4 ma.nd (aH gG (aH bV (aH bV (pv 3) ag) (aS dr hr (bE (pv 2) ag (aH dc (aD av rfl aL bM (aK (pv 0))) ag)))) (aD av rfl aL bM (aK (pv 0))))) (ah (aE (aZ (bE (pv 1) (pv 3) (pv 4))))))),?_⟩
 let j1:=ba (c:=c) (p:=2003) (m:=(us.length:Int)) bv;let j2:=ba (c:=c) (p:=3001) (m:=(us.length:Int)-1) bv;show ⟨_,rfl,_,rfl,lP,_,rfl,.inl sp,_,_,_,rfl,ce,ce,bv,?_⟩;generalize field c 2003 (us.length:Int)=one at j1 ⊢;show ⟨_,rfl,_,_,rfl,rfl,_,rfl,_,rfl,lP,_,rfl,.inl sp,_,_,rfl,rfl,_,_,_,rfl,ce,ce,bv,_,_,rfl,rfl,_,rfl,lP,_,rfl,.inl sp,_,_,rfl,rfl,nz bv,?_⟩;generalize field c 3001 ((us.length:Int)-1)=step at j2 ⊢;obtain ⟨on,rfl⟩:∃n:Nat,one=(n:Int):=⟨one.toNat,oe j1⟩
 let oo:∃m:Nat,((on:Int)+1+step).fmod (us.length:Int)=(m:Int)/\m<us.length/\m≠on:=by
  let f:=nh (x:=(on:Int)+1+step) (m:=(us.length:Int)) bv;show ⟨(((on:Int)+1+step).fmod (us.length:Int)).toNat,oe f,bv,fun z=>?_⟩;let e:((on:Int)+1+step).fmod (us.length:Int)=(on:Int):=bv
  rw [ahW _ gV] at e;by_cases c:(on:Int)+1+step<(us.length:Int)
  ·rw [rS bv c] at e
   omega
  ·rw [<-aiZ,rS bv bv] at e
   omega
 obtain ⟨YH,YG,l2',ne2⟩:=oo;dsimp only;rw [YG];show ⟨_,rfl,_,rfl,_,rfl,L3,?_⟩;intros t n1 H1 s1 e1;exact q t on YH H1 s1 n1 e1 bv l2' ne2
abbrev XE (p w b s m k:Int):List V:=[.int p,.int w,.int b,.int s,.int m,.int k]
def kG (k:Nat):Str:="new"++L9 (toString (k:Int))
def afO:∀i:Fin 4,("new":Str).length+(L9 (toString (i.val:Int))).length<=1000:=by decide+kernel
def xa:kG 0="new0"/\kG 1="new1"/\kG 2="new2"/\kG 3="new3":=by decide+kernel
def ahf:∀i:Fin 4,∀j:Fin 4,i≠j->kG i.val≠kG j.val:=by decide+kernel
def afT:∀i:Fin 4,kG i.val≠ "last":=by decide+kernel
def KZ (pB lB cA:AO)(H H':Hp):Prop:=∀b o,b≠pB->b≠lB->b≠cA->H b=some o->H' b=some o
def KZ.of (s:aq H H'):KZ pB lB cA H H':=fun b o _ _ _ e=>s b o e
def KZ.trans (a:KZ pB lB cA H H1)(b:KZ pB lB cA H1 H2):KZ pB lB cA H H2:=fun c o n1 n2 n3 e=>b c o n1 n2 n3 (a c o n1 n2 n3 e)
inductive xc (K:Frag)(H:Hp)(d e f:AO)(v:V)(p:ar):Prop
|mk (a l:AO)(s:V)(us:ε)(_:v=.ref a)(_:bL K H a [.str p.nm,s,.ref l])(_:f_ K H s p.sp)(_:H l=some (.lst us))(_:jc K H us p.ws)(_:l≠d)(_:l≠e)(_:l≠f)
structure FZ (K:Frag)(H:Hp)(C fA dx pP pW pB lP lB cA:AO)(pX:θ)(qe:ρ):Prop where
 ex:∃kP kW kB,fq K H C fA dx pP pW pB (IG pX) (xG qe) kP kW kB/\rY K H (YJ pX) kW/\∀kv∈kW,kv.2≠.ref lP/\kv.2≠.ref lB/\kv.2≠.ref cA
structure WZ (K:Frag)(H:Hp)(C fA dx pP pW pB lP lB cA:AO)(us vs:ε)(pX:θ)(qe:ρ)(s m:Int)(k:Nat):Prop where
 fz:FZ K H C fA dx pP pW pB lP lB cA pX qe
 hp:H lP=some (.lst us)
 pp:Paired (xc K H lP lB cA) us pX
 hb:H lB=some (.lst vs)
 pb:Paired (h_ K H pX) vs qe
 gp:fk pX
 gb:j4 pX qe
 lp:pX.length<=9
 lb:qe.length<=7+k
 lk:k<=4
 ne:lP≠lB
 n1:cA≠lP
 n2:cA≠lB
 hc:H cA=some (.lst (XE pX.length (ay pX) qe.length s m k))
 cn:gi pX qe s m
 nb:cA≠pB/\lB≠pB
section
variable {H H':Hp}{C fA dx pP pW pB lP lB cA:AO}{us vs:ε}{pX:θ}{qe:ρ}{s m:Int}{k:Nat}
def WZ.t (h:WZ K H C fA dx pP pW pB lP lB cA us vs pX qe s m k)(z:KZ pB lB cA H H'):bq H H':=fun b xs r=>by
 obtain ⟨kP,kW,kB,R,_⟩:=h.fz.ex;let nn:∀{o:HO},H b=some o->(∀l,o≠.lst l)->(∀l,o≠.dK l)->H' b=some o:=fun {o} r n1 n2=>z b o (fun e=>by rw [e,R.br] at r;exact n2 _ (C_ r).symm) (fun e=>by rw [e,h.hb] at r;exact n1 _ (C_ r).symm) (fun e=>by rw [e,h.hc] at r;exact n1 _ (C_ r).symm) r
 rcases r with r|⟨o',r⟩
 ·exact .inl (nn r (fun _ q=>nomatch q) fun _ q=>nomatch q)
 ·exact .inr ⟨o',nn r (fun _ q=>nomatch q) fun _ q=>nomatch q⟩
def WZ.way (h:WZ K H C fA dx pP pW pB lP lB cA us vs pX qe s m k)(z:KZ pB lB cA H H')(e:H l=some (.lst xs))(n2:l≠lB)(n3:l≠cA):H' l=some (.lst xs):=by
 obtain ⟨kP,kW,kB,R,_⟩:=h.fz.ex;exact z l _ (fun q=>by erw [q,R.br] at e) n2 n3 e
def WZ.SF (h:WZ K H C fA dx pP pW pB lP lB cA us vs pX qe s m k)(z:KZ pB lB cA H H')(y:xc K H lP lB cA v p):xc K H' lP lB cA v p:=by
 obtain ⟨a,l,sv,ws,ev,h1,h2,h3,h4,h5,h6,h7⟩:=y;let t:=h.t z;show ⟨a,l,sv,ws,ev,t.bO h1,h2.aX t,h.way z h3 h6 h7,h4.aX t,h5,h6,h7⟩
def WZ.fzU (h:WZ K H C fA dx pP pW pB lP lB cA us vs pX qe s m k)(z:KZ pB lB cA H H')(eb:H' pB=H pB):FZ K H' C fA dx pP pW pB lP lB cA pX qe:=by
 obtain ⟨kP,kW,kB,R,W,n⟩:=h.fz.ex;let t:=h.t z
 let nl:∀{b:AO} {o:HO},H b=some o->(∀l,o≠.lst l)->b≠pB->H' b=H b:=fun {b o} r n1 nb=>by
  rw [r];exact z b o nb (fun e=>by rw [e,h.hb] at r;exact n1 _ (C_ r).symm) (fun e=>by rw [e,h.hc] at r;exact n1 _ (C_ r).symm) r
 show ⟨kP,kW,kB,R.iM t (nl R.obj (fun _ q=>nomatch q) (fun e=>by have:=R.obj;erw [e,R.br] at this)) (nl R.pl (fun _ q=>nomatch q) R.ne2) (nl R.wy (fun _ q=>nomatch q) R.ne3) eb,?_,n⟩;refine cV (CV W) fun i p kv e1 e2=>?_;obtain ⟨XC,e3,z1,l,gm,z2,z3,z4⟩:=aA W e1;erw [e2] at e3;let nn:=n _ (Wp e2);show ⟨z1,l,gm,z2,h.way z z3 (fun q=>nn.2.1 (by rw [z2,q])) (fun q=>nn.2.2 (by rw [z2,q])),z4.aX t⟩
def WZ.XG (h:WZ K H C fA dx pP pW pB lP lB cA us vs pX qe s m k)(z:KZ pB lB cA H H')(y:h_ K H pX v b):h_ K H' pX v b:=by
 obtain ⟨a,i,j,ev,h1,h2,h3⟩:=y;show ⟨a,i,j,ev,(h.t z).bO h1,h2,h3⟩
def WZ.hpU (h:WZ K H C fA dx pP pW pB lP lB cA us vs pX qe s m k)(z:KZ pB lB cA H H'):H' lP=some (.lst us):=h.way z h.hp h.ne (CA h.n1)
def xc.r (y:xc K H d e f v p):jA K H v p:=by
 obtain ⟨a,l,sv,ws,ev,h1,h2,h3,h4,_⟩:=y;show ⟨a,l,sv,ws,ev,h1,h2,h3,h4⟩
theorem xc.y (y:xc K H d e f v p):oW K H d e v p:=by
 obtain ⟨a,l,sv,ws,ev,h1,h2,h3,h4,h5,h6,_⟩:=y;show ⟨a,l,sv,ws,ev,h1,h2,h3,h4,h5,h6⟩
def FZ.fa (h:FZ K H C fA dx pP pW pB lP lB cA pX qe):qQ K H C fA pX qe:=by
 obtain ⟨kP,kW,kB,R,W,n⟩:=h.ex;show ⟨dx,pP,pW,pB,kP,kW,kB,R,W⟩
theorem FZ.qg (h:FZ K H C fA dx pP pW pB lP lB cA pX qe)(q:aq H H'):FZ K H' C fA dx pP pW pB lP lB cA pX qe:=by
 obtain ⟨kP,kW,kB,R,W,n⟩:=h.ex;show ⟨kP,kW,kB,R.qg q,W.qg q,n⟩
theorem WZ.qg (h:WZ K H C fA dx pP pW pB lP lB cA us vs pX qe s m k)(q:aq H H'):WZ K H' C fA dx pP pW pB lP lB cA us vs pX qe s m k:=⟨h.fz.qg q,q _ _ h.hp,Paired.bP h.pp fun _ _ y=>h.SF (KZ.of q) y,q _ _ h.hb,Paired.bP h.pb fun _ _ y=>y.qg q,h.gp,h.gb,h.lp,h.lb,h.lk,h.ne,h.n1,h.n2,q _ _ h.hc,h.cn,h.nb⟩
def WZ.ws (h:WZ K H C fA dx pP pW pB lP lB cA us vs pX qe s m k):WS K H C fA dx pP pW pB lP lB us vs pX qe:=by
 obtain ⟨kP,kW,kB,R,W,n⟩:=h.fz.ex;show ⟨⟨kP,kW,kB,R,W,fun kv hk=>⟨(n kv hk).1,(n kv hk).2.1⟩⟩,h.hp,Paired.bP h.pp fun _ _ y=>y.y,h.hb,h.pb,h.gp,h.gb,h.lp,by have:=h.lb;have:=h.lk;omega,h.ne⟩
def WZ.g (h:WZ K H C fA dx pP pW pB lP lB cA us vs pX qe s m k):bT pX qe:=HX h.gp h.gb h.lp (by have:=h.lb;have:=h.lk;omega)
def WZ.lfr (h:WZ K H C fA dx pP pW pB lP lB cA us vs pX qe s m k):Qo K H lP lB us vs pX qe:=⟨h.hp,Paired.bP h.pp fun _ _ y=>y.r,h.gp,h.hb,h.pb,fun b hb=>(h.gb.ends b hb).2.2,h.lp,by have:=h.lb;have:=h.lk;omega⟩
def WS.z (h:WS K H C fA dx pP pW pB lP lB us vs pX qe)(nc:H cA=none)(q:aq H H')(hc:H' cA=some (.lst (XE pX.length (ay pX) qe.length s m k)))(cn:gi pX qe s m)(lb:qe.length<=7+k)(lk:k<=4):WZ K H' C fA dx pP pW pB lP lB cA us vs pX qe s m k:=by
 obtain ⟨kP,kW,kB,R,W,n⟩:=h.fr;show ⟨⟨kP,kW,kB,R.qg q,W.qg q,fun kv hk=>⟨(n kv hk).1,(n kv hk).2,fun e=>?_⟩⟩,q _ _ h.hp,Paired.bP h.pp fun _ _ y=>?_,q _ _ h.hb,Paired.bP h.pb fun _ _ y=>y.qg q,h.gp,h.gb,h.lp,lb,lk,h.ne,fun e=>(by erw [e,h.hp] at nc),fun e=>(by erw [e,h.hb] at nc),hc,cn,fun e=>(by erw [e,R.br] at nc),fun e=>(by have:=R.br;erw [<-e,h.hb] at this)⟩
 ·obtain ⟨i,ei⟩:=IV hk
  obtain ⟨p,ep⟩:∃p,(YJ pX)[i]?=some p:=⟨_,gE (by have:=CV W;have:=(ir.mp ei).1;omega)⟩;obtain ⟨XC,e3,z1,l,gm,z2,z3,z4⟩:=aA W ep;erw [ei] at e3;erw [z2] at e;erw [nc] at z3
 ·obtain ⟨a,l,sv,ws,ev,g1,g2,g3,g4,g5,g6⟩:=y
  show ⟨a,l,sv,ws,ev,Ty.aq.bO q g1,g2.qg q,q _ _ g3,g4.qg q,g5,g6,fun e=>by erw [e,nc] at g3⟩
end
def acN (h:n<=9):zR n<=40000:=by
 have:n=0\/n=1\/n=2\/n=3\/n=4\/n=5\/n=6\/n=7\/n=8\/n=9:=bv
 rcases this with rfl|rfl|rfl|rfl|rfl|rfl|rfl|rfl|rfl|rfl<;>decide
section
variable {H H':Hp}{C fA dx pP pW pB lP lB cA:AO}{pX:θ}{qe:ρ}
def FZ.U (h:FZ K H C fA dx pP pW pB lP lB cA pX qe)(z:∀b o,b≠lB->b≠cA->H b=some o->H' b=some o)(hb:H lB=some (.lst xs))(hc:H cA=some (.lst ys)):FZ K H' C fA dx pP pW pB lP lB cA pX qe:=by
 obtain ⟨kP,kW,kB,R,W,n⟩:=h.ex;let nl:∀{b:AO} {o:HO},H b=some o->(∀l,o≠.lst l)->H' b=some o:=fun {b o} r n1=>z b o (fun e=>by rw [e,hb] at r;exact n1 _ (C_ r).symm) (fun e=>by rw [e,hc] at r;exact n1 _ (C_ r).symm) r
 let t:bq H H':=fun b xs r=>by
  rcases r with r|⟨o',r⟩
  ·exact .inl (nl r fun _ q=>nomatch q)
  ·exact .inr ⟨o',nl r fun _ q=>nomatch q⟩
 show ⟨kP,kW,kB,R.iM t ((nl R.obj fun _ q=>nomatch q).trans R.obj.symm) ((nl R.pl fun _ q=>nomatch q).trans R.pl.symm) ((nl R.wy fun _ q=>nomatch q).trans R.wy.symm) ((nl R.br fun _ q=>nomatch q).trans R.br.symm),?_,n⟩;refine cV (CV W) fun i p kv e1 e2=>?_;obtain ⟨XC,e3,z1,l,gm,z2,z3,z4⟩:=aA W e1;erw [e2] at e3;let nn:=n _ (Wp e2);show ⟨z1,l,gm,z2,z _ _ (fun q=>nn.2.1 (by rw [z2,q])) (fun q=>nn.2.2 (by rw [z2,q])) z3,z4.aX t⟩
def vd (fz:FZ K H C fA dx pP pW pB lP lB cA pX qe)(g:bT pX (qe++[b]))(k:∀(p:AO)(H':Hp),aq H H' ->(IH K H' pX (qe++[b]) b.nm p 40000\/ToldF K H' pX (qe++[b]) b.nm p 40000)->Q (.ref p) H'):lX K C [.ref fA,.str b.nm,.str b.one.nm,.str b.qz.nm] H Q E:=by
 obtain ⟨kP,kW,kB,R,W,n⟩:=fz.ex;obtain ⟨m1,m2,m3⟩:=g.ends b (Ma _ CU)
 let YF:b.nm∉qe.map (·.nm):=fun z=>by
  have:=g.nb;rw [IX,Po] at this;exact this.2.2 b.nm z b.nm CU rfl
 let lb:=g.lb;rw [CL,NP] at lb;let zl:=acN g.lp;let UK:(IG pX).map (·.1)=pX.map (·.nm):=by rw [DP];rfl
 show ⟨fA,dx,pP,pW,pB,IG pX,xG qe,kP,kW,kB,b.nm,b.one.nm,b.qz.nm,rfl,R,by rwa [DP],by rw [UK];exact AW.mpr ⟨_,m1,rfl⟩,by rw [UK];exact AW.mpr ⟨_,m2,rfl⟩,m3,by rw [AU];omega,pX,qe,b,fz.fa,g,rfl,rfl,rfl,fun M p dM kM H' s' ep MR tk zb=>k p H' s' (.inl ⟨dM,kM,M,ep,⟨MR.hM,MR.keys,MR.tM,fun p hp=>⟨(zb p hp).1.up zl,(zb p hp).2.up zl⟩,ce⟩,tk⟩),fun T U Lx p dT dU kT kU H' s' ep PR no tx zT zU=>k p H' s' (.inr ⟨dT,dU,kT,kU,T,U,ep,⟨PR.hT,PR.hU,PR.yQ,PR.L8,PR.tT,fun p hp=>?_,PR.lU,fun c hc=>(zT c hc).up zl,fun p hp u hu=>(zU p hp u hu).up zl,ce⟩,no,tx⟩)⟩;obtain ⟨vs,a,_,b',c⟩:=PR.tU p hp;show ⟨_,vs,a,b',c⟩
end
theorem ToldF.lU (h:ToldF K H pX qe x p N):∃T U,(∀q∈pX,((U:χ) q.nm).length=q.ws.length)/\fM pX qe T U/\T x=1:=by
 obtain ⟨dT,dU,kT,kU,T,U,_,pl,no,tx⟩:=h;show ⟨T,U,pl.lU,no,tx⟩
def zA (g:bT pX (qe++[b]))(cn:gi pX qe s m)(h:IH K H pX (qe++[b]) b.nm p N\/ToldF K H pX (qe++[b]) b.nm p N):∃(w:Str)(ds:ε),H p=some (.tup (.str w::ds))/\((w="spare"/\gi pX (qe++[b]) (s+1) m/\gC (ay pX+(qe++[b]).length) (eL pX (qe++[b])) (ay pX+qe.length))\/(w="stiffer"/\gi pX (qe++[b]) s (m-1)/\¬ gC (ay pX+(qe++[b]).length) (eL pX (qe++[b])) (ay pX+qe.length))):=by
 rcases h with ⟨dM,kM,M,ep,_,tk⟩|h
 ·show ⟨_,_,ep,.inr ⟨rfl,cn.Sh g tk,agA g tk⟩⟩
 ·obtain ⟨T,U,lU,no,tx⟩:=h.lU
  obtain ⟨dT,dU,kT,kU,_,_,ep,_⟩:=h;show ⟨_,_,ep,.inl ⟨rfl,cn.aby g lU no tx,aaW g lU no tx⟩⟩
def nN (e:upd H a (.lst xs)=H2):H2 a=some (.lst xs)/\∀b o,b≠a->H b=some o->H2 b=some o:=⟨e▸aj,fun b o n h=>by rwa [<-e,ak n]⟩
inductive DO (K:Frag)(C:AO)(vs:ε)(H:Hp)(Q:VK)(E_:XK):Prop
|mk (fA dx pP pW pB lP lB cA:AO)(us eR :ε)(pX:θ)(qe:ρ)(s m:Int)(k:Nat)(c:Int)(_:vs=[.ref fA,.ref lP,.ref lB,.ref cA,.int c])(_:WZ K H C fA dx pP pW pB lP lB cA us eR pX qe s m k)(_:k<4)(_:2<=pX.length)(_:kG k∉qe.map (·.nm))(_:∀(b:aI)(zv:ε)(s2 m2:Int)(H':Hp),b.nm=kG k->KZ pB lB cA H H' ->WZ K H' C fA dx pP pW pB lP lB cA us zv pX (qe++[b]) s2 m2 (k+1)->Q (.bl true) H')
def me:aC ["_law_frame_here","_law_pins_here","_law_bars_here","_law_counts","_law_cell","_law_new_here","_law_told"] Z_ (ae gN):=sq
def abT (D:Def K mg "_law_put" gN Z_)(nq:mg "str"=none)(oY:ac P w K mg qf 2 "_law_new" WO (w_ K))(j5:ac P w K mg qf 39 "would_put" Wq (lX K C))(XH:ac P w K mg qf 36 "_law_right" WU (rf K))(Sr:am P w K mg qf 3 C "put_bar" Oi (iR K C)):
  ac P w K mg qf 40 "_law_put" Z_ (DO K C):=by
 refine D.op me fun f cD A qw s H vs Q E hr h=>?_;obtain ⟨fA,dx,pP,pW,pB,lP,lB,cA,us,vs,pX,qe,sn,mn,k,c,rfl,st,hk,lp2,HP,q⟩:=h;let lu:us.length=pX.length:=CV st.pp;let lv:vs.length=qe.length:=CV st.pb;let lp:=st.lp;let lb:=st.lb;let lg:(k:Int).natAbs.log2<1920:=IY (ah_ _) (by show k<1920;omega);let fl:=BX (afO ⟨k,hk⟩) (show 1000<=BL by decide)
 show ⟨_,(aa (aJ 5 me.nd (aS oY hr (bE (pv 1) (aH gR cy (b9 i7 rfl nq NI (aK (iw (pv 3))))) (pv 4)))) (aa (ft (aH bV (iw (pv 3)) ag) (fS (pv 3) ag set_list)) (aa (aJ 6 me.nd (aS j5 hr (jr (pv 0) (bE (aF (pv 5)) (aF (bG aU (pv 1) (aF (pv 5)))) (aF (bG aU (pv 1) (aF (pv 5)))))))) (aa (bg (dN (dk (aS XH hr (jr (pv 1) (bE (pv 2) (pv 5) (pv 6)))))) (ah (aE du)) aR) (aa (bx (cT (k:=3) (pv 0) hr.mo (pY P w) (bE (aF (pv 5)) (aF (bG aU (pv 1) (aF (pv 5)))) (aF (bG aU (pv 1) (aF (pv 5))))))) (aa (bx (jq Of Sn Sl e_ (pv 2) (aK (pv 5)))) (aa (ft (aH bV (iw (pv 3)) ag) (fS (pv 3) ag set_list)) (aa (bg (bB cZ (aF (pv 6)) cy) (ah (ft (aH bV (iw (pv 3)) ag) (fS (pv 3) ag set_list))) (ah (ft (aH dc (iw (pv 3)) ag) (fS (pv 3) ag set_list)))) (ah (aE du)))))))))),?_⟩;sleep 8
 show ⟨_,rfl,_,rfl,cA,_,_,_,rfl,rfl,aV.of st.hc,rfl,_,rfl,lg,_,_,rfl,rfl,fl,_,rfl,lP,us,kG k,c,rfl,st.hp,bv,bv,fun t i j H1 s1 n1 e1 hi hj nij=>?_⟩;let tK:=st.qg s1;show ⟨_,rfl,cA,_,_,_,rfl,rfl,aV.of tK.hc,rfl,_,_,rfl,rfl,_,rfl,cA,_,_,5,rfl,rfl,tK.hc,rfl,?_⟩;obtain ⟨p1,g1⟩:∃p,pX[i]?=some p:=⟨_,gE (jw lu hi)⟩;obtain ⟨p2,g2⟩:∃p,pX[j]?=some p:=⟨_,gE (jw lu hj)⟩;let m1:=Wp g1;let m2:=Wp g2;let m3:p1.nm≠p2.nm:=fun z=>nij (bU st.gp.np (x:=p1.nm) (by rw [AY,g2,z];rfl) (by rw [AY,g1];rfl));obtain ⟨b,AE,tJ,BV⟩:∃b:aI,b.nm=kG k/\b.one=p1/\b.qz=p2:=⟨⟨kG k,p1,p2⟩,rfl,rfl,rfl⟩;let gb':j4 pX (qe++[b]):=st.gb.snoc (by rwa [AE]) (by rw [tJ,BV];show ⟨m1,m2,m3⟩);let g':bT pX (qe++[b]):=HX st.gp gb' lp (by rw [CL,NP];omega);generalize eX:upd H1 cA _=H2;obtain ⟨c2,o2⟩:H2 cA=some (.lst (XE pX.length (ay pX) qe.length sn mn ((k+1:Nat):Int)))/\∀b o,b≠cA->H1 b=some o->H2 b=some o:=nN eX;clear eX;let YL:KZ pB lB cA H1 H2:=fun b o _ _ n e=>o2 b o n e;let z2:=(KZ.of (cA:=cA) (pB:=pB) (lB:=lB) s1).trans YL;let t2:=tK.t YL;let ht2:bL K H2 t [.str b.nm,.int (i:Int),.int (j:Int)]:=by rw [AE];exact t2.bO (bL.of e1)
 let b2:H2 lB=some (.lst vs):=o2 _ _ (CA st.n2) tK.hb
 let fz2:FZ K H2 C fA dx pP pW pB lP lB cA pX qe:=by
  obtain ⟨_,_,_,R,_⟩:=tK.fz.ex;exact tK.fzU YL ((o2 _ _ (CA st.nb.1) R.br).trans R.br.symm)
 let Rg:=tK.hpU YL;let pp2:Paired (xc K H2 lP lB cA) us pX:=Paired.bP tK.pp fun _ _ y=>tK.SF YL y;let pb2:Paired (h_ K H2 pX) vs qe:=Paired.bP tK.pb fun _ _ y=>tK.XG YL y;let lf2:Qo K H2 lP lB us vs pX qe:=⟨Rg,Paired.bP pp2 fun _ _ y=>y.r,st.gp,b2,pb2,fun b hb=>(st.gb.ends b hb).2.2,lp,bv⟩
 let nms:∀{H3:Hp},bq H2 H3->∃q1 v1 w1 q2 v2 w2,us[i]?=some (.ref q1)/\bL K H3 q1 [.str p1.nm,v1,w1]/\us[j]?=some (.ref q2)/\bL K H3 q2 [.str p2.nm,v2,w2]:=fun {H3} t3=>by
  obtain ⟨u1,Pm,a1,l1,v1,_,rfl,k1,_⟩:=aA (bN pp2) g1;obtain ⟨u2,Pn,a2,l2,v2,_,rfl,k2,_⟩:=aA (bN pp2) g2;show ⟨a1,v1,_,a2,v2,_,Pm,t3.bO k1,Pn,t3.bO k2⟩
 obtain ⟨q1,v1,w1,q2,v2,w2,Pm,c1,Pn,c3⟩:=nms (bq.of (aq.refl H2));let sp2:=aV.of (K:=K) Rg;show ⟨_,rfl,_,rfl,t,_,_,_,rfl,rfl,ht2,b8,_,rfl,_,rfl,t,_,_,_,rfl,rfl,ht2,rfl,lP,_,_,_,rfl,rfl,sp2,bK Pm,q1,_,_,_,rfl,rfl,c1,b8,_,rfl,_,rfl,t,_,_,_,rfl,rfl,ht2,rfl,lP,_,_,_,rfl,rfl,sp2,bK Pn,q2,_,_,_,rfl,rfl,c3,b8,?_⟩;try dsimp only [eG];show lX K C [_,_,_,_] _ _ E0;rw [<-tJ,<-BV];refine vd fz2 g' fun p H3 s3 told=>?_;let ht3:=Ty.aq.bO s3 ht2;show ⟨_,rfl,_,rfl,_,rfl,_,rfl,lP,lB,t,p,us,vs,pX,qe,b,i,j,40000,rfl,lf2.qg s3,bv,ht3,by rwa [tJ],by rwa [BV],by rwa [tJ,BV],by rwa [AE],told,fun H4 s4=>?_⟩;show ⟨_,rfl,bf (fun c=>nomatch c) (fun _=>?_)⟩;obtain ⟨wd,ds,ep,cn'⟩:=zA g' st.cn told;let O_:=s3.trans s4;obtain ⟨q1,v1,w1,q2,v2,w2,Pm,c1,Pn,c3⟩:=nms (bq.of O_);let sp4:=aV.of (K:=K) (O_ _ _ Rg);let SD:=Ty.aq.bO O_ ht2;obtain ⟨kP,kW,kB,R4,W4,n4⟩:=(fz2.qg O_).ex;show ⟨_,rfl,fA,C,dx,_,_,_,rfl,R4.obj,rfl,Sr,_,rfl,t,_,_,_,rfl,rfl,SD,b8,_,rfl,_,rfl,t,_,_,_,rfl,rfl,SD,rfl,lP,_,_,_,rfl,rfl,sp4,bK Pm,q1,_,_,_,rfl,rfl,c1,b8,_,rfl,_,rfl,t,_,_,_,rfl,rfl,SD,rfl,lP,_,_,_,rfl,rfl,sp4,bK Pn,q2,_,_,_,rfl,rfl,c3,b8,?_⟩;dsimp only [eG];let UK:(IG pX).map (·.1)=pX.map (·.nm):=by rw [DP];rfl
 show ⟨fA,dx,pP,pW,pB,IG pX,xG qe,kP,kW,kB,b.nm,p1.nm,p2.nm,rfl,R4,by rwa [DP,AE],by rw [UK];exact AW.mpr ⟨_,m1,rfl⟩,by rw [UK];exact AW.mpr ⟨_,m2,rfl⟩,m3,by rw [AU];omega,fun H5 kB2 k5 R5=>?_⟩
 let t5:bq H4 H5:=fun b xs r=>by
  let nn:∀{o:HO},H4 b=some o->(∀l,o≠.dK l)->H5 b=some o:=fun {o} r n=>k5 _ _ (fun e=>by rw [e,R4.br] at r;exact n _ (C_ r).symm) r
  rcases r with r|⟨o',r⟩
  ·exact .inl (nn r fun _ q=>nomatch q)
  ·exact .inr ⟨o',nn r fun _ q=>nomatch q⟩
 let l5:∀{l:AO} {xs:ε},H4 l=some (.lst xs)->H5 l=some (.lst xs):=fun {l xs} r=>k5 _ _ (fun e=>by erw [e,R4.br] at r) r;let b5:=l5 (O_ _ _ b2);let cc5:=l5 (O_ _ _ c2)
 let fz5:FZ K H5 C fA dx pP pW pB lP lB cA pX (qe++[b]):=⟨kP,kW,kB2,by
  rw [show xG (qe++[b])=xG qe++[(b.nm,p1.nm,p2.nm)] by rw [<-tJ,<-BV];exact IX]
  exact R5,cV (CV W4) fun i p kv e1 e2=>by
   obtain ⟨XC,e3,z1,l,gm,z2,z3,z4⟩:=aA W4 e1;erw [e2] at e3
   show ⟨z1,l,gm,z2,l5 z3,z4.aX t5⟩,n4⟩
 show ⟨_,rfl,.inl ⟨rfl,_,aV.of b5⟩,_,rfl,lB,_,_,rfl,rfl,b5,IY (show vs.length<=1000 by omega) ce,?_⟩;generalize eX:upd H5 lB _=H6;obtain ⟨b6,o6⟩:=nN eX;clear eX;let c6:=o6 _ _ st.n2 cc5;show ⟨_,rfl,cA,_,_,_,rfl,rfl,aV.of c6,rfl,_,_,rfl,rfl,_,rfl,cA,_,_,2,rfl,rfl,c6,rfl,?_⟩;generalize eX:upd H6 cA _=H7;obtain ⟨c7,o7⟩:H7 cA=some (.lst (XE pX.length (ay pX) ((qe.length:Int)+1) sn mn ((k+1:Nat):Int)))/\∀b o,b≠cA->H6 b=some o->H7 b=some o:=nN eX;clear eX;let o57:∀b o,b≠lB->b≠cA->H5 b=some o->H7 b=some o:=fun b o n1 n2 e=>o7 _ _ n2 (o6 _ _ n1 e);let b7:=o7 _ _ (CA st.n2) b6
 let t57:bq H5 H7:=fun b xs r=>by
  let nn:∀{o:HO},H5 b=some o->(∀l,o≠.lst l)->H7 b=some o:=fun {o} r n=>o57 _ _ (fun e=>by rw [e,b5] at r;exact n _ (C_ r).symm) (fun e=>by rw [e,cc5] at r;exact n _ (C_ r).symm) r
  rcases r with r|⟨o',r⟩
  ·exact .inl (nn r fun _ q=>nomatch q)
  ·exact .inr ⟨o',nn r fun _ q=>nomatch q⟩
 let ep7:bL K H7 p (.str wd::ds):=t57.bO (t5.bO (Ty.aq.bO s4 (bL.of ep)));let z47:KZ pB lB cA H4 H7:=fun b o n1 n2 n3 e=>o57 _ _ n2 n3 (k5 _ _ n1 e);let z07:KZ pB lB cA H H7:=z2.trans ((KZ.of O_).trans z47)
 let fin:∀(s2 m2:Int)(H8:Hp),H8 cA=some (.lst (XE pX.length (ay pX) ((qe.length:Int)+1) s2 m2 ((k+1:Nat):Int)))->(∀b o,b≠cA->H7 b=some o->H8 b=some o)->gi pX (qe++[b]) s2 m2->Q (.bl true) H8:=fun s2 m2 H8 c8 o8 cn=>by
  let z08:KZ pB lB cA H H8:=z07.trans fun b o _ _ n e=>o8 b o n e;let t08:=st.t z08;refine q b (vs++[.ref t]) s2 m2 H8 AE z08 ⟨(fz5.U (H':=H8) (fun b o n1 n2 e=>o8 _ _ n2 (o57 b o n1 n2 e)) b5 cc5),st.hpU z08,Paired.bP st.pp fun _ _ y=>st.SF z08 y,o8 _ _ (CA st.n2) b7,dX (Paired.bP st.pb fun _ _ y=>st.XG z08 y) ⟨t,i,j,rfl,?_,by rwa [tJ],by rwa [BV]⟩,st.gp,gb',lp,by rw [CL,NP];omega,bv,st.ne,st.n1,st.n2,?_,cn,st.nb⟩
  ·let t78:bq H7 H8:=fun b xs r=>by
    let nn:∀{o:HO},H7 b=some o->(∀l,o≠.lst l)->H8 b=some o:=fun {o} r n=>o8 _ _ (fun e=>by rw [e,c7] at r;exact n _ (C_ r).symm) r
    rcases r with r|⟨o',r⟩
    ·exact .inl (nn r fun _ q=>nomatch q)
    ·exact .inr ⟨o',nn r fun _ q=>nomatch q⟩
   exact t78.bO (t57.bO (t5.bO SD))
  ·rw [c8,CL,NP]
   rfl
 show ⟨_,rfl,p,_,_,_,rfl,rfl,ep7,b8,rfl,_,rfl,?_⟩
 rcases cn' with ⟨rfl,cn,_⟩|⟨rfl,cn,_⟩
 ·refine bf (fun _=>?_) (fun c=>BH (by simp [jI]) c)
  show ⟨_,rfl,cA,_,_,_,rfl,rfl,aV.of c7,rfl,_,_,rfl,rfl,_,rfl,cA,_,_,3,rfl,rfl,c7,rfl,?_⟩;generalize eX:upd H7 cA _=H8;obtain ⟨c8,o8⟩:=nN eX;exact fin _ _ H8 c8 o8 cn
 ·refine bf (fun c=>BH c (by simp [jI];decide+kernel)) (fun _=>?_)
  show ⟨_,rfl,cA,_,_,_,rfl,rfl,aV.of c7,rfl,_,_,rfl,rfl,_,rfl,cA,_,_,4,rfl,rfl,c7,rfl,?_⟩;generalize eX:upd H7 cA _=H8;obtain ⟨c8,o8⟩:=nN eX;exact fin _ _ H8 c8 o8 cn
theorem tq:∀{qe:ρ} {k:Nat} {b:aI},(qe.map (·.nm)).Nodup->qe[k]?=some b->(xG qe).filter (fun x=>decide (x.1≠b.nm))=xG (qe.eraseIdx k)
 | q::ps,0,p,nd,e=>by
  cases e;rw [BS,KC] at nd;show ((q.nm,q.one.nm,q.qz.nm)::xG ps).filter _=xG ps;rw [SI cr,aiI];intro b hb;obtain ⟨r,hr,rfl⟩:=AW.mp hb;exact JO (fun z=>nd.1 (by rw [<-z];exact AW.mpr ⟨r,hr,rfl⟩))
 | q::ps,k+1,p,nd,e=>by
  rw [BS,KC] at nd;let e':ps[k]?=some p:=by simpa using e
  let ne:q.nm≠p.nm:=fun z=>nd.1 (by rw [z];exact AW.mpr ⟨p,Wp e',rfl⟩);show ((q.nm,q.one.nm,q.qz.nm)::xG ps).filter _=(q.nm,q.one.nm,q.qz.nm)::xG (ps.eraseIdx k);rw [SJ (by simpa using ne),tq nd.2 e']
theorem jm :∀{us:List Z} {l:List β} {j:Nat},Paired R us l->Paired R (us.eraseIdx j) (l.eraseIdx j)
 | _,_,_,.nil=>.nil
 | _,_,0,.cons _ t=>t
 | _,_,_+1,.cons h t=>.cons h (jm t)
def abO (R:qQ K H C fA pX qe)(g:bT pX qe)(eb:qe[j]?=some b)(cn:gi pX qe s m)(k:∀(p:AO)(wd:Str)(ds:ε)(H':Hp),aq H H' ->H' p=some (.tup (.str wd::ds))->(wd="less"/\gi pX (qe.eraseIdx j) (s-1) m)\/(wd="looser"/\gi pX (qe.eraseIdx j) s (m+1))->Q (.ref p) H'):sL K C [.ref fA,.str b.nm] H Q E:=
 ⟨fA,pX,qe,b.nm,rfl,R,g,AW.mpr ⟨b,Wp eb,rfl⟩,fun M p dM kM H' s' ep _ tk _=>k p _ _ H' s' ep (.inr ⟨rfl,cn.Xj g eb tk⟩),fun T U Lx p dT dU kT kU H' s' ep PR no tx _ _=>k p _ _ H' s' ep (.inl ⟨rfl,cn.less g eb PR.lU no tx⟩)⟩
inductive xf (K:Frag)(C:AO)(vs:ε)(H:Hp)(Q:VK)(E_:XK):Prop
|mk (fA dx pP pW pB lP lB cA:AO)(us eR :ε)(pX:θ)(qe:ρ)(s m:Int)(k:Nat)(c:Int)(_:vs=[.ref fA,.ref lB,.ref cA,.int c])(_:WZ K H C fA dx pP pW pB lP lB cA us eR pX qe s m k)(_:0<qe.length)(_:∀(j:Nat)(zv:ε)(s2 m2:Int)(H':Hp),KZ pB lB cA H H' ->WZ K H' C fA dx pP pW pB lP lB cA us zv pX (qe.eraseIdx j) s2 m2 k->Q (.bl true) H')
def j6:aC ["_law_frame_here","_law_bars_here","_law_counts","_law_cell","_law_name_here","_law_word"] ZS (ae fX):=sq
def adS (D:Def K mg "_law_take" fX ZS)(aL:mg "len"=none)(dr:ac P w K mg qf 1 "_law_field" NW eT)(ai4:ac P w K mg qf 39 "would_take" ["F","name"] (sL K C))(MTb:am P w K mg qf 1 C "take_bar" Rq (kj K C)):
  ac P w K mg qf 40 "_law_take" ZS (xf K C):=by
 refine D.op j6 fun f cD A qw s H vs Q E hr h=>?_;obtain ⟨fA,dx,pP,pW,pB,lP,lB,cA,us,vs,pX,qe,sn,mn,k,c,rfl,st,lb0,q⟩:=h;let lv:vs.length=qe.length:=CV st.pb;let lb:=st.lb;let lk:=st.lk;let L2:2<=BL:=ce
 show ⟨_,(aa (aJ 4 j6.nd (aF (jq Of PySem.F.slot_list_pop PySem.F.type_list_pop xZ (pv 1) (aK (aS dr hr (bE (pv 3) ag (aD av rfl aL bM (aK (pv 1))))))))) (aa (aJ 5 j6.nd (aF (aS ai4 hr (aT (pv 0) (pv 4))))) (aa (bx (cT (k:=1) (pv 0) hr.mo (pY P w) (aK (pv 4)))) (aa (ft (aH dc (iw (pv 2)) ag) (fS (pv 2) ag set_list)) (aa (bg (bB cZ (pv 5) cy) (ah (ft (aH dc (iw (pv 2)) ag) (fS (pv 2) ag set_list))) (ah (ft (aH bV (iw (pv 2)) ag) (fS (pv 2) ag set_list)))) (ah (aE (fw oz (pv 5) (bW (aT cy cy)) rfl)))))))),?_⟩;sleep 4
 show ⟨_,rfl,.inl ⟨rfl,_,aV.of st.hb⟩,_,rfl,_,rfl,lB,_,rfl,.inl (aV.of st.hb),_,_,_,rfl,ce,ce,bv,?_⟩;let fi:=ba (c:=c) (p:=2003) (m:=((vs.length:Nat):Int)) bv;generalize field c 2003 ((vs.length:Nat):Int)=fv at fi ⊢;obtain ⟨j,rfl⟩:∃n:Nat,fv=(n:Int):=⟨fv.toNat,oe fi⟩;let hj:j<vs.length:=bv
 obtain ⟨b,eb⟩:∃b,qe[j]?=some b:=⟨_,gE bv⟩;let mb:=Wp eb;obtain ⟨y,ey,hy⟩:=aA (bN st.pb) eb;let hy:h_ K H pX y b:=hy;obtain ⟨ta,i1,i2,rfl,h1,g1,g2⟩:=hy;show ⟨lB,vs,(j:Int),j,.ref ta,rfl,rfl,st.hb,bv,bv,Ob hj,ey,?_⟩;generalize eX:upd H lB _=H1;obtain ⟨b1,o1⟩:=nN eX;clear eX;let z1:KZ pB lB cA H H1:=fun b o _ n _ e=>o1 b o n e;let t1:=st.t z1;let c1:=o1 _ _ st.n2 st.hc
 let fz1:FZ K H1 C fA dx pP pW pB lP lB cA pX qe:=by
  obtain ⟨_,_,_,R,_⟩:=st.fz.ex;exact st.fzU z1 ((o1 _ _ (CA st.nb.2) R.br).trans R.br.symm)
 show ⟨ta,_,_,_,rfl,rfl,t1.bO h1,b8,_,rfl,_,rfl,?_⟩;try dsimp only [eG];show sL K C [_,_] _ _ E0;refine abO fz1.fa st.g eb st.cn fun p wd ds H2 s2 ep cn'=>?_;show ⟨p,_,_,_,rfl,rfl,bL.of ep,b8,?_⟩;obtain ⟨kP,kW,kB,R2,W2,n2⟩:=(fz1.qg s2).ex;show ⟨_,rfl,fA,C,dx,_,_,_,rfl,R2.obj,rfl,MTb,_,rfl,?_⟩;dsimp only [eG];show ⟨fA,dx,pP,pW,pB,IG pX,xG qe,kP,kW,kB,b.nm,rfl,R2,by rw [DP];exact AW.mpr ⟨b,mb,rfl⟩,fun H3 kB1 k3 R3=>?_⟩;rw [tq st.gb.nb eb] at R3;let l3:∀{l:AO} {xs:ε},H2 l=some (.lst xs)->H3 l=some (.lst xs):=fun {l xs} r=>k3 _ _ (fun e=>by erw [e,R2.br] at r) r;let z3:KZ pB lB cA H H3:=z1.trans ((KZ.of s2).trans fun b o n _ _ e=>k3 b o n e);let b3:=l3 (s2 _ _ b1);let c3:=l3 (s2 _ _ c1)
 let t23:bq H2 H3:=fun b xs r=>by
  let nn:∀{o:HO},H2 b=some o->(∀l,o≠.dK l)->H3 b=some o:=fun {o} r n=>k3 _ _ (fun e=>by rw [e,R2.br] at r;exact n _ (C_ r).symm) r
  rcases r with r|⟨o',r⟩
  ·exact .inl (nn r fun _ q=>nomatch q)
  ·exact .inr ⟨o',nn r fun _ q=>nomatch q⟩
 let fz3:FZ K H3 C fA dx pP pW pB lP lB cA pX (qe.eraseIdx j):=⟨kP,kW,kB1,R3,cV (CV W2) fun i p kv e1 e2=>by
  obtain ⟨XC,e3,z1,l,gm,z2,z3,z4⟩:=aA W2 e1;erw [e2] at e3
  show ⟨z1,l,gm,z2,l3 z3,z4.aX t23⟩,n2⟩
 show ⟨_,rfl,cA,_,_,_,rfl,rfl,aV.of c3,rfl,_,_,rfl,rfl,_,rfl,cA,_,_,2,rfl,rfl,c3,rfl,?_⟩;generalize eX:upd H3 cA _=H4;obtain ⟨c4,o4⟩:H4 cA=some (.lst (XE pX.length (ay pX) ((qe.length:Int)-1) sn mn k))/\∀b o,b≠cA->H3 b=some o->H4 b=some o:=nN eX;clear eX;let sub:am_ (qe.eraseIdx j) qe:=QU _ _;let len:(qe.eraseIdx j).length=qe.length-1:=by rw [Pf,tu bv]
 let fin:∀(s2 m2:Int)(H5:Hp),H5 cA=some (.lst (XE pX.length (ay pX) ((qe.length:Int)-1) s2 m2 k))->(∀b o,b≠cA->H4 b=some o->H5 b=some o)->gi pX (qe.eraseIdx j) s2 m2->∀H6,aq H5 H6->Q (.bl true) H6:=fun s2 m2 H5 c5 o5 cn H6 s6=>by
  let o35:∀b o,b≠cA->H3 b=some o->H5 b=some o:=fun b o n e=>o5 _ _ n (o4 _ _ n e);let z5:KZ pB lB cA H H5:=z3.trans fun b o _ _ n e=>o35 b o n e;let w5:WZ K H5 C fA dx pP pW pB lP lB cA us (vs.eraseIdx j) pX (qe.eraseIdx j) s2 m2 k:=⟨fz3.U (fun b o _ n e=>o35 b o n e) b3 c3,st.hpU z5,Paired.bP st.pp fun _ _ y=>st.SF z5 y,o35 _ _ (CA st.n2) b3,jm (Paired.bP st.pb fun _ _ y=>st.XG z5 y),st.gp,⟨st.gb.nb.sublist (sub.map _),fun c hc=>st.gb.ends c (sub.subset hc)⟩,st.lp,bv,lk,st.ne,st.n1,st.n2,by rw [c5,show ((qe.eraseIdx j).length:Int)=(qe.length:Int)-1 by omega],cn,st.nb⟩;exact q j _ s2 m2 H6 (z5.trans (KZ.of s6)) (w5.qg s6)
 show ⟨_,rfl,rfl,_,rfl,?_⟩
 rcases cn' with ⟨rfl,cn⟩|⟨rfl,cn⟩
 ·refine bf (fun _=>?_) (fun c=>BH (by simp [jI]) c)
  show ⟨_,rfl,cA,_,_,_,rfl,rfl,aV.of c4,rfl,_,_,rfl,rfl,_,rfl,cA,_,_,3,rfl,rfl,c4,rfl,?_⟩;generalize eX:upd H4 cA _=H5;obtain ⟨c5,o5⟩:=nN eX;show ⟨_,rfl,L2,?_⟩;intros l9 n9 H9 s9 e9;show ⟨l9,_,rfl,.inl (aV.of e9),rfl,rfl,fin _ _ H5 c5 o5 cn H9 s9⟩
 ·refine bf (fun c=>BH c (by simp [jI];decide+kernel)) (fun _=>?_)
  show ⟨_,rfl,cA,_,_,_,rfl,rfl,aV.of c4,rfl,_,_,rfl,rfl,_,rfl,cA,_,_,4,rfl,rfl,c4,rfl,?_⟩;generalize eX:upd H4 cA _=H5;obtain ⟨c5,o5⟩:=nN eX;show ⟨_,rfl,L2,?_⟩;intros l9 n9 H9 s9 e9;show ⟨l9,_,rfl,.inl (aV.of e9),rfl,rfl,fin _ _ H5 c5 o5 cn H9 s9⟩
def afE {AN:δ}:(cv AN k).isSome=true ↔ k∈AN.map (·.1):=by
 constructor
 ·intro h
  apply Md;intro no;erw [b_ no] at h
 ·intro h
  obtain ⟨v,e⟩:=fU h;rw [e];rfl
inductive xg (K:Frag)(C:AO)(vs:ε)(H:Hp)(Q:VK)(E_:XK):Prop
|mk (fA dx pP pW pB lP lB cA:AO)(us eR :ε)(pX:θ)(qe:ρ)(s m:Int)(k:Nat)(c:Int)(_:vs=[.ref fA,.ref lP,.ref lB,.int c])(_:WZ K H C fA dx pP pW pB lP lB cA us eR pX qe s m k)(_:2<=pX.length)(_:("last":Str)∉qe.map (·.nm))(_:(∀p∈pX,CY p.ws))(_:∀H',Q (.bl true) H')
def j7:aC ["_law_frame_here","_law_pins_here","_law_bars_here","_law_cell","_law_new_here","_law_told"] RK (ae fY):=sq
def adQ (D:Def K mg "_law_last" fY RK)(oY:ac P w K mg qf 2 "_law_new" WO (w_ K))(j5:ac P w K mg qf 39 "would_put" Wq (lX K C))(XH:ac P w K mg qf 36 "_law_right" WU (rf K))(Sr:am P w K mg qf 3 C "put_bar" Oi (iR K C))(jZ:ac P w K mg qf 39 "spares_of" JR (HN K C)):
  ac P w K mg qf 40 "_law_last" RK (xg K C):=by
 refine D.op j7 fun f cD A qw s H vs Q E hr h=>?_;obtain ⟨fA,dx,pP,pW,pB,lP,lB,cA,us,vs,pX,qe,sn,mn,k,c,rfl,st,lp2,HP,wi,q⟩:=h;let lu:us.length=pX.length:=CV st.pp;let lp:=st.lp;let lb:=st.lb;let lk:=st.lk
 show ⟨_,(aa (aJ 4 j7.nd (aS oY hr (bE (pv 1) cy (pv 3)))) (aa (aJ 5 j7.nd (aS j5 hr (jr (pv 0) (bE cy (aF (bG aU (pv 1) (aF (pv 4)))) (aF (bG aU (pv 1) (aF (pv 4)))))))) (aa (bg (dN (dk (aS XH hr (jr (pv 1) (bE (pv 2) (pv 4) (pv 5)))))) (ah (aE du)) aR) (aa (bx (cT (k:=3) (pv 0) hr.mo (pY P w) (bE cy (aF (bG aU (pv 1) (aF (pv 4)))) (aF (bG aU (pv 1) (aF (pv 4))))))) (ah (aE (fw cZ (adn (BJ (cf hr) cy (aS jZ hr (aK (pv 0))))) (fw cZ (aF (pv 5)) cy (iz _)) (iz _)))))))),?_⟩;try dsimp only [xk,mz,Cx.xC,Cx.tQ]
 show ⟨_,rfl,_,rfl,lP,us,"last",c,rfl,st.hp,bv,bv,fun t i j H1 s1 n1 e1 hi hj nij=>?_⟩;let tK:=st.qg s1;obtain ⟨p1,g1⟩:∃p,pX[i]?=some p:=⟨_,gE (jw lu hi)⟩;obtain ⟨p2,g2⟩:∃p,pX[j]?=some p:=⟨_,gE (jw lu hj)⟩;let m1:=Wp g1;let m2:=Wp g2;let m3:p1.nm≠p2.nm:=fun z=>nij (bU st.gp.np (x:=p1.nm) (by rw [AY,g2,z];rfl) (by rw [AY,g1];rfl));obtain ⟨b,AE,tJ,BV⟩:∃b:aI,b.nm="last"/\b.one=p1/\b.qz=p2:=⟨⟨"last",p1,p2⟩,rfl,rfl,rfl⟩;let gb':j4 pX (qe++[b]):=st.gb.snoc (by rwa [AE]) (by rw [tJ,BV];show ⟨m1,m2,m3⟩);let g':bT pX (qe++[b]):=HX st.gp gb' lp (by rw [CL,NP];omega);let ht1:bL K H1 t [.str "last",.int (i:Int),.int (j:Int)]:=bL.of e1
 let nms:∀{H3:Hp},aq H1 H3->∃q1 v1 w1 q2 v2 w2,us[i]?=some (.ref q1)/\bL K H3 q1 [.str p1.nm,v1,w1]/\us[j]?=some (.ref q2)/\bL K H3 q2 [.str p2.nm,v2,w2]:=fun {H3} s3=>by
  obtain ⟨u1,Pm,a1,l1,v1,_,rfl,k1,_⟩:=aA (bN tK.pp) g1;obtain ⟨u2,Pn,a2,l2,v2,_,rfl,k2,_⟩:=aA (bN tK.pp) g2;show ⟨a1,v1,_,a2,v2,_,Pm,Ty.aq.bO s3 k1,Pn,Ty.aq.bO s3 k2⟩
 obtain ⟨q1,v1,w1,q2,v2,w2,Pm,c1,Pn,c3⟩:=nms (aq.refl H1);let sp1:=aV.of (K:=K) tK.hp;show ⟨_,rfl,_,rfl,_,rfl,t,_,_,_,rfl,rfl,ht1,rfl,lP,_,_,_,rfl,rfl,sp1,bK Pm,q1,_,_,_,rfl,rfl,c1,b8,_,rfl,_,rfl,t,_,_,_,rfl,rfl,ht1,rfl,lP,_,_,_,rfl,rfl,sp1,bK Pn,q2,_,_,_,rfl,rfl,c3,b8,?_⟩;try dsimp only [eG];show lX K C [_,_,_,_] _ _ E0;rw [<-tJ,<-BV,<-AE];refine vd tK.fz g' fun p H3 s3 told=>?_;let ht3:=Ty.aq.bO s3 ht1;show ⟨_,rfl,_,rfl,_,rfl,_,rfl,lP,lB,t,p,us,vs,pX,qe,b,i,j,40000,rfl,tK.lfr.qg s3,bv,by rwa [AE],by rwa [tJ],by rwa [BV],by rwa [tJ,BV],by rwa [AE],told,fun H4 s4=>?_⟩;show ⟨_,rfl,bf (fun c=>nomatch c) (fun _=>?_)⟩;obtain ⟨wd,ds,ep,cn'⟩:=zA g' st.cn told;let Qj:=s3.trans s4;obtain ⟨q1,v1,w1,q2,v2,w2,Pm,c1,Pn,c3⟩:=nms Qj;let sp4:=aV.of (K:=K) (Qj _ _ tK.hp);let SD:=Ty.aq.bO Qj ht1;obtain ⟨kP,kW,kB,R4,W4,n4⟩:=(tK.fz.qg Qj).ex;show ⟨_,rfl,fA,C,dx,_,_,_,rfl,R4.obj,rfl,Sr,_,rfl,_,rfl,t,_,_,_,rfl,rfl,SD,rfl,lP,_,_,_,rfl,rfl,sp4,bK Pm,q1,_,_,_,rfl,rfl,c1,b8,_,rfl,_,rfl,t,_,_,_,rfl,rfl,SD,rfl,lP,_,_,_,rfl,rfl,sp4,bK Pn,q2,_,_,_,rfl,rfl,c3,b8,?_⟩;dsimp only [eG];let UK:(IG pX).map (·.1)=pX.map (·.nm):=by rw [DP];rfl
 show ⟨fA,dx,pP,pW,pB,IG pX,xG qe,kP,kW,kB,b.nm,p1.nm,p2.nm,rfl,R4,by rwa [DP,AE],by rw [UK];exact AW.mpr ⟨_,m1,rfl⟩,by rw [UK];exact AW.mpr ⟨_,m2,rfl⟩,m3,by rw [AU];omega,fun H5 kB2 k5 R5=>?_⟩
 let t5:bq H4 H5:=fun b xs r=>by
  let nn:∀{o:HO},H4 b=some o->(∀l,o≠.dK l)->H5 b=some o:=fun {o} r n=>k5 _ _ (fun e=>by rw [e,R4.br] at r;exact n _ (C_ r).symm) r
  rcases r with r|⟨o',r⟩
  ·exact .inl (nn r fun _ q=>nomatch q)
  ·exact .inr ⟨o',nn r fun _ q=>nomatch q⟩
 let l5:∀{l:AO} {xs:ε},H4 l=some (.lst xs)->H5 l=some (.lst xs):=fun {l xs} r=>k5 _ _ (fun e=>by erw [e,R4.br] at r) r
 let fa5:qQ K H5 C fA pX (qe++[b]):=⟨dx,pP,pW,pB,kP,kW,kB2,by
  rw [show (qe++[b]).map (fun b=>(b.nm,b.one.nm,b.qz.nm))=xG qe++[(b.nm,p1.nm,p2.nm)] by rw [<-tJ,<-BV];exact IX]
  exact R5,cV (CV W4) fun i p kv e1 e2=>by
   obtain ⟨XC,e3,z1,l,gm,z2,z3,z4⟩:=aA W4 e1;erw [e2] at e3
   show ⟨z1,l,gm,z2,l5 z3,z4.aX t5⟩⟩
 show ⟨_,rfl,fA,pX,qe++[b],rfl,fa5,g',wi,fun d AN cs H6 s6 hd _ _ _ _ keys=>?_⟩;let lk':=afs g' keys;rw [<-afE] at lk';let ep6:bL K H6 p (.str wd::ds):=Ty.aq.bO s6 (t5.bO (Ty.aq.bO s4 (bL.of ep)));show ⟨d,_,rfl,dZ.k (k:=.inr b.nm) hd,_,rfl,p,_,_,_,rfl,rfl,ep6,b8,rfl,rfl,?_⟩
 rcases cn' with ⟨rfl,_,fr⟩|⟨rfl,_,fr⟩
 ·rw [lk'.mpr fr]
  exact q _
 ·have:(cv AN (.inr b.nm)).isSome=false:=by
   cases e:(cv AN (.inr b.nm)).isSome
   ·rfl
   ·exact BH (lk'.mp e) fr
  rw [this];exact q _
def unlike (h1: -500002<=a/\a<=500002)(h2: -500002<=b/\b<=500002)(e:a+((4000037*m:Int):Rat)=b+((4000037*n:Int):Rat)):a=b/\m=n:=by
 let c1:((4000037*m:Int):Rat)=4000037*(m:Rat):=by push_cast;rfl
 let c2:((4000037*n:Int):Rat)=4000037*(n:Rat):=by push_cast;rfl
 rw [c1,c2] at e
 let mn:m=n:=by
  rcases tV m n with z|z|z
  ·have:((m+1:Int):Rat)<=(n:Rat):=Pk.mpr bv
   rw [XJ] at this;let o:((1:Int):Rat)=1:=rfl;rw [o] at this;exfalso;grind
  ·exact z
  ·have:((n+1:Int):Rat)<=(m:Rat):=Pk.mpr bv
   rw [XJ] at this;let o:((1:Int):Rat)=1:=rfl;rw [o] at this;exfalso;grind
 subst mn;show ⟨by grind,rfl⟩
structure xH (pX:θ)(bs:υ)(r:Nat):Prop where
 pr:Paired (fun (p:ar) (b:Rat×Rat)=>∃m:Nat,m<=r/\p.sp=(b.1,b.2+((4000037*(m:Int):Int):Rat))) pX bs
 nd:bs.Nodup
 yb:∀b∈bs, -500002<=b.2/\b.2<=500002
 xb:∀b∈bs,b.1<((2000003+(r:Int):Int):Rat)
 zb:∀b∈bs,Sz 44 b.1/\Sz 19 b.2
 nm:∀p∈pX,∀k:Nat,r<=k->k<4->p.nm≠wN (k:Int)
def xH.up (h:xH pX bs r):xH pX bs (r+1):=⟨Paired.bP h.pr fun _ _ ⟨m,a,b⟩=>⟨m,bv,b⟩,h.nd,h.yb,fun b hb=>by
 let h1:=h.xb b hb;let h2:((2000003+(r:Int):Int):Rat)<=((2000003+((r+1:Nat):Int):Int):Rat):=Pk.mpr bv
 exact ai1 h1 h2,h.zb,fun p hp k hk h4=>h.nm p hp k (nZ hk) h4⟩
def xH.erase (h:xH pX bs r):xH (pX.eraseIdx k) (bs.eraseIdx k) r:=
 ⟨jm h.pr,h.nd.sublist (QU _ _),fun b hb=>h.yb b ((QU _ _).subset hb),fun b hb=>h.xb b ((QU _ _).subset hb),fun b hb=>h.zb b ((QU _ _).subset hb),fun p hp=>h.nm p ((QU _ _).subset hp)⟩
def xH.free (h:xH pX bs r)(hb:b∉bs)(hy: -500002<=b.2/\b.2<=500002)(m:Int):(b.1,b.2+((4000037*m:Int):Rat))∉pX.map (·.sp):=fun z=>by
 obtain ⟨p,hp,e⟩:=AW.mp z;obtain ⟨i,ei⟩:=IV hp;obtain ⟨c,ec,n,_,en⟩:=aA h.pr ei;let mc:=Wp ec;let e2:(c.1,c.2+((4000037*(n:Int):Int):Rat))=(b.1,b.2+((4000037*m:Int):Rat)):=en.symm.trans e;let e3:=ud Wr e2;let e4:=unlike (h.yb c mc) hy (ud Ww e2);exact hb (by rwa [<-show c=b from OO e3 e4.1])
def fk.unN (g:fk pX)(e:pX[k]?=some p):p.nm∉(pX.eraseIdx k).map (·.nm):=fun z=>by
 obtain ⟨q,hq,en⟩:=AW.mp z;obtain ⟨j,ej⟩:=IV hq;rw [SG] at ej;let e2:(pX.map (·.nm))[k]?=some p.nm:=by rw [AY,e];rfl
 by_cases c:j<k
 ·rw [tu c] at ej
  let e1:(pX.map (·.nm))[j]?=some p.nm:=by rw [AY,ej,<-en];rfl
  have:=bU g.np e1 e2;omega
 ·rw [qA c] at ej
  let e1:(pX.map (·.nm))[j+1]?=some p.nm:=by rw [AY,ej,<-en];rfl
  have:=bU g.np e1 e2;omega
def afL {bs:υ}(nd:bs.Nodup)(e:bs[k]?=some b):b∉bs.eraseIdx k:=fun z=>by
 obtain ⟨j,ej⟩:=IV z;rw [SG] at ej;by_cases c:j<k
 ·rw [tu c] at ej
  have:=bU nd ej e;omega
 ·rw [qA c] at ej
  have:=bU nd ej e;omega
def ahd:∀i j:Fin 4,i≠j->wN (i.val:Int)≠wN (j.val:Int):=by decide+kernel
def xH.first (gp:fk pX)(pn:∀p∈pX,(∀f:Fin 4,p.nm≠wN (f.val:Int))/\p.sp.1<=500010/\Sz 19 p.sp.2/\ -500002<=p.sp.2/\p.sp.2<=500002):xH pX (pX.map (·.sp)) 0:=by
 show ⟨cV (by rw [AU]) fun i p b e1 e2=>⟨0,BW _,?_⟩,gp.ns,fun b hb=>?_,fun b hb=>?_,fun b hb=>?_,fun p hp k _ h4=>(pn p hp).1 ⟨k,h4⟩⟩
 ·rw [AY,e1] at e2
  let e3:p.sp=b:=C_ e2;rw [<-e3];refine OO rfl ?_;show p.sp.2=p.sp.2+((4000037*((0:Nat):Int):Int):Rat);have:((4000037*((0:Nat):Int):Int):Rat)=0:=by decide+kernel
  rw [this,Rat.add_zero]
 ·obtain ⟨p,hp,rfl⟩:=AW.mp hb
  exact (pn p hp).2.2.2
 ·obtain ⟨p,hp,rfl⟩:=AW.mp hb
  let h1:=(pn p hp).2.1;let h2:(500010:Rat)<((2000003+((0:Nat):Int):Int):Rat):=by decide+kernel
  grind
 ·obtain ⟨p,hp,rfl⟩:=AW.mp hb
  show ⟨(gp.sz p hp).1,(pn p hp).2.2.1⟩
def xH.snoc (h:xH pX bs r)(hb:b∉bs)(hm:m<=r)(hp:p.sp=(b.1,b.2+((4000037*(m:Int):Int):Rat)))(hy: -500002<=b.2/\b.2<=500002)(hx:b.1<((2000003+(r:Int):Int):Rat))(hz:Sz 44 b.1/\Sz 19 b.2)(hn:∀k:Nat,r<=k->k<4->p.nm≠wN (k:Int)):xH (pX++[p]) (bs++[b]) r:=by
 let one:∀{P:Rat×Rat->Prop},(∀c∈bs,P c)->P b->∀c∈bs++[b],P c:=fun {P} h1 h2 c hc=>by
  rcases DL.mp hc with z|z
  ·exact h1 c z
  ·rwa [IZ.mp z]
 show ⟨dX h.pr ⟨m,hm,hp⟩,?_,one h.yb hy,one h.xb hx,one h.zb hz,fun q hq=>?_⟩
 ·rw [Po]
  show ⟨h.nd,by simp,fun x hx y hy e=>?_⟩;rw [IZ.mp hy] at e;exact hb (by rwa [<-e])
 ·rcases DL.mp hq with z|z
  ·exact h.nm q z
  ·rwa [IZ.mp z]
def acm (m fv:Int)(y:Rat):y+((4000037*m:Int):Rat)+((4000037*fv:Int):Rat)=y+((4000037*(m+fv):Int):Rat):=by
 rw [Rat.add_assoc,<-XJ,<-Int.mul_add]
def UL (h:Sz 19 y){m:Nat}(hm:m<=4):Sz 44 (y+((4000037*(m:Int):Int):Rat)):=h.add (jP (k:=24) (IY (show _<=16000148 by omega) ce) ce)
structure ai8 (K:Frag)(H:Hp)(lP lB:AO)(g:V)(pX:θ)(bs:υ)(r:Nat)(p:ar)(b:Rat×Rat)(m:Nat):Prop where
 y:oW K H lP lB g p
 hm:m<=r
 sp:p.sp=(b.1,b.2+((4000037*(m:Int):Int):Rat))
 nb:b∉bs
 hy: -500002<=b.2/\b.2<=500002
 hx:b.1<((2000003+(r:Int):Int):Rat)
 hz:Sz 44 b.1/\Sz 19 b.2
 nn:p.nm∉pX.map (·.nm)
 nf:∀k:Nat,r<=k->k<4->p.nm≠wN (k:Int)
def afH (r:Rat)(n:Int):gB (qr r) (n,1)=qr (r+(n:Rat)):=by
 let e:gB (qr r) (n,1)=((qr r).1+n*(qr r).2,(qr r).2):=by
  unfold gB;simp
 let g:JF ((qr r).1+n*(qr r).2) (qr r).2=1:=by
  have:=oJ r;rw [<-this];simp
 rw [e,rW (q:=((qr r).1+n*(qr r).2,(qr r).2)) (dQ r) g];congr 1;let z:=BP (r:=r);let v:=gY r;unfold vl at v ⊢;push_cast;grind
def afG:∀i:Fin 4,(L9 "far").length+(L9 (toString (i.val:Int))).length<=1000:=by decide+kernel
inductive Pp (K:Frag)(C:AO)(vs:ε)(H:Hp)(Q:VK)(E_:XK):Prop
|mk (fA dx pP pW pB lP lB:AO)(us eR :ε)(pX:θ)(qe:ρ)(bs:υ)(c:Int)(k:Nat)(_:vs=[.ref fA,.ref lP,.ref lB,.int c,.int (k:Int)])(_:WS K H C fA dx pP pW pB lP lB us eR pX qe)(_:xH pX bs k)(_:k<4)(_:pX.length<=5+k)(_:2<=pX.length)(_:∀(qt zv:ε)(ia:θ)(YM:υ)(H':Hp),KO pP pW pB lP lB H H' ->WS K H' C fA dx pP pW pB lP lB qt zv ia qe->xH ia YM (k+1)->ia.length<=5+(k+1)->2<=ia.length->Q .cL H')
def cQ:aC ["_law_frame_here","_law_pins_here","_law_bars_here","_law_cell","_law_k","_law_gone","_law_spot_here","_law_up"] ZT (ae cF):=sq
def zaI (D:Def K mg "_law_pin_changed" cF ZT)(nq:mg "str"=none)(aL:mg "len"=none)(dr:ac P w K mg qf 1 "_law_field" NW eT)(ub:ac P w K mg qf 3 "_law_pin_out" RK (Pj K C))(Sq:ac P w K mg qf 34 "_law_ways" Wh (ra K))(oV:ac P w K mg qf 1 "_law_sum" KA (cO K gB))
  (kY:ac P w K mg qf 4 "_law_put_pin" WV (DK K C)):
  ac P w K mg qf 35 "_law_pin_changed" ZT (Pp K C):=by
 refine D.op cQ fun f cD A qw s H vs Q E hr h=>?_;obtain ⟨fA,dx,pP,pW,pB,lP,lB,us,vs,pX,qe,bs,c,k,rfl,st,be,hk,lp5,lp2,q⟩:=h;let L2:2<=BL:=ce
 let lg:(k:Int).natAbs.log2<1920:=IY (ah_ _) (by show k<1920;omega);let fl:=BX (afG ⟨k,hk⟩) (show 1000<=BL by decide)
 show ⟨_,(aa (aJ 5 cQ.nd jC) (aa (bg (bB uC (aS dr hr (bE (pv 3) ag ag)) ag) (ah (aJ 5 cQ.nd (aS ub hr (jr (pv 0) (bE (pv 1) (pv 2) (pv 3)))))) aR) (ah (bg (bB AQ (pv 5) jC) (aa (aJ 6 cQ.nd (aZ (aT (aZ (aT (aH bV ag (pv 4)) ag)) (aZ (aT (aS dr hr (bE (pv 3) ag ag)) ag))))) (ah (bx (aS kY hr (jr (pv 0) (jr (pv 1) (bE (aH gR cy (b9 i7 rfl nq NI (aK (pv 4)))) (pv 6) (aS Sq hr (aK (pv 3)))))))))) (ah (bg (PW.pt (jn (bB cZ (aS dr hr (bE (pv 3) ag ag)) ag) (gQ (bB rm (aD av rfl aL bM (aK (pv 1))) ag)))) (aa (aJ 7 cQ.nd (aS oV hr (aT (aF (aF (pv 5))) (aZ (aT (aH di ag (aS dr hr (bE (pv 3) ag ag))) ag))))) (ah (bx (aS kY hr (jr (pv 0) (jr (pv 1) (bE (aF (pv 5)) (aZ (aT (aF (aF (pv 5))) (pv 7))) (aS Sq hr (aK (pv 3)))))))))) aR)))))),?_⟩;try dsimp only [xk,mz,Cx.xC,Cx.tQ]
 refine gk (fun Y' H'=>Y' =[some (.ref fA),some (.ref lP),some (.ref lB),some (.int c),some (.int (k:Int)),some .cL,none,none]/\H'=H) (fun Nx zh=>zh _ _ ⟨rfl,rfl⟩) ?_;rintro Y0 H0 ⟨rfl,e0⟩;subst e0;refine gk (fun Y' H'=>Yu fun (g:V) (qt zv:ε) (ia:θ) (YM:υ)=>Y' =[some (.ref fA),some (.ref lP),some (.ref lB),some (.int c),some (.int (k:Int)),some g,none,none]/\KO pP pW pB lP lB H0 H'/\WS K H' C fA dx pP pW pB lP lB qt zv ia qe/\xH ia YM k/\((g=.cL/\ia.length<=5+k/\2<=ia.length)\/(ia.length+1<=5+k/\1<=ia.length/\∃p b m,ai8 K H' lP lB g ia YM k p b m))) (fun Ny hNy=>?_) ?_
 ·show ⟨_,rfl,_,_,_,rfl,ce,ce,ce,_,_,rfl,rfl,_,rfl,bf (fun _=>?_) (fun _=>hNy _ _ ⟨.cL,us,vs,pX,bs,rfl,KO.of (aq.refl _),st,be,.inl ⟨rfl,lp5,lp2⟩⟩)⟩
  show ⟨_,rfl,_,rfl,_,rfl,_,rfl,fA,dx,pP,pW,pB,lP,lB,us,vs,pX,qe,c,rfl,st,fun H7 s7=>?_,fun j p y gm zv H7 ek ko JM py=>?_⟩
  ·exact hNy _ _ ⟨.cL,us,vs,pX,bs,rfl,KO.of s7,st.qg s7,be,.inl ⟨rfl,lp5,lp2⟩⟩
  ·obtain ⟨b,eb,m,hm,rq⟩:=aA be.pr ek
   let mb:=Wp eb;let hj:=(ir.mp ek).1;let le:(pX.eraseIdx j).length=pX.length-1:=by rw [Pf,tu hj]
   exact hNy _ _ ⟨y,gm,zv,pX.eraseIdx j,bs.eraseIdx j,rfl,ko,JM,be.erase,.inr ⟨bv,bv,p,b,m,py,hm,rq,afL be.nd eb,be.yb b mb,be.xb b mb,be.zb b mb,st.gp.unN ek,be.nm p (Wp ek)⟩⟩
 rintro Y' H7 ⟨g,us7,vs7,ve,bs7,rfl,k7,JM,UM,alt⟩;show ⟨_,rfl,rfl,_,rfl,?_⟩
 rcases alt with ⟨rfl,l1,l2⟩|⟨l1,l2,p,b,m,gn⟩
 ·refine bf (fun _=>?_) (fun cc=>BH ce cc)
  let i2:=ba (c:=c) (p:=2003) (m:=99) ce;show ⟨_,rfl,_,_,rfl,rfl,L2,?_⟩;intros p1 n1 H1 s1 e1;show ⟨_,rfl,_,_,_,rfl,ce,ce,ce,L2,?_⟩;intros p2 n2 H2 s2 e2;show ⟨L2,?_⟩;intros p3 n3 H3 s3 e3;let tZ:=s1.trans (s2.trans s3);let hpt:f_ K H3 (.ref p3) (((2000003+(k:Int):Int):Rat),((field c 2003 99:Int):Rat)):=nG e3 ((sQ _ e1).qg (s2.trans s3)) ((sQ _ e2).qg s3);generalize field c 2003 99=y at i2 hpt;show ⟨_,rfl,_,rfl,_,rfl,_,rfl,lg,_,_,rfl,rfl,fl,_,rfl,_,rfl,_,rfl,fun l8 us8 ws H8 wk s8 n8 e8 p8=>?_⟩;try dsimp only [eG];let fr:=(JM.qg tZ).fresh n8
  let xlt:∀p∈ve,p.sp.1<((2000003+(k:Int):Int):Rat):=fun p hp=>by
   obtain ⟨j,ej⟩:=IV hp;obtain ⟨b,eb,m,hm,rq⟩:=aA UM.pr ej;rw [rq];exact UM.xb b (Wp eb)
  show ⟨fA,dx,pP,pW,pB,lP,lB,us7,vs7,ve,qe,.ref p3,l8,us8,⟨wN (k:Int),(((2000003+(k:Int):Int):Rat),(y:Rat)),ws⟩,rfl,JM.qg (tZ.trans s8),hpt.qg s8,e8,p8,⟨fr.2.2.2.1,fr.2.2.2.2⟩,fun z=>?_,fun z=>?_,⟨?_,?_⟩,wk,bv,fun gm H' k' W'=>q gm vs7 _ (bs7++[(((2000003+(k:Int):Int):Rat),(y:Rat))]) H' (k7.trans ((KO.of (tZ.trans s8)).trans k')) W' ?_ (by rw [CL,NP];omega) (by rw [CL,NP];omega)⟩
  ·obtain ⟨p',kI,e'⟩:=AW.mp z
   exact UM.nm p' kI k (BW _) hk e'
  ·obtain ⟨p',kI,e'⟩:=AW.mp z
   let h1:=xlt p' kI;rw [e'] at h1;exact BH h1 (Rat.lt_irrefl)
  ·exact jP (JQ (show _<2097152 by omega) ce) ce
  ·exact jP (JQ (show _<128 by omega) ce) ce
  ·refine UM.up.snoc (m:=0) (fun z=>?_) (JS _) ?_ ⟨?_,?_⟩ ?_ ⟨?_,?_⟩ fun k' h1 h2=>?_
   ·exact BH (UM.xb _ z) (Rat.lt_irrefl)
   ·refine OO rfl ?_
    show (y:Rat)=(y:Rat)+((4000037*((0:Nat):Int):Int):Rat);have:((4000037*((0:Nat):Int):Int):Rat)=0:=by decide+kernel
    rw [this,Rat.add_zero]
   ·show (-500002:Rat)<=(y:Rat)
    have:((-500002:Int):Rat)<=(y:Rat):=Pk.mpr bv;exact this
   ·show (y:Rat)<=(500002:Rat)
    have:(y:Rat)<=((500002:Int):Rat):=Pk.mpr bv;exact this
   ·exact aik.mpr bv
   ·exact jP (JQ (show _<2097152 by omega) ce) ce
   ·exact jP (JQ (show _<128 by omega) ce) ce
   ·exact ahd ⟨k,hk⟩ ⟨k',h2⟩ (fun z=>by have:=ud Fin.val z;dsimp only at this;omega)
 ·obtain ⟨ta,la,sv,ws0,rfl,h1,h2,h3,h4,h5,h6⟩:=id gn.y
  obtain ⟨sa,x1,y1,rfl,wU,Xo,Qb⟩:=h2;refine bf (fun cc=>BH (Mp cc) (fun z=>nomatch z)) (fun _=>?_);let hm:=gn.hm;let e1:p.sp.1=b.1:=by rw [gn.sp]
  let e2:∀fv:Int,p.sp.2+((4000037*fv:Int):Rat)=b.2+((4000037*((m:Int)+fv):Int):Rat):=fun fv=>by rw [gn.sp];exact acm _ _ _
  let z2:Sz 44 p.sp.2:=by rw [gn.sp];exact UL gn.hz.2 bv
  show ⟨_,rfl,_,_,_,rfl,ce,ce,ce,rfl,_,rfl,?_⟩;refine (fun (bk:_)=>bf (fun _=>bk) (fun _=>?_)) ?_
  ·show ⟨_,rfl,lP,_,rfl,.inl (aV.of JM.hp),_,_,rfl,rfl,_,rfl,bf (fun _=>bk) (fun c2=>?_)⟩
   let lu7:us7.length=ve.length:=CV JM.pp;let c2':¬ (us7.length:Int)<2:=fun z=>c2 (JO z);exact q us7 vs7 ve bs7 H7 k7 JM UM.up bv bv
  let i3:=ba (c:=c) (p:=3001) (m:=2) ce;show ⟨_,rfl,ta,_,_,_,rfl,rfl,h1,rfl,sa,_,_,_,rfl,rfl,wU,jQ,_,rfl,_,_,_,rfl,ce,ce,ce,_,_,rfl,rfl,⟨by decide+kernel,BX (intBits_le_64 bv bv) ce⟩,L2,?_⟩;intros p5 n5 H5 s5 e5;try dsimp only [eG];generalize field c 3001 2=fv at i3 e5 ⊢;let nb:Ns 22 (4000037*fv,(1:Int)):=⟨by show (4000037*fv).natAbs<=4194304;omega,by show 1<=2^22;decide⟩;show ⟨y1,.ref p5,qr p.sp.2,(4000037*fv,1),44,22,rfl,Qb.qg s5,⟨p5,rfl,bL.of e5⟩,Ux z2,nb,ce,fun p6 H6 s6 e6=>?_⟩;rw [afH] at e6;let AJ:=s5.trans s6;let h16:=Ty.aq.bO AJ h1;let hs6:=Ty.aq.bO AJ wU;show ⟨_,rfl,_,rfl,_,rfl,ta,_,_,_,rfl,rfl,h16,b8,_,rfl,ta,_,_,_,rfl,rfl,h16,rfl,sa,_,_,_,rfl,rfl,hs6,jz,_,rfl,L2,?_⟩;intros p7 n7 H8 sZ e7;let YB:=AJ.trans sZ;show ⟨_,rfl,_,rfl,fun l8 us8 ws H9 wk s8 n8 e8 p8=>?_⟩;try dsimp only [eG];let hpt:f_ K H8 (.ref p7) (p.sp.1,p.sp.2+((4000037*fv:Int):Rat)):=nG e7 (Xo.qg YB) ((nE e6).qg sZ);let fr:=(JM.qg YB).fresh n8;obtain ⟨m',N2,Uz⟩:∃m':Nat,m' <=k+1/\(m':Int)=(m:Int)+fv:=⟨m+fv.toNat,bv,bv⟩;show ⟨fA,dx,pP,pW,pB,lP,lB,us7,vs7,ve,qe,.ref p7,l8,us8,⟨p.nm,(p.sp.1,p.sp.2+((4000037*fv:Int):Rat)),ws⟩,rfl,JM.qg (YB.trans s8),hpt.qg s8,e8,p8,⟨fr.2.2.2.1,fr.2.2.2.2⟩,gn.nn,?_,⟨?_,?_⟩,wk,bv,fun gm H' k' W'=>q gm vs7 _ (bs7++[b]) H' (k7.trans ((KO.of (YB.trans s8)).trans k')) W' ?_ (by rw [CL,NP];omega) (by rw [CL,NP];omega)⟩
  ·show (p.sp.1,p.sp.2+((4000037*fv:Int):Rat))∉ve.map (·.sp)
   rw [e1,e2 fv];exact UM.free gn.nb gn.hy _
  ·show Sz 44 p.sp.1
   rw [e1];exact gn.hz.1
  ·show Sz 44 (p.sp.2+((4000037*fv:Int):Rat))
   rw [e2 fv,<-Uz];exact UL gn.hz.2 bv
  ·refine UM.up.snoc gn.nb N2 ?_ gn.hy ?_ gn.hz fun k' h1 h2=>gn.nf k' (nZ h1) h2
   ·show (p.sp.1,p.sp.2+((4000037*fv:Int):Rat))=_
    rw [e1,e2 fv,<-Uz]
   ·let h1:=gn.hx
    let h2:((2000003+(k:Int):Int):Rat)<=((2000003+((k+1:Nat):Int):Int):Rat):=Pk.mpr bv;exact ai1 h1 h2
def afF (h:jk ws):CY ws:=fun us hl h1 h2 u hu=>by
 rcases h with rfl|⟨x,y,rfl,ne,_,_⟩|rfl
 ·rw [ZC.mp hl] at hu
  cases hu
 ·obtain ⟨a,rfl⟩:=w8.mp hl
  let e:u=a:=by simpa using hu
  let e1:a*x=0:=by
   have:=h1;rw [BS,Mi,cw,g_] at this;grind
  let e2:a*y=0:=by
   have:=h2;rw [BS,Mi,cw,g_] at this;grind
  rw [e];by_cases c:x=0
  ·have:y≠0:=fun z=>ne ⟨c,z⟩
   grind
  ·grind
 ·match us,hl with
  | [a,b],_=>
   rw [BS,BS,Mi,cw,cw,g_] at h1 h2;let ea:a=0:=by grind
   let eb:b=0:=by grind
   rcases JC.mp hu with z|z
   ·rwa [z]
   ·rwa [IZ.mp z]
abbrev SK (ns:ο):List Da:=ns.map fun i=>.v (.int i)
theorem xh :∀ns:List Int,iE K H (SK ns) (ns.map V.int)
 | []=>by
  unfold iE;trivial
 | n::ns=>by
  show iE K H (_::_) (_::_);unfold iE;show ⟨by unfold Is;show ⟨rfl,rfl⟩,xh ns⟩
theorem IJ:∀ns:List Int,dO (SK ns) (SK ns)=true/\dC (SK ns) (SK ns)=true/\i9 (SK ns)<=60
 | []=>⟨rfl,rfl,JS _⟩
 | n::ns=>by
  obtain ⟨a,b,c⟩:=IJ ns;show ⟨?_,?_,?_⟩
  ·show dO (_::_) (_::_)=true
   unfold dO;rw [a];rfl
  ·show dC (_::_) (_::_)=true
   unfold dC jK jI;rw [b];simp
  ·show max 0 (i9 (SK ns))<=60
   omega
def acp (ns:ο)(h1:aV K H p (ns.map V.int))(h2:aV K H r (ns.map V.int))(q:Q (.bl false) H):FK K (.ref p) (.ref r) H Q:=by
 obtain ⟨a,b,c⟩:=IJ ns;show ⟨SK ns,SK ns,.inr ⟨by unfold Is;show ⟨p,_,rfl,h1,xh ns⟩,by unfold Is;show ⟨r,_,rfl,h2,xh ns⟩⟩,a,c,?_⟩;rwa [b]
def afD {ns:ο}(h:(eV (ns.map V.int) (some 16) (some 20))[i]?=some x):i<4/\∃c,x=.int c:=by
 let e:eV (ns.map V.int) (some ((16:Nat):Int)) (some ((20:Nat):Int))=((ns.map V.int).drop (min 16 (ns.map V.int).length)).take (min 20 (ns.map V.int).length-min 16 (ns.map V.int).length):=by
  unfold eV;rw [HT.j9,HT.j9]
 let h':(eV (ns.map V.int) (some ((16:Nat):Int)) (some ((20:Nat):Int)))[i]?=some x:=h;rw [e] at h';let hi:=(ir.mp h').1;rw [JT] at hi;show ⟨bv,?_⟩;have:=List.mem_of_mem_drop (ahE (Wp h'));obtain ⟨c,_,e⟩:=AW.mp this;show ⟨c,e.symm⟩
def KQ (pP pW pB lP lB c0:AO)(H H':Hp):Prop:=∀b o,b≠pP->b≠pW->b≠pB->b≠lP->b≠lB->b≠c0->H b=some o->H' b=some o
structure LZ (K:Frag)(Hs H:Hp)(C fA dx pP pW pB lP lB c0 cA:AO)(us vs:ε)(pX:θ)(qe:ρ)(bs:υ)(s m:Int)(k:Nat):Prop where
 z:WZ K H C fA dx pP pW pB lP lB cA us vs pX qe s m k
 be:xH pX bs k
 l5:pX.length<=5+k
 l2:2<=pX.length
 nn:∀j,k<=j->j<4->kG j∉qe.map (·.nm)
 nl:("last":Str)∉qe.map (·.nm)
 kq:KQ pP pW pB lP lB c0 Hs H
 nc:cA=c0\/Hs cA=none
def iD:aC ["_law_script","_law_pins_here","_law_bars_here","_law_frame_here","_law_counts","_law_cell","_law_good"] V8 (ae mO):=sq
def ahc (F:qk K "law" "law" mO f fd)(aL:mg "len"=none)(cg:mg "list"=none)
  (wQ:ac P w K mg qf 1 "_law_cell_at" So (sN K)) (dr:ac P w K mg qf 1 "_law_field" NW eT)
  (aja:ac P w K mg qf 35 "_law_pins" V8 (wO K)) (ajb:ac P w K mg qf 3 "_law_bars" oF (wV K)) (ajc:ac P w K mg qf 4 "_law_frame" oP (sR K C)) (j8:ac P w K mg qf 40 "counts_of" JR (sI K C))
  (nO:ac P w K mg qf 35 "_law_pin_changed" ZT (Pp K C)) (DR:ac P w K mg qf 40 "_law_take" ZS (xf K C)) (Mq:ac P w K mg qf 40 "_law_put" Z_ (DO K C)) (DS:ac P w K mg qf 40 "_law_last" RK (xg K C)):
  ad P w K mg qf 42 f fd V8 (NJ K):=by
 refine F.okG iD (fun vs H Q E h=>?_) (fun cD A qw s H vs Q E hr h=>?_)
 ·obtain ⟨a,ns,rfl,_⟩:=h
  rfl
 obtain ⟨sA,ns,rfl,hS,hn,hb,q⟩:=h;let L1:1<=BL:=ce
 let L6:5+1<=BL:=ce
 show ⟨_,(aa (aJ 1 iD.nd (aS aja hr (aK (pv 0)))) (aa (bg (bB rm (aD av rfl aL bM (aK (pv 1))) ag) (ah (aE du)) aR) (aa (aJ 2 iD.nd (aS ajb hr (aT (pv 0) (pv 1)))) (aa (aJ 3 iD.nd (aS ajc hr (aT (pv 1) (pv 2)))) (aa (aJ 4 iD.nd (aH i8 (b9 lJ rfl cg gs (aK (aS j8 hr (aK (pv 3))))) (bW (aK ag)))) (aa (bJ I_ rfl (bw (dB ig (pv 0) (dh ag) (dh ag))) (bZ 5 iD.nd) (aa (aJ 6 iD.nd du) (aa (bg (bB cZ (aS dr hr (bE (pv 5) ag ag)) ag) (aa (bx (aS nO hr (jr (pv 3) (jr (pv 1) (bE (pv 2) (pv 5) (iw (pv 4))))))) (ah (aJ 4 iD.nd (aH i8 (b9 lJ rfl cg gs (aK (aS j8 hr (aK (pv 3))))) (bW (aK (aH bV (iw (pv 4)) ag))))))) (ah (bg (PW.pt (rg (bB uC (aD av rfl aL bM (aK (pv 2))) ag) (qD (bB cZ (aS dr hr (bE (pv 5) ag ag)) ag)))) (ah (aJ 6 iD.nd (aS DR hr (jr (pv 3) (bE (pv 2) (pv 4) (pv 5)))))) (ah (aJ 6 iD.nd (aS Mq hr (jr (pv 3) (jr (pv 1) (bE (pv 2) (pv 4) (pv 5)))))))))) (ah (bg (dN (dk (pv 6))) (ah (aE du)) aR))))) (aa (bg (bB (qJ hr.units) (b9 lJ rfl cg gs (aK (aS j8 hr (aK (pv 3))))) (dB ig (pv 4) ie (dh ag))) (ah (aE du)) aR) (ah (aE (aS DS hr (jr (pv 3) (bE (pv 1) (pv 2) (aS wQ hr (aT (pv 0) ag)))))))))))))),?_⟩;try dsimp only [xk,mz,Cx.xC,Cx.tQ]
 show ⟨_,rfl,sA,ns,rfl,hS,fun lP us pX H1 s1 nP eP pp gp lp pn=>?_⟩;let lu:us.length=pX.length:=CV pp;show ⟨_,rfl,lP,_,rfl,.inl (aV.of eP),_,_,rfl,rfl,_,rfl,bf (fun _=>q _) (fun c2=>?_)⟩;let c2':¬ (us.length:Int)<2:=fun z=>c2 (JO z);show ⟨_,rfl,_,rfl,sA,lP,ns,us,pX,rfl,s1.seq hS,eP,lu,gp.np,bv,fun lB vs qe H2 s2 nB eB pb gb lb nmb=>?_⟩;let ajd:Paired (jA K H2) us pX:=Paired.bP pp fun _ _ z=>z.r.qg s2;let eP2:=s2 _ _ eP;show ⟨_,rfl,_,rfl,lP,lB,us,vs,pX,qe,rfl,eP2,ajd,eB,pb,gp,gb,bv,bv,fun fA dx pP pW pB kP kW kB H3 s3 R3 W3 nwq nP3 nW3 nB3=>?_⟩;let tZ:=s1.trans (s2.trans s3);let neL:lP≠lB:=fun z=>by erw [<-z,eP] at nB
 let P_:WS K H3 C fA dx pP pW pB lP lB us vs pX qe:=⟨⟨kP,kW,kB,R3,W3,fun kv h=>⟨nwq kv h _ _ eP2,nwq kv h _ _ eB⟩⟩,s3 _ _ eP2,Paired.bP pp fun u p z=>by
  obtain ⟨a,l,sv,xs,e,h1,h2,h3,h4,h5⟩:=z;let vO:=s2.trans s3
  show ⟨a,l,sv,xs,e,Ty.aq.bO vO h1,h2.qg vO,vO _ _ h3,h4.qg vO,h5,fun y=>by erw [y,nB] at h3⟩,s3 _ _ eB,Paired.bP pb fun _ _ z=>z.qg s3,gp,gb,bv,bv,neL⟩
 let wi:∀{ps:θ},fk ps->∀p∈ps,CY p.ws:=fun {ps} g p hp=>afF (g.ws p hp);show ⟨_,rfl,fA,pX,qe,rfl,P_.fa,P_.g,wi gp,fun t sn mn H4 s4 et cnt=>?_⟩;show ⟨t,_,rfl,bL.of et,?_⟩;intros l5 n5 H5 s5 e5;show ⟨L1,?_⟩;intros l6 n6 H6 s6 e6;show ⟨l5,l6,_,_,rfl,rfl,s6 _ _ e5,e6,L6,?_⟩;intros c0 n7 H7 s7 e7;let UC:=s4.trans (s5.trans s6);let z7:WZ K H7 C fA dx pP pW pB lP lB c0 us vs pX qe sn mn 0:=(P_.qg UC).z n7 s7 e7 cnt.i bv bv;let UD:=tZ.trans (UC.trans s7);show ⟨_,rfl,16,rfl,20,rfl,sA,_,rfl,UD.seq hS,?_⟩;intros l8 n8 Hs s8 e8;let nP0:H pP=none:=(s1.trans s2).free nP3;let nW0:H pW=none:=(s1.trans s2).free nW3;let nB0:H pB=none:=(s1.trans s2).free nB3;let ajf:H lB=none:=s1.free nB;let nc0:H c0=none:=(tZ.trans UC).free n7;let z8:=z7.qg s8
 let XM:∀{Hx:Hp},KQ pP pW pB lP lB c0 Hs Hx->aV K Hx sA (ns.map V.int):=fun {Hx} k=>by
  rcases hS with r|r
  ·let ne:∀{o:HO},H sA=some o->Hx sA=some o:=fun {o} e=>k sA o (ao e nP0) (ao e nW0) (ao e nB0) (ao e nP) (ao e ajf) (ao e nc0) ((UD.trans s8) _ _ e)
   rcases r with r|⟨o,r⟩
   ·exact .inl (.inl (ne r))
   ·exact .inl (.inr ⟨o,ne r⟩)
  ·exact .inr r
 let ajg:∀{Hx:Hp},KQ pP pW pB lP lB c0 Hs Hx->aV K Hx l8 (eV (ns.map V.int) (some 16) (some 20)):=fun {Hx} k=>by
  obtain ⟨a1,a2,a3,a4,a5⟩:=z7.ws.fresh n8;exact aV.of (k l8 _ a1 a2 a3 a4 a5 (fun e=>by erw [e,z7.hc] at n8) e8)
 let up:∀{Hx Hy:Hp} {us vs:ε} {pX:θ} {qe:ρ} {bs:υ} {s m:Int} {k:Nat} {cA:AO},LZ K Hs Hx C fA dx pP pW pB lP lB c0 cA us vs pX qe bs s m k->KZ pB lB cA Hx Hy->KQ pP pW pB lP lB c0 Hs Hy:=fun {Hx Hy us vs pX qe bs s m k cA} l z b o n1 n2 n3 n4 n5 n6 e=>z b o n3 n5 (fun y=>by
  rcases l.nc with y'|y'
  ·exact n6 (y.trans y')
  ·rw [y,y'] at e
   cases e) (l.kq b o n1 n2 n3 n4 n5 n6 e)
 let first:LZ K Hs Hs C fA dx pP pW pB lP lB c0 c0 us vs pX qe (pX.map (·.sp)) sn mn 0:=⟨z8,xH.first gp pn,bv,bv,fun j _ hj z=>by
  obtain ⟨b,hb,e⟩:=AW.mp z;have:=nmb b hb
  rcases (show j=0\/j=1\/j=2\/j=3 by omega) with rfl|rfl|rfl|rfl
  ·exact this.1 (e.trans xa.1)
  ·exact this.2.1 (e.trans xa.2.1)
  ·exact this.2.2.1 (e.trans xa.2.2.1)
  ·exact this.2.2.2.1 (e.trans xa.2.2.2),fun z=>by
  obtain ⟨b,hb,e⟩:=AW.mp z
  exact (nmb b hb).2.2.2.2 e,fun _ _ _ _ _ _ _ _ e=>e,.inl rfl⟩
 show ⟨l8,rfl,⟨_,aV.of e8⟩,let I:bn:=fun i Y H'=>α3 fun (us vs:ε) (pX:θ) (qe:ρ) (bs:υ) (s m:Int) (k:Nat) (cA:AO) (o5 o6:Ε)=>Y=[ap sA,ap lP,ap lB,ap fA,ap cA,o5,o6]/\k<=i/\LZ K Hs H' C fA dx pP pW pB lP lB c0 cA us vs pX qe bs s m k;cC (K:=K) (a:=l8) (xs:=eV (ns.map V.int) (some 16) (some 20)) I ⟨us,vs,pX,qe,_,_,_,0,c0,none,none,rfl,BW _,first⟩ (fun i Y H' _ h=>by
   obtain ⟨_,_,_,_,_,_,_,_,_,_,_,_,_,l⟩:=h
   exact ajg l.kq) ?_ ?_⟩
 ·rintro i x Y Hx hx ⟨us,vs,pX,qe,bs,sn,mn,k,cA,o5,o6,rfl,hki,l⟩
  obtain ⟨hi4,c,rfl⟩:=afD hx;let LU:k<4:=bv
  refine gk (fun Y' H'=>Y' =[some (.ref sA),some (.ref lP),some (.ref lB),some (.ref fA),some (.ref cA),some (.int c),some (.bl true)]/\H'=Hx) (fun Nx zh=>zh _ _ ⟨rfl,rfl⟩) ?_;rintro Y0 H0 ⟨rfl,e0⟩;subst e0;refine gk (fun Y' H'=>Ex9 fun (us vs:ε) (pX:θ) (qe:ρ) (bs:υ) (s m:Int) (k:Nat) (cA:AO)=>Y' =[some (.ref sA),some (.ref lP),some (.ref lB),some (.ref fA),some (.ref cA),some (.int c),some (.bl true)]/\k<=i+1/\LZ K Hs H' C fA dx pP pW pB lP lB c0 cA us vs pX qe bs s m k) (fun Nx zh=>?_) ?_
  ·let z:=l.z
   show ⟨_,rfl,_,_,_,rfl,ce,ce,ce,rfl,_,rfl,?_⟩;refine bf (fun _=>?_) (fun _=>?_)
   ·show ⟨_,rfl,_,rfl,_,rfl,_,rfl,_,rfl,cA,_,_,_,rfl,rfl,aV.of z.hc,rfl,?_⟩
    try dsimp only [eG];show ⟨fA,dx,pP,pW,pB,lP,lB,us,vs,pX,qe,bs,c,k,rfl,z.ws,l.be,LU,l.l5,l.l2,fun qt zv ia YM H5 ko MT be5 l5 l2=>?_⟩;obtain ⟨xF,mM,Yz,R',_⟩:=z.fz.ex;let QN:cA≠pP/\cA≠pW/\cA≠pB/\cA≠lP/\cA≠lB:=⟨fun e=>(by have:=z.hc;erw [e,R'.pl] at this),fun e=>(by have:=z.hc;erw [e,R'.wy] at this),z.nb.1,z.n1,z.n2⟩;let hc5:=ko.at QN z.hc;let lb':=z.lb;show ⟨_,rfl,fA,ia,qe,rfl,MT.fa,MT.g,wi MT.gp,fun t sn mn H6 s6 et cnt=>?_⟩;show ⟨t,_,rfl,bL.of et,?_⟩;intros l7 n7 H7 s7 e7;show ⟨_,rfl,cA,_,_,_,rfl,rfl,aV.of ((s6.trans s7) _ _ hc5),rfl,_,_,rfl,rfl,L1,?_⟩;intros l9 n9 H9 s9 e9;show ⟨l7,l9,_,_,rfl,rfl,s9 _ _ e7,e9,L6,?_⟩;intros cB nb Hb sb eb;let UG:=s6.trans (s7.trans s9);let kq5:KQ pP pW pB lP lB c0 Hs H5:=fun b o n1 n2 n3 n4 n5 n6 e=>ko b o n1 n2 n3 n4 n5 (l.kq b o n1 n2 n3 n4 n5 n6 e);let kqb:KQ pP pW pB lP lB c0 Hs Hb:=fun b o n1 n2 n3 n4 n5 n6 e=>(UG.trans sb) _ _ (kq5 b o n1 n2 n3 n4 n5 n6 e);refine zh _ _ ⟨qt,zv,ia,qe,YM,sn,mn,k+1,cB,rfl,bv,(MT.qg UG).z nb sb eb cnt.i bv bv,be5,l5,l2,fun j h1 h2=>l.nn j (nZ h1) h2,l.nl,kqb,?_⟩;by_cases ec:cB=c0
    ·exact .inl ec
    ·refine .inr (Md fun no=>?_)
     obtain ⟨o,eo⟩:=Option.ne_none_iff_exists'.mp no;obtain ⟨a1,a2,a3,a4,a5⟩:=(MT.qg UG).fresh nb;have:=UG _ _ (kq5 cB o a1 a2 a3 a4 a5 ec eo);erw [nb] at this
   ·show ⟨_,rfl,lB,_,rfl,.inl (aV.of z.hb),_,_,rfl,rfl,_,rfl,?_⟩
    let lv:vs.length=qe.length:=CV z.pb;refine (fun (els:_)=>bf (fun c3=>?_) (fun _=>els)) ?_
    ·show ⟨_,rfl,_,_,_,rfl,ce,ce,ce,rfl,_,rfl,bf (fun _=>?_) (fun _=>els)⟩
     clear els;let c3':(0:Int)<(vs.length:Int):=Mp c3;show ⟨_,rfl,_,rfl,_,rfl,_,rfl,fA,dx,pP,pW,pB,lP,lB,cA,us,vs,pX,qe,sn,mn,k,c,rfl,z,bv,fun j zv s2 m2 H5 kz z5=>?_⟩;let sub:am_ ((qe.eraseIdx j).map (·.nm)) (qe.map (·.nm)):=(QU _ _).map _;exact zh _ _ ⟨us,zv,pX,_,bs,s2,m2,k,cA,rfl,bv,z5,l.be,l.l5,l.l2,fun j' h1 h2 y=>l.nn j' h1 h2 (sub.subset y),fun y=>l.nl (sub.subset y),up l kz,l.nc⟩
    ·show ⟨_,rfl,_,rfl,_,rfl,_,rfl,_,rfl,fA,dx,pP,pW,pB,lP,lB,cA,us,vs,pX,qe,sn,mn,k,c,rfl,z,LU,l.l2,l.nn k (BW _) LU,fun b zv s2 m2 H5 AE kz z5=>?_⟩
     let mem:∀{y:Str},y∉qe.map (·.nm)->y≠kG k->y∉(qe++[b]).map (·.nm):=fun {y} h1 h2 h3=>by
      rw [IX] at h3
      rcases DL.mp h3 with h|h
      ·exact h1 h
      ·have:y=b.nm:=by simpa using h
       exact h2 (this.trans AE)
     let l5:=l.l5;exact zh _ _ ⟨us,zv,pX,_,bs,s2,m2,k+1,cA,rfl,bv,z5,l.be.up,bv,l.l2,fun j' h1 h2=>mem (l.nn j' (nZ h1) h2) (ahf ⟨j',h2⟩ ⟨k,LU⟩ (fun y=>by have:=ud Fin.val y;dsimp only at this;omega)),mem l.nl (CA (afT ⟨k,LU⟩)),up l kz,l.nc⟩
  rintro Y' Hy ⟨us,vs,pX,qe,bs,sn,mn,k,cA,rfl,hk,l⟩;show ⟨_,rfl,_,rfl,bf (fun c=>nomatch c) (fun _=>?_)⟩;show ⟨us,vs,pX,qe,bs,sn,mn,k,cA,_,_,rfl,hk,l⟩
 rintro Y Hx ⟨us,vs,pX,qe,bs,sn,mn,k,cA,o5,o6,rfl,hki,l⟩;let z:=l.z;show ⟨_,rfl,fA,pX,qe,rfl,z.fz.fa,z.g,wi z.gp,fun t sn' mn' H4 s4 et cnt=>?_⟩;show ⟨t,_,rfl,bL.of et,?_⟩;intros l5 n5 H5 s5 e5;let mj:=s4.trans s5;show ⟨_,rfl,5,rfl,cA,_,rfl,aV.of (mj _ _ z.hc),?_⟩;intros l6 n6 H6 s6 e6;obtain ⟨e1,e2⟩:=z.cn.one cnt.i;let AJ:=mj.trans s6;refine acp [(pX.length:Int),(ay pX:Int),(qe.length:Int),(sn':Int),(mn':Int)] (aV.of (s6 _ _ e5)) (aV.of (by rwa [e1,e2])) ⟨_,rfl,?_⟩;refine bf (fun c=>nomatch c) (fun _=>?_);let kq6:KQ pP pW pB lP lB c0 Hs H6:=fun b o n1 n2 n3 n4 n5 n6 e=>AJ _ _ (l.kq b o n1 n2 n3 n4 n5 n6 e);show ⟨_,rfl,_,rfl,_,rfl,_,rfl,sA,ns,2,rfl,XM kq6,ce,ce,fA,dx,pP,pW,pB,lP,lB,cA,us,vs,pX,qe,sn,mn,k,_,rfl,z.qg AJ,l.l2,l.nl,wi z.gp,fun H'=>q _⟩
end
def all_mk {l:PySem.W.OpenLaw}{w:World}{K:Frag}{h:Heap}{mg:ν}{fa:AO}(X:K.In h)(G:h.Ns DG mg)(hfa:mg "law"=some (.ref fa))
  (aji:tF K "difference_of" CD) (ajm:tF K "lowest_terms" yH) (ajq:tF K "greatest_shared" KD) (aju:tF K "arm_between" KG) (ajy:tF K "pair_difference" CG) (DT:tF K "pairs_of" fW) (ajC:tF K "pair_row" KH) (ajG:tF K "bar_row" KI) (ajK:tF K "draw_rows" KJ) (ajO:tF K "pulls_and_pushes" KN) (ajS:tF K "motion_from" KP) (ajW:tF K "signs_turned" KR) (aj0:tF K "solve_rows" KS) (qv:tF K "spare_columns" cW) (xi:tF K "spare_list" d0) (aj4:tF K "turned" KU) (aj8:tF K "whole_row" KW) (akb:tF K "solution_of" KY) (akf:tF K "reduced" K_) (akj:tF K "first_not_nought" K') (akn:tF K "cleared" La) (akr:tF K "divided" Lb) (zF:tF K "would_put" fe) (akw:tF K "would_take" Lc) (akB:tF K "stretch_of" Ld) (zJ:tF K "spares_of" ff) (xp:tF K "motions_of" d3) (zP:tF K "counts_of" fg) (akF:tF K "_law_cell_at" Le) (akJ:tF K "_law_field" Lf) (akN:tF K "_law_lowest" Lg) (akR:tF K "_law_sum" Lh) (akV:tF K "_law_times" Li) (akZ:tF K "_law_turned" Lj) (ak3:tF K "_law_name" CH) (ak7:tF K "_law_spot" Lk) (ala:tF K "_law_ways" Ll) (ale:tF K "_law_pins" Lm) (ali:tF K "_law_bars" Lo) (aln:tF K "_law_frame" Lp) (alr:tF K "_law_arm" Lq) (alw:tF K "_law_add" Lr) (alA:tF K "_law_forces" Ls) (alE:tF K "_law_number" Lu) (alI:tF K "_law_are_forces" Lv) (alM:tF K "_law_is_motion" Lw) (alQ:tF K "_law_at_rest" Ly) (alU:tF K "_law_dot" Lz) (alY:tF K "_law_longer" LA) (al2:tF K "_law_keeps" LB) (al6:tF K "_law_right" LC) (Mz:tF K "_law_new" gM) (MG:tF K "_law_put" gN) (DZ:tF K "_law_take" fX) (EB:tF K "_law_last" fY) (ue:tF K "_law_put_pin" dF) (uk:tF K "_law_pin_out" dG) (nS:tF K "_law_pin_changed" cF) (adT:nsIn K DG "law"=some (some (.ref Vb))) (adU:K.lookup Vb=some ⟨al',ama,.func (fnOf "law" "law" (aw mO) (au mO) (ae mO) .none X5 X6 X7 X8 P0 X9),amb⟩) (adV:codeIn K P0 "law"=true) (adW:keepIn K (.ref Vb)=true) (amc:nsIn K DG "MOST_PINS"=some (some (.int 24 awK))) (amd:nsIn K DG "MOST_BARS"=some (some (.int 60 awL))) (ame:nsIn K DG "NOUGHT"=some (some (.ref X_))) (amf:K.lookup X_=some ⟨.type "tuple",awM,.seq #[.int 0 amg,.int 1 amh] awN,awO⟩) (ami:nsIn K DG "ONE"=some (some (.ref X'))) (amj:K.lookup X'=some ⟨.type "tuple",awP,.seq #[.int 1 amk,.int 1 aml] awQ,awR⟩) (amm:nsIn K DG "NO_MOVE"=some (some (.ref Ya))) (amn:K.lookup Ya=some ⟨.type "tuple",awS,.seq #[.ref adX,.ref adY] awT,awU⟩) (amo:K.lookup adX=some ⟨.type "tuple",awV,.seq #[.int 0 amq,.int 1 amr] awW,awX⟩) (ams:K.lookup adY=some ⟨.type "tuple",awY,.seq #[.int 0 amt,.int 1 amu] awZ,aw0⟩) (xw:nsIn K DG "ValueError"=some none) (adZ:nsIn K DG "abs"=some none) (ad0:nsIn K DG "all"=some none) (ad1:nsIn K DG "any"=some none) (Yb:nsIn K DG "bool"=some none) (Yc:nsIn K DG "dict"=some none) (zZ:nsIn K DG "enumerate"=some none) (ad2:nsIn K DG "int"=some none) (xx:nsIn K DG "isinstance"=some none) (ad3:nsIn K DG "len"=some none) (Yd:nsIn K DG "list"=some none) (ad4:nsIn K DG "min"=some none) (Tb:nsIn K DG "range"=some none) (ad5:nsIn K DG "str"=some none) (ad6:nsIn K DG "sum"=some none) (Tc:nsIn K DG "tuple"=some none) (ad7:nsIn K DG "zip"=some none) (amv:nsIn K DG "YardError"=some (some (.ref amw))) (amx:nsIn K DG "NoWay"=some (some (.ref amy))) (amz:nsIn K DG "PinThere"=some (some (.ref amA))) (amB:nsIn K DG "SpotTaken"=some (some (.ref amC))) (amD:nsIn K DG "NoPin"=some (some (.ref amE))) (MM:nsIn K DG "PinBusy"=some (some (.ref MO))) (amF:nsIn K DG "BarThere"=some (some (.ref amG))) (amH:nsIn K DG "NoBar"=some (some (.ref amI))) (amJ:nsIn K DG "NoLength"=some (some (.ref amK))) (amL:nsIn K DG "TooMany"=some (some (.ref amM))) (amN:nsIn K DG "Frame"=some (some (.ref bX))) (amO:nsIn K DG "Hold"=some (some (.ref qB))) (amP:nsIn K DG "Roller"=some (some (.ref kK))) (amQ:nsIn K DG "Fixed"=some (some (.ref o_))) (ad8:Rp K bX Str.empty=true) (ad9:Si K bX=true) (ad':Vt K bX=true) (aea:JY K (.ref bX) "__setattr__"=some (some (.builtin "object.__setattr__"))) (aeb:Rj K bX=true) (aec:keepIn K (.ref bX)=true) (aed:xl K bX "__init__" "Frame.__init__" LD) (amT:JY K (.ref bX) "put_pin"=some (some (.ref Td))) (amU:ZG K (.ref Td)=true) (amV:K.lookup Td=some ⟨aw9,aw',.func (fnOf "put_pin" "Frame.put_pin" (aw qm) (au qm) (ae qm) (.ref P2) Vc Vd Ve Vf P4 Vg),axa⟩) (aeh:K.lookup P2=some ⟨axb,amW,.seq #[.none] axc,amX⟩) (amY:codeIn K P4 "Frame.put_pin"=true) (aei:keepIn K (.ref Td)=true) (amZ:xl K bX "put_bar" "Frame.put_bar" LF) (am3:xl K bX "check_bar" "Frame.check_bar" LG) (am7:xl K bX "check_pin" "Frame.check_pin" LH) (ana:xl K bX "take_bar" "Frame.take_bar" LI) (pd:xl K bX "take_pin" "Frame.take_pin" cK) (anf:xl K bX "pins" "Frame.pins" LJ) (anj:xl K bX "bars" "Frame.bars" LK) (ano:xl K bX "place" "Frame.place" LL) (ans:xl K bX "ways" "Frame.ways" LM) (anw:xl K bX "ends" "Frame.ends" LN) (aeB:Rp K qB Str.empty=true) (aeC:Si K qB=true) (aeD:Vt K qB=true) (aeE:JY K (.ref qB) "__setattr__"=some (some (.builtin "object.__setattr__"))) (aeF:Rj K qB=true) (aeG:keepIn K (.ref qB)=true) (aeH:JY K (.ref qB) "__init__"=some (some (.builtin "object.__init__"))) (anB:xl K qB "ways" "Hold.ways" Rz) (aeK:Rp K kK Str.empty=true) (aeL:Si K kK=true) (aeM:Vt K kK=true) (aeN:JY K (.ref kK) "__setattr__"=some (some (.builtin "object.__setattr__"))) (aeO:Rj K kK=true) (aeP:keepIn K (.ref kK)=true) (aeQ:xl K kK "__init__" "Roller.__init__" LO) (anH:xl K kK "ways" "Roller.ways" LP) (aeW:Rp K o_ Str.empty=true) (aeX:Si K o_=true) (aeY:Vt K o_=true) (aeZ:JY K (.ref o_) "__setattr__"=some (some (.builtin "object.__setattr__"))) (ae0:Rj K o_=true) (ae1:keepIn K (.ref o_)=true) (ae2:JY K (.ref o_) "__init__"=some (some (.builtin "object.__init__"))) (anL:xl K o_ "ways" "Fixed.ways" LQ) (P6:JY K (.ref bX) "pin_places"=some none) (Ye:JY K (.ref bX) "pin_ways"=some none) (Yf:JY K (.ref bX) "bar_ends"=some none) (Vh:JY K (.ref kK) "way"=some none) (ht:l.prog.given.tree=none):
  ∃fd:FuncData,(∀(s:BR)(v:Value),BindsTo s fd ⟨[v],[]⟩ [("_law_script",v)])/\∀qf:Heap,K.In qf->qf.Ns DG mg->dm l.prog w K mg qf (aY l.prog w) 42 fa fd ["_law_script"] (NJ K):=by
 let e:=hfa.symm.trans (mg_of X G adT);cases e;obtain ⟨aed,aee,amR,amS,aeg⟩:=aed;obtain ⟨amZ,am0,am1,am2,aek⟩:=amZ;obtain ⟨am3,am4,am5,am6,aem⟩:=am3;obtain ⟨am7,am8,am9,am',aeo⟩:=am7;obtain ⟨ana,anb,anc,ane,aeq⟩:=ana;obtain ⟨pd,ph,pC,pD,iX⟩:=pd;obtain ⟨anf,ang,anh,ani,aes⟩:=anf;obtain ⟨anj,ank,anl,anm,aeu⟩:=anj;obtain ⟨ano,anp,anq,anr,aew⟩:=ano;obtain ⟨ans,ant,anu,anv,aey⟩:=ans;obtain ⟨anw,anx,anz,anA,aeA⟩:=anw;obtain ⟨anB,anC,anD,anE,aeJ⟩:=anB;obtain ⟨aeQ,aeR,anF,anG,aeT⟩:=aeQ;obtain ⟨anH,anI,anJ,anK,aeV⟩:=anH;obtain ⟨anL,anM,anN,anO,ae4⟩:=anL;let anP:Def K mg _ _ ["one","other"]:=fN X G aji;let anQ:Def K mg _ _ ["top","bottom"]:=fN X G ajm;let anR:Def K mg _ _ ["one","other"]:=fN X G ajq;let anS:Def K mg _ _ ["F","one","other"]:=fN X G aju;let anT:Def K mg _ _ ["one","other"]:=fN X G ajy;let EN:Def K mg _ _ ["F"]:=fN X G DT;let anU:Def K mg _ _ ["F","draws"]:=fN X G ajC;let anV:Def K mg _ _ ["F","one","other"]:=fN X G ajG;let anW:Def K mg _ _ ["F"]:=fN X G ajK;let anY:Def K mg _ _ ["F","numbers"]:=fN X G ajO;let anZ:Def K mg _ _ ["F","numbers"]:=fN X G ajS;let an0:Def K mg _ _ ["numbers"]:=fN X G ajW;let an1:Def K mg _ _ ["rows","due","many"]:=fN X G aj0;let qC:Def K mg _ _ ["rows","many"]:=fN X G qv;let xy:Def K mg _ _ ["needed","column","many"]:=fN X G xi;let ae5:Def K mg _ _ ["rows","many"]:=fN X G aj4;let an2:Def K mg _ _ ["row"]:=fN X G aj8;let an3:Def K mg _ _ ["lines","many"]:=fN X G akb;let an4:Def K mg _ _ ["lines","many"]:=fN X G akf;let an5:Def K mg _ _ ["lines","column"]:=fN X G akj;let an6:Def K mg _ _ ["line","lead","column"]:=fN X G akn;let an7:Def K mg _ _ ["line"]:=fN X G akr;let z6:Def K mg _ _ ["F","name","one","other"]:=fN X G zF;let an8:Def K mg _ _ ["F","name"]:=fN X G akw;let an9:Def K mg _ _ ["F","rows","at"]:=fN X G akB;let z9:Def K mg _ _ ["F"]:=fN X G zJ;let xA:Def K mg _ _ ["F"]:=fN X G xp;let z_:Def K mg _ _ ["F"]:=fN X G zP;let an':Def K mg _ _ ["_law_script","_law_k"]:=fN X G akF;let aoa:Def K mg _ _ ["_law_cell","_law_prime","_law_many"]:=fN X G akJ;let aob:Def K mg _ _ ["_law_top","_law_bottom"]:=fN X G akN;let aoc:Def K mg _ _ ["_law_one","_law_other"]:=fN X G akR;let aod:Def K mg _ _ ["_law_one","_law_other"]:=fN X G akV;let aoe:Def K mg _ _ ["_law_one"]:=fN X G akZ;let aof:Def K mg _ _ ["_law_cell","_law_k"]:=fN X G ak3;let aog:Def K mg _ _ ["_law_cell","_law_kind"]:=fN X G ak7;let aoh:Def K mg _ _ ["_law_cell"]:=fN X G ala;let aoi:Def K mg _ _ ["_law_script"]:=fN X G ale;let aoj:Def K mg _ _ ["_law_script","_law_pins_here"]:=fN X G ali;let aok:Def K mg _ _ ["_law_pins_here","_law_bars_here"]:=fN X G aln;let aol:Def K mg _ _ ["_law_pins_here","_law_bar","_law_axis"]:=fN X G alr;let aom:Def K mg _ _ ["_law_found","_law_k","_law_axis","_law_draw"]:=fN X G alw;let aon:Def K mg _ _ ["_law_pins_here","_law_bars_here","_law_pulls","_law_pushes"]:=fN X G alA;let aoo:Def K mg _ _ ["_law_x"]:=fN X G alE;let aop:Def K mg _ _ ["_law_pins_here","_law_bars_here","_law_pulls","_law_pushes"]:=fN X G alI;let aoq:Def K mg _ _ ["_law_pins_here","_law_motion"]:=fN X G alM;let aor:Def K mg _ _ ["_law_pins_here","_law_bars_here","_law_pulls","_law_pushes","_law_load"]:=fN X G alQ;let aos:Def K mg _ _ ["_law_one","_law_other"]:=fN X G alU;let aot:Def K mg _ _ ["_law_pins_here","_law_bar","_law_motion"]:=fN X G alY;let aou:Def K mg _ _ ["_law_pins_here","_law_motion"]:=fN X G al2;let aov:Def K mg _ _ ["_law_pins_here","_law_bars_here","_law_new_here","_law_told"]:=fN X G al6;let MQ:Def K mg _ _ ["_law_pins_here","_law_name_here","_law_cell"]:=fN X G Mz;let MS:Def K mg _ _ ["_law_frame_here","_law_pins_here","_law_bars_here","_law_counts","_law_cell"]:=fN X G MG;let EO:Def K mg _ _ ["_law_frame_here","_law_bars_here","_law_counts","_law_cell"]:=fN X G DZ;let ER:Def K mg _ _ ["_law_frame_here","_law_pins_here","_law_bars_here","_law_cell"]:=fN X G EB;let ur:Def K mg _ _ ["_law_frame_here","_law_pins_here","_law_name_here","_law_spot_here","_law_ways_here"]:=fN X G ue;let uu:Def K mg _ _ ["_law_frame_here","_law_pins_here","_law_bars_here","_law_cell"]:=fN X G uk;let n_:Def K mg _ _ ["_law_frame_here","_law_pins_here","_law_bars_here","_law_cell","_law_k"]:=fN X G nS;let f9:xR K bX:=⟨ad8,ad9,ad',aea⟩;let Xq:Mk K bX _:=⟨aeb,aed,aee,aec⟩;let ae6:=dJ (st:=LD) amR amS aeg;let Xs:=ae6.CC (ps:=["self"]);let aDg:Meth K bX "__init__" _:=⟨aed,aee,aeg⟩;let aow:=zaH (st:=qm) amV amY aei;let aox:Binds K (fnOf "put_pin" "Frame.put_pin" (aw qm) (au qm) (ae qm) (.ref P2) Vc Vd Ve Vf P4 Vg) ["self","name","x","y","hold"] []:=fun s us X hl=>by obtain ⟨a,b,c,d,e,rfl⟩:=bl5 (P:=fun us=>∃a b c d e,us=[a,b,c,d,e]) (fun a b c d e=>⟨a,b,c,d,e,rfl⟩) us (by simpa using hl);exact BindsTo.of_defaults rfl (X _ _ aeh) rfl rfl rfl
 let ae7:Binds K (fnOf "put_pin" "Frame.put_pin" (aw qm) (au qm) (ae qm) (.ref P2) Vc Vd Ve Vf P4 Vg) ["self","name","x","y","hold"] [.none]:=fun s us X hl=>by obtain ⟨a,b,c,d,rfl⟩:=bl4 (P:=fun us=>∃a b c d,us=[a,b,c,d]) (fun a b c d=>⟨a,b,c,d,rfl⟩) us (by simpa using hl);exact BindsTo.of_defaults rfl (X _ _ aeh) rfl rfl rfl
 let ae8:Meth K bX "put_pin" Td:=⟨amT,amU,aei⟩;let ae9:=dJ (st:=LF) am1 am2 aek;let aoy:=ae9.CC (ps:=["self","name","one","other"]);let aoz:Meth K bX "put_bar" _:=⟨amZ,am0,aek⟩;let ae':=dJ (st:=LG) am5 am6 aem;let aoA:=ae'.CC (ps:=["self","name","one","other"]);let aoB:Meth K bX "check_bar" _:=⟨am3,am4,aem⟩;let afa:=dJ (st:=LH) am9 am' aeo;let aoC:=afa.CC (ps:=["self","pin"]);let aoD:Meth K bX "check_pin" _:=⟨am7,am8,aeo⟩;let afb:=dJ (st:=LI) anc ane aeq;let aoE:=afb.CC (ps:=["self","name"]);let aoF:Meth K bX "take_bar" _:=⟨ana,anb,aeq⟩;let iY:=dJ (st:=cK) pC pD iX;let pE:=iY.CC (ps:=["self","name"]);let pF:Meth K bX "take_pin" _:=⟨pd,ph,iX⟩;let afc:=dJ (st:=LJ) anh ani aes;let aoG:=afc.CC (ps:=["self"]);let aoH:Meth K bX "pins" _:=⟨anf,ang,aes⟩;let afd:=dJ (st:=LK) anl anm aeu;let aoI:=afd.CC (ps:=["self"]);let aoJ:Meth K bX "bars" _:=⟨anj,ank,aeu⟩;let afe:=dJ (st:=LL) anq anr aew;let aoK:=afe.CC (ps:=["self","pin"]);let aoL:Meth K bX "place" _:=⟨ano,anp,aew⟩;let aff:=dJ (st:=LM) anu anv aey;let aoM:=aff.CC (ps:=["self","pin"]);let aoN:Meth K bX "ways" _:=⟨ans,ant,aey⟩;let afg:=dJ (st:=LN) anz anA aeA;let aoO:=afg.CC (ps:=["self","bar"]);let aoP:Meth K bX "ends" _:=⟨anw,anx,aeA⟩;let cls_cm:xR K qB:=⟨aeB,aeC,aeD,aeE⟩;let aDh:Yn K qB:=⟨aeF,aeH,aeG⟩;let aoQ:=dJ (st:=Rz) anD anE aeJ;let aDi:=aoQ.CC (ps:=["self"]);let aDj:Meth K qB "ways" _:=⟨anB,anC,aeJ⟩;let ES:xR K kK:=⟨aeK,aeL,aeM,aeN⟩;let Mn:Mk K kK _:=⟨aeO,aeQ,aeR,aeP⟩;let afh:=dJ (st:=LO) anF anG aeT;let Mo:=afh.CC (ps:=["self","x","y"]);let aDk:Meth K kK "__init__" _:=⟨aeQ,aeR,aeT⟩;let afi:=dJ (st:=LP) anJ anK aeV;let aoR:=afi.CC (ps:=["self"]);let aoS:Meth K kK "ways" _:=⟨anH,anI,aeV⟩;let Yg:xR K o_:=⟨aeW,aeX,aeY,aeZ⟩;let Mm:Yn K o_:=⟨ae0,ae2,ae1⟩;let afj:=dJ (st:=LQ) anN anO ae4;let aoT:=afj.CC (ps:=["self"]);let aoU:Meth K o_ "ways" _:=⟨anL,anM,ae4⟩;let WJ:=mg_of X G amc;let WL:=mg_of X G amd;let vX:mg "NOUGHT"=some (.ref X_):=mg_of X G ame;let WW:mg "ONE"=some (.ref X'):=mg_of X G ami;let WM:mg "NO_MOVE"=some (.ref Ya):=mg_of X G amm;let aDl:mg "YardError"=some (.ref amw):=mg_of X G amv;let aDm:mg "NoWay"=some (.ref amy):=mg_of X G amx;let aDn:mg "PinThere"=some (.ref amA):=mg_of X G amz;let aDo:mg "SpotTaken"=some (.ref amC):=mg_of X G amB;let aDp:mg "NoPin"=some (.ref amE):=mg_of X G amD;let YN:mg "PinBusy"=some (.ref MO):=mg_of X G MM;let aDq:mg "BarThere"=some (.ref amG):=mg_of X G amF;let aDr:mg "NoBar"=some (.ref amI):=mg_of X G amH;let aDs:mg "NoLength"=some (.ref amK):=mg_of X G amJ;let aDt:mg "TooMany"=some (.ref amM):=mg_of X G amL;let Xr:mg "Frame"=some (.ref bX):=mg_of X G amN;let aDu:mg "Hold"=some (.ref qB):=mg_of X G amO;let Mj:mg "Roller"=some (.ref kK):=mg_of X G amP;let Ml:mg "Fixed"=some (.ref o_):=mg_of X G amQ;let Tt:mg "ValueError"=none:=mg_none_of X G xw;let uY:mg "abs"=none:=mg_none_of X G adZ;let IE:mg "all"=none:=mg_none_of X G ad0;let u0:mg "any"=none:=mg_none_of X G ad1;let DH:mg "bool"=none:=mg_none_of X G Yb;let iC:mg "dict"=none:=mg_none_of X G Yc;let fh:mg "enumerate"=none:=mg_none_of X G zZ;let sU:mg "int"=none:=mg_none_of X G ad2;let bC:mg "isinstance"=none:=mg_none_of X G xx;let aL:mg "len"=none:=mg_none_of X G ad3;let cg:mg "list"=none:=mg_none_of X G Yd;let O9:mg "min"=none:=mg_none_of X G ad4;let bD:mg "range"=none:=mg_none_of X G Tb;let nq:mg "str"=none:=mg_none_of X G ad5;let O0:mg "sum"=none:=mg_none_of X G ad6;let gI:mg "tuple"=none:=mg_none_of X G Tc;let kX:mg "zip"=none:=mg_none_of X G ad7;let F:=dJ (st:=mO) adU adV adW;show ⟨fnOf "law" "law" (aw mO) (au mO) (ae mO) .none X5 X6 X7 X8 P0 X9,fun s v=>.of_eq rfl,fun qf _ _=>?_⟩;let hM:ya (aY l.prog w):=aY.yd;let hN:∀H:Hp,bL K H X_ [.int 0,.int 1]:=fun H=>.inr ⟨_,_,_,amf,rfl,rfl,uo,.cons ⟨_,rfl⟩ (.cons ⟨_,rfl⟩ .nil)⟩;let hO:∀H:Hp,bL K H X' [.int 1,.int 1]:=fun H=>.inr ⟨_,_,_,amj,rfl,rfl,uo,.cons ⟨_,rfl⟩ (.cons ⟨_,rfl⟩ .nil)⟩;let nm:∀{c:AO} {o:Μ} {k0 k1:Tok} {n:Nat} {sl:Ξ},K.lookup c=some ⟨.type "tuple",o,.seq #[.int 0 k0,.int 1 k1] n,sl⟩->∀H:Hp,gL K H (.ref c) 0:=fun t H=>⟨_,rfl,by rw [dH];exact .inr ⟨_,_,_,t,rfl,rfl,uo,.cons ⟨_,rfl⟩ (.cons ⟨_,rfl⟩ .nil)⟩⟩;let hMo:∀H:Hp,f_ K H (.ref Ya) (0,0):=fun H=>⟨_,.ref adX,.ref adY,rfl,.inr ⟨_,_,_,amn,rfl,rfl,uo,.cons rfl (.cons rfl .nil)⟩,nm amo H,nm ams H⟩;let fc:J_ K bX:=⟨f9,P6,Ye,Yf⟩;let G1:=ag7 (P:=l.prog) (w:=w) (qf:=qf) (CX:=aY l.prog w) anR uY;let G2:=ag2 ht anQ G1;let GW:=zag an2 G1;let GDv:=ag8 ht an7 G1;let GCl:=aaa ht an6 kX G1 GDv;let GF:=aab (P:=l.prog) (w:=w) (qf:=qf) an5 fh;let GR:=aac an4 bD cg GF GCl;let GS:=aah hN vX an3 u0 GR G2;let aoV:=aai an1 kX aL GW GS (Uk ae5 bD) G2;let GD:=ac6 (aaw hM anP G2);let GPD:=aay hM anT GD;let GI:=aaB (P:=l.prog) (w:=w) (mg:=mg) (qf:=qf) ae6 fc;let MBs:bH l.prog w K mg qf (aY l.prog w) 1 bX "bars" ["self"] (jR K bX):=⟨_,_,f9,aoJ,aaD afd fc cg,aoI⟩;let Vi:bH l.prog w K mg qf (aY l.prog w) 1 bX "pins" ["self"] (g8 K bX):=⟨_,_,f9,aoH,aaF afc fc cg,aoG⟩;let MCp:bH l.prog w K mg qf (aY l.prog w) 1 bX "check_pin" ["self","pin"] (eY K bX):=⟨_,_,f9,aoD,aaH afa fc,aoC⟩;let MCb:bH l.prog w K mg qf (aY l.prog w) 2 bX "check_bar" ["self","name","one","other"] (g9 K bX):=⟨_,_,f9,aoB,aaZ ae' fc WL aL MCp,aoA⟩;let Sr:bH l.prog w K mg qf (aY l.prog w) 3 bX "put_bar" ["self","name","one","other"] (iR K bX):=⟨_,_,f9,aoz,aa1 ae9 fc MCb,aoy⟩;let okP:=aaV (P:=l.prog) (w:=w) (mg:=mg) (qf:=qf) aow fc WJ aL cg;let Uy:bH l.prog w K mg qf (aY l.prog w) 3 bX "put_pin" ["self","name","x","y","hold"] (dI l.prog w K mg qf bX):=⟨_,_,f9,ae8,okP,aox⟩;let YI:vL l.prog w K mg qf (aY l.prog w) 3 bX "put_pin" ["self","name","x","y","hold"] [.none] (dI l.prog w K mg qf bX):=⟨_,_,f9,ae8,okP,ae7⟩;let MPl:bH l.prog w K mg qf (aY l.prog w) 2 bX "place" ["self","pin"] (qT K bX):=⟨_,_,f9,aoL,aaJ afe fc MCp,aoK⟩;let ME:bH l.prog w K mg qf (aY l.prog w) 1 bX "ends" ["self","bar"] (v8 K bX):=⟨_,_,f9,aoP,aaL afg fc,aoO⟩;let MW:bH l.prog w K mg qf (aY l.prog w) 2 bX "ways" ["self","pin"] (oO K bX):=⟨_,_,f9,aoN,aaN aff fc cg MCp,aoM⟩;let wR:bH l.prog w K mg qf (aY l.prog w) 1 kK "ways" ["self"] (jd K kK):=⟨_,_,ES,aoS,aaR afi ES Vh,aoR⟩;let wF:bH l.prog w K mg qf (aY l.prog w) 1 o_ "ways" ["self"] (je K):=⟨_,_,Yg,aoU,aaT afj,aoT⟩;let GRI:=aaP (P:=l.prog) (w:=w) (mg:=mg) (qf:=qf) afh ES Vh;let GA:=aa6 anS MPl GPD;let GPR:=aa7 hMo WM anU Vi;let GBR:=aa9 anV GA GPR;let GDR:=aba anW Vi MW MBs ME GPR GBR;let GC:=abz (P:=l.prog) (w:=w) (qf:=qf) (CX:=aY l.prog w) an' aL;let QI:=abB (P:=l.prog) (w:=w) (qf:=qf) (CX:=aY l.prog w) aoa;let GLo:=abC (w:=w) (qf:=qf) ht aob uY;let Yh:=abE (P:=l.prog) (w:=w) (qf:=qf) aoc;let GNa:=abJ hM aof nq QI;let GSp:=abK aog QI GLo;let GWy:=abL aoh QI GLo;let GPi:=abN aoi bD O9 GC QI GSp GWy GNa Yh;let GBa:=abQ aoj bD aL GC QI GNa;let GFr:=abR aok aL Xq Xr GI Xs Mj Ml Mm Mn GRI Mo (wR.mono ce) (wF.mono ce) Sr Uy YI;let MTk:bH l.prog w K mg qf (aY l.prog w) 2 bX "take_pin" ["self","name"] (jf K bX):=⟨_,_,f9,pF,zaJ iY fc MCp,pE⟩;let GSL:=ahk vX WW xy G2;let GSC:=zaA qC bD GW GR GSL;let GPa:=adu EN Vi;let MTb:bH l.prog w K mg qf (aY l.prog w) 1 bX "take_bar" ["self","name"] (kj K bX):=⟨_,_,f9,aoF,aa3 afb fc,aoE⟩;let GTd:=Uk (P:=l.prog) (w:=w) (qf:=qf) ae5 bD;let GSg:=abi (P:=l.prog) (w:=w) (qf:=qf) an0;let GPP:=abd anY aL iC kX Vi MW MBs;let GMF:=abf anZ fh Vi;let GSo:=aez z9 aL Vi MBs GDR GTd GSC GPP;let GMo:=ahg xA aL GPa GDR GSC GMF;let GCo:=ag3 z_ aL O0 Vi MBs MW GSo GMo;let GSr:=abv hN vX an9 aL Vi aoV;let GWP:=ag' z6 aL MCb GDR GBR GSr GSg GMF GPP;let GWT:=abx an8 aL MBs GDR GSr GSg GMF GPP;let GTi:=abG (P:=l.prog) (w:=w) (qf:=qf) aod;let GTu:=abI (P:=l.prog) (w:=w) (qf:=qf) aoe;let GAr:=abW aol Yh GTu;let GDo:=abY aos Yh GTi;let GLg:=abZ aot bD Yh GTu GAr GDo;let GKp:=ab0 aou GDo;let GAd:=ab2 aom Yh;let GFo:=ab3 aon aL bD GTi GTu GAr GAd;let GNu:=ab5 aoo aL bC sU DH gI GLo;let GAF:=ab8 aop bC iC cg aL IE GNu;let GIM:=ab9 aoq bC iC cg gI aL GNu;let GAR:=ab' aor aL bD GFo Yh;let GPt:=ahT ur aL Mj Ml Mm Mn GRI Mo (wR.mono ce) (wF.mono ce) Uy YI;let GPo:=ah' uu aL bD u0 sU QI MTk;let GRt:=acd aov aL bC gI GAF GAR GIM GLg GKp;let GNw:=acI MQ aL QI;let GPu:=abT MS nq GNw GWP GRt Sr;let GTk:=adS EO aL QI GWT MTb;let GLa:=adQ ER GNw GWP GRt Sr GSo;let GCh:=zaI n_ nq aL QI GPo GWy Yh GPt;exact ahc F aL cg GC QI GPi GBa GFr GCo GCh GTk GPu GLa
end T_k54
open PySem PySem.W PyProof.Rows
set_option maxRecDepth 100000 in
set_option maxHeartbeats 0 in
theorem PySem.Challenge.cw_trussyard_k54_whole_counts_at_changes_holds : PySem.Challenge.rw_trussyard_k54_whole_counts_at_changes.Holds := by
 w_on;o_law;k_head;(case hw=>w_witness2)
 k_fill
 refine Ty.walk (l:=PySem.Challenge.rw_trussyard_k54_whole_counts_at_changes) (x:="_law_script") (k:=42) (CX:=fun w=>Ty.aY (PySem.Challenge.rw_trussyard_k54_whole_counts_at_changes).prog w) rfl rfl (by first | rfl | decide+kernel) ⟨rfl,ce,ce⟩ (fun w h σ=>PySem.W.kIn_of σ) (fun w=>Ty.aY.yd) ?F
 case F=>
  intro w mg fa h KX G Zp
  refine' T_k54.all_mk KX G Zp ⟨?A0,?A1,?A2,?A3⟩ ⟨?A4,?A5,?A6,?A7⟩ ⟨?A8,?A9,?Aa,?Ab⟩ ⟨?Ac,?Ad,?Ae,?Af⟩ ⟨?Ag,?Ah,?Ai,?Aj⟩ ⟨?Ak,?Al,?Am,?An⟩ ⟨?Ao,?Ap,?Aq,?Ar⟩ ⟨?As,?At,?Au,?Av⟩ ⟨?Aw,?Ax,?Ay,?Az⟩ ⟨?B0,?B1,?B2,?B3⟩ ⟨?B4,?B5,?B6,?B7⟩ ⟨?B8,?B9,?Ba,?Bb⟩ ⟨?Bc,?Bd,?Be,?Bf⟩ ⟨?Bg,?Bh,?Bi,?Bj⟩ ⟨?Bk,?Bl,?Bm,?Bn⟩ ⟨?Bo,?Bp,?Bq,?Br⟩ ⟨?Bs,?Bt,?Bu,?Bv⟩ ⟨?Bw,?Bx,?By,?Bz⟩ ⟨?C0,?C1,?C2,?C3⟩ ⟨?C4,?C5,?C6,?C7⟩ ⟨?C8,?C9,?Ca,?Cb⟩ ⟨?Cc,?Cd,?Ce,?Cf⟩ ⟨?Cg,?Ch,?Ci,?Cj⟩ ⟨?Ck,?Cl,?Cm,?Cn⟩ ⟨?Co,?Cp,?Cq,?Cr⟩ ⟨?Cs,?Ct,?Cu,?Cv⟩ ⟨?Cw,?Cx,?Cy,?Cz⟩ ⟨?D0,?D1,?D2,?D3⟩ ⟨?D4,?D5,?D6,?D7⟩ ⟨?D8,?D9,?Da,?Db⟩ ⟨?Dc,?Dd,?De,?Df⟩ ⟨?Dg,?Dh,?Di,?Dj⟩ ⟨?Dk,?Dl,?Dm,?Dn⟩ ⟨?Do,?Dp,?Dq,?Dr⟩ ⟨?Ds,?Dt,?Du,?Dv⟩ ⟨?Dw,?Dx,?Dy,?Dz⟩ ⟨?E0,?E1,?E2,?E3⟩ ⟨?E4,?E5,?E6,?E7⟩ ⟨?E8,?E9,?Ea,?Eb⟩ ⟨?Ec,?Ed,?Ee,?Ef⟩ ⟨?Eg,?Eh,?Ei,?Ej⟩ ⟨?Ek,?El,?Em,?En⟩ ⟨?Eo,?Ep,?Eq,?Er⟩ ⟨?Es,?Et,?Eu,?Ev⟩ ⟨?Ew,?Ex,?Ey,?Ez⟩ ⟨?F0,?F1,?F2,?F3⟩ ⟨?F4,?F5,?F6,?F7⟩ ⟨?F8,?F9,?Fa,?Fb⟩ ⟨?Fc,?Fd,?Fe,?Ff⟩ ⟨?Fg,?Fh,?Fi,?Fj⟩ ⟨?Fk,?Fl,?Fm,?Fn⟩ ⟨?Fo,?Fp,?Fq,?Fr⟩ ⟨?Fs,?Ft,?Fu,?Fv⟩ ⟨?Fw,?Fx,?Fy,?Fz⟩ ⟨?G0,?G1,?G2,?G3⟩ ⟨?G4,?G5,?G6,?G7⟩ ⟨?G8,?G9,?Ga,?Gb⟩ ⟨?Gc,?Gd,?Ge,?Gf⟩ ?Gg ?Gh ?Gi ?Gj ?Gk ?Gl ?Gm ?Gn ?Go ?Gp ?Gq ?Gr ?Gs ?Gt ?Gu ?Gv ?Gw ?Gx ?Gy ?Gz ?H0 ?H1 ?H2 ?H3 ?H4 ?H5 ?H6 ?H7 ?H8 ?H9 ?Ha ?Hb ?Hc ?Hd ?He ?Hf ?Hg ?Hh ?Hi ?Hj ?Hk ?Hl ?Hm ?Hn ?Ho ?Hp ?Hq ?Hr ?Hs ?Ht ?Hu ⟨?Hv,?Hw,?Hx,?Hy,?Hz⟩ ?I0 ?I1 ?I2 ?I3 ?I4 ?I5 ⟨?I6,?I7,?I8,?I9,?Ia⟩ ⟨?Ib,?Ic,?Id,?Ie,?If⟩ ⟨?Ig,?Ih,?Ii,?Ij,?Ik⟩ ⟨?Il,?Im,?In,?Io,?Ip⟩ ⟨?Iq,?Ir,?Is,?It,?Iu⟩ ⟨?Iv,?Iw,?Ix,?Iy,?Iz⟩ ⟨?J0,?J1,?J2,?J3,?J4⟩ ⟨?J5,?J6,?J7,?J8,?J9⟩ ⟨?Ja,?Jb,?Jc,?Jd,?Je⟩ ⟨?Jf,?Jg,?Jh,?Ji,?Jj⟩ ?Jk ?Jl ?Jm ?Jn ?Jo ?Jp ?Jq ⟨?Jr,?Js,?Jt,?Ju,?Jv⟩ ?Jw ?Jx ?Jy ?Jz ?K0 ?K1 ⟨?K2,?K3,?K4,?K5,?K6⟩ ⟨?K7,?K8,?K9,?Ka,?Kb⟩ ?Kc ?Kd ?Ke ?Kf ?Kg ?Kh ?Ki ⟨?Kj,?Kk,?Kl,?Km,?Kn⟩ ?Ko ?Kp ?Kq ?Kr ?Ks
  (case A0|A1|A2|A3|A4|A5|A6|A7|A8|A9|Aa|Ab|Ac|Ad|Ae|Af|Ag|Ah|Ai|Aj|Ak|Al|Am|An|Ao|Ap|Aq|Ar|As|At|Au|Av|Aw|Ax|Ay|Az|B0|B1|B2|B3|B4|B5|B6|B7|B8|B9|Ba|Bb|Bc|Bd|Be|Bf|Bg|Bh|Bi|Bj|Bk|Bl|Bm|Bn|Bo|Bp|Bq|Br|Bs|Bt|Bu|Bv|Bw|Bx|By|Bz|C0|C1|C2|C3|C4|C5|C6|C7|C8|C9|Ca|Cb|Cc|Cd|Ce|Cf|Cg|Ch|Ci|Cj|Ck|Cl|Cm|Cn|Co|Cp|Cq|Cr|Cs|Ct|Cu|Cv|Cw|Cx|Cy|Cz|D0|D1|D2|D3|D4|D5|D6|D7|D8|D9|Da|Db|Dc|Dd|De|Df|Dg|Dh|Di|Dj|Dk|Dl|Dm|Dn|Do|Dp|Dq|Dr|Ds|Dt|Du|Dv|Dw|Dx|Dy|Dz|E0|E1|E2|E3|E4|E5|E6|E7|E8|E9|Ea|Eb|Ec|Ed|Ee|Ef|Eg|Eh|Ei|Ej|Ek|El|Em|En|Eo|Ep|Eq|Er|Es|Et|Eu|Ev|Ew|Ex|Ey|Ez|F0|F1|F2|F3|F4|F5|F6|F7|F8|F9|Fa|Fb|Fc|Fd|Fe|Ff|Fg|Fh|Fi|Fj|Fk|Fl|Fm|Fn|Fo|Fp|Fq|Fr|Fs|Ft|Fu|Fv|Fw|Fx|Fy|Fz|G0|G1|G2|G3|G4|G5|G6|G7|G8|G9|Ga|Gb|Gc|Gd|Ge|Gf|Gg|Gh|Gi|Gj|Gk|Gl|Gm|Gn|Go|Gp|Gq|Gr|Gs|Gt|Gu|Gv|Gw|Gx|Gy|Gz|H0|H1|H2|H3|H4|H5|H6|H7|H8|H9|Ha|Hb|Hc|Hd|He|Hf|Hg|Hh|Hi|Hj|Hk|Hl|Hm|Hn|Ho|Hp|Hq|Hr|Hs|Ht|Hu|Hv|Hw|Hx|Hy|Hz|I0|I1|I2|I3|I4|I5|I6|I7|I8|I9|Ia|Ib|Ic|Id|Ie|If|Ig|Ih|Ii|Ij|Ik|Il|Im|In|Io|Ip|Iq|Ir|Is|It|Iu|Iv|Iw|Ix|Iy|Iz|J0|J1|J2|J3|J4|J5|J6|J7|J8|J9|Ja|Jb|Jc|Jd|Je|Jf|Jg|Jh|Ji|Jj|Jk|Jl|Jm|Jn|Jo|Jp|Jq|Jr|Js|Jt|Ju|Jv|Jw|Jx|Jy|Jz|K0|K1|K2|K3|K4|K5|K6|K7|K8|K9|Ka|Kb|Kc|Kd|Ke|Kf|Kg|Kh|Ki|Kj|Kk|Kl|Km|Kn|Ko|Kp|Kq|Kr=>k_is);(case Ks=>rfl)
#print axioms PySem.Challenge.cw_trussyard_k54_whole_counts_at_changes_holds
