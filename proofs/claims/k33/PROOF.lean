import PyProof.Rows.All
import Wide.All
import OpenK.AllK
import Wide.FinOn
import Lean
import PyProof.EqAt
import PyProof.EqKinds
import PyProof.TupleCall
import PyProof.ZipIter
import PyProof.SumWalkG
import PyProof.ListCopy
import PyProof.ListStr
import PyProof.DictItems
import PyProof.DictWalks
import PyProof.DictTruth
import PyProof.EnumMake
import PyProof.InstStoreFacts
import PyProof.Rows.SortWalk
import PyProof.ListRange
import PyProof.DictValues
import KE.KRevSl
import KE.KDictOf
import PyProof.DictIter
import PyProof.FactsAll.dict_1
import PyProof.AttrMissHeap
import KE.KEqDict
import KE.KDictList
import KE.KItemsList
import PySem.Challenge.RW_trussyard_k33_asked_behind_deeds
set_option Elab.async false
set_option linter.all false
set_option maxRecDepth 100000
set_option compiler.extract_closed false
theorem gE.{u}{α:Type u}{l:List α}(h:i < l.length):l[i]? =some l[i]:=List.getElem?_eq_getElem h
namespace PySem.W.Fast
def tw7794018069201741505:=()
def tw11677443358816114941:=()
def tw998478287527571549:=()
def tw7778566744985120956:=()
def tw540118871635233815:=()
def tw11013768989307254042:=()
def tw2571851147325681017:=()
def tw6318246684190555916:=()
def tw2502946172505158349:=()
def tw17239106490381992387:=()
def tw4221487269459807158:=()
def tw5004897644444168926:=()
def tw10320589622598395909:=()
def tw16710981350369160039:=()
def tw15153392197747181636:=()
def tw14902149394716361016:=()
def tw17736213997161270316:=()
def tw10349659140038435040:=()
def tw11577861205489591365:=()
def tw14333686588198209401:=()
def tw1365110712171738069:=()
def tw7527120998056577810:=()
def tw2647681343069225695:=()
def tw13382109512240990373:=()
def tw10386751249590551020:=()
def tw1491580706354561487:=()
def tw16645800222394205262:=()
def tw7389987060726645257:=()
def tw6514671770831060051:=()
def tw12930796446523093833:=()
def tw13533514136302854662:=()
def tw7169154674628623620:=()
def tw5471391187125675095:=()
def tw2508210712629819530:=()
def tw203817126202106796:=()
def tw8437806375386055089:=()
def tw11369885169762697468:=()
def tw6037214225317628021:=()
def tw620817053913006980:=()
def tw8527583572905261563:=()
def tw6892924687397579869:=()
def tw8489810939773374823:=()
def tw12837666458577718419:=()
def tw2740803515490067855:=()
def tw1009553918192648171:=()
def tw6093833594257564714:=()
def tw8419425243634019775:=()
def tw4815532473550813107:=()
def tw10300307071752910593:=()
def tw6780773199266034336:=()
def tw8825364015853566278:=()
def tw13999505127538504532:=()
def tw4381867159684958674:=()
def tw9402313900884084911:=()
def tw15058340044099989055:=()
def tw7332118554496779855:=()
def tw7742850776448004956:=()
def tw5358971055359493676:=()
def tw14717839826618901863:=()
def tw5648477673509269616:=()
def tw8719014146698116738:=()
def tw15375710048488220729:=()
def tw10187533840680977630:=()
def tw8814354993180067221:=()
def tw15859080072675876223:=()
def tw5339180027177198881:=()
def tw1503233647905437746:=()
def tw8815410210878865755:=()
def tw5728444975468642107:=()
def tw12077172026558414330:=()
def tw6767521051218687299:=()
def tw3856137934303915931:=()
def tw8711599530896502268:=()
def tw6178194005771515609:=()
def tw4262533353702845341:=()
def tw9000134363924681418:=()
def tw15907275588824243588:=()
def tw7394144038426958912:=()
def tw14383414482670922461:=()
def tw4679478151284817737:=()
def tw9930562138787132916:=()
def tw8275668755964849526:=()
def tw3237827971094627264:=()
def tw3581775535522373781:=()
def tw12130464878540547128:=()
def tw13818309452770238922:=()
def tw4683165626572346978:=()
def tw5082417443286199969:=()
def tw17396182874608399604:=()
def tw5161981084054538674:=()
def tw473663857115785597:=()
def tw8270287486055192079:=()
def tw11004239797221909698:=()
def tw15380499752708692518:=()
def tw9122837981598735077:=()
def tw3004690407931347945:=()
def tw833558075320894841:=()
def tw5741132879459408504:=()
def tw16757610052455941913:=()
def tw11538571451043389106:=()
def tw5841575906393695426:=()
def tw160137280771716938:=()
def tw1178070691175117240:=()
def tw17713954823097363362:=()
def tw3080588433140718919:=()
def tw507850569446301772:=()
def tw3409137298722197376:=()
def tw8044540080939300066:=()
def tw1369054855837944298:=()
def tw9389860215132150457:=()
def tw10203350914991464303:=()
def tw17866184659691164138:=()
def tw9240444632368961556:=()
def tw11777914533369814391:=()
def tw9379761565649206504:=()
def tw5283599030747109782:=()
def tw10177059203003837907:=()
def tw3736658541812882042:=()
def tw5572351604848821536:=()
def tw462568824704233716:=()
def tw14975942213917497639:=()
def tw14731631654955867567:=()
def tw11296141085516273092:=()
def tw6912570558334114755:=()
def tw9192334380848573701:=()
def tw1792906502102013529:=()
def tw10666511181656672993:=()
def tw3202090327038633055:=()
def tw12235906923808750774:=()
def tw16931979772800504565:=()
def tw17936235447006755624:=()
def tw10144428563372412223:=()
def tw1130459554294601238:=()
def tw2471435566187683806:=()
def tw14091766840899723999:=()
def tw6238238126068081628:=()
def tw194877336618034305:=()
def tw12964817401802532367:=()
def tw5795265676394067717:=()
def tw14380143824661748323:=()
def tw17694204722440361956:=()
def tw4144328903737858244:=()
def tw10825522880168300287:=()
def tw12550148285998522237:=()
def tw8674360456375972957:=()
def tw8591209137514625788:=()
def tw9440354055123814336:=()
def tw14948810822639152388:=()
def tw215405020760422119:=()
def tw11275913090625940965:=()
def tw4360613917890722006:=()
def tw6828097798012772602:=()
def tw8997163293140754841:=()
def tw16201303792418874309:=()
def tw10974511123289034950:=()
def tw2006825219804228801:=()
def tw16392879024575196770:=()
def tw18241181028741881247:=()
def tw15327634597476386969:=()
def tw5732964208639593997:=()
def tw8327436455367354501:=()
def tw16808440239623458554:=()
def tw12046399586585606932:=()
def tw14568319994103681618:=()
def tw8387322639394757503:=()
def tw18276647281769274763:=()
def tw16113010010640419325:=()
def tw14205740141392254866:=()
def tw12252524983619454613:=()
def tw1967915287313053342:=()
def tw16189380545989814064:=()
def tw11089847927674255427:=()
def tw15626770407389715987:=()
def tw13634478300853802893:=()
def tw3930645755173637318:=()
def tw3694619849223214597:=()
def tw1541586306954102084:=()
def tw17757569684285206825:=()
def tw10221668037636984390:=()
def tw9190541141686051564:=()
def tw3329381329781989581:=()
def tw7464048766843483389:=()
def tw3187294675836334536:=()
def tw15592352181496696586:=()
def tw1754486145474154046:=()
def tw2967330200347325701:=()
def tw11893592135617334923:=()
def tw12266885265871221831:=()
def tw7128206962503980019:=()
def tw10937248081413611267:=()
def tw199724290569344206:=()
def tw9305026496937976301:=()
def tw15919664513240522715:=()
def tw17919355150186500982:=()
def tw7612686677351916525:=()
def tw14341782890315283638:=()
def tw12114955917808384971:=()
def tw6435704661372669103:=()
def tw7994031785064616031:=()
def tw15125659196969478897:=()
def tw10494123496089148881:=()
def tw4310119151796585543:=()
def tw15785447071245284830:=()
def tw16799784305866794493:=()
def tw9307901769778359268:=()
def tw13399386663602864752:=()
def tw14776132869804171174:=()
def tw16638748466317352742:=()
def tw15672890314793368335:=()
def tw4324177341827195207:=()
def tw8506324373259305457:=()
def tw15256067836696990952:=()
def tw5295296894020195972:=()
def tw3894749907632884799:=()
def tw3452734479066843520:=()
def tw1135003916687180464:=()
def tw2679558465363168544:=()
def tw10197484961281642105:=()
def tw17702337161837883885:=()
def tw4255230308572129345:=()
def tw12472461382733217086:=()
def tw5920116396800126717:=()
def tw11636380565626390032:=()
def tw10058259093086945161:=()
def tw5583871216153098665:=()
def tw4259348467751512847:=()
def tw12449556903148046640:=()
def tw4459969068883921384:=()
def tw126784081742663446:=()
def tw17963834593973627995:=()
def tw7458308508172812620:=()
def tw11714459163020735651:=()
def tw15680926616662284625:=()
def tw6192780334236650011:=()
def tw11736658979991361134:=()
def tw5120344359586948810:=()
def tw4778379694541312272:=()
def tw9994117380005452081:=()
def tw9885770109757756324:=()
def tw16649149827059495896:=()
def tw14527959573290906483:=()
end PySem.W.Fast
open Array renaming length_toList->adR, toList->ak7
open Bool renaming false_ne_true->aaC, and_eq_true->abN, eq_iff_iff->ab7, false_eq_true->ac0, eq_false_iff->ado, and_false->ad1, or_false->aj9, and_true->aj_
open Classical renaming propDecidable->aa', byContradiction->abC, not_imp->aeb, not_forall->aj4
open Int renaming zero_add->aaT, ne_of_gt->aaY, gcd->aaZ, natAbs_mul->ab1, gcd_dvd_right->acj, mul_comm->ack, mul_pos->acm, gcd_dvd_left->acv, fmod_nonneg_of_pos->acA, natAbs_dvd_natAbs->acI, fdiv_eq_of_eq_mul_right->acM, natAbs_add_le->acN, lt_trichotomy->adh, mul_zero->adi, mul_assoc->adO, fmod_lt_of_pos->ad0, mul_neg_of_pos_of_neg->ad8, mul_eq_zero->ajX, natAbs_neg->aj0, gcd_zero_right->akf, fmod_def->aki, emod_eq_of_lt->aks, gcd_mul_left->akA, gcd_pos_iff->akG, mul_ne_zero->akH, dvd_coe_gcd->akL
open List renaming getElem?_eq_some_iff->ir, mem_of_getElem?->Wp, getElem?_map->aag, length_map->aah, mem_map->aai, map_cons->aaj, getElem?_eq_none->aam, mem_cons_of_mem->aan, mem_singleton->aao, getElem?_of_mem->aaq, getElem?_append_left->aar, mem_cons_self->aas, length_append->aat, mem_append->aau, getElem?_append_right->aav, map_append->aax, map_map->aay, size_toArray->aaz, getD_eq_getElem?_getD->aaE, replicate->aaF, flatMap_cons->aaH, length_take->aaJ, mem_append_left->aaK, mem_cons->aaL, mem_append_right->aaN, map_congr_left->aaO, sum_cons->aaP, length_cons->aaQ, nodup_cons->aaR, take_length->aaW, ext_getElem?->aa0, map_nil->aa2, zipWith->aa5, getElem?_eraseIdx->aa6, getElem?_replicate->aa_, mem_iff_getElem->aba, range->abb, getElem?_set->abc, take_of_length_le->abe, flatMap_append->abg, length_singleton->abH, eraseIdx_sublist->abM, filter_cons->abW, getElem_mem->abX, mem_flatMap->abY, lookup->abZ, length_eraseIdx->ab4, append_assoc->ab5, nodup_append->ab6, replicate_succ->ab8, length_reverse->ab9, mem_range->ab_, length_replicate->ab', getElem?_zipWith->aca, nil_append->ace, length->acf, take_add_one->acn, sum_nil->acs, mem_of_mem_eraseIdx->acu, any_eq_true->acw, append_nil->acB, find?_cons->acD, any_cons->acH, length_filter_le->acK, getElem?_reverse->acL, getElem?_set_ne->acP, lookup_cons->acQ, cons_append->acR, filterMap_cons->acS, mem_filter->acW, length_nil->acX, filter_cons_of_pos->ac2, filter_cons_of_neg->ac9, length_eraseIdx_le->ac_, getElem?_set_self->adb, flatten_cons->adf, getElem?_inj->adl, pairwise_map->adm, length_eq_one_iff->adq, eq_nil_or_concat->adx, concat_eq_append->ady, take_append_drop->adz, pairwise_reverse->adA, length_drop->adC, cons_ne_nil->adD, map_reverse->adE, all_cons->adN, mem_filterMap->adY, lookup_append->ad2, length_eraseIdx_of_lt->ad3, set_comm->aec, length_eq_zero_iff->ag_, mem_reverse->ai_, eraseIdx_cons_succ->ajQ, range_succ_eq_map->ajT, zipWith_cons_cons->ajU, getElem_cons_drop->ajV, of_mem_zip->ajW, range_succ->ajY, forIn_nil->aj1, nodup_nil->aj2, mem_of_mem_take->aj5, getElem?_range->aj6, take_succ_cons->aj7, filter_eq_self->aj8, Nodup->akb, forIn_toArray->akc, pairwise_cons->akd, filter_append->ake, zip_cons_cons->akg, all_map->akj, getElem_take->akp, length_range->akq, getElem_inj->aky, flatMap_nil->akB, length_set->akF, forIn_cons->akI, sum_append->akM, foldl->akP
open List.Pairwise renaming imp->adn, imp_of_mem->ae_
open Nat renaming le_trans->aak, le_refl->aal, lt_of_le_of_lt->aap, lt_of_lt_of_le->aaB, mul_le_mul_right->aaG, pow_le_pow_right->aaI, ne_of_lt->aaM, zero_le->aaS, lt_succ_self->aaV, le_of_lt->aa1, lt_irrefl->aa3, mul_le_mul->aa7, lt_succ_iff_lt_or_eq->aa8, not_lt_zero->abj, add_mul->abx, ne_of_gt->acz, lt_succ_of_lt->acO, one_le_two_pow->ac1, pow_succ->adk, zero_mul->ads, pow_add->adP, min_eq_left->adQ, pow_le_pow_left->adS, mul_comm->adW, lt_trans->adX, le_of_not_lt->af_, le_add_right->ah_, le_of_eq->ajR, add_comm->ajS, le_succ->ajZ, one_mul->aj3, min_self->akk, le_succ_of_le->ako, log2_le_self->akC, two_pow_pos->akJ
open Ne renaming symm->aaD
open Option renaming map_eq_some_iff->aaw, map_some->acC, isSome_map->aea, isSome_iff_exists->aed, isSome_some->aj', getD_none->akz, none->alf
open Option.some renaming inj->aaA
open Or renaming inl->adg, inr->adZ
open Prod renaming ext->acT, fst->akl, snd->akm
open Rat renaming intCast_le_intCast->aaX, intCast_mul->aa9, intCast_inj->acY, intCast_add->acZ, intCast_lt_intCast->adp, num_divInt_den->aka, sub_eq_add_neg->akh, divInt_eq_div->akn, intCast_sub->akK
open Sum renaming inr->aaU, inl->ad_
open Sum.inl renaming inj->akD
open Sum.inr renaming inj->aa4
open PySem.W (Frag nsIn codeIn keepIn fnOf mg_of mg_none_of)
open PySem renaming Addr->aef, wpAny_bind->aeg, sizeLine->ael, wpAny->aen, wpAny_pure->aeo, Shared->aep, model->aes, mainGlobals->aex, starEach->aeA, Program->aeB, Around->aeI, bootBuiltins->aeL, eval->aeM, wpAny_mono->aeU, compareOp->ae2, foldedSetIterable->ae3, wpAny_holding->ae5, sysModules->ae6, binaryOp->ae9, backTo->afc, codeAny->afd, intBits_mul_le->afe, wpAny_newObj_type->afi, wpAny_Call_Name_kw->afp, wpAny_passesOwn->afs, behindInMarks->aft, wpAny_truthy_bool->afu, wpAny_field->afB, rawInt->afE, cLine->afG, mem_of_lookup->afI, wpAny_getItem_str_slice->afJ, attributeBase->afM, swapsWith->afN, tupleKind_room_in1->afQ, wpAny_typeOf->afU, builtinLookup_eq_fast->afW, assignEach->afY, bindName->afZ, pyNext->af2, plainId_quiet->af3, sliceBounds->af6, getattributeRaised->af8, wpAny_bindName->agb, call_meets->agd, wpAny_seqItems->age, wpAny_pyIter_list->agf, keywordEach->agi, assignInOrder->agl, wpAny_standAt->agm, wpAny_call_entry->agn, holding->agp, builtinsNs->agq, wpAny_execs_nil->agt, letOwnedTupleGo->agu, typeLookup->agx, post_val_or_str->agy, call_meetsIn->agz, wpAny_updateSeq->agB, typeLookup_type->agD, codeAny_builtin->agF, recursionLimit->agH, newFunctionEnv->agJ
open PySem.Heap renaming get?_push_of_some->aeh, lt_size->aew, get?_push_size->aez, get?_update_other->aeX, size_push->afC, get?_update_self->afV, SameBut->agr
open PySem.Paired renaming length->aer, snoc->agj
open PySem.PassesOwn renaming never->aev
open PySem.W renaming findIn->aeF, emptyDict->aeQ, instObj->aeT, kitOne->aeV, kia_one->ae1, plainGet->afa, makesIn->afg, hasDictIn->afk, plainOver->afw, callWith_K->af7, isFn->agv, lookIn->agG
open PySem.F renaming plainAttrs_list->aeH, slot_list_append->aeN, type_list_append->aeP, slot_dict_items->agh, slot_zip_next->agC
open PySem.Str renaming ofString->aeY
open PyProof.Rows renaming callWith_type1->aeZ, assignInOrder_cons->afm, envOfC->afO, kindOf->afS, AllBare->aga
open PySem.Builtin.SmallTypes renaming ownedTupleIsFree->ae7, nextOf->afA
open PySem.Builtin.List renaming listTooLong->afh, listExtendWith->afq
open PySem.Calls renaming callWith_builtin->afl, spliced_cons->afo, spliced_nil->afR
open PySem.Builtin.Slice renaming slicePlaces->afx
open PySem.Obj renaming mapSeq->afy
open PySem.Builtin.Tuple renaming tupleExact->afF
open PySem.Builtin.Dict renaming updateFrom->afK
open PySem.Around renaming under_plainId->af0
open PySem.Shared renaming TypeIs->af4
theorem aej.{u}{c:Prop}[Decidable c](a:¬c){α:Sort u}{t e:α}:ite c t e=e:=if_neg a
theorem aek.{u}{c:Prop}[Decidable c](a:c){α:Sort u}{t e:α}:ite c t e=t:=if_pos a
theorem aet{a b:Prop}(h:a)(n:¬a):b:=absurd h n
theorem aeD{p:Prop}[Decidable p](h:p):decide p=true:=decide_eq_true h
theorem aeE.{u,v}{α:Sort u}{β:Sort v}{a b:α}(f:α->β)(h:a=b):f a=f b:=congrArg f h
theorem aeJ{p:Prop}[Decidable p](h:decide p=true):p:=of_decide_eq_true h
theorem aeR{p:Prop}[Decidable p](h:¬p):decide p=false:=decide_eq_false h
namespace L2
open PySem PySem.Spec PyProof.Rows
abbrev _root_.δ:=Value->aep->Prop
abbrev _root_.ζ:=List (aef×Obj)
abbrev _root_.η:=List (List Int)
abbrev _root_.θ:=Str->Option (Rat×Rat)
abbrev _root_.ι:=Str->Option Value
abbrev _root_.ξ:=List Int
abbrev _root_.ο:=List Value
abbrev _root_.π:=List (Nat×List Int)
abbrev _root_.ρ:=List Str
abbrev _root_.ς:=List (Int×Int)
abbrev _root_.υ:=List (Rat×Rat)
abbrev _root_.χ:=List aef
abbrev _root_.ω:=List (Str×Str×Str)
abbrev _root_.Α:=Str->List Rat
abbrev _root_.Β:=Str->Rat×Rat
abbrev _root_.Δ:=List Expr
abbrev _root_.Η:=List (Str×List (Rat×Rat))
abbrev _root_.Θ:=Option aef
abbrev _root_.Ι:=Str->Rat
abbrev _root_.Κ:=Array Value
abbrev _root_.Λ:=List (List (Int×Int))
abbrev _root_.Μ:=Result->aep->Prop
abbrev _root_.Ν:=Array (Option Value)
abbrev _root_.Ο:=Option Int
abbrev _root_.Ρ:=Option Value->aep->Prop
abbrev _root_.Τ:=List Rat
abbrev _root_.Φ:=List (Str×Value)
abbrev _root_.Χ:=List Nat
abbrev Key:=Sum Int Str
abbrev _root_.Υ:=List (List Key×aef×Value)
def rW:Key->Value->Bool
 | .inl k,v=>Value.isInt k v
 | .inr x,v=>Value.isStrOf x v
def abd (w:World):Key->Int
 | .inl k=>hashInt k
 | .inr x=>hashStr w x
theorem cw:∀{k:Key} {v:Value},rW k v=true->(∃i t,k=ad_ i/\v=Value.int i t)\/(∃x t,k=aaU x/\v=Value.str x t)
 | .inl i,v,h=>by
  obtain ⟨t,e⟩:=Value.isInt_shape (k:=i) (v:=v) h
  exact .inl ⟨i,t,rfl,e⟩
 | .inr x,v,h=>by
  obtain ⟨t,e⟩:=Value.isStrOf_shape (x:=x) (v:=v) h
  exact .inr ⟨x,t,rfl,e⟩
theorem BW (i:Int)(t:Tok):rW (.inl i) (.int i t)=true:=by simp [rW,Value.isInt]
theorem BX (x:Str)(t:Tok):rW (.inr x) (.str x t)=true:=by simp [rW,Value.isStrOf]
theorem Qn (a b:Int):decide ((ad_ a:Key)=ad_ b)=(a==b):=by
 by_cases e:a=b
 ·subst e;simp
 ·have h:¬ (ad_ a:Key)=ad_ b:=fun q=>e (akD q)
  rw [aeR h]
  exact (beq_eq_false_iff_ne.mpr e).symm
theorem Qo (a b:Str):decide ((aaU a:Key)=aaU b)=decide (a=b):=by
 by_cases e:a=b
 ·subst e;simp
 ·have h:¬ (aaU a:Key)=aaU b:=fun q=>e (aa4 q)
  rw [aeR h,aeR e]
theorem Qp (a:Int)(b:Str):decide ((ad_ a:Key)=aaU b)=false:=aeR (fun q=>nomatch q)
theorem Qq (a:Str)(b:Int):decide ((aaU a:Key)=ad_ b)=false:=aeR (fun q=>nomatch q)
def bF (prog:aeB)(w:World):PySem.KeyKind prog w Key where
 is:=rW
 hash:=abd w
 inj:=fun v a b ha hb=>by
  rcases cw ha with ⟨i,t,rfl,rfl⟩|⟨x,t,rfl,rfl⟩
  ·rcases cw hb with ⟨j,u,rfl,e⟩|⟨y,u,rfl,e⟩
   ·injection e with e1 _;rw [e1]
   ·exact nomatch e
  ·rcases cw hb with ⟨j,u,rfl,e⟩|⟨y,u,rfl,e⟩
   ·exact nomatch e
   ·injection e with e1 _;rw [e1]
 byValue:=fun k v h=>by
  rcases cw h with ⟨i,t,rfl,rfl⟩|⟨x,t,rfl,rfl⟩<;>rfl
 pyHash:=fun hv h=>by
  rcases cw hv with ⟨i,t,rfl,rfl⟩|⟨x,t,rfl,rfl⟩
  ·exact wpAny_pyHash_int h
  ·exact wpAny_pyHash_str h
 eqBool:=fun hu hv h=>by
  rcases cw hu with ⟨i,t,rfl,rfl⟩|⟨x,t,rfl,rfl⟩
  ·rcases cw hv with ⟨j,u,rfl,rfl⟩|⟨y,u,rfl,rfl⟩
   ·rw [Qn] at h;exact wpAny_eqBool_int h
   ·rw [Qp] at h;exact SeqAt.EqAt.int_str i t y u _ _ _ _ h
  ·rcases cw hv with ⟨j,u,rfl,rfl⟩|⟨y,u,rfl,rfl⟩
   ·rw [Qq] at h;exact SeqAt.EqAt.str_int x t j u _ _ _ _ h
   ·rw [Qo] at h;exact wpAny_eqBool_str h
 «strs»:=fun k x t v h=>by
  rcases cw h with ⟨i,u,rfl,e⟩|⟨y,u,rfl,e⟩
  ·exact nomatch e
  ·injection e with e1 _
   subst e1
   cases v<;>rfl
theorem vB (prog:aeB)(w:World)(i:Int)(t:Tok):(bF prog w).is (.inl i) (.int i t)=true:=BW i t
theorem vC (prog:aeB)(w:World)(x:Str)(t:Tok):(bF prog w).is (.inr x) (.str x t)=true:=BX x t
end L2
namespace L2
open PySem PySem.Spec PyProof.Rows
inductive V where
 | cg|bl (b:Bool)|int (i:Int)|str (x:Str)|byt (b:Array UInt8)|OL (b:UInt64)|ref (a:aef)|ty (n:String)
 deriving DecidableEq
abbrev _root_.γ:=List (Key×V)
abbrev _root_.ε:=List V
abbrev _root_.ψ:=Option V
abbrev _root_.Ζ:=List (List V)
abbrev _root_.Ξ:=List (List Key×V)
def RelV:V->Value->Prop
 | .cg,u=>u=Value.none
 | .bl b,u=>u=Value.bool b
 | .int i,u=>∃t,u=Value.int i t
 | .str x,u=>∃t,u=Value.str x t
 | .byt b,u=>∃t,u=Value.bytes b t
 | .OL b,u=>∃t,u=Value.float b t
 | .ref a,u=>u=Value.ref a
 | .ty n,u=>u=Value.type n
abbrev Vals:List V->List Value->Prop:=Paired RelV
theorem Vals.length {xs:ε}{us:ο}(r:Vals xs us):xs.length=us.length:=aer r
theorem Vals.get:∀{xs:ε} {us:ο} {i:Nat} {x:V},Vals xs us->xs[i]?=some x->∃u,us[i]?=some u/\RelV x u
 | _,_,_,_,.nil,e=>by simp at e
 | _,_,0,_,.cons r _,e=>by simp at e;subst e;exact ⟨_,rfl,r⟩
 | _,_,i+1,x,.cons _ t,e=>by
  obtain ⟨u,h1,h2⟩:=Vals.get (i:=i) (x:=x) t (by simpa using e)
  exact ⟨u,by simpa using h1,h2⟩
theorem Vals.set (r:RelV x u):∀{xs:ε} {us:ο} (i:Nat),Vals xs us->Vals (xs.set i x) (us.set i u)
 | _,_,_,.nil=>.nil
 | _,_,0,.cons _ t=>.cons r t
 | _,_,i+1,.cons q t=>.cons q (Vals.set r i t)
theorem Vals.append:∀{xs ys:ε} {us ws:ο},Vals xs us->Vals ys ws->Vals (xs++ys) (us++ws)
 | _,_,_,_,.nil,s=>s
 | _,_,_,_,.cons r t,s=>.cons r (Vals.append t s)
theorem Vals.take:∀{xs:ε} {us:ο} (n:Nat),Vals xs us->Vals (xs.take n) (us.take n)
 | _,_,0,_=>.nil
 | _,_,_+1,.nil=>.nil
 | _,_,n+1,.cons r t=>.cons r (Vals.take n t)
theorem Vals.drop:∀{xs:ε} {us:ο} (n:Nat),Vals xs us->Vals (xs.drop n) (us.drop n)
 | _,_,0,r=>r
 | _,_,_+1,.nil=>.nil
 | _,_,n+1,.cons _ t=>Vals.drop n t
def gR:Option V->Option Value->Prop
 | some v,some u=>RelV v u
 | none,none=>True
 | _,_=>False
def KV {κ:Type}:List (κ×V)->List (κ×Value)->Prop:=Paired fun (p:κ×V) (q:κ×Value)=>p.1=q.1/\RelV p.2 q.2
def kV:Key->V
 | .inl i=>.int i
 | .inr x=>.str x
inductive HO where
 | lst (xs:ε)
 | tup (xs:ε)
 | dK (kvs:γ)|dT (kvs:Ξ)
 | set (S:Int->Bool) (n:Nat)
 | ins (C dx:aef) (fs:List (Str×V))
 | own (x:aef)
 | xd (fs:List (Str×V))
 | met (f x:aef)
 | rng (lo hi:Int)
 | gi (o:Obj) (u:HO)
 | Qr (ps:Κ)
 | ext (φ:Heap->Prop)
abbrev Hp:=aef->Option HO
abbrev _root_.Ψ:=Nat->V->Hp->Prop
def upd (H:Hp)(a:aef)(o:HO):Hp:=fun b=>if b=a then some o else H b
theorem ak :upd H a o a=some o:=by unfold upd;rw [aek rfl]
theorem ao (h:b≠a):upd H a o b=H b:=by unfold upd;rw [aej h]
theorem To {H:Hp}(h:H a=some o)(h':H b=some u)(d:o≠u):a≠b:=by
 intro e;subst e;rw [h] at h';exact d (aaA h')
theorem aq {H:Hp}(h:H a=some o)(h':H b=none):a≠b:=by
 intro e;subst e;rw [h] at h';cases h'
section
variable (P:aeB)(w:World)
def cK (H:Hp)(h:Heap)(a:aef):HO->Prop
 | .lst xs=>xs.length<=ael/\∃(its:ο)(n:Nat),Vals xs its/\h.get? a=some {cls:=.type "list",data:=.seq its.toArray n}
 | .tup xs=>xs.length<=ael/\∃its:List Value,Vals xs its/\IsTup h a its.toArray
 | .dK kvs=>kvs.length<=ael/\(a==ae6)=false/\∃vs,KV kvs vs/\h.DictOf (bF P w) a vs
 | .dT kvs=>kvs.length<=ael/\(a==ae6)=false/\∃xs:List (List Key×aef×Value),
   Paired (fun (p:List Key×V) (q:List Key×aef×Value)=>p.1=q.1/\H q.2.1=some (.tup (p.1.map kV))/\RelV p.2 q.2.2) kvs xs/\
   ∃o es ep,h.get? a=some o/\o.ExactDict/\o.data=.dict es ep/\es.toList=xs.map (entryOfKey (tupleKind (bF P w)))/\(xs.map (·.1)).Nodup
 | .set S n=>h.SetOf (intKind P w) a S n
 | .ins C dx fs=>H dx=some (.own a)/\fs.length<=1000/\dx≠a/\h.get? a=some (aeT C dx)/\
   ∃mA,h.Ns1 dx mA/\(∀f,gR (fs.lookup f) (mA f))/\PySem.Within mA (fs.map (·.1))
 | .own _=>∃o,h.get? a=some o
 | .xd fs=>∃mA,h.Ns1 a mA/\∀f,gR (fs.lookup f) (mA f)
 | .rng lo hi=>∃t u v,h.get? a=some {cls:=.type "range",data:=.fields #[.int lo t,.int hi u,.int 1 v]}
 | .gi o u=>h.get? a=some o/\cK H h a u
 | .Qr ps=>h.get? a=some {cls:=.none,data:=.fields ps}
 | .met f x=>h.get? a=some (PySem.W.methodObj (.ref f) (.ref x))
 | .ext φ=>φ h/\(∃o,h.get? a=some o)/\∀h1 h2:Heap,φ h1->(∀o,h1.get? a=some o->h2.get? a=some o)->φ h2
def ju (H:Hp)(h:Heap):Prop:=∀a o,H a=some o->cK P w H h a o
end
section
variable {P:aeB}{w:World}{H H':Hp}{h h':Heap}{a:aef}{o:HO}
theorem cK.lt (x:cK P w H h a o):a<h.objs.size:=by
 cases o with
 | lst xs=>obtain ⟨_,_,_,_,e⟩:=x;exact aew e
 | tup xs=>obtain ⟨_,_,_,p⟩:=x;exact p.lt
 | dK kvs=>obtain ⟨_,_,_,_,o,_,_,e,_⟩:=x;exact aew e
 | dT kvs=>obtain ⟨_,_,_,_,o,_,_,e,_⟩:=x;exact aew e
 | set S n=>obtain ⟨o,_,_,_,e,_⟩:=x;exact aew e
 | ins C dx fs=>obtain ⟨_,_,_,e,_⟩:=x;exact aew e
 | own y=>obtain ⟨_,e⟩:=x;exact aew e
 | xd fs=>obtain ⟨_,⟨_,_,_,e,_⟩,_⟩:=x;exact aew e
 | rng lo hi=>obtain ⟨_,_,_,e⟩:=x;exact aew e
 | gi ob u=>obtain ⟨e,_⟩:=x;exact aew e
 | Qr ps=>exact aew (show h.get? a=some _ from x)
 | met f y=>exact aew (show h.get? a=some _ from x)
 | ext φ=>obtain ⟨_,⟨_,e⟩,_⟩:=x;exact aew e
theorem Paired.bL :∀{l₁:List α} {l₂:List β},Paired F l₁ l₂->(∀a b,F a b->G a b)->Paired G l₁ l₂
 | _,_,.nil,_=>.nil
 | _,_,.cons r t,f=>.cons (f _ _ r) (Paired.bL t f)
theorem cK.qZ (x:cK P w H h a o)(k:∀b u,(b=a\/H b=some (.own a))->h.get? b=some u->h'.get? b=some u)
  (ho:∀b,H b=some (.own a)->H' b=some (.own a)) (ht:∀b xs,H b=some (.tup xs)->H' b=some (.tup xs)):cK P w H' h' a o:=by
 induction o with
 | lst xs=>obtain ⟨z,its,n,r,e⟩:=x;exact ⟨z,its,n,r,k _ _ (.inl rfl) e⟩
 | tup xs=>obtain ⟨z,its,r,ob,e,c⟩:=x;exact ⟨z,its,r,ob,k _ _ (.inl rfl) e,c⟩
 | dK kvs=>obtain ⟨z,y,vs,r,ob,es,ep,e,c⟩:=x;exact ⟨z,y,vs,r,ob,es,ep,k _ _ (.inl rfl) e,c⟩
 | dT kvs=>
  obtain ⟨z,y,xs,r,ob,es,ep,e,c⟩:=x
  exact ⟨z,y,xs,Paired.bL r fun p q z=>⟨z.1,ht _ _ z.2.1,z.2.2⟩,ob,es,ep,k _ _ (.inl rfl) e,c⟩
 | set S n=>obtain ⟨ob,es,ep,t,e,c⟩:=x;exact ⟨ob,es,ep,t,k _ _ (.inl rfl) e,c⟩
 | ins C dx fs=>
  obtain ⟨d,z,ne,e,mA,⟨od,es,ep,e2,c⟩,r⟩:=x
  exact ⟨ho _ d,z,ne,k _ _ (.inl rfl) e,mA,⟨od,es,ep,k _ _ (.inr d) e2,c⟩,r⟩
 | own y=>obtain ⟨ob,e⟩:=x;exact ⟨ob,k _ _ (.inl rfl) e⟩
 | xd fs=>obtain ⟨mA,⟨od,es,ep,e,c⟩,r⟩:=x;exact ⟨mA,⟨od,es,ep,k _ _ (.inl rfl) e,c⟩,r⟩
 | rng lo hi=>obtain ⟨t,u,v,e⟩:=x;exact ⟨t,u,v,k _ _ (.inl rfl) e⟩
 | gi ob u ih=>obtain ⟨e,q⟩:=x;exact ⟨k _ _ (.inl rfl) e,ih q⟩
 | Qr ps=>
  have e:h.get? a=some {cls:=.none,data:=.fields ps}:=x
  show h'.get? a=some {cls:=.none,data:=.fields ps}
  exact k a _ (.inl rfl) e
 | met f y=>
  have e:h.get? a=some (PySem.W.methodObj (.ref f) (.ref y)):=x
  show h'.get? a=some (PySem.W.methodObj (.ref f) (.ref y))
  exact k a _ (.inl rfl) e
 | ext φ=>obtain ⟨p,⟨o,e⟩,st⟩:=x;exact ⟨st _ _ p fun o q=>k _ _ (.inl rfl) q,⟨o,k _ _ (.inl rfl) e⟩,st⟩
theorem ju.lt (x:ju P w H h)(e:H a=some o):a<h.objs.size:=(x a o e).lt
theorem ju.fresh (x:ju P w H h)(e:h.objs.size<=a):H a=none:=by
 cases q:H a with
 | none=>rfl
 | some u=>exact aet (aaB (x.lt q) e) (aa3 _)
theorem ju.kept (x:ju P w H h)(k:∀b u,h.get? b=some u->h'.get? b=some u):ju P w H h':=fun a o e=>
 (x a o e).qZ (fun b u _ q=>k b u q) (fun _ q=>q) fun _ _ q=>q
theorem ju.laid (x:ju P w H h)(k:∀b u,h.get? b=some u->h'.get? b=some u)(hp:h.objs.size<=a)(new:cK P w (upd H a o) h' a o):ju P w (upd H a o) h':=fun b u e=>by
 have hn:=x.fresh hp
 by_cases hb:b=a
 ·subst hb;rw [ak] at e;cases e;exact new
 ·rw [ao hb] at e
  exact (x b u e).qZ (fun c v _ q=>k c v q) (fun c q=>by rw [ao (aq q hn)];exact q) fun c xs q=>by rw [ao (aq q hn)];exact q
end
def Rd (H:Hp)(a:aef)(u:HO):Prop:=H a=some u\/∃o,H a=some (.gi o u)
theorem Rd.of (h:H a=some u):Rd H a u:=.inl h
theorem Rd.ok (r:Rd H a u)(x:ju P w H h):cK P w H h a u:=by
 rcases r with r|⟨o,r⟩
 ·exact x a u r
 ·obtain ⟨_,q⟩:=x a _ r
  exact q
def Tp:Option HO->Prop
 | some (.lst _)=>True
 | some (.dK _)=>True
 | some (.dT _)=>True
 | some (.set _ _)=>True
 | some (.ins _ _ _)=>True
 | some (.ext _)=>True
 | _=>False
section
variable {P:aeB}{w:World}{H:Hp}{h h':Heap}{x e:aef}{o':HO}
theorem ju.write (ok:ju P w H h)(mu:Tp (H x))(he:e=x\/H e=some (.own x))(k:∀b u,b≠e->h.get? b=some u->h'.get? b=some u)(SQ:∃u,h'.get? e=some u)
  (new:cK P w (upd H x o') h' x o'):ju P w (upd H x o') h':=fun b u q=>by
 have Tq:∀c y,H c=some (.own y)->c≠x:=fun c y r z=>by subst z;rw [r] at mu;exact mu
 have abf:∀c xs,H c=some (.tup xs)->c≠x:=fun c xs r z=>by subst z;rw [r] at mu;exact mu
 by_cases hb:b=x
 ·subst hb;rw [ak] at q;cases q;exact new
 ·rw [ao hb] at q
  by_cases Qs:b=e
  ·have q':H b=some (.own x):=by
    rcases he with z|z
    ·exact aet (Qs.trans z) hb
    ·rw [Qs];exact z
   rw [q] at q';cases q'
   obtain ⟨v,hv⟩:=SQ
   exact ⟨v,by rw [Qs];exact hv⟩
  ·refine (ok b u q).qZ (fun c v hc r=>k c v ?_ r) (fun c r=>by rw [ao (Tq c b r)];exact r) fun c xs r=>by rw [ao (abf c xs r)];exact r
   rcases hc with rfl|hc
   ·exact Qs
   ·rintro rfl
    rcases he with z|z
    ·exact Tq c b hc z
    ·rw [hc] at z;cases z;exact hb rfl
end
structure Un (fs ex:χ)(H H':Hp)(h h':Heap):Prop where
 keep:∀b o,h.get? b=some o->H b=none->b∉fs->b∉ex->h'.get? b=some o
 slot:∀b o,h.get? b=some o->H b=none->b∈fs->b∉ex->∃sl,h'.get? b=some {o with slots:=sl}
 free:∀b o,h.get? b=some o->H b=none->b∉ex->H' b=none
 there:∀b o,h.get? b=some o->b∉ex->∃o',h'.get? b=some o'
 q4:∀b xs,H b=some (.tup xs)->H' b=some (.tup xs)
 oF:∀b o u,H b=some (.gi o u)->H' b=some (.gi o u)
 q5:∀b ps,H b=some (.Qr ps)->∃more,H' b=some (.Qr (ps++more))
section
variable {fs fs' ex Tr :χ}{H H1 H2:Hp}{h h1 h2 h':Heap}{a x e:aef}{o:HO}
theorem Un.any (u:Un fs ex H H1 h h1)(q:h.get? b=some ob)(n:H b=none)(hx:b∉ex):∃sl,h1.get? b=some {ob with slots:=sl}:=by
 by_cases hb:b∈fs
 ·exact u.slot b ob q n hb hx
 ·exact ⟨ob.slots,u.keep b ob q n hb hx⟩
theorem Un.kept (k:∀b u,h.get? b=some u->h'.get? b=some u):Un fs ex H H h h':=
 ⟨fun b ob q _ _ _=>k b ob q,fun b ob q _ _ _=>⟨ob.slots,k b ob q⟩,fun _ _ _ n _=>n,fun b ob q _=>⟨ob,k b ob q⟩,fun _ _ q=>q,fun _ _ _ q=>q,fun _ ps q=>⟨#[],by rw [q];simp⟩⟩
theorem Un.refl:Un fs ex H H h h:=Un.kept fun _ _ q=>q
theorem Un.laid (k:∀b u,h.get? b=some u->h'.get? b=some u)(hp:h.objs.size<=a)(hn:H a=none):Un fs ex H (upd H a o) h h' where
 keep:=fun b u q _ _ _=>k b u q
 slot:=fun b u q _ _ _=>⟨u.slots,k b u q⟩
 free:=fun b u q n _=>by rw [ao (aaM (aaB (aew q) hp))];exact n
 there:=fun b u q _=>⟨u,k b u q⟩
 q4:=fun b xs q=>by rw [ao (aq q hn)];exact q
 oF:=fun b u xs q=>by rw [ao (aq q hn)];exact q
 q5:=fun b ps q=>⟨#[],by rw [ao (aq q hn),q];simp⟩
theorem Un.write (mu:Tp (H x))(he:e=x\/H e=some (.own x))(k:∀b u,b≠e->h.get? b=some u->h'.get? b=some u)(SQ:∃u,h'.get? e=some u):Un fs ex H (upd H x o) h h':=by
 have hx:∀b,H b=none->b≠x:=fun b n z=>by subst z;rw [n] at mu;exact mu
 have hb:∀b,H b=none->b≠e:=fun b n z=>by
  subst z
  rcases he with r|r
  ·exact hx b n r
  ·rw [n] at r;cases r
 have hm:∀b u,H b=some u->¬ Tp (some u)->b≠x:=fun b u q nm z=>by subst z;rw [q] at mu;exact nm mu
 refine ⟨fun b u q n _ _=>k b u (hb b n) q,fun b u q n _ _=>⟨u.slots,k b u (hb b n) q⟩,fun b u q n _=>by rw [ao (hx b n)];exact n,fun b u q _=>?_,
  fun b xs q=>by rw [ao (hm b _ q fun z=>z)];exact q,fun b u xs q=>by rw [ao (hm b _ q fun z=>z)];exact q,fun b ps q=>⟨#[],by rw [ao (hm b _ q fun z=>z),q];simp⟩⟩
 by_cases Qs:b=e
 ·subst Qs;exact SQ
 ·exact ⟨u,k b u Qs q⟩
end
def trk (h:Heap)(H:Hp):List aef:=(abb h.objs.size).filter fun a=>(H a).isSome
def tE (h:Heap)(H:Hp):Heap:=PySem.W.hideAll h (trk h H)
theorem BY (h:Heap)(H:Hp):(tE h H).objs.size=h.objs.size:=PySem.W.hideAll_size _ _
theorem HL (e:h.get? b=some o)(n:H b=none):(tE h H).get? b=some o:=
 PySem.W.hideAll_get _ e fun hm=>by
  have q:(H b).isSome=true:=(acW.mp hm).2
  rw [n] at q;simp at q
theorem MD (e:(tE h H).get? b=some o):h.get? b=some o/\H b=none:=by
 have e':h.get? b=some o:=PySem.W.of_hideAll (trk h H) e
 refine ⟨e',?_⟩
 cases q:H b with
 | none=>rfl
 | some x=>
  have hm:b∈trk h H:=acW.mpr ⟨ab_.mpr (aew e'),by simp [q]⟩
  have z:(tE h H).get? b=none:=PySem.W.hideAll_none (trk h H) hm
  rw [z] at e;cases e
def MF (g h:Heap)(L:aef):List (aef×Obj):=(abb h.objs.size).filterMap fun a=>if a=L\/(g.get? a).isSome=true then none else (h.get? a).map fun o=>(a,o)
def rest (g h:Heap)(L d:aef):List (aef×Obj):=(MF g h L).filter fun p=>decide (p.1≠d)
end L2
namespace L2
open PySem PySem.Spec PyProof.Rows
structure Mod (K:Frag)(mg:ι)(base:Heap):Prop where
 OM:K.In base
 glob:base.Ns aex mg
 blt:∃mb,base.Ns agq mb/\∀x:Str,x≠ "__name__"->mb x=aeL x
 nolimit:base.NoLimit
 seer:base.NoSeer
structure Cx where
 prog:aeB
 w:World
 K:Frag
 mg:Str->Option Value
 base:Heap
 A:aeI
 N:List Str
 s₀:aep
 H₀:Hp
 env:Env
 outer:List Env
 stack:List Env
 ex:List aef
 fn:Str->Bool
 calm:Bool
 pn:List (aef×Obj)
 xe:Value->aep->Prop
def zv (l:List Env):List aef:=l.filterMap (·.frame)
abbrev Cx.fs (X:Cx):List aef:=zv X.outer
def Vis (sc:Scope)(x:Str):Prop:=sc.names.lookup x=some .local\/sc.names.lookup x=some .cell\/sc.names.lookup x=some .free
def Loc (sc:Scope)(x:Str):Prop:=sc.names.lookup x=some .local\/sc.names.lookup x=some .cell
def Look (env:Env)(h:Heap)(m:ι)(x:Str)(u:Value):Prop:=
 (env.kindOf x=some .local/\m x=some u)\/((env.kindOf x=some .cell\/env.kindOf x=some .free)/\∃c,env.cells.lookup x=some c/\h.IsCell c (some u))
structure Cx.Ok (X:Cx):Prop where
 mod:Mod X.K X.mg X.base
 kind:X.env.scope.kind=.function
 glob:X.env.globals=aex
 blt:X.env.builtins=agq
 above:X.s₀.heap.objs.size<=X.env.locals
 inj:∀x y c,X.env.cells.lookup x=some c->X.env.cells.lookup y=some c->x=y
 has:∀x,(X.env.kindOf x=some .cell\/X.env.kindOf x=some .free)->∃c,X.env.cells.lookup x=some c
 Ts:∀x c,X.fn x=true->X.env.cells.lookup x=some c->X.s₀.heap.objs.size<=c
 hd:X.calm=true->X.A.handled=none
 frames:X.A.frames=some X.stack
 stk:X.stack=X.outer\/(X.stack=X.env::X.outer/\X.env.frame=some X.env.locals)
 exf:∀b∈X.ex,b≠X.env.locals/\∀x c,X.env.cells.lookup x=some c->c≠b
 bs:∀b o,X.base.get? b=some o->X.s₀.heap.get? b=some o/\X.H₀ b=none
 MG:X.base.objs.size<=X.s₀.heap.objs.size
 HM:∀b o,X.base.get? b=some o->b∉X.ex
 MI:∀b∈X.ex,b∉X.fs
 nj:X.s₀.heap.FunFrames X.base X.outer
 Qt:∀b∈X.fs,X.H₀ b=none
structure Inv (X:Cx)(pins:ζ)(σ:List (Option V))(H:Hp)(s:aep):Prop where
 ok:X.Ok
 os:s.os=X.s₀.os
 bare:aga s.gens
 base:Un X.fs X.ex X.H₀ H X.s₀.heap s.heap
 loc:∃m,s.heap.Ns X.env.locals m/\∀(i:Nat)(x:Str)(v:V),X.N[i]?=some x->σ[i]?=some (some v)->Vis X.env.scope x->∃u,RelV v u/\Look X.env s.heap m x u
 cell:∀x c,X.env.cells.lookup x=some c->∃v,s.heap.IsCell c v
 free:H X.env.locals=none
 iu:∀x c,X.env.cells.lookup x=some c->H c=none
 pin:∀p∈X.pn++pins,s.heap.get? p.1=some p.2/\H p.1=none/\p.1≠X.env.locals/\p.1∉X.fs/\∀v,p.2.data≠.cell v
 bO:ju X.prog X.w H s.heap
 len:σ.length=X.N.length
section
variable {X:Cx}{pins:ζ}{σ:List (Option V)}{H H':Hp}{s:aep}{h':Heap}
theorem Cx.Ok.abh (ok:X.Ok)(e:X.base.get? b=some o):b∉X.fs:=fun hb=>by
 have:=(ok.nj.mem hb).1
 rw [e] at this;cases this
theorem Inv.bs (I:Inv X pins σ H s):∀b o,X.base.get? b=some o->s.heap.get? b=some o/\H b=none:=fun b o e=>
 ⟨I.base.keep b o (I.ok.bs b o e).1 (I.ok.bs b o e).2 (I.ok.abh e) (I.ok.HM b o e),I.base.free b o (I.ok.bs b o e).1 (I.ok.bs b o e).2 (I.ok.HM b o e)⟩
theorem Inv.bk (I:Inv X pins σ H s):∀b o,X.base.get? b=some o->s.heap.get? b=some o:=fun b o e=>(I.bs b o e).1
theorem Inv.mod (I:Inv X pins σ H s):Mod X.K X.mg X.base:=I.ok.mod
theorem Inv.jG (I:Inv X pins σ H s):X.K.In s.heap:=I.ok.mod.OM.keeps I.bk
theorem Inv.nolimit (I:Inv X pins σ H s):s.heap.NoLimit:=I.ok.mod.nolimit.keeps I.bk
theorem Inv.lt (I:Inv X pins σ H s):X.env.locals<s.heap.objs.size:=let ⟨_,hn,_⟩:=I.loc;hn.lt
theorem Inv.sz (I:Inv X pins σ H s):X.s₀.heap.objs.size<=s.heap.objs.size:=aak I.ok.above (aa1 I.lt)
theorem Inv.abi (I:Inv X pins σ H s){a:aef}(h:s.heap.objs.size<=a):a∉X.fs:=fun hb=>by
 obtain ⟨_,o,ho,_⟩:=I.ok.nj.mem hb
 exact aet (aaB (aew ho) (aak I.sz h)) (aa3 _)
theorem Inv.Qu (I:Inv X pins σ H s):∀x c,X.env.cells.lookup x=some c->c≠X.env.locals:=fun x c e z=>by
 obtain ⟨v,o,ho,hd⟩:=I.cell x c e
 obtain ⟨m,⟨o',es,ep,Qv,MJ,_⟩,_⟩:=I.loc
 rw [z,Qv] at ho;cases ho;rw [MJ] at hd;cases hd
theorem Inv.nj (I:Inv X pins σ H s):s.heap.FunFrames X.base X.outer:=by
 have all:∀(l:List Env),(∀b∈zv l,b∈X.fs)->X.s₀.heap.FunFrames X.base l->s.heap.FunFrames X.base l:=by
  intro l
  induction l with
  | nil=>intro _ _;trivial
  | cons env r ih=>
   intro hs hl
   obtain ⟨hk,⟨L,o,hf,hn,ho,hd⟩,hr⟩:=hl
   have hL:L∈X.fs:=hs L (by unfold zv;rw [acS,hf];exact aas)
   obtain ⟨sl,e⟩:=I.base.slot L o ho (I.ok.Qt L hL) hL fun z=>I.ok.MI L z hL
   exact ⟨hk,⟨L,_,hf,hn,e,hd⟩,ih (fun b hb=>hs b (by unfold zv;rw [acS,hf];exact aan _ hb)) hr⟩
 exact all X.outer (fun _ hb=>hb) I.ok.nj
theorem Inv.stack (I:Inv X pins σ H s):s.heap.FunFrames X.base X.stack:=by
 rcases I.ok.stk with e|⟨e,hf⟩
 ·rw [e];exact I.nj
 ·rw [e]
  obtain ⟨m,hn,_⟩:=I.loc
  refine .cons (by rw [I.ok.kind];decide) hf hn ?_ I.nj
  exact Heap.get?_none_of_le (aak I.ok.MG I.ok.above)
theorem Inv.xR (I:Inv X pins σ H s):∀b∈zv X.stack,b∈X.env.locals::X.fs:=fun b hb=>by
 rcases I.ok.stk with e|⟨e,hf⟩
 ·rw [e] at hb;exact aan _ hb
 ·rw [e] at hb
  unfold zv at hb
  rw [acS,hf] at hb
  exact hb
theorem Inv.zA (I:Inv X pins σ H s):∀b∈zv X.stack,H b=none:=fun b hb=>by
 rcases aaL.mp (I.xR b hb) with e|hb
 ·rw [e];exact I.free
 ·obtain ⟨_,o,ho,_⟩:=I.ok.nj.mem hb
  exact I.base.free b o ho (I.ok.Qt b hb) fun z=>I.ok.MI b z hb
theorem Inv.step {ch:χ}(I:Inv X pins σ H s)
  (Mb:∀b∈ch,(b∈X.ex\/X.s₀.heap.objs.size<=b)/\b≠X.env.locals/\(∀x c,X.env.cells.lookup x=some c->c≠b)/\∀p∈X.pn++pins,p.1≠b)
  (keep:∀b o,b≠X.env.locals->b∉X.fs->b∉ch->s.heap.get? b=some o->H b=none->h'.get? b=some o)
  (slot:∀b o,b≠X.env.locals->b∈X.fs->b∉ch->s.heap.get? b=some o->H b=none->∃sl,h'.get? b=some {o with slots:=sl}) (free:∀b o,b∉ch->s.heap.get? b=some o->H b=none->H' b=none)
  (there:∀b o,b∉ch->s.heap.get? b=some o->∃o',h'.get? b=some o')
  (q4:∀b xs,H b=some (.tup xs)->H' b=some (.tup xs)) (oF:∀b o u,H b=some (.gi o u)->H' b=some (.gi o u)) (q5:∀b ps,H b=some (.Qr ps)->∃more,H' b=some (.Qr (ps++more)))
  (ns:∀m,s.heap.Ns X.env.locals m->h'.Ns X.env.locals m) (bO:ju X.prog X.w H' h') (hg:aga g'):
  Inv X pins σ H' {s with heap:=h',gens:=g',drawn:=d',toks:=t'}:=by
 have neL:∀b o,X.s₀.heap.get? b=some o->b≠X.env.locals:=fun b o e=>aaM (aaB (aew e) I.ok.above)
 have neC:∀b o,X.s₀.heap.get? b=some o->b∉X.ex->b∉ch:=fun b o e hx hb=>by
  rcases (Mb b hb).1 with z|z
  ·exact hx z
  ·exact aet (aaB (aew e) z) (aa3 _)
 have cellK:∀x c,X.env.cells.lookup x=some c->∀v,s.heap.IsCell c v->h'.IsCell c v:=fun x c e v ⟨o,ho,hd⟩=>by
  have Tt:c∉ch:=fun z=>(Mb c z).2.2.1 x c e rfl
  by_cases hc:c∈X.fs
  ·obtain ⟨sl,q⟩:=slot c o (I.Qu x c e) hc Tt ho (I.iu x c e)
   exact ⟨_,q,hd⟩
  ·exact ⟨o,keep c o (I.Qu x c e) hc Tt ho (I.iu x c e),hd⟩
 refine ⟨I.ok,I.os,hg,⟨fun b o e n hb hx=>?_,fun b o e n hb hx=>?_,fun b o e n hx=>?_,fun b o e hx=>?_,fun b xs e=>q4 b xs (I.base.q4 b xs e),fun b o xs e=>oF b o xs (I.base.oF b o xs e),fun b ps e=>?_⟩,?_,fun x c e=>?_,?_,fun x c e=>?_,fun p hp=>?_,bO,I.len⟩
 ·exact keep b o (neL b o e) hb (neC b o e hx) (I.base.keep b o e n hb hx) (I.base.free b o e n hx)
 ·obtain ⟨sl,e1⟩:=I.base.slot b o e n hb hx
  obtain ⟨sl',e2⟩:=slot b _ (neL b o e) hb (neC b o e hx) e1 (I.base.free b o e n hx)
  exact ⟨sl',e2⟩
 ·obtain ⟨o',e1⟩:=I.base.there b o e hx
  exact free b o' (neC b o e hx) e1 (I.base.free b o e n hx)
 ·obtain ⟨o',e1⟩:=I.base.there b o e hx
  exact there b o' (neC b o e hx) e1
 ·obtain ⟨m1,e1⟩:=I.base.q5 b ps e
  obtain ⟨m2,e2⟩:=q5 b _ e1
  exact ⟨m1++m2,by rw [e2,Array.append_assoc]⟩
 ·obtain ⟨m,hn,hl⟩:=I.loc
  refine ⟨m,ns m hn,fun i x v e1 e2 e3=>?_⟩
  obtain ⟨u,r,l⟩:=hl i x v e1 e2 e3
  refine ⟨u,r,?_⟩
  rcases l with l|⟨k,c,e,z⟩
  ·exact .inl l
  ·exact .inr ⟨k,c,e,cellK x c e _ z⟩
 ·obtain ⟨v,z⟩:=I.cell x c e
  exact ⟨v,cellK x c e v z⟩
 ·obtain ⟨m,⟨o,_,_,ho,_⟩,_⟩:=I.loc
  exact free _ o (fun z=>(Mb _ z).2.1 rfl) ho I.free
 ·obtain ⟨v,o,ho,hd⟩:=I.cell x c e
  exact free c o (fun z=>(Mb c z).2.2.1 x c e rfl) ho (I.iu x c e)
 ·obtain ⟨e,n,ne,nf,d⟩:=I.pin p hp
  have Tt:p.1∉ch:=fun z=>(Mb p.1 z).2.2.2 p hp rfl
  exact ⟨keep p.1 p.2 ne nf Tt e n,free p.1 p.2 Tt e n,ne,nf,d⟩
theorem Inv.un (I:Inv X pins σ H s)(u:Un X.fs [] H H' s.heap h')(bO:ju X.prog X.w H' h'):Inv X pins σ H' {s with heap:=h',toks:=t'}:=by
 obtain ⟨m,⟨o,es,ep,ho,r⟩,_⟩:=id I.loc
 obtain ⟨sl,hL⟩:=u.any ho I.free (by simp)
 exact I.step (g':=s.gens) (d':=s.drawn) (ch:=[]) (fun _ z=>nomatch z) (fun b o _ hb _ e n=>u.keep b o e n hb (by simp)) (fun b o _ hb _ e n=>u.slot b o e n hb (by simp)) (fun b o _ e n=>u.free b o e n (by simp)) (fun b o _ e=>u.there b o e (by simp)) u.q4 u.oF u.q5 (fun m' hm=>by
  obtain ⟨o',es',rX,Qv,r'⟩:=hm
  rw [ho] at Qv;cases Qv
  exact ⟨_,es',rX,hL,r'⟩) bO I.bare
theorem Inv.call (I:Inv X pins σ H s)(u:Un (zv X.stack) ch H H' s.heap h')(bO:ju X.prog X.w H' h')(hg:aga g')
  (Mb:∀b∈ch,(b∈X.ex\/X.s₀.heap.objs.size<=b)/\b≠X.env.locals/\(∀x c,X.env.cells.lookup x=some c->c≠b)/\∀p∈X.pn++pins,p.1≠b):
  Inv X pins σ H' {s with heap:=h',gens:=g',drawn:=d',toks:=t'}:=by
 obtain ⟨m,⟨o,es,ep,ho,r⟩,_⟩:=id I.loc
 obtain ⟨sl,hL⟩:=u.any ho I.free fun z=>(Mb _ z).2.1 rfl
 exact I.step (ch:=ch) Mb (fun b o hL hb hc e n=>u.keep b o e n (fun z=>(aaL.mp (I.xR b z)).elim hL hb) hc) (fun b o _ _ hc e n=>u.any e n hc) (fun b o hc e n=>u.free b o e n hc) (fun b o hc e=>u.there b o e hc) u.q4 u.oF u.q5 (fun m' hm=>by
  obtain ⟨o',es',rX,Qv,r'⟩:=hm
  rw [ho] at Qv;cases Qv
  exact ⟨_,es',rX,hL,r'⟩) bO hg
theorem Inv.turned (I:Inv X pins σ H s)(k:∀b o,b≠it->s.heap.get? b=some o->h'.get? b=some o)(hn:H it=none)(hL:it≠X.env.locals)
  (h1:it∈X.ex\/X.s₀.heap.objs.size<=it) (h2:∀x c,X.env.cells.lookup x=some c->c≠it) (h3:∀p∈X.pn++pins,p.1≠it):Inv X pins σ H {s with heap:=h',toks:=t'}:=by
 have ON:∀b u,H b=some u->b≠it:=fun b u e z=>by rw [z,hn] at e;cases e
 refine I.step (g':=s.gens) (d':=s.drawn) (ch:=[it]) (fun b hb=>?_) (fun b o _ _ hc e _=>k b o (fun z=>hc (by simp [z])) e) (fun b o _ _ hc e _=>⟨o.slots,k b o (fun z=>hc (by simp [z])) e⟩) (fun _ _ _ _ n=>n)
  (fun b o hc e=>⟨o,k b o (fun z=>hc (by simp [z])) e⟩) (fun _ _ e=>e) (fun _ _ _ e=>e) (fun b ps e=>⟨#[],by rw [e];simp⟩) (fun m hm=>?_) (fun b u e=>?_) I.bare
 ·have e:b=it:=by simpa using hb
  subst e
  exact ⟨h1,hL,h2,h3⟩
 ·obtain ⟨o,es,ep,ho,r⟩:=hm
  exact ⟨o,es,ep,k _ o (aaD hL) ho,r⟩
 ·refine (I.bO b u e).qZ (fun c v hc q=>k c v ?_ q) (fun _ q=>q) fun _ _ q=>q
  rcases hc with z|z
  ·rw [z];exact ON b u e
  ·exact ON c _ z
theorem Inv.tok (I:Inv X pins σ H s)(t:Nat):Inv X pins σ H {s with toks:=t}:=I.un (h':=s.heap) (t':=t) Un.refl I.bO
theorem Inv.kept (I:Inv X pins σ H s)(k:∀b u,s.heap.get? b=some u->h'.get? b=some u):Inv X pins σ H {s with heap:=h',toks:=t'}:=I.un (Un.kept k) (I.bO.kept k)
theorem Inv.laid {a:aef}(I:Inv X pins σ H s)(k:∀b u,s.heap.get? b=some u->h'.get? b=some u)(hp:s.heap.objs.size<=a)(new:cK X.prog X.w (upd H a o) h' a o):
  Inv X pins σ (upd H a o) {s with heap:=h',toks:=t'}:=I.un (Un.laid k hp (I.bO.fresh hp)) (I.bO.laid k hp new)
theorem Inv.write (I:Inv X pins σ H s)(mu:Tp (H x))(he:e=x\/H e=some (.own x))(k:∀b u,b≠e->s.heap.get? b=some u->h'.get? b=some u)(SQ:∃u,h'.get? e=some u)
  (new:cK X.prog X.w (upd H x o) h' x o):Inv X pins σ (upd H x o) {s with heap:=h',toks:=t'}:=I.un (Un.write mu he k SQ) (I.bO.write mu he k SQ new)
theorem Inv.zB (I:Inv X pins σ H s)(h:∀p∈OO,s.heap.get? p.1=some p.2/\H p.1=none/\p.1≠X.env.locals/\p.1∉X.fs/\∀v,p.2.data≠.cell v):Inv X OO σ H s:=
 ⟨I.ok,I.os,I.bare,I.base,I.loc,I.cell,I.free,I.iu,fun p hp=>(aau.mp hp).elim (fun z=>I.pin p (aaK _ z)) (h p),I.bO,I.len⟩
theorem dw {N:ρ}(hN:N.Nodup){i j:Nat}(a:N[i]?=some x)(b:N[j]?=some x):i=j:=by
 obtain ⟨h1,e1⟩:=ir.mp a
 obtain ⟨h2,e2⟩:=ir.mp b
 exact (aky hN).mp (e1.trans e2.symm)
theorem rY {E:δ}(I:Inv X pins σ H s)(hN:X.N.Nodup)(hi:X.N[i]?=some x)(hx:Loc X.env.scope x)(r:RelV v u)
  (h:∀s',Inv X pins (σ.set i (some v)) H s' ->(∃a,agr a s.heap s'.heap/\(a=X.env.locals\/X.env.cells.lookup x=some a))->Q () s') (hf:X.fn x=true\/X.env.scope.names.lookup x=some .local:=by first|exact .inl rfl|exact .inr rfl|assumption):aen M A (storeName X.env x u) Q E s:=by
 obtain ⟨m,hn,hl⟩:=id I.loc
 have abk:(X.env.scope.kind==.class || (X.env.scope.kind==.module && X.env.locals !=X.env.globals))=false:=by rw [I.ok.kind];rfl
 have hiσ:i < σ.length:=by rw [I.len];exact (ir.mp hi).1
 have Qu:=I.Qu
 have tracked:∀{a:aef} {h':Heap},(∃o,s.heap.get? a=some o/\H a=none)->agr a s.heap h' ->ju X.prog X.w H h':=fun {a h'} ha hs b ob e=>by
  obtain ⟨_,_,OP⟩:=ha
  refine (I.bO b ob e).qZ (fun c w' hc q=>(hs.2 c ?_).trans q) (fun _ q=>q) fun _ _ q=>q
  rintro rfl
  rcases hc with rfl|hc
  ·rw [OP] at e;cases e
  ·rw [OP] at hc;cases hc
 rcases hx with hk|hk
 ·refine wpAny_storeName_local hk hn (fun h' Tu hs=>?_) abk
  obtain ⟨oL,_,_,hoL,_⟩:=id hn
  refine h _ ⟨I.ok,I.os,I.bare,⟨fun b o e n hb hx=>?_,fun b o e n hb hx=>?_,I.base.free,fun b o e hx=>?_,I.base.q4,I.base.oF,I.base.q5⟩,⟨_,Tu,fun j y v' e1 e2 e3=>?_⟩,fun y c e=>?_,I.free,I.iu,fun p hp=>?_,tracked ⟨oL,hoL,I.free⟩ hs,by simpa using I.len⟩ ⟨_,hs,.inl rfl⟩
  ·exact (hs.2 b (aaM (aaB (aew e) I.ok.above))).trans (I.base.keep b o e n hb hx)
  ·obtain ⟨sl,e1⟩:=I.base.slot b o e n hb hx
   exact ⟨sl,(hs.2 b (aaM (aaB (aew e) I.ok.above))).trans e1⟩
  ·obtain ⟨o',e1⟩:=I.base.there b o e hx
   exact ⟨o',(hs.2 b (aaM (aaB (aew e) I.ok.above))).trans e1⟩
  ·by_cases hj:j=i
   ·subst hj
    rw [hi] at e1;cases e1
    rw [adb hiσ] at e2
    cases e2
    exact ⟨u,r,.inl ⟨hk,by simp⟩⟩
   ·rw [acP (aaD hj)] at e2
    obtain ⟨u',r',q⟩:=hl j y v' e1 e2 e3
    refine ⟨u',r',?_⟩
    rcases q with ⟨k,e⟩|⟨k,c,e,z⟩
    ·refine .inl ⟨k,?_⟩
     have:y≠x:=fun e=>hj (dw hN e1 (e▸hi))
     simp [this,e]
    ·exact .inr ⟨k,c,e,z.sameBut hs (Qu y c e)⟩
  ·obtain ⟨w',z⟩:=I.cell y c e
   exact ⟨w',z.sameBut hs (Qu y c e)⟩
  ·obtain ⟨e,n,ne,nf,d⟩:=I.pin p hp
   exact ⟨(hs.2 p.1 ne).trans e,n,ne,nf,d⟩
 ·have Tv:X.fn x=true:=by
   rcases hf with z|z
   ·exact z
   ·rw [z] at hk;cases hk
  obtain ⟨c,hc⟩:=I.ok.has x (.inl hk)
  obtain ⟨w',z⟩:=I.cell x c hc
  refine wpAny_storeName_cell I.ok.kind hk hc z (fun h' rZ hs=>?_)
  obtain ⟨oc,hoc,abl⟩:=id z
  refine h {s with heap:=h'} ⟨I.ok,I.os,I.bare,⟨fun b o e n hb hx=>?_,fun b o e n hb hx=>?_,I.base.free,fun b o e hx=>?_,I.base.q4,I.base.oF,I.base.q5⟩,⟨m,hn.sameBut hs (aaD (Qu x c hc)),fun j y v' e1 e2 e3=>?_⟩,fun y c' e=>?_,I.free,I.iu,fun p hp=>?_,tracked ⟨oc,hoc,I.iu x c hc⟩ hs,by simpa using I.len⟩ ⟨c,hs,.inr hc⟩
  ·exact (hs.2 b (aaM (aaB (aew e) (I.ok.Ts x c Tv hc)))).trans (I.base.keep b o e n hb hx)
  ·obtain ⟨sl,e1⟩:=I.base.slot b o e n hb hx
   exact ⟨sl,(hs.2 b (aaM (aaB (aew e) (I.ok.Ts x c Tv hc)))).trans e1⟩
  ·obtain ⟨o',e1⟩:=I.base.there b o e hx
   exact ⟨o',(hs.2 b (aaM (aaB (aew e) (I.ok.Ts x c Tv hc)))).trans e1⟩
  ·by_cases hj:j=i
   ·subst hj
    rw [hi] at e1;cases e1
    rw [adb hiσ] at e2
    cases e2
    exact ⟨u,r,.inr ⟨.inl hk,c,hc,rZ⟩⟩
   ·rw [acP (aaD hj)] at e2
    obtain ⟨u',r',q⟩:=hl j y v' e1 e2 e3
    refine ⟨u',r',?_⟩
    rcases q with q|⟨k,c',e,z'⟩
    ·exact .inl q
    ·refine .inr ⟨k,c',e,z'.sameBut hs ?_⟩
     rintro rfl
     exact hj (dw hN e1 (I.ok.inj _ _ _ e hc▸hi))
  ·by_cases hcc:c'=c
   ·subst hcc;exact ⟨_,rZ⟩
   ·obtain ⟨w2,z2⟩:=I.cell y c' e
    exact ⟨w2,z2.sameBut hs hcc⟩
  ·obtain ⟨e,n,ne,nf,d⟩:=I.pin p hp
   refine ⟨(hs.2 p.1 ?_).trans e,n,ne,nf,d⟩
   intro q
   rw [q,hoc] at e
   have q':oc=p.2:=aaA e
   exact d w' (by rw [<-q'];exact abl)
theorem fU {E:δ}(I:Inv X pins σ H s)(hN:X.N.Nodup)(hi:X.N[i]?=some x)(hx:Loc X.env.scope x)(r:RelV v u)
  (h:∀s',Inv X pins (σ.set i (some v)) H s' ->Q () s') (hf:X.fn x=true\/X.env.scope.names.lookup x=some .local:=by first|exact .inl rfl|exact .inr rfl|assumption):aen M A (storeName X.env x u) Q E s:=
 rY I hN hi hx r (fun s' I' _=>h s' I') hf
theorem Inv.Tw (I:Inv X pins σ H s)(ho:s'.os=s.os)(u:Un (zv X.stack) ch H H' s.heap s'.heap)(bO:ju X.prog X.w H' s'.heap)(hg:aga s'.gens)
  (Mb:∀b∈ch,(b∈X.ex\/X.s₀.heap.objs.size<=b)/\b≠X.env.locals/\(∀x c,X.env.cells.lookup x=some c->c≠b)/\∀p∈X.pn++pins,p.1≠b):Inv X pins σ H' s':=by
 obtain ⟨h',g',d',t',o'⟩:=s'
 have e:o'=s.os:=ho
 subst e
 exact I.call (g':=g') (t':=t') (d':=d') u bO hg Mb
end
abbrev XK:=Value->Option aef->Hp->Prop
abbrev St:=List (Option V)
abbrev VK:=V->Hp->Prop
abbrev _root_.Ω:=V->List V->Hp->VK->Prop
abbrev TE:=St->Hp->VK->Prop
abbrev TT:=St->Hp->(Bool->Hp->Prop)->Prop
abbrev TA:=St->Hp->(List V->Hp->Prop)->Prop
structure Ends where
 nx:St->Hp->Prop
 rt:VK
 bk:St->Hp->Prop:=fun _ _=>False
 ct:St->Hp->Prop:=fun _ _=>False
abbrev TS:=Ends->St->Hp->Prop
def EP (X:Cx)(pins:ζ)(σ:St)(Q:VK)(u:Value)(s':aep):Prop:=∃v H',Inv X pins σ H' s'/\RelV v u/\Q v H'
def TP (X:Cx)(pins:ζ)(σ:St)(Q:Bool->Hp->Prop)(b:Bool)(s':aep):Prop:=∃H',Inv X pins σ H' s'/\Q b H'
def AP (X:Cx)(pins:ζ)(σ:St)(Q:List V->Hp->Prop)(us:ο)(s':aep):Prop:=∃vs H',Inv X pins σ H' s'/\Vals vs us/\Q vs H'
def SP (X:Cx)(pins:ζ)(D:Ends)(f:Flow)(s':aep):Prop:=
 match f with
 | .next=>∃σ' H',Inv X pins σ' H' s'/\D.nx σ' H'
 | .brk=>∃σ' H',Inv X pins σ' H' s'/\D.bk σ' H'
 | .cont=>∃σ' H',Inv X pins σ' H' s'/\D.ct σ' H'
 | .ret u=>∃v σ' H',Inv X pins σ' H' s'/\RelV v u/\D.rt v H'
def PE (X:Cx)(e:Expr)(t:TE):Prop:=
 ∀(pins:ζ)(s:aep)(σ:St)(H:Hp)(Q:VK),Inv X pins σ H s->t σ H Q->aen (aes X.prog X.w) X.A (aeM e X.env) (EP X pins σ Q) X.xe s
def PT (X:Cx)(e:Expr)(t:TT):Prop:=
 ∀(pins:ζ)(s:aep)(σ:St)(H:Hp)(Q:Bool->Hp->Prop),Inv X pins σ H s->t σ H Q->aen (aes X.prog X.w) X.A (isTrue e X.env (aeM e X.env)) (TP X pins σ Q) X.xe s
def PW (X:Cx)(e:Expr)(t:TT):Prop:=
 ∀(whole:Sem Value)(pins:ζ)(s:aep)(σ:St)(H:Hp)(Q:Bool->Hp->Prop),Inv X pins σ H s->t σ H Q->aen (aes X.prog X.w) X.A (isTrue e X.env whole) (TP X pins σ Q) X.xe s
theorem PW.pt (h:PW X e t):PT X e t:=h _
def PA (X:Cx)(es:Δ)(t:TA):Prop:=
 ∀(pos:Pos)(pins:ζ)(s:aep)(σ:St)(H:Hp)(Q:List V->Hp->Prop),Inv X pins σ H s->t σ H Q->aen (aes X.prog X.w) X.A (spliced (afc pos (aeA es X.env))) (AP X pins σ Q) X.xe s
def PS (X:Cx)(st:Stmt)(t:TS):Prop:=
 ∀(pins:ζ)(s:aep)(σ:St)(H:Hp)(D:Ends),Inv X pins σ H s->t D σ H->aen (aes X.prog X.w) X.A (exec st X.env) (SP X pins D) X.xe s
def PSs (X:Cx)(st:List Stmt)(t:TS):Prop:=
 ∀(pins:ζ)(s:aep)(σ:St)(H:Hp)(D:Ends),Inv X pins σ H s->t D σ H->aen (aes X.prog X.w) X.A (execs st X.env) (SP X pins D) X.xe s
theorem cB {Q Q':α->aep->Prop}{E:δ}(h:aen M A t Q E s)(hQ:∀a s,Q a s->Q' a s):aen M A t Q' E s:=aeU h hQ fun _ _ x=>x
end L2
namespace L2
open PySem PySem.Spec PyProof.Rows
section
variable {X:Cx}
inductive MK (i:Nat)(σ:St)(H:Hp)(Q:VK):Prop
|mk (v:_)(_:σ[i]?=some (some v))(_:Q v H)
def tC (v:V):TE:=fun _ H Q=>Q v H
theorem Qw {pos:Pos}(hN:X.N[i]?=some x)(hv:Vis X.env.scope x)(hd:(x==("__debug__":Str))=false:=by decide)(q_:(x==("__classdict__":Str))=false:=by decide):PE X (.Name x pos) (MK i):=by
 intro pins s σ H Q I h
 obtain ⟨v,e,h⟩:=h
 obtain ⟨m,hn,hl⟩:=I.loc
 obtain ⟨u,r,l⟩:=hl i x v hN e hv
 have fin:EP X pins σ Q u s:=⟨v,H,I,r,h⟩
 rcases l with ⟨hk,hm⟩|⟨hk,c,hc,hcell⟩
 ·exact wpAny_Name (wpAny_loadName_local I.ok.kind hk hn hm fin) hd
 ·rcases hk with hk|hk
  ·exact wpAny_Name (wpAny_loadName_cell I.ok.kind hk hc hcell fin) hd
  ·exact wpAny_Name (wpAny_loadName_free I.ok.kind hk hc hcell fin q_) hd
theorem ag :PE X (.Constant (.int i) j pos) (tC (.int i)):=fun _ _ _ H _ I h=>wpAny_Constant_int ⟨.int i,H,I.tok _,⟨_,rfl⟩,h⟩
theorem cN :PE X (.Constant (.bool b) j pos) (tC (.bl b)):=fun _ _ _ H _ I h=>Constant_bool ⟨.bl b,H,I,rfl,h⟩
theorem jH :PE X (.Constant .none j pos) (tC .cg):=fun _ _ _ H _ I h=>Constant_none ⟨.cg,H,I,rfl,h⟩
theorem dY :PE X (.Constant (.str x) j pos) (tC (.str x)):=fun _ _ _ H _ I h=>Calls.Constant_str ⟨.str x,H,I.tok _,⟨_,rfl⟩,h⟩
def Gl (X:Cx)(x:Str):Prop:=X.env.kindOf x=some .globalImplicit
theorem j6 {E:δ}{σ:St}{Q:δ}(I:Inv X pins σ H s)(hg:Gl X x)(hm:X.mg x=some u)(h:Q u s)
  (hd:(x==("__debug__":Str))=false:=by decide):aen (aes X.prog X.w) X.A (aeM (.Name x pos) X.env) Q E s:=
 Calls.Name_function_global I.ok.kind hg (Calls.loadGlobal_global (by rw [I.ok.glob];exact I.mod.glob.keeps I.bk) hm h) hd
theorem gS {E:δ}{σ:St}{pos:Pos}{Q:δ}(I:Inv X pins σ H s)(hg:Gl X x)(hm:X.mg x=none)(hv:aeL x=some u)(h:Q u s)
  (hn:x≠ "__name__":=by decide) (hd:(x==("__debug__":Str))=false:=by decide):aen (aes X.prog X.w) X.A (aeM (.Name x pos) X.env) Q E s:=by
 obtain ⟨mb,h1,h2⟩:=I.mod.blt
 exact Calls.Name_function_global I.ok.kind hg (Calls.loadGlobal_builtin (by rw [I.ok.glob];exact I.mod.glob.keeps I.bk) hm (by rw [I.ok.blt];exact h1.keeps I.bk) ((h2 x hn).trans hv) h) hd
theorem i6 (hg:Gl X x)(hm:X.mg x=some u)(r:RelV v u)(hd:(x==("__debug__":Str))=false:=by decide):PE X (.Name x pos) (tC v):=
 fun _ _ _ H _ I h=>j6 I hg hm ⟨v,H,I,r,h⟩ hd
theorem MM {pos:Pos}(hg:Gl X x)(hm:X.mg x=none)(hv:aeL x=some u)(r:RelV v u)(hn:x≠ "__name__":=by decide)(hd:(x==("__debug__":Str))=false:=by decide):PE X (.Name x pos) (tC v):=
 fun _ _ _ H _ I h=>gS I hg hm hv ⟨v,H,I,r,h⟩ hn hd
variable {a b:Expr}{ta tb:TE}{pos:Pos}
def PC (X:Cx)(op:CmpOp)(a b:Expr)(t:TE):Prop:=
 ∀(pins:ζ)(s:aep)(σ:St)(H:Hp)(Q:VK),Inv X pins σ H s->t σ H Q->
  aen (aes X.prog X.w) X.A (aeM a X.env) (fun v s₁=>aen (aes X.prog X.w) X.A (aeM b X.env) (fun u s₂=>aen (aes X.prog X.w) X.A (ae2 op v u) (EP X pins σ Q) X.xe s₂) X.xe s₁) X.xe s
theorem nobehind (b:Expr)(h:op≠.In)(h2:op≠.NotIn):aft op b=false:=by
 have e1:(op==CmpOp.In)=false:=by cases op<;>first|rfl|exact aet rfl h
 have e2:(op==CmpOp.NotIn)=false:=by cases op<;>first|rfl|exact aet rfl h2
 cases b<;>simp [aft,e1,e2]
def Tx (ta:TE):TE:=fun σ H Q=>ta σ H fun x H1=>Q (.bl (!decide (x=.cg))) H1
theorem RelV.HN (r:RelV x v):(v==Value.none)=decide (x=.cg):=by
 cases x with
 | cg=>cases r;rfl
 | bl _=>cases r;rfl
 | int _=>obtain ⟨t,rfl⟩:=r;rfl
 | str _=>obtain ⟨t,rfl⟩:=r;rfl
 | byt _=>obtain ⟨t,rfl⟩:=r;rfl
 | OL _=>obtain ⟨t,rfl⟩:=r;rfl
 | ref _=>cases r;rfl
 | ty _=>cases r;rfl
theorem MO (ha:PE X a ta):PC X .IsNot a (.Constant .none j pos') (Tx ta):=by
 intro pins s σ H Q I h
 refine cB (ha pins s σ H _ I h) fun v s1 ⟨x,H1,I1,r1,q1⟩=>?_
 exact Constant_none (isnot_none_gen ⟨.bl _,H1,I1,by rw [r1.HN];rfl,q1⟩)
inductive tB_ (Q:(Bool->Hp->Prop))(x:V)(H1:Hp):Prop
|mk (c:_)(_:x=.bl c)(_:Q c H1)
def tB (t:TE):TT:=fun σ H Q=>t σ H fun x H1=>tB_ Q x H1
theorem lG (h:PC X op a b t)(h1:aft op b=false:=by first|exact nobehind _ (by decide) (by decide)|rfl):PT X (.Compare a [op] [b] pos) (tB t):=by
 intro pins s σ H Q I hw
 refine wpAny_isTrue_Compare1 (cB (h pins s σ H _ I hw) fun v s1 h1=>cB h1 fun u s2 h2=>cB h2 fun c s3 ⟨x,H1,I1,r1,q1⟩=>?_) h1
 obtain ⟨d,rfl,q⟩:=q1
 cases r1
 exact afu ⟨H1,I1,q⟩
theorem cC (h:PE X e t)(he:∀whole,isTrue e X.env whole=(do let v <- whole;standAt e.pos;agp [v] (truthy v)):=by intro _;rfl):PT X e (tB t):=by
 intro pins s σ H Q I hw
 refine isTrue_plain (cB (h pins s σ H _ I hw) fun v s1 ⟨x,H1,I1,r1,q1⟩=>?_) (he _)
 obtain ⟨d,rfl,q⟩:=q1
 cases r1
 exact afu ⟨H1,I1,q⟩
variable {tA tB':TT}{rest:Δ}
def abm (t u:TT):TT:=fun σ H Q=>t σ H fun c H1=>if c=true then u σ H1 Q else Q false H1
def tOr (t u:TT):TT:=fun σ H Q=>t σ H fun c H1=>if c=true then Q true H1 else u σ H1 Q
def abn (t:TT):TT:=fun σ H Q=>t σ H fun c H1=>Q (!c) H1
theorem j7 (ha:PT X a tA):PW X (.BoolOp .And [a] pos) tA:=by
 intro wh pins s σ H Q I h
 refine isTrue_and (cB (ha pins s σ H Q I h) fun c s1 e=>?_)
 cases c with
 | true=>exact isTrue_and_nil e
 | false=>exact e
theorem gA (ha:PT X a tA):PW X (.BoolOp .Or [a] pos) tA:=by
 intro wh pins s σ H Q I h
 refine isTrue_or (cB (ha pins s σ H Q I h) fun c s1 e=>?_)
 cases c with
 | false=>exact isTrue_or_nil e
 | true=>exact e
theorem oG (ha:PT X a tA)(hb:PW X (.BoolOp .And (b::rest) pos) tB'):PW X (.BoolOp .And (a::b::rest) pos) (abm tA tB'):=by
 intro wh pins s σ H Q I h
 refine isTrue_and (cB (ha pins s σ H _ I h) fun c s1 ⟨H1,I1,q1⟩=>?_)
 cases c with
 | true=>exact hb wh pins s1 σ H1 Q I1 q1
 | false=>exact ⟨H1,I1,q1⟩
theorem iI (ha:PT X a tA)(hb:PW X (.BoolOp .Or (b::rest) pos) tB'):PW X (.BoolOp .Or (a::b::rest) pos) (tOr tA tB'):=by
 intro wh pins s σ H Q I h
 refine isTrue_or (cB (ha pins s σ H _ I h) fun c s1 ⟨H1,I1,q1⟩=>?_)
 cases c with
 | true=>exact ⟨H1,I1,q1⟩
 | false=>exact hb wh pins s1 σ H1 Q I1 q1
theorem df (ha:PT X a tA):PT X (.UnaryOp .Not a pos) (abn tA):=by
 intro pins s σ H Q I h
 exact isTrue_not (ha pins s σ H (fun c H1=>Q (!c) H1) I h)
def Tz (ta tb:TE):TE:=fun σ H Q=>ta σ H fun x H1=>∃c,x=.bl c/\if c=true then tb σ H1 Q else Q (.bl false) H1
theorem tF (h:PE X a t):PE X (.BoolOp op [a] pos) t:=fun pins s σ H Q I hw=>BoolOp_one (h pins s σ H Q I hw)
theorem tG (ha:PE X a ta)(hb:PE X (.BoolOp .And (b::rest) pos) tb):PE X (.BoolOp .And (a::b::rest) pos) (Tz ta tb):=by
 intro pins s σ H Q I h
 refine BoolOp_and (cB (ha pins s σ H _ I h) fun v s1 ⟨x,H1,I1,r1,q1⟩=>?_)
 obtain ⟨c,rfl,q1⟩:=q1
 cases r1
 refine afu ?_
 cases c with
 | true=>exact hb pins s1 σ H1 Q I1 q1
 | false=>exact ⟨.bl false,H1,I1,rfl,q1⟩
def tIf (t:TT)(ta tb:TE):TE:=fun σ H Q=>t σ H fun c H1=>if c=true then ta σ H1 Q else tb σ H1 Q
theorem vD (hc:PT X c tA)(ha:PE X a ta)(hb:PE X b tb):PE X (.IfExp c a b pos) (tIf tA ta tb):=by
 intro pins s σ H Q I h
 refine wpAny_IfExp (cB (hc pins s σ H _ I h) fun d s1 ⟨H1,I1,q1⟩=>?_)
 cases d with
 | true=>exact ha pins s1 σ H1 Q I1 q1
 | false=>exact hb pins s1 σ H1 Q I1 q1
end
end L2
namespace L2
open PySem PySem.Spec PyProof.Rows
def aV (K:Frag)(H:Hp)(a:aef)(xs:ε):Prop:=
 Rd H a (.lst xs)\/
  ∃(o:Obj)(its:Κ)(n:Nat),K.lookup a=some o/\o.cls=.type "list"/\o.dict=none/\o.data=.seq its n/\its.size<=ael/\Vals xs its.toList
def bJ (K:Frag)(H:Hp)(a:aef)(xs:ε):Prop:=
 Rd H a (.tup xs)\/
  ∃(o:Obj)(its:Κ)(n:Nat),K.lookup a=some o/\o.cls=.type "tuple"/\o.data=.seq its n/\its.size<=ael/\Vals xs its.toList
def abo:Value->Option V
 | .none=>some .cg
 | .bool b=>some (.bl b)
 | .int i _=>some (.int i)
 | .str x _=>some (.str x)
 | .bytes b _=>some (.byt b)
 | .float b _=>some (.OL b)
 | .ref a=>some (.ref a)
 | .type n=>some (.ty n)
 | _=>none
theorem RelV.abs (r:RelV x u):abo u=some x:=by
 cases x with
 | cg=>cases r;rfl
 | bl _=>cases r;rfl
 | int _=>obtain ⟨t,rfl⟩:=r;rfl
 | str _=>obtain ⟨t,rfl⟩:=r;rfl
 | byt _=>obtain ⟨t,rfl⟩:=r;rfl
 | OL _=>obtain ⟨t,rfl⟩:=r;rfl
 | ref _=>cases r;rfl
 | ty _=>cases r;rfl
theorem RelV.inj (r:RelV x u)(q:RelV y u):x=y:=aaA (r.abs.symm.trans q.abs)
theorem Vals.inj:∀{xs ys:ε} {us:ο},Vals xs us->Vals ys us->xs=ys
 | _,_,_,.nil,.nil=>rfl
 | _,_,_,.cons r t,.cons r' t'=>by rw [r.inj r',Vals.inj t t']
section
variable {X:Cx}{pins:ζ}{σ:St}{H:Hp}{s:aep}{a:aef}{xs ys:ε}
theorem aV.of {K:Frag}(h:H a=some (.lst xs)):aV K H a xs:=.inl (.inl h)
theorem bJ.of {K:Frag}(h:H a=some (.tup xs)):bJ K H a xs:=.inl (.inl h)
theorem Inv.list (I:Inv X pins σ H s)(h:aV X.K H a xs):∃its:List Value,Vals xs its/\PlainL s.heap a its.toArray/\xs.length<=ael:=by
 rcases h with h|⟨o,its,n,hk,hc,hd,hs,hz,r⟩
 ·obtain ⟨z,its,n,r,e⟩:=h.ok I.bO
  exact ⟨its,r,⟨_,n,e,rfl,rfl,rfl⟩,z⟩
 ·refine ⟨its.toList,r,⟨o,n,I.jG a o hk,hc,hd,by simpa using hs⟩,?_⟩
  have e:=r.length
  simp only [adR] at e
  omega
theorem Inv.tuple (I:Inv X pins σ H s)(h:bJ X.K H a xs):∃its:List Value,Vals xs its/\IsTup s.heap a its.toArray/\xs.length<=ael:=by
 rcases h with h|⟨o,its,n,hk,hc,hs,hz,r⟩
 ·obtain ⟨z,its,r,p⟩:=h.ok I.bO
  exact ⟨its,r,p,z⟩
 ·refine ⟨its.toList,r,⟨o,I.jG a o hk,hc,n,by simpa using hs⟩,?_⟩
  have e:=r.length
  simp only [adR] at e
  omega
theorem Inv.iJ (I:Inv X pins σ H s)(h:aV X.K H a xs)(h':aV X.K H a ys):xs=ys:=by
 obtain ⟨its,r,⟨o,n,e,_,_,d⟩,_⟩:=I.list h
 obtain ⟨its',r',⟨o',n',e',_,_,d'⟩,_⟩:=I.list h'
 rw [e] at e';cases e'
 rw [d] at d'
 injection d' with d1 _
 have:its=its':=by simpa using aeE ak7 d1
 subst this
 exact r.inj r'
theorem Inv.gF (I:Inv X pins σ H s)(h:bJ X.K H a xs)(h':bJ X.K H a ys):xs=ys:=by
 obtain ⟨its,r,⟨o,e,_,n,d⟩,_⟩:=I.tuple h
 obtain ⟨its',r',⟨o',e',_,n',d'⟩,_⟩:=I.tuple h'
 rw [e] at e';cases e'
 rw [d] at d'
 injection d' with d1 _
 have:its=its':=by simpa using aeE ak7 d1
 subst this
 exact r.inj r'
end
abbrev Cx.ra (X:Cx)(E:δ):Cx:={X with xe:=E}
abbrev Cx.vt (X:Cx):Cx:=X.ra fun _ _=>False
theorem Cx.Ok.ra {X:Cx}(ok:X.Ok)(E:δ):(X.ra E).Ok:=
 ⟨ok.mod,ok.kind,ok.glob,ok.blt,ok.above,ok.inj,ok.has,ok.Ts,ok.hd,ok.frames,ok.stk,ok.exf,ok.bs,ok.MG,ok.HM,ok.MI,ok.nj,ok.Qt⟩
theorem Cx.Ok.iK {X:Cx}(ok:(X.ra E).Ok):X.Ok:=
 ⟨ok.mod,ok.kind,ok.glob,ok.blt,ok.above,ok.inj,ok.has,ok.Ts,ok.hd,ok.frames,ok.stk,ok.exf,ok.bs,ok.MG,ok.HM,ok.MI,ok.nj,ok.Qt⟩
section
variable {X:Cx}{pins:ζ}{σ:St}{H:Hp}{s:aep}{E:δ}
theorem Inv.ra (I:Inv X pins σ H s)(E:δ):Inv (X.ra E) pins σ H s:=⟨I.ok.ra E,I.os,I.bare,I.base,I.loc,I.cell,I.free,I.iu,I.pin,I.bO,I.len⟩
theorem Inv.iK (I:Inv (X.ra E) pins σ H s):Inv X pins σ H s:=⟨I.ok.iK,I.os,I.bare,I.base,I.loc,I.cell,I.free,I.iu,I.pin,I.bO,I.len⟩
theorem SP.iK (h:SP (X.ra E) pins D f s'):SP X pins D f s':=by
 cases f with
 | next=>obtain ⟨σ',H',I,q⟩:=h;exact ⟨σ',H',I.iK,q⟩
 | brk=>obtain ⟨σ',H',I,q⟩:=h;exact ⟨σ',H',I.iK,q⟩
 | cont=>obtain ⟨σ',H',I,q⟩:=h;exact ⟨σ',H',I.iK,q⟩
 | ret u=>obtain ⟨v,σ',H',I,r,q⟩:=h;exact ⟨v,σ',H',I.iK,r,q⟩
theorem PSs.vt {st:List Stmt}(h:PSs X.vt st t):PSs X st t:=fun pins s σ H D I hw=>
 aeU (h pins s σ H D (I.ra _) hw) (fun _ _ q=>q.iK) fun _ _ z=>False.elim z
end
section
variable {X:Cx}{st:Stmt}{rest:List Stmt}{t u:TS}{e:Expr}{te:TE}{pos:Pos}
def OQ:TS:=fun D σ H=>D.nx σ H
def TB (t u:TS):TS:=fun D σ H=>t {D with nx:=u D} σ H
theorem aI:PSs X [] OQ:=fun _ _ σ H _ I h=>agt ⟨σ,H,I,h⟩
theorem aa (h1:PS X st t)(h2:PSs X rest u):PSs X (st::rest) (TB t u):=by
 intro pins s σ H D I h
 refine wpAny_execs_cons (cB (h1 pins s σ H {D with nx:=u D} I h) fun f s1 q=>?_)
 cases f with
 | next=>
  obtain ⟨σ',H',I',q⟩:=q
  exact h2 pins s1 σ' H' D I' q
 | ret v=>exact q
 | brk=>exact q
 | cont=>exact q
theorem ah (h1:PS X st t):PSs X [st] t:=by
 intro pins s σ H D I h
 refine wpAny_execs_cons (cB (h1 pins s σ H D I h) fun f s1 q=>?_)
 cases f with
 | next=>exact agt q
 | ret v=>exact q
 | brk=>exact q
 | cont=>exact q
def TC:TS:=fun D σ H=>D.ct σ H
theorem vE:PS X (.Continue pos) TC:=fun _ _ σ H _ I h=>wpAny_Continue ⟨σ,H,I,h⟩
theorem Inv.quiet {σ:St}(I:Inv X pins σ H s):interactive X.env=false:=by simp [interactive,I.ok.kind]
def TF (te:TE):TS:=fun D σ H=>te σ H fun _ H1=>D.nx σ H1
theorem bq (he:PE X e te)(hs:afN e none pos.line X.env=pure false:=by rfl):PS X (.Expr e pos) (TF te):=by
 intro pins s σ H D I h
 exact wpAny_Expr_any (cB (he pins s σ H _ I h) fun v s1 ⟨x,H1,I1,r1,q1⟩=>⟨σ,H1,I1,q1⟩) I.quiet hs
def abp (te:TE):TS:=fun D σ H=>te σ H D.rt
theorem aE (he:PE X e te):PS X (.Return (some e) pos) (abp te):=by
 intro pins s σ H D I h
 exact wpAny_Return_some (cB (he pins s σ H _ I h) fun v s1 ⟨x,H1,I1,r1,q1⟩=>⟨x,σ,H1,I1,r1,q1⟩)
def abq (c:TT)(t u:TS):TS:=fun D σ H=>c σ H fun b H1=>if b=true then t D σ H1 else u D σ H1
theorem bh (hc:PT X c tc)(ha:PSs X a t)(hb:PSs X b u):PS X (.If c a b pos) (abq tc t u):=by
 intro pins s σ H D I h
 refine wpAny_If (cB (hc pins s σ H _ I h) fun d s1 ⟨H1,I1,q1⟩=>?_)
 cases d with
 | true=>exact ha pins s1 σ H1 D I1 q1
 | false=>exact hb pins s1 σ H1 D I1 q1
def Qx:TS:=fun _ _ _=>False
theorem cY:PS X st Qx:=fun _ _ _ _ _ _ h=>h.elim
end
abbrev TG:=V->St->Hp->(St->Hp->Prop)->Prop
abbrev OR:=List V->St->Hp->(St->Hp->Prop)->Prop
def PG (X:Cx)(target:Expr)(t:TG):Prop:=
 ∀(pins:ζ)(s:aep)(σ:St)(H:Hp)(v:V)(u:Value)(Q:St->Hp->Prop),Inv X pins σ H s->RelV v u->t v σ H Q->
  aen (aes X.prog X.w) X.A (assign target X.env u) (fun _ s'=>∃σ' H',Inv X pins σ' H' s'/\Q σ' H') X.xe s
def TH (X:Cx)(ts:Δ)(t:OR):Prop:=
 ∀(pins:ζ)(s:aep)(σ:St)(H:Hp)(vs:ε)(us:ο)(Q:St->Hp->Prop),Inv X pins σ H s->Vals vs us->t vs σ H Q->
  aen (aes X.prog X.w) X.A (agl ((afY ts X.env).map (·.2)) us) (fun _ s'=>∃σ' H',Inv X pins σ' H' s'/\Q σ' H') X.xe s
abbrev Qy:=V->V->V->Hp->(Hp->Prop)->Prop
def TJ (X:Cx)(t:Qy):Prop:=
 ∀(pins:ζ)(s:aep)(σ:St)(H:Hp)(o i v:V)(ov iv u:Value)(Q:Hp->Prop),Inv X pins σ H s->RelV o ov->RelV i iv->RelV v u->t o i v H Q->
  aen (aes X.prog X.w) X.A (setItem ov iv u) (fun _ s'=>∃H',Inv X pins σ H' s'/\Q H') X.xe s
section
variable {X:Cx}{pos:Pos}
def b9 (i:Nat):TG:=fun v σ H Q=>Q (σ.set i (some v)) H
theorem fH (hN:X.N.Nodup)(hi:X.N[i]?=some x)(hx:Loc X.env.scope x)(hf:X.fn x=true\/X.env.scope.names.lookup x=some .local:=by first|exact .inl rfl|exact .inr rfl|assumption):PG X (.Name x pos) (b9 i):=by
 intro pins s σ H v u Q I r h
 exact wpAny_assign_Name (fU I hN hi hx r (fun s' I'=>⟨_,H,I',h⟩) hf)
def Qz:OR:=fun vs σ H Q=>vs=[]/\Q σ H
def vF (t:TG)(u:OR):OR:=fun vs σ H Q=>∃v r,vs=v::r/\t v σ H fun σ' H'=>u r σ' H' Q
theorem cU:TH X [] Qz:=by
 intro pins s σ H vs us Q I r h
 obtain ⟨e,h⟩:=h
 subst e
 cases r
 exact assignInOrder_nil ⟨σ,H,I,h⟩
theorem aZ (h1:PG X e t)(h2:TH X es u)
  (hs:(afY (e::es) X.env).map (·.2)=assign e X.env::(afY es X.env).map (·.2):=by rfl):TH X (e::es) (vF t u):=by
 intro pins s σ H vs us Q I r h
 obtain ⟨v,vr,e1,h⟩:=h
 subst e1
 cases r with
 | cons r rr=>
  rw [hs]
  refine afm (cB (h1 pins s σ H _ _ _ I r h) fun _ s1 ⟨σ1,H1,I1,q1⟩=>?_)
  exact h2 pins s1 σ1 H1 _ _ Q I1 rr q1
inductive HP (K:Frag)(n:Nat)(t:OR)(v:V)(σ:St)(H:Hp)(Q:(St->Hp->Prop)):Prop
|mk (a xs:_)(_:v=.ref a)(_:bJ K H a xs)(_:xs.length=n)(_:t xs σ H Q)
theorem eY {k:Nat}(hc:X.calm=true)(h:TH X es t)
  (hn:(afY es X.env).length=n:=by rfl) (MQ:(afY es X.env).findIdx? (·.1)=none:=by rfl):PG X (.Tuple es k pos) (HP X.K n t):=by
 intro pins s σ H v u Q I r hw
 obtain ⟨a,xs,e1,hq,hl,hw⟩:=hw
 subst e1
 cases r
 obtain ⟨its,rv,ht,hz⟩:=I.tuple hq
 refine assign_Tuple_tuple (I.ok.hd hc) ht (by simp [hn,<-hl,rv.length]) MQ fun h' hx=>?_
 have I1:Inv X pins σ H {s with heap:=h'}:=I.kept (t':=s.toks) fun b o e=>hx b o (aaM (aew e)) e
 exact h pins _ σ H xs _ Q I1 (by simpa using rv) hw
def abr (to ti:TE)(t:Qy):TG:=fun v σ H Q=>to σ H fun o H1=>ti σ H1 fun i H2=>t o i v H2 fun H3=>Q σ H3
theorem xS (ho:PE X o to)(hi:PE X i ti)(hs:TJ X t)
  (ha:∀v,assign (.Subscript o i pos) X.env v=(do
   let ov <- agp [v] (aeM o X.env)
   let iv <- agp [v,ov] (aeM i X.env)
   standAt pos
   agp [v,ov,iv] (setItem ov iv v)
   release [v,ov,iv] []):=by intro _;rfl):PG X (.Subscript o i pos) (abr to ti t):=by
 intro pins s σ H v u Q I r h
 rw [ha]
 refine aeg (ae5 (cB (ho pins s σ H _ I h) fun ov s1 ⟨x,H1,I1,r1,q1⟩=>?_))
 refine aeg (ae5 (cB (hi pins s1 σ H1 _ I1 q1) fun iv s2 ⟨y,H2,I2,r2,q2⟩=>?_))
 refine aeg (agm (aeg (ae5 (cB (hs pins s2 σ H2 x y v ov iv u _ I2 r1 r2 r q2) fun _ s3 ⟨H3,I3,q3⟩=>?_))))
 exact wpAny_release ⟨σ,H3,I3,q3⟩
def vG (te:TE)(g:TG):TS:=fun D σ H=>te σ H fun x H1=>g x σ H1 D.nx
theorem tH (he:PE X e te)(hg:PG X tg g)(hs:swapsWithSole [tg] e pos.line X.env=pure false:=by rfl)(hw:swappedStores [tg] e X.env=pure none:=by rfl)
  (h1:(afY [tg] X.env).map (·.2)=[assign tg X.env]:=by rfl):PS X (.Assign [tg] e pos) (vG te g):=by
 intro pins s σ H D I h
 refine wpAny_Assign_stores (cB (he pins s σ H _ I h) fun v s1 ⟨x,H1,I1,r1,q1⟩=>?_) hs hw
 rw [h1]
 exact cB (hg pins s1 σ H1 x v _ I1 r1 q1) fun _ s2 q=>q
theorem QC (hN:X.N.Nodup)(hi:X.N[i]?=some x)(hx:Loc X.env.scope x)(he:PE X e te)(hs:afN e (some (.Name x pos')) pos.line X.env=pure false:=by rfl)(hf:X.fn x=true\/X.env.scope.names.lookup x=some .local:=by first|exact .inl rfl|exact .inr rfl|assumption):
  PS X (.Assign [.Name x pos'] e pos) (vG te (b9 i)):=by
 intro pins s σ H D I h
 refine wpAny_Assign_Name (cB (he pins s σ H _ I h) fun v s1 ⟨y,H1,I1,r1,q1⟩=>?_) hs
 exact fU I1 hN hi hx r1 (fun s2 I2=>⟨_,H1,I2,q1⟩) hf
inductive OS (i:Nat)(j:Nat)(D:Ends)(σ:St)(vs:ε)(H1:Hp):Prop
|mk (v w:_)(_:vs=[v,w])(_:D.nx ((σ.set i (some v)).set j (some w)) H1)
def abu (i j:Nat)(ta:TA):TS:=fun D σ H=>ta σ H fun vs H1=>OS i j D σ vs H1
theorem QD (hc:X.calm=true)(hN:X.N.Nodup)(hi:X.N[i]?=some x)(hj:X.N[j]?=some y)(TK:i≠j)
  (hx:X.env.scope.names.lookup x=some .local) (hy:X.env.scope.names.lookup y=some .local) (ha:PA X [a,b] ta)
  (hw:swappedStores [.Tuple [.Name x px,.Name y py] kt pt] (.Tuple [a,b] k2 QE) X.env=pure (some [x,y]))
  (hs:swapsWithSole [.Tuple [.Name x px,.Name y py] kt pt] (.Tuple [a,b] k2 QE) pos.line X.env=pure false:=by rfl):
  PS X (.Assign [.Tuple [.Name x px,.Name y py] kt pt] (.Tuple [a,b] k2 QE) pos) (abu i j ta):=by
 intro pins s σ H D I h
 rw [exec_Assign_arm]
 refine aeg (agm ?_)
 rw [hs]
 refine aeg (aeo ?_)
 rw [aej (by decide)]
 refine aeg (Tuple_ (cB (ha _ pins s σ H _ I h) fun us s1 ⟨vs,H1,I1,r1,q1⟩=>?_))
 obtain ⟨v,w,e1,q1⟩:=q1
 subst e1
 obtain ⟨u1,u2,rfl,rv,mL⟩:∃u1 u2,us=[u1,u2]/\RelV v u1/\RelV w u2:=by
  cases r1 with
  | cons p q=>
   cases q with
   | cons p' q'=>
    cases q'
    exact ⟨_,_,rfl,p,p'⟩
 refine afi ?_ (by show 2<=ael;decide)
 have I2:Inv X pins σ H1 {s1 with heap:=s1.heap.push {cls:=.type "tuple",data:=.seq [u1,u2].toArray}}:=I1.kept (t':=s1.toks) fun b o e=>aeh _ e
 rw [hw]
 refine aeg (aeo ?_)
 show aen (aes X.prog X.w) X.A (do rule "assign.swapped-stores";let items <- unpackItems (.ref s1.heap.objs.size) 2 none;agl [fun v=>afZ X.env y v,fun v=>afZ X.env x v] items.reverse;pure Flow.next) _ _ _
 refine aeg (wpAny_rule (aeg (unpackItems_tuple (items:= #[u1,u2]) (I.ok.hd hc) (IsTup.new s1.heap _) fun h' xT =>?_)))
 have I3:=I2.kept (h':=h') (t':=s1.toks) fun b o e=>xT b o (aaM (aew e)) e
 show aen _ _ (agl [fun v=>afZ X.env y v,fun v=>afZ X.env x v] [u2,u1] >>=fun _=>pure Flow.next) _ _ _
 refine aeg (afm (agb (fU I3 hN hj (.inl hy) mL (fun s2 I4=>?_) (.inr hy))))
 refine afm (agb (fU I4 hN hi (.inl hx) rv (fun s3 I5=>assignInOrder_nil (aeo ?_)) (.inr hx)))
 rw [aec _ _ (aaD TK)] at I5
 exact ⟨_,H1,I5,q1⟩
def HQ (c:TT)(tb:TS):TS:=fun D σ H=>∃W:Nat->St->Hp->Prop,(∃m,W m σ H)/\∀m σ H,W m σ H->
 c σ H fun b H1=>if b=true then ∃N:St->Hp->Prop,(∀σ' H',N σ' H' ->∃m',m'<m/\W m' σ' H')/\tb {D with nx:=N,ct:=N,bk:=D.nx} σ H1 else D.nx σ H1
theorem oH (hp:PassesOwn (aes X.prog X.w) X.A X.env X.xe)(hc:PT X c tc)(hb:PSs X body tb):PS X (.While c body [] pos) (HQ tc tb):=by
 intro pins s σ H D I h
 obtain ⟨W,⟨m0,w0⟩,turn⟩:=h
 refine wpAny_While (codeAny_whileLoop (fun n s'=>∃σ' H',Inv X pins σ' H' s'/\W n σ' H') ?_ m0 ⟨σ,H,I,w0⟩)
 rintro n s1 ⟨σ1,H1,I1,w1⟩
 refine afs hp (cB (hc pins s1 σ1 H1 _ I1 (turn n σ1 H1 w1)) fun b s2 ⟨H2,I2,q2⟩=>?_)
 cases b with
 | true=>
  obtain ⟨N,hN,q2⟩:=q2
  rw [aek rfl]
  refine afs hp (cB (hb pins s2 σ1 H2 _ I2 q2) fun f s3 q3=>?_)
  cases f with
  | next=>
   obtain ⟨σ3,H3,I3,n3⟩:=q3
   obtain ⟨m',hm,w3⟩:=hN σ3 H3 n3
   exact ⟨m',hm,σ3,H3,I3,w3⟩
  | cont=>
   obtain ⟨σ3,H3,I3,n3⟩:=q3
   obtain ⟨m',hm,w3⟩:=hN σ3 H3 n3
   exact ⟨m',hm,σ3,H3,I3,w3⟩
  | brk=>exact q3
  | ret v=>exact q3
 | false=>
  rw [aej aaC]
  exact agt ⟨σ1,H2,I2,q2⟩
end
structure It where
 go:Nat->Hp->Prop
 GU:Nat->Hp->V->Hp->Prop
 stop:Nat->Hp->Prop
def iL (X:Cx)(pins:ζ)(H:Hp)(b:aef):Prop:=
 H b=none/\b≠X.env.locals/\b∉X.fs/\(b∈X.ex\/X.s₀.heap.objs.size<=b)/\(∀x c,X.env.cells.lookup x=some c->c≠b)/\∀p∈X.pn++pins,p.1≠b
theorem Inv.lH {σ:St}{b:aef}(I:Inv X pins σ H s)(hb:s.heap.objs.size<=b)(hn:H' b=none):iL X pins H' b:=by
 refine ⟨hn,acz (aaB I.lt hb),I.abi hb,.inr (aak I.sz hb),fun x c e z=>?_,fun p hp z=>?_⟩
 ·obtain ⟨v,q⟩:=I.cell x c e
  exact aet (aaB q.lt (by rw [z];exact hb)) (aa3 _)
 ·exact aet (aaB (aew (I.pin p hp).1) (by rw [z];exact hb)) (aa3 _)
structure Turn (P:aeB)(w:World)(K:Frag)(tg:Expr)(J:It)(fp:χ)(it:aef)(tn:Nat->Heap->Prop):Prop where
 mem:it∈fp
 obj:∀i h,tn i h->∀b∈fp,∃o,h.get? b=some o/\∀v,o.data≠.cell v
 keep:∀i h h',tn i h->(∀b∈fp,∀o,h.get? b=some o->h'.get? b=some o)->tn i h'
 item:∀(X:Cx),X.prog=P->X.w=w->X.K=K->X.calm=true->∀(i:Nat)(pins:ζ)(s:aep)(σ:St)(H:Hp)(E:δ),Inv X pins σ H s->(∀b∈fp,iL X pins H b)->tn i s.heap->J.go i H->
  aen (aes P w) X.A (af2 (.ref it)) (fun r s1=>∃u,r=some u/\
   aen (aes P w) X.A (agu tg (.ref it) u) (fun _ s2=>∃x H',Inv X pins σ H' s2/\RelV x u/\J.GU i H x H'/\tn (i+1) s2.heap/\∀b∈fp,H' b=none) E s1) E s
 done:∀(X:Cx),X.prog=P->X.w=w->X.K=K->X.calm=true->∀(i:Nat)(pins:ζ)(s:aep)(σ:St)(H:Hp)(E:δ),Inv X pins σ H s->(∀b∈fp,iL X pins H b)->tn i s.heap->J.stop i H->
  aen (aes P w) X.A (af2 (.ref it)) (fun r s1=>r=none/\Inv X pins σ H s1) E s
 self:∀(A:aeI)(i:Nat)(s:aep)(Q:δ)(E:δ),tn i s.heap->Q (.ref it) s->aen (aes P w) A (pyIter (.ref it)) Q E s
abbrev TI:=St->Hp->(It->Hp->Prop)->Prop
def PIE (X:Cx)(pins:ζ)(σ:St)(tg:Expr)(R:It->Hp->Prop)(itv:Value)(s2:aep):Prop:=
 ∃(it:aef)(fp:χ)(tn:Nat->Heap->Prop)(J:It)(H':Hp),itv=.ref it/\Inv X pins σ H' s2/\Turn X.prog X.w X.K tg J fp it tn/\tn 0 s2.heap/\(∀b∈fp,iL X pins H' b)/\R J H'
def PI (X:Cx)(tg iter:Expr)(wi:TI):Prop:=
 ∀(pins:ζ)(s:aep)(σ:St)(H:Hp)(R:It->Hp->Prop),Inv X pins σ H s->wi σ H R->
  aen (aes X.prog X.w) X.A (aeM iter X.env) (fun v s1=>aen (aes X.prog X.w) X.A (pyIter v) (PIE X pins σ tg R) X.xe s1) X.xe s
theorem zC            (ho : s.heap.get? it = some o) (hc : o.cls = .type n) (hd : o.data = .fields vs)
    (hn : ["enumerate", "zip", "dict_itemiterator", "dict_reverseitemiterator", "odict_iterator", "itertools.zip_longest", "itertools.pairwise"].contains n = false) (hQ : Q () s) : aen M A (agu tg (.ref it) u) Q E s := by
  unfold agu
  cases tg<;>first
    | exact aeo hQ
    | (cases u<;>first
        | exact aeo hQ
        | (refine aeg (wpAny_load ho ?_)
           rw [hc, hd]
           show aen M A (if (["enumerate", "zip", "dict_itemiterator", "dict_reverseitemiterator", "odict_iterator", "itertools.zip_longest", "itertools.pairwise"].contains n && vs[0]? == some (afE _)) = true then _ else _) Q E s
           rw [aej (by intro h; rw [hn, Bool.false_and] at h; cases h)]
           exact aeo hQ))
def MR (K:Frag)(a:aef):It:=
 ⟨fun i H=>∃xs x,aV K H a xs/\xs[i]?=some x,fun i H x H'=>H'=H/\∀xs,aV K H a xs->xs[i]?=some x,fun i H=>∃xs,aV K H a xs/\xs.length<=i⟩
def TL (K:Frag)(a:aef):It:=
 ⟨fun i H=>∃xs x,bJ K H a xs/\xs[i]?=some x,fun i H x H'=>H'=H/\∀xs,bJ K H a xs->xs[i]?=some x,fun i H=>∃xs,bJ K H a xs/\xs.length<=i⟩
def OT (lo:Int)(n:Nat):It:=⟨fun i _=>i<n,fun i H x H'=>H'=H/\x=.int (lo+i),fun i _=>n<=i⟩
theorem BZ {K:Frag}(a it:aef):Turn P w K tg (MR K a) [it] it (fun i h=>h.IsListIter it a i) where
 mem:=by simp
 obj:=fun i h st b hb=>by
  have e:b=it:=by simpa using hb
  subst e
  obtain ⟨o,e,c,d⟩:=st
  exact ⟨o,e,fun v z=>by rw [d] at z;cases z⟩
 keep:=fun i h h' st k=>st.at fun o e=>k it (by simp) o e
 item:=by
  intro X hP hw hK hc i pins s σ H E I hf st hg
  subst hP hw hK
  obtain ⟨xs,x,hq,hx⟩:=hg
  obtain ⟨its,rv,p,hz⟩:=I.list hq
  obtain ⟨u,hu,ru⟩:=rv.get hx
  obtain ⟨f0,f1,f2,f3,f4,f5⟩:=hf it (by simp)
  refine wpAny_pyNext_list_item st p.isList (x:=u) (by simpa using hu) fun h' xF sb=>?_
  have I1:Inv X pins σ H {s with heap:=h'}:=I.turned (t':=s.toks) (fun b o hb e=>(sb.2 b hb).trans e) f0 f1 f3 f4 f5
  obtain ⟨o,e,c,d⟩:=id xF
  exact ⟨u,rfl,zC (s:={s with heap:=h'}) e c d (by decide) ⟨x,H,I1,ru,⟨rfl,fun ys hy=>by rw [I.iJ hy hq];exact hx⟩,xF,fun b hb=>(hf b hb).1⟩⟩
 done:=by
  intro X hP hw hK hc i pins s σ H E I hf st hg
  subst hP hw hK
  obtain ⟨xs,hq,hx⟩:=hg
  obtain ⟨its,rv,p,hz⟩:=I.list hq
  obtain ⟨f0,f1,f2,f3,f4,f5⟩:=hf it (by simp)
  have hl:=rv.length
  exact wpAny_pyNext_list_end (I.ok.hd hc) st p.isList (by simp;omega) fun h' eb=>⟨rfl,I.turned (t':=s.toks) (fun b o hb e=>eb b o hb e) f0 f1 f3 f4 f5⟩
 self:=fun _ _ _ _ _ st h=>wpAny_pyIter_listiter st h
theorem xU {K:Frag}(a it:aef):Turn P w K tg (TL K a) [it] it (fun i h=>h.IsTupleIter it a i) where
 mem:=by simp
 obj:=fun i h st b hb=>by
  have e:b=it:=by simpa using hb
  subst e
  obtain ⟨o,e,c,d⟩:=st
  exact ⟨o,e,fun v z=>by rw [d] at z;cases z⟩
 keep:=fun i h h' st k=>st.at fun o e=>k it (by simp) o e
 item:=by
  intro X hP hw hK hc i pins s σ H E I hf st hg
  subst hP hw hK
  obtain ⟨xs,x,hq,hx⟩:=hg
  obtain ⟨its,rv,p,hz⟩:=I.tuple hq
  obtain ⟨u,hu,ru⟩:=rv.get hx
  obtain ⟨f0,f1,f2,f3,f4,f5⟩:=hf it (by simp)
  refine wpAny_pyNext_tuple_item st (show s.heap.IsTuple a its.toArray from p) (x:=u) (by simpa using hu) fun h' xF sb=>?_
  have I1:Inv X pins σ H {s with heap:=h'}:=I.turned (t':=s.toks) (fun b o hb e=>(sb.2 b hb).trans e) f0 f1 f3 f4 f5
  obtain ⟨o,e,c,d⟩:=id xF
  exact ⟨u,rfl,zC (s:={s with heap:=h'}) e c d (by decide) ⟨x,H,I1,ru,⟨rfl,fun ys hy=>by rw [I.gF hy hq];exact hx⟩,xF,fun b hb=>(hf b hb).1⟩⟩
 done:=by
  intro X hP hw hK hc i pins s σ H E I hf st hg
  subst hP hw hK
  obtain ⟨xs,hq,hx⟩:=hg
  obtain ⟨its,rv,p,hz⟩:=I.tuple hq
  obtain ⟨f0,f1,f2,f3,f4,f5⟩:=hf it (by simp)
  have hl:=rv.length
  exact wpAny_pyNext_tuple_end (I.ok.hd hc) st (show s.heap.IsTuple a its.toArray from p) (by simp;omega) fun h' eb=>⟨rfl,I.turned (t':=s.toks) (fun b o hb e=>eb b o hb e) f0 f1 f3 f4 f5⟩
 self:=fun _ _ _ _ _ st h=>wpAny_pyIter_tupleiter st h
theorem xV {K:Frag}(it:aef)(lo:Int)(n:Nat):Turn P w K tg (OT lo n) [it] it (fun i h=>IsRangeIter h it (lo+(i:Nat)*1) ((n:Int)-(i:Nat)) 1) where
 mem:=by simp
 obj:=fun i h st b hb=>by
  have e:b=it:=by simpa using hb
  subst e
  exact ⟨_,st,fun v z=>by
   have z':Data.fields _=Data.cell v:=z
   cases z'⟩
 keep:=fun i h h' st k=>k it (by simp) _ st
 item:=by
  intro X hP hw hK hc i pins s σ H E I hf st hg
  subst hP hw hK
  obtain ⟨f0,f1,f2,f3,f4,f5⟩:=hf it (by simp)
  have W:=Walks.range (prog:=X.prog) (w:=X.w) (I.ok.hd hc) it lo 1 n
  refine W.item i s _ _ hg st fun v h' tk hv xF kk=>?_
  obtain ⟨t,rfl⟩:=hv
  have I1:Inv X pins σ H {s with heap:=h',toks:=tk}:=I.turned (fun b o hb e=>kk b o (by simpa using hb) e) f0 f1 f3 f4 f5
  refine ⟨_,rfl,zC (s:={s with heap:=h',toks:=tk}) (n:="range_iterator") xF rfl rfl (by decide) ⟨.int (lo+i),H,I1,⟨t,?_⟩,⟨rfl,rfl⟩,xF,fun b hb=>(hf b hb).1⟩⟩
  rw [Int.mul_one]
 done:=by
  intro X hP hw hK hc i pins s σ H E I hf st hg
  subst hP hw hK
  obtain ⟨f0,f1,f2,f3,f4,f5⟩:=hf it (by simp)
  exact wpAny_pyNext_range_end (I.ok.hd hc) st (by have:n<=i:=hg;omega) fun h' eb=>⟨rfl,I.turned (t':=s.toks) (fun b o hb e=>eb b o hb e) f0 f1 f3 f4 f5⟩
 self:=fun _ _ _ _ _ st h=>wpAny_pyIter_rangeiter st h
end L2
namespace L2
open PySem PySem.Spec PyProof.Rows
section
variable {X:Cx}{tg:Expr}
inductive HR (K:Frag)(R:(It->Hp->Prop))(x:V)(H1:Hp):Prop
|mk (a:_)(_:x=.ref a)(_:(∃xs,aV K H1 a xs))(_:R (MR K a) H1)
def OU (K:Frag)(tl:TE):TI:=fun σ H R=>tl σ H fun x H1=>HR K R x H1
inductive OV (K:Frag)(R:(It->Hp->Prop))(x:V)(H1:Hp):Prop
|mk (a:_)(_:x=.ref a)(_:(∃xs,bJ K H1 a xs))(_:R (TL K a) H1)
def abv (K:Frag)(tl:TE):TI:=fun σ H R=>tl σ H fun x H1=>OV K R x H1
theorem bx (hl:PE X l tl):PI X tg l (OU X.K tl):=by
 intro pins s σ H R I h
 refine cB (hl pins s σ H _ I h) fun v s1 ⟨x,H1,I1,r1,q1⟩=>?_
 obtain ⟨a,e,⟨xs,hq⟩,q⟩:=q1
 subst e
 cases r1
 obtain ⟨its,rv,p,hz⟩:=I1.list hq
 refine agf p.isList ?_
 refine ⟨s1.heap.objs.size,[s1.heap.objs.size],_,_,H1,rfl,I1.kept (t':=s1.toks) fun b o e=>aeh _ e,BZ a _,⟨_,aez _ rfl,rfl,rfl⟩,fun b hb=>?_,q⟩
 have e:b=s1.heap.objs.size:=by simpa using hb
 subst e
 exact I1.lH (aal _) (I1.bO.fresh (aal _))
theorem QF (hl:PE X l tl):PI X tg l (abv X.K tl):=by
 intro pins s σ H R I h
 refine cB (hl pins s σ H _ I h) fun v s1 ⟨x,H1,I1,r1,q1⟩=>?_
 obtain ⟨a,e,⟨xs,hq⟩,q⟩:=q1
 subst e
 cases r1
 obtain ⟨its,rv,p,hz⟩:=I1.tuple hq
 refine wpAny_pyIter_tuple (show s1.heap.IsTuple a its.toArray from p) ?_
 refine ⟨s1.heap.objs.size,[s1.heap.objs.size],_,_,H1,rfl,I1.kept (t':=s1.toks) fun b o e=>aeh _ e,xU a _,⟨_,aez _ rfl,rfl,rfl⟩,fun b hb=>?_,q⟩
 have e:b=s1.heap.objs.size:=by simpa using hb
 subst e
 exact I1.lH (aal _) (I1.bO.fresh (aal _))
theorem HS {σ:St}{E:δ}{lo hi:Int}(I:Inv X pins σ H s)(h1: -(2^62)<=lo)(h2:lo<2^62)(h3: -(2^62)<=hi)(h4:hi<2^62)
  (q:R (OT lo (hi-lo).toNat) H):aen (aes X.prog X.w) X.A (pyIter (.ref s.heap.objs.size)) (PIE X pins σ tg R) E {s with heap:=s.heap.push {cls:=.type "range",data:=.fields #[.int lo t,.int hi u,.int 1 v]},toks:=tk}:=by
 refine wpAny_pyIter_range (IsRange.new ..) (small_one h1 h2 h3 h4) ?_
 have I1:Inv X pins σ H {s with heap:=s.heap.push {cls:=.type "range",data:=.fields #[.int lo t,.int hi u,.int 1 v]},toks:=tk}:=I.kept fun b o e=>aeh _ e
 refine ⟨(s.heap.push {cls:=.type "range",data:=.fields #[.int lo t,.int hi u,.int 1 v]}).objs.size,[(s.heap.push {cls:=.type "range",data:=.fields #[.int lo t,.int hi u,.int 1 v]}).objs.size],_,_,H,rfl,
  I1.kept (t':=tk) fun b o e=>aeh _ e,xV _ lo (hi-lo).toNat,?_,fun b hb=>?_,q⟩
 ·have e1:lo+((0:Nat):Int)*1=lo:=by simp
  have e2:(((hi-lo).toNat:Nat):Int)-((0:Nat):Int)=Builtin.Range.rangeSize lo hi 1:=by rw [rangeSize_one];split<;>omega
  show IsRangeIter _ _ (lo+((0:Nat):Int)*1) ((((hi-lo).toNat:Nat):Int)-((0:Nat):Int)) 1
  rw [e1,e2]
  exact aez _ rfl
 ·have e:b=(s.heap.push {cls:=.type "range",data:=.fields #[.int lo t,.int hi u,.int 1 v]}).objs.size:=by simpa using hb
  subst e
  exact I1.lH (aal _) (I1.bO.fresh (aal _))
inductive HU (R:(It->Hp->Prop))(vs:ε)(H1:Hp):Prop
|mk (j:Int)(_:vs=[.int j])(_: -(2^62)<=j)(_:j<2^62)(_:R (OT 0 j.toNat) H1)
def TM (ta:TA):TI:=fun σ H R=>ta σ H fun vs H1=>HU R vs H1
theorem bK (hg:Gl X "range")(hm:X.mg "range"=none)(ha:PA X [a] ta)(hs:aeA [a] X.env=[(false,aeM a X.env)]:=by rfl):PI X tg (.Call (.Name "range" p) [a] [] pos) (TM ta):=by
 intro pins s σ H R I h
 refine Call_ (gS I hg hm boot_range (aeZ (cB (ha pos pins s σ H _ I h) fun us s1 ⟨vs,H1,I1,r1,q1⟩=>?_) hs rfl))
 obtain ⟨j,e,q1,q2,q⟩:=q1
 subst e
 cases r1 with
 | cons r rr=>
  cases rr
  obtain ⟨t,rfl⟩:=r
  exact call_range_1 (HS I1 (by omega) (by omega) q1 q2 (by simpa using q))
def abw (wi:TI)(g:TG)(tb:TS):TS:=fun D σ H=>wi σ H fun J H1=>∃W:Nat->Nat->St->Hp->Prop,(∃m,W 0 m σ H1)/\∀i m σ H,W i m σ H->
 (J.stop i H/\D.nx σ H)\/(J.go i H/\∃N:St->Hp->Prop,(∀σ' H',N σ' H' ->∃m',m'<m/\W (i+1) m' σ' H')/\∀x H',J.GU i H x H' ->g x σ H' fun σ2 H2=>tb {D with nx:=N,ct:=N,bk:=D.nx} σ2 H2)
def oI (fp:χ)(h:Heap):List (aef×Obj):=fp.filterMap fun b=>(h.get? b).map fun o=>(b,o)
theorem gT (hb:b∈fp)(e:h.get? b=some o):(b,o)∈oI fp h:=adY.mpr ⟨b,hb,by rw [e];rfl⟩
theorem B_ (hp:p∈oI fp h):p.1∈fp/\h.get? p.1=some p.2:=by
 obtain ⟨b,hb,e⟩:=adY.mp hp
 cases q:h.get? b with
 | none=>rw [q] at e;cases e
 | some o=>
  rw [q] at e
  have e':(b,o)=p:=aaA e
  subst e'
  exact ⟨hb,q⟩
theorem Inv.pinned {σ:St}(I:Inv X pins σ H s)(hf:∀b∈fp,iL X pins H b)(ho:∀b∈fp,∃o,s.heap.get? b=some o/\∀v,o.data≠.cell v):Inv X (pins++oI fp s.heap) σ H s:=
 I.zB fun p hp=>(aau.mp hp).elim (fun z=>I.pin p (aaN _ z)) fun z=>by
  obtain ⟨hb,e⟩:=B_ z
  obtain ⟨f0,f1,f2,_⟩:=hf p.1 hb
  obtain ⟨o,e',d⟩:=ho p.1 hb
  rw [e] at e';cases e'
  exact ⟨e,f0,f1,f2,d⟩
theorem Inv.iM {σ:St}(I:Inv X (pins++pl) σ H s):Inv X pins σ H s:=I.zB fun p hp=>I.pin p (aaN _ (aaK _ hp))
theorem bC (hp:PassesOwn (aes X.prog X.w) X.A X.env X.xe)(hc:X.calm=true)(hi:PI X tg iter wi)(hg:PG X tg g)(hb:PSs X body tb)
  (hs:∀x,ae3 iter X.env x=pure x:=by intro _;rfl):PS X (.For tg iter body [] pos) (abw wi g tb):=by
 intro pins s σ H D I h
 refine wpAny_For (cB (hi pins s σ H _ I h) fun v s1 h1=>cB h1 fun itv s2 h2=>?_) hs
 obtain ⟨it,fp,tn,J,H2,e,I2,T,ji,f2,W,⟨m0,w0⟩,turn⟩:=h2
 subst e
 have stat:∀{H':Hp},(∀b∈fp,H' b=none)->∀b∈fp,iL X pins H' b:=fun hn b hb=>⟨hn b hb,(f2 b hb).2⟩
 refine codeAny_forLoop_any (fun n s'=>∃i σ' H',Inv X pins σ' H' s'/\tn i s'.heap/\(∀b∈fp,H' b=none)/\W i n σ' H') ?_ m0 ⟨0,σ,H2,I2,ji,fun b hb=>(f2 b hb).1,w0⟩
 rintro n s3 ⟨i,σ3,H3,I3,MS,Mc,w3⟩
 rcases turn i n σ3 H3 w3 with ⟨stop,qn⟩|⟨go,N,hN,step⟩
 ·refine afs hp (cB (T.done X rfl rfl rfl hc i pins s3 σ3 H3 X.xe I3 (stat Mc) MS stop) fun r s4 ⟨hr,I4⟩=>?_)
  subst hr
  exact agt ⟨σ3,H3,I4,qn⟩
 ·refine afs hp (cB (T.item X rfl rfl rfl hc i pins s3 σ3 H3 X.xe I3 (stat Mc) MS go) fun r s4 ⟨u,hr,h4⟩=>?_)
  subst hr
  refine afs hp (cB h4 fun _ s5 ⟨x,H5,I5,r5,y5,MT,fr5⟩=>?_)
  have I5':=I5.pinned (stat fr5) (T.obj _ _ MT)
  refine afs hp (cB (hg _ s5 σ3 H5 x u _ I5' r5 (step x H5 y5)) fun _ s6 ⟨σ6,H6,I6,q6⟩=>?_)
  refine afs hp (cB (hb _ s6 σ6 H6 _ I6 q6) fun f s7 q7=>?_)
  have again:∀{σ7:St} {H7:Hp},Inv X (pins++oI fp s5.heap) σ7 H7 s7->N σ7 H7->∃m,m<n/\∃i σ' H',Inv X pins σ' H' s7/\tn i s7.heap/\(∀b∈fp,H' b=none)/\W i m σ' H':=fun {σ7 H7} I7 n7=>by
   obtain ⟨m',hm,w7⟩:=hN σ7 H7 n7
   refine ⟨m',hm,i+1,σ7,H7,I7.iM,T.keep _ _ _ MT fun b hb o e=>(I7.pin (b,o) (aaN _ (aaN _ (gT hb e)))).1,fun b hb=>?_,w7⟩
   obtain ⟨o,e,d⟩:=T.obj _ _ MT b hb
   exact (I7.pin (b,o) (aaN _ (aaN _ (gT hb e)))).2.1
  cases f with
  | next=>obtain ⟨σ7,H7,I7,n7⟩:=q7;exact again I7 n7
  | cont=>obtain ⟨σ7,H7,I7,n7⟩:=q7;exact again I7 n7
  | brk=>obtain ⟨σ7,H7,I7,q7⟩:=q7;exact ⟨σ7,H7,I7.iM,q7⟩
  | ret v=>obtain ⟨x7,σ7,H7,I7,r7,q7⟩:=q7;exact ⟨x7,σ7,H7,I7.iM,r7,q7⟩
end
theorem ck {K:Frag}{g:TG}{tb:TS}{D:Ends}(Pv:Nat->St->Hp->Prop)(h0:Pv 0 σ H)(hl:∀i σ H,i<=xs.length->Pv i σ H->aV K H a xs)
  (hs:∀i x σ H,xs[i]?=some x->Pv i σ H->g x σ H fun σ2 H2=>tb {D with nx:=Pv (i+1),ct:=Pv (i+1),bk:=D.nx} σ2 H2) (hd:∀σ H,Pv xs.length σ H->D.nx σ H):
  ∃W:Nat->Nat->St->Hp->Prop,(∃m,W 0 m σ H)/\∀i m σ H,W i m σ H->
   ((MR K a).stop i H/\D.nx σ H)\/((MR K a).go i H/\∃N:St->Hp->Prop,(∀σ' H',N σ' H' ->∃m',m'<m/\W (i+1) m' σ' H')/\∀x H',(MR K a).GU i H x H' ->g x σ H' fun σ2 H2=>tb {D with nx:=N,ct:=N,bk:=D.nx} σ2 H2):=by
 refine ⟨fun i m σ H=>m=xs.length-i/\i<=xs.length/\Pv i σ H,⟨xs.length,by simp,aaS _,h0⟩,?_⟩
 rintro i m σ H ⟨rfl,hi,p⟩
 have q:=hl i σ H hi p
 by_cases lj:i<xs.length
 ·refine .inr ⟨⟨xs,xs[i],q,by simp [lj]⟩,Pv (i+1),fun σ' H' p'=>⟨xs.length-(i+1),by omega,rfl,lj,p'⟩,fun x H' y=>?_⟩
  obtain ⟨e,y⟩:=y
  subst e
  exact hs i x σ _ (y xs q) p
 ·have e:i=xs.length:=by omega
  subst e
  exact .inl ⟨⟨xs,q,aal _⟩,hd σ H p⟩
theorem MU {K:Frag}{g:TG}{tb:TS}{D:Ends}(Pv:Nat->St->Hp->Prop)(h0:Pv 0 σ H)(hl:∀i σ H,i<=xs.length->Pv i σ H->bJ K H a xs)
  (hs:∀i x σ H,xs[i]?=some x->Pv i σ H->g x σ H fun σ2 H2=>tb {D with nx:=Pv (i+1),ct:=Pv (i+1),bk:=D.nx} σ2 H2) (hd:∀σ H,Pv xs.length σ H->D.nx σ H):
  ∃W:Nat->Nat->St->Hp->Prop,(∃m,W 0 m σ H)/\∀i m σ H,W i m σ H->
   ((TL K a).stop i H/\D.nx σ H)\/((TL K a).go i H/\∃N:St->Hp->Prop,(∀σ' H',N σ' H' ->∃m',m'<m/\W (i+1) m' σ' H')/\∀x H',(TL K a).GU i H x H' ->g x σ H' fun σ2 H2=>tb {D with nx:=N,ct:=N,bk:=D.nx} σ2 H2):=by
 refine ⟨fun i m σ H=>m=xs.length-i/\i<=xs.length/\Pv i σ H,⟨xs.length,by simp,aaS _,h0⟩,?_⟩
 rintro i m σ H ⟨rfl,hi,p⟩
 have q:=hl i σ H hi p
 by_cases lj:i<xs.length
 ·refine .inr ⟨⟨xs,xs[i],q,by simp [lj]⟩,Pv (i+1),fun σ' H' p'=>⟨xs.length-(i+1),by omega,rfl,lj,p'⟩,fun x H' y=>?_⟩
  obtain ⟨e,y⟩:=y
  subst e
  exact hs i x σ _ (y xs q) p
 ·have e:i=xs.length:=by omega
  subst e
  exact .inl ⟨⟨xs,q,aal _⟩,hd σ H p⟩
theorem bX {lo:Int}{g:TG}{tb:TS}{D:Ends}(Pv:Nat->St->Hp->Prop)(h0:Pv 0 σ H)
  (hs:∀i σ H,i<n->Pv i σ H->g (.int (lo+i)) σ H fun σ2 H2=>tb {D with nx:=Pv (i+1),ct:=Pv (i+1),bk:=D.nx} σ2 H2) (hd:∀σ H,Pv n σ H->D.nx σ H):
  ∃W:Nat->Nat->St->Hp->Prop,(∃m,W 0 m σ H)/\∀i m σ H,W i m σ H->
   ((OT lo n).stop i H/\D.nx σ H)\/((OT lo n).go i H/\∃N:St->Hp->Prop,(∀σ' H',N σ' H' ->∃m',m'<m/\W (i+1) m' σ' H')/\∀x H',(OT lo n).GU i H x H' ->g x σ H' fun σ2 H2=>tb {D with nx:=N,ct:=N,bk:=D.nx} σ2 H2):=by
 refine ⟨fun i m σ H=>m=n-i/\i<=n/\Pv i σ H,⟨n,by simp,aaS _,h0⟩,?_⟩
 rintro i m σ H ⟨rfl,hi,p⟩
 by_cases lj:i<n
 ·refine .inr ⟨lj,Pv (i+1),fun σ' H' p'=>⟨n-(i+1),by omega,rfl,lj,p'⟩,fun x H' y=>?_⟩
  obtain ⟨e,y⟩:=y
  subst e y
  exact hs i σ _ lj p
 ·have e:i=n:=by omega
  subst e
  exact .inl ⟨aal _,hd σ H p⟩
theorem vH (Pv:St->Hp->Prop)(μ:St->Hp->Nat)(h0:Pv σ H)
  (hs:∀σ H,Pv σ H->c σ H fun b H1=>if b=true then tb {D with nx:=fun σ' H'=>Pv σ' H'/\μ σ' H' < μ σ H,ct:=fun σ' H'=>Pv σ' H'/\μ σ' H' < μ σ H,bk:=D.nx} σ H1 else D.nx σ H1)
  (mono:∀σ H Q Q',(∀b H1,Q b H1->Q' b H1)->c σ H Q->c σ H Q'):HQ c tb D σ H:=by
 refine ⟨fun m σ H=>m=μ σ H/\Pv σ H,⟨_,rfl,h0⟩,?_⟩
 rintro m σ H ⟨rfl,p⟩
 refine mono σ H _ _ (fun b H1 q=>?_) (hs σ H p)
 cases b with
 | true=>exact ⟨_,fun σ' H' ⟨p',l⟩=>⟨_,l,rfl,p'⟩,q⟩
 | false=>exact q
end L2
namespace L2
open PySem PySem.Spec PyProof.Rows
abbrev R2:=V->V->Hp->VK->Prop
def i7 (X:Cx)(f:Value->Value->Sem Value)(r:R2):Prop:=
 ∀(pins:ζ)(s:aep)(σ:St)(H:Hp)(x y:V)(v u:Value)(Q:VK),Inv X pins σ H s->RelV x v->RelV y u->r x y H Q->
  aen (aes X.prog X.w) X.A (f v u) (EP X pins σ Q) X.xe s
def UnR (X:Cx)(f:Value->Sem Value)(r:V->Hp->VK->Prop):Prop:=
 ∀(pins:ζ)(s:aep)(σ:St)(H:Hp)(x:V)(v:Value)(Q:VK),Inv X pins σ H s->RelV x v->r x H Q->
  aen (aes X.prog X.w) X.A (f v) (EP X pins σ Q) X.xe s
def ft (X:Cx)(f:Value)(r:List V->Hp->VK->Prop):Prop:=
 ∀(pins:ζ)(s:aep)(σ:St)(H:Hp)(xs:ε)(us:ο)(Q:VK),Inv X pins σ H s->Vals xs us->r xs H Q->
  aen (aes X.prog X.w) X.A (call f us) (EP X pins σ Q) X.xe s
def MV (r:R2)(ta tb:TE):TE:=fun σ H Q=>ta σ H fun x H1=>tb σ H1 fun y H2=>r x y H2 Q
def tUn (r:V->Hp->VK->Prop)(ta:TE):TE:=fun σ H Q=>ta σ H fun x H1=>r x H1 Q
inductive rI (C:Int->Int->Prop)(g:Int->Int->V)(x:V)(y:V)(H:Hp)(Q:VK):Prop
|mk (i j:_)(_:x=.int i)(_:y=.int j)(_:C i j)(_:Q (g i j) H)
inductive OW (g:Int->Int->V)(x:V)(y:V)(H:Hp)(Q:VK):Prop
|mk (i j:_)(_:x=.int i)(_:y=.int j)(_:Q (g i j) H)
inductive rU (g:Int->V)(x:V)(H:Hp)(Q:VK):Prop
|mk (i:_)(_:x=.int i)(_:Q (g i) H)
section
variable {X:Cx}{a b c:Expr}{ta tb tc:TE}{pos:Pos}
theorem QG (ha:PE X a ta)(hb:PE X b tb){σ:St}{R:V->V->Hp->Prop}(I:Inv X pins σ H s)
  (h:ta σ H fun x H1=>tb σ H1 fun y H2=>R x y H2) {Q:δ} {f:Value->Value->Sem Value}
  (hf:∀v u s2 x y H2,Inv X pins σ H2 s2->RelV x v->RelV y u->R x y H2->aen (aes X.prog X.w) X.A (f v u) Q X.xe s2):
  aen (aes X.prog X.w) X.A (aeM a X.env) (fun v s₁=>aen (aes X.prog X.w) X.A (aeM b X.env) (fun u s₂=>aen (aes X.prog X.w) X.A (f v u) Q X.xe s₂) X.xe s₁) X.xe s:=by
 refine cB (ha pins s σ H _ I h) fun v s1 ⟨x,H1,I1,r1,q1⟩=>?_
 refine cB (hb pins s1 σ H1 _ I1 q1) fun u s2 ⟨y,H2,I2,r2,q2⟩=>?_
 exact hf v u s2 x y H2 I2 r1 r2 q2
theorem aJ (ho:i7 X (ae9 op) r)(ha:PE X a ta)(hb:PE X b tb):PE X (.BinOp a op b pos) (MV r ta tb):=by
 intro pins s σ H Q I h
 exact wpAny_BinOp (QG ha hb I h fun v u s2 x y H2 I2 rx ry q=>ho pins s2 σ H2 x y v u Q I2 rx ry q)
theorem zD (ho:UnR X (unaryOp op) r)(ha:PE X a ta):PE X (.UnaryOp op a pos) (tUn r ta):=by
 intro pins s σ H Q I h
 exact UnaryOp_ (cB (ha pins s σ H _ I h) fun v s1 ⟨x,H1,I1,r1,q1⟩=>ho pins s1 σ H1 x v Q I1 r1 q1)
theorem opI {g:Int->Int->Int}
  (rule:∀(i j:Int)(t u:Tok)(s:aep)(Q:δ)(E:δ),C i j->Q (.int (g i j) s.toks) {s with toks:=s.toks+1}->aen (aes X.prog X.w) X.A (f (.int i t) (.int j u)) Q E s):
  i7 X f (rI C fun i j=>.int (g i j)):=by
 intro pins s σ H x y v u Q I rx ry h
 obtain ⟨i,j,rfl,rfl,hc,q⟩:=h
 obtain ⟨t,rfl⟩:=rx
 obtain ⟨t',rfl⟩:=ry
 exact rule i j t t' s _ _ hc ⟨.int (g i j),H,I.tok _,⟨_,rfl⟩,q⟩
theorem TN {g:Int->Int->Int}
  (rule:∀(i j:Int)(t u:Tok)(s:aep)(Q:δ)(E:δ),Q (.int (g i j) s.toks) {s with toks:=s.toks+1}->aen (aes X.prog X.w) X.A (f (.int i t) (.int j u)) Q E s):
  i7 X f (OW fun i j=>.int (g i j)):=by
 intro pins s σ H x y v u Q I rx ry h
 obtain ⟨i,j,rfl,rfl,q⟩:=h
 obtain ⟨t,rfl⟩:=rx
 obtain ⟨t',rfl⟩:=ry
 exact rule i j t t' s _ _ ⟨.int (g i j),H,I.tok _,⟨_,rfl⟩,q⟩
theorem QH {g:Int->Int->Bool}
  (rule:∀(i j:Int)(t u:Tok)(s:aep)(Q:δ)(E:δ),Q (.bool (g i j)) s->aen (aes X.prog X.w) X.A (f (.int i t) (.int j u)) Q E s):
  i7 X f (OW fun i j=>.bl (g i j)):=by
 intro pins s σ H x y v u Q I rx ry h
 obtain ⟨i,j,rfl,rfl,q⟩:=h
 obtain ⟨t,rfl⟩:=rx
 obtain ⟨t',rfl⟩:=ry
 exact rule i j t t' s _ _ ⟨.bl (g i j),H,I,rfl,q⟩
theorem cf:i7 X (ae9 .Add) (OW fun i j=>.int (i+j)):=TN fun _ _ _ _ _ _ _ q=>add_int q
theorem dj:i7 X (ae9 .Sub) (OW fun i j=>.int (i-j)):=TN fun _ _ _ _ _ _ _ q=>sub_int q
theorem MX:i7 X (ae9 .Mod) (rI (fun _ j=>j≠0) fun i j=>.int (i.fmod j)):=opI fun _ _ _ _ _ _ _ hc q=>mod_int' hc q
theorem unI {g:Int->Int}
  (rule:∀(i:Int)(t:Tok)(s:aep)(Q:δ)(E:δ),Q (.int (g i) s.toks) {s with toks:=s.toks+1}->aen (aes X.prog X.w) X.A (f (.int i t)) Q E s):
  UnR X f (rU fun i=>.int (g i)):=by
 intro pins s σ H x v Q I rx h
 obtain ⟨i,rfl,q⟩:=h
 obtain ⟨t,rfl⟩:=rx
 exact rule i t s _ _ ⟨.int (g i),H,I.tok _,⟨_,rfl⟩,q⟩
theorem tI:UnR X (unaryOp .USub) (rU fun i=>.int (-i)):=unI fun _ _ _ _ _ q=>neg_int q
end
def TQ:V->V->Bool
 | .cg,.cg=>true | .cg,.int _=>true | .int _,.cg=>true | .cg,.bl _=>true | .bl _,.cg=>true | .cg,.str _=>true | .str _,.cg=>true
 | .int _,.int _=>true | .bl _,.bl _=>true | .str _,.str _=>true | .byt _,.byt _=>true
 | .int _,.str _=>true | .str _,.int _=>true | .bl _,.str _=>true | .str _,.bl _=>true
 | _,_=>false
def rEq:R2:=fun x y H Q=>TQ x y=true/\Q (.bl (decide (x=y))) H
def rNe:R2:=fun x y H Q=>TQ x y=true/\Q (.bl (!decide (x=y))) H
theorem zE :decide (V.int i=V.int j)=(i==j):=by
 rw [ab7]
 simp
theorem HV :decide (V.bl i=V.bl j)=(i==j):=by
 rw [ab7]
 simp
theorem zF :decide (V.str i=V.str j)=(i==j):=by
 rw [ab7]
 simp
theorem zG :decide (V.byt i=V.byt j)=(i.toList==j.toList):=by
 rw [ab7]
 cases i
 cases j
 simp
section
variable {X:Cx}{a b c:Expr}{ta tb tc:TE}{pos:Pos}
theorem bM {σ:St}(I:Inv X pins σ H s)(q:Q (.bl k) H)(e:k=k'):EP X pins σ Q (.bool k') s:=by
 subst e
 exact ⟨.bl k,H,I,rfl,q⟩
theorem dq:i7 X (ae2 .Eq) rEq:=by
 intro pins s σ H x y v u Q I rx ry h
 obtain ⟨hs,q⟩:=h
 cases x with
 | cg=>
  cases rx
  cases y with
  | cg=>cases ry;exact PySem.EqNone.eq_none_none (bM I q (by simp))
  | bl j=>cases ry;exact PySem.EqNone.eq_none_bool (bM I q (by simp))
  | int j=>obtain ⟨t',rfl⟩:=ry;exact PySem.EqNone.eq_none_int (bM I q (by simp))
  | str j=>obtain ⟨t',rfl⟩:=ry;exact PySem.EqNone.eq_none_str (bM I q (by simp))
  | _=>exact aet (show false=true from hs) aaC
 | bl i=>
  cases rx
  cases y with
  | cg=>cases ry;exact PySem.EqNone.eq_bool_none (bM I q (by simp))
  | bl j=>cases ry;exact eq_bool (bM I q HV)
  | str j=>obtain ⟨t',rfl⟩:=ry;exact PySem.EqMixed.eq_bool_str (bM I q (by simp))
  | _=>exact aet (show false=true from hs) aaC
 | int i=>
  obtain ⟨t,rfl⟩:=rx
  cases y with
  | cg=>cases ry;exact PySem.EqNone.eq_int_none (bM I q (by simp))
  | int j=>obtain ⟨t',rfl⟩:=ry;exact eq_int (bM I q zE)
  | str j=>obtain ⟨t',rfl⟩:=ry;exact PySem.EqMixed.eq_int_str (bM I q (by simp))
  | _=>exact aet (show false=true from hs) aaC
 | str i=>
  obtain ⟨t,rfl⟩:=rx
  cases y with
  | cg=>cases ry;exact PySem.EqNone.eq_str_none (bM I q (by simp))
  | bl j=>cases ry;exact PySem.EqMixed.eq_str_bool (bM I q (by simp))
  | int j=>obtain ⟨t',rfl⟩:=ry;exact PySem.EqMixed.eq_str_int (bM I q (by simp))
  | str j=>obtain ⟨t',rfl⟩:=ry;exact eq_str (bM I q zF)
  | _=>exact aet (show false=true from hs) aaC
 | byt i=>
  obtain ⟨t,rfl⟩:=rx
  cases y with
  | byt j=>obtain ⟨t',rfl⟩:=ry;exact PySem.W.eq_bytes (bM I q zG)
  | _=>exact aet (show false=true from hs) aaC
 | _=>cases y<;>exact aet (show false=true from hs) aaC
theorem gm:i7 X (ae2 .NotEq) rNe:=by
 intro pins s σ H x y v u Q I rx ry h
 obtain ⟨hs,q⟩:=h
 cases x with
 | cg=>
  cases rx
  cases y with
  | cg=>cases ry;exact PySem.EqNone.ne_none_none (bM I q (by simp))
  | bl j=>cases ry;exact PySem.EqNone.ne_none_bool (bM I q (by simp))
  | int j=>obtain ⟨t',rfl⟩:=ry;exact PySem.EqNone.ne_none_int (bM I q (by simp))
  | str j=>obtain ⟨t',rfl⟩:=ry;exact PySem.EqNone.ne_none_str (bM I q (by simp))
  | _=>exact aet (show false=true from hs) aaC
 | bl i=>
  cases rx
  cases y with
  | cg=>cases ry;exact PySem.EqNone.ne_bool_none (bM I q (by simp))
  | bl j=>cases ry;exact ne_bool (bM I q (aeE not HV))
  | str j=>obtain ⟨t',rfl⟩:=ry;exact PySem.EqMixed.ne_bool_str (bM I q (by simp))
  | _=>exact aet (show false=true from hs) aaC
 | int i=>
  obtain ⟨t,rfl⟩:=rx
  cases y with
  | cg=>cases ry;exact PySem.EqNone.ne_int_none (bM I q (by simp))
  | int j=>obtain ⟨t',rfl⟩:=ry;exact ne_int (bM I q (aeE not zE))
  | str j=>obtain ⟨t',rfl⟩:=ry;exact PySem.EqMixed.ne_int_str (bM I q (by simp))
  | _=>exact aet (show false=true from hs) aaC
 | str i=>
  obtain ⟨t,rfl⟩:=rx
  cases y with
  | cg=>cases ry;exact PySem.EqNone.ne_str_none (bM I q (by simp))
  | bl j=>cases ry;exact PySem.EqMixed.ne_str_bool (bM I q (by simp))
  | int j=>obtain ⟨t',rfl⟩:=ry;exact PySem.EqMixed.ne_str_int (bM I q (by simp))
  | str j=>obtain ⟨t',rfl⟩:=ry;exact ne_str (bM I q (aeE not zF))
  | _=>exact aet (show false=true from hs) aaC
 | byt i=>
  obtain ⟨t,rfl⟩:=rx
  cases y with
  | byt j=>obtain ⟨t',rfl⟩:=ry;exact PySem.W.ne_bytes (bM I q (aeE not zG))
  | _=>exact aet (show false=true from hs) aaC
 | _=>cases y<;>exact aet (show false=true from hs) aaC
theorem vI:i7 X (ae2 .Lt) (OW fun i j=>.bl (decide (i<j))):=QH fun _ _ _ _ _ _ _ q=>lt_int q
theorem mM:i7 X (ae2 .Gt) (OW fun i j=>.bl (decide (j<i))):=QH fun _ _ _ _ _ _ _ q=>gt_int q
theorem OX:i7 X (ae2 .GtE) (OW fun i j=>.bl (decide (j<=i))):=QH fun _ _ _ _ _ _ _ q=>ge_int q
theorem HW:i7 X (ae2 .Is) (fun x y H Q=>y=.cg/\Q (.bl (decide (x=.cg))) H):=by
 intro pins s σ H x y v u Q I rx ry h
 obtain ⟨rfl,q⟩:=h
 cases ry
 refine is_none_gen (bM I q ?_)
 cases x<;>first
  | (cases rx;rfl)
  | (obtain ⟨t,rfl⟩:=rx;rfl)
theorem MY:i7 X (ae2 .IsNot) (fun x y H Q=>y=.cg/\Q (.bl (!decide (x=.cg))) H):=by
 intro pins s σ H x y v u Q I rx ry h
 obtain ⟨rfl,q⟩:=h
 cases ry
 refine isnot_none_gen (bM I q ?_)
 cases x<;>first
  | (cases rx;rfl)
  | (obtain ⟨t,rfl⟩:=rx;rfl)
theorem gU (b:Expr)(h:op≠.In:=by decide)(h2:op≠.NotIn:=by decide):aft op b=false:=by
 have e1:(op==CmpOp.In)=false:=by cases op<;>first|rfl|exact aet rfl h
 have e2:(op==CmpOp.NotIn)=false:=by cases op<;>first|rfl|exact aet rfl h2
 cases b<;>simp [aft,e1,e2]
theorem fJ (ho:i7 X (ae2 op) r)(ha:PE X a ta)(hb:PE X b tb)(hm:aft op b=false):PE X (.Compare a [op] [b] pos) (MV r ta tb):=by
 intro pins s σ H Q I h
 exact wpAny_Compare1 (QG ha hb I h fun v u s2 x y H2 I2 rx ry q=>ho pins s2 σ H2 x y v u Q I2 rx ry q) hm
inductive HX (Q:(Bool->Hp->Prop))(x:V)(H':Hp):Prop
|mk (k:_)(_:x=.bl k)(_:Q k H')
def OY (t:TE):TT:=fun σ H Q=>t σ H fun x H'=>HX Q x H'
theorem nQ (ho:i7 X (ae2 op) r)(ha:PE X a ta)(hb:PE X b tb)(hm:aft op b=false):PT X (.Compare a [op] [b] pos) (OY (MV r ta tb)):=by
 intro pins s σ H Q I h
 refine wpAny_isTrue_Compare1 (cB (ha pins s σ H _ I h) fun v s1 ⟨x,H1,I1,r1,q1⟩=>cB (hb pins s1 σ H1 _ I1 q1) fun u s2 ⟨y,H2,I2,r2,q2⟩=>
  cB (ho pins s2 σ H2 x y v u _ I2 r1 r2 q2) fun c s3 ⟨z,H3,I3,r3,k,e,q3⟩=>?_) hm
 subst e
 cases r3
 exact afu ⟨H3,I3,q3⟩
theorem oJ:(ael:Nat)<2^63:=by rw [sizeLine_eq];decide
theorem gW:i7 X (ae9 .Add) (fun x y H Q=>∃i j,x=.str i/\y=.str j/\i.length+j.length<=ael/\Q (.str (i++j)) H):=by
 intro pins s σ H x y v u Q I rx ry h
 obtain ⟨i,j,rfl,rfl,hz,q⟩:=h
 obtain ⟨t,rfl⟩:=rx
 obtain ⟨t',rfl⟩:=ry
 exact add_str (fun t' tk=>⟨.str (i++j),H,I.tok _,⟨_,rfl⟩,q⟩) hz
theorem vals1 {us:ο}(r:Vals [x] us):∃u,us=[u]/\RelV x u:=by
 cases r with
 | cons r1 r2=>cases r2;exact ⟨_,rfl,r1⟩
theorem vals2 {us:ο}(r:Vals [x,y] us):∃u w',us=[u,w']/\RelV x u/\RelV y w':=by
 cases r with
 | cons r1 r2=>
  cases r2 with
  | cons r3 r4=>cases r4;exact ⟨_,_,rfl,r1,r3⟩
theorem vJ:ft X (.builtin "abs") (fun xs H Q=>∃i,xs=[.int i]/\Q (.int (if i<0 then -i else i)) H):=by
 intro pins s σ H xs us Q I r h
 obtain ⟨i,rfl,q⟩:=h
 obtain ⟨u,rfl,t,rfl⟩:=vals1 r
 exact call_abs_int fun u tk=>⟨.int (if i<0 then -i else i),H,I.tok _,⟨_,rfl⟩,q⟩
theorem CA (hc:X.calm=true):ft X (.builtin "min") (fun xs H Q=>∃i j,xs=[.int i,.int j]/\Q (.int (if j<i then j else i)) H):=by
 intro pins s σ H xs us Q I r h
 obtain ⟨i,j,rfl,q⟩:=h
 obtain ⟨u,w',rfl,⟨t,rfl⟩,⟨t',rfl⟩⟩:=vals2 r
 refine min_two_ints (I.ok.hd hc) fun h' tk k=>⟨_,H,I.kept k,?_,q⟩
 by_cases hj:j<i
 ·rw [aek hj,aek hj];exact ⟨_,rfl⟩
 ·rw [aej hj,aej hj];exact ⟨_,rfl⟩
theorem r6:ft X (.type "int") (fun xs H Q=>(∃i,xs=[.int i]/\Q (.int i) H)\/∃k,xs=[.bl k]/\Q (.int (if k then 1 else 0)) H):=by
 intro pins s σ H xs us Q I r h
 rcases h with ⟨i,rfl,q⟩|⟨k,rfl,q⟩
 ·obtain ⟨u,rfl,t,rfl⟩:=vals1 r
  exact call_int_int ⟨.int i,H,I,⟨_,rfl⟩,q⟩
 ·obtain ⟨u,rfl,r1⟩:=vals1 r
  cases r1
  exact call_int_bool ⟨.int (if k then 1 else 0),H,I.tok _,⟨_,rfl⟩,q⟩
theorem j8:ft X (.type "str") (fun xs H Q=>∃i,xs=[.int i]/\i.natAbs.log2<1920/\Q (.str (toString i)) H):=by
 intro pins s σ H xs us Q I r h
 obtain ⟨i,rfl,hz,q⟩:=h
 obtain ⟨u,rfl,t,rfl⟩:=vals1 r
 exact PySem.P.str_of_int hz ⟨.str _,H,I.tok _,⟨_,rfl⟩,q⟩
end
end L2
namespace L2
open PySem PySem.Spec PyProof.Rows
structure xW (h:Heap)(x dx C:aef)(mA:ι):Prop where
 obj:h.get? x=some (aeT C dx)
 ns:h.Ns1 dx mA
 ne:dx≠x
theorem CB {h:Heap}{mA:ι}(n:h.Ns1 dx mA):∃od,h.get? dx=some od/\∀name,agG name od=some (mA name):=by
 obtain ⟨o,es,ep,ho,hd,hk,_,hm⟩:=n
 refine ⟨o,ho,fun name=>?_⟩
 have e:=hm name
 unfold nsFind findBy at e
 rw [<-Array.find?_toList] at e
 unfold agG
 rw [hd]
 dsimp only
 split
 ·rename_i y q
  rw [q] at e
  exact aeE some e
 ·rename_i q
  rw [q] at e
  have a:es.toList.any (·.refKey)=false:=by
   rw [List.any_eq_false]
   intro y hy
   obtain ⟨z,t,HY⟩:=hk y (Array.mem_toList_iff.mp hy)
   simp [DictEntry.refKey,HY]
  have a':¬ es.toList.any (·.refKey)=true:=by rw [a];exact aaC
  rw [aej a']
  exact aeE some e
theorem xW.look (I:xW h x dx C mA):∃od,PySem.W.InstAt h x (aeT C dx) C (some od)/\∀name,agG name od=some (mA name):=
 let ⟨od,ho,hl⟩:=CB I.ns
 ⟨od,⟨I.obj,rfl,rfl,ho⟩,hl⟩
section
variable {prog:aeB}{w:World}{A:aeI}{E:δ}{s:aep}{K:Frag}{x dx C f:aef}{mA:ι}{name:Str}{v:Value}
theorem get_map {Q:δ}(X:K.In s.heap)(I:xW s.heap x dx C mA)(hg:afa K C name=true)(hh:afk K C=true)
  (ha:aeF K (.ref C) name=some none) (hv:mA name=some v) (QI :PySem.W.handedIn v=true) (h:Q v {s with toks:=s.toks+1}):
  aen (aes prog w) A (getAttr (.ref x) name expr) Q E s:=by
 obtain ⟨od,J,hl⟩:=I.look
 exact PySem.W.get_value X J (PySem.W.plainGet_of hg).1 (PySem.W.findObj_own hh ha rfl (by rw [hl,hv])) QI h
theorem HZ (X:K.In s.heap)(I:xW s.heap x dx C mA)(hg:afa K C name=true)
  (hf:aeF K (.ref C) name=some (some (.ref f))) (ht:agv K (.ref f)=true) (hv:mA name=none) (h:Q (.ref f,[.ref x]) s):
  aen (aes prog w) A (getMethod (.ref x) name pl) Q E s:=by
 obtain ⟨od,J,hl⟩:=I.look
 exact PySem.W.method_fn X J (PySem.W.plainGet_of hg).1 (PySem.W.plainGet_of hg).2 hf (beq_iff_eq.mp ht) (by show (agG name od).map (·.isSome)=some false;rw [hl,hv];rfl) h
theorem MZ {ns:ρ}(X:K.In s.heap)(I:xW s.heap x dx C mA)
  (hs:aeF K (.ref C) "__setattr__"=some (some (.builtin "object.__setattr__"))) (hp:afw K C=true) (ht:PySem.W.takerIn K C name=some none) (hh:afk K C=true)
  (hw:PySem.Within mA ns) (hsz:ns.length<=ael)
  (h:∀h',xW h' x dx C (fun y=>if y=name then some v else mA y)->agr dx s.heap h' ->Q () {s with heap:=h',toks:=s.toks+2}):
  aen (aes prog w) A (setAttr (.ref x) name v) Q E s:=by
 obtain ⟨od,J,hl⟩:=I.look
 refine PySem.W.set_plain X J hs (PySem.W.osa_open (s:={s with toks:=s.toks+1}) (r:=none) X J hp ht fun b=>?_)
 obtain ⟨cd,hc,MJ⟩:=PySem.W.any_some hh
 have hx:s.heap.get? x=some ⟨.ref C,some dx,.plain, #[]⟩:=I.obj
 refine aeg (aeo (aeg (aeg (wpAny_loadPart hx (aeg (PySem.W.Looks.here (s:={s with toks:=s.toks+1}) (PySem.W.looks_clsIn X hc) ?_))))))
 rw [MJ]
 refine aeo (a:=some dx) (aeg (aeo (aeg ?_)))
 refine wpAny_nsSet1 (s:={s with toks:=s.toks+1}) I.ns fun h' GV H_=>?_
 obtain ⟨oD,esD,epD,hoD,hdD,hcD⟩:=GV.count (PySem.Within.cons name v hw)
 refine aeg (wpAny_lookBehind hoD (by rw [hdD];exact pastItsLine_dict (aak hcD (by rw [aaQ];omega))) ?_)
 exact aeo (h _ ⟨(H_.2 _ (aaD I.ne)).trans I.obj,GV,I.ne⟩ H_)
theorem IA {R:Μ}{vs:ο}{kw:Φ}(X:K.In s.heap)(hm:afg K C=true)
  (hi:aeF K (.ref C) "__init__"=some (some (.ref f))) (hf:PySem.W.typeIn K (.ref f)=some (.type "function"))
  (h:afd (aes prog w) (A.under (.builtin "type.__call__" ⟨.ref C::vs,kw⟩)) (.call (.ref f) ⟨.ref (s.heap.objs.size+1)::vs,kw⟩) (PySem.W.InitBack (s.heap.objs.size+1) R)
   {s with heap:=(s.heap.push aeQ).push (aeT C s.heap.objs.size)}):
  afd (aes prog w) A (.call (.ref C) ⟨vs,kw⟩) R s:=by
 obtain ⟨hh,g,d,t,os⟩:=s
 exact PySem.W.make_core (PySem.W.makes_of X hm) (PySem.W.looks_findIn X hi) (fun self=>PySem.W.bind_fn X self hf) (.inl rfl) h
theorem CC {R:Μ}(X:K.In s.heap)(hm:afg K C=true)
  (hi:aeF K (.ref C) "__init__"=some (some (.builtin "object.__init__")))
  (hb:∀self,PySem.W.Looks (aes prog w) s.heap (bindSpecial (.builtin "object.__init__") self) (.builtin "object.__init__",[self]))
  (h:afd (aes prog w) (A.under (.builtin "type.__call__" ⟨[.ref C],[]⟩)) (.call (.builtin "object.__init__") ⟨[.ref (s.heap.objs.size+1)],[]⟩) (PySem.W.InitBack (s.heap.objs.size+1) R)
   {s with heap:=(s.heap.push aeQ).push (aeT C s.heap.objs.size)}):
  afd (aes prog w) A (.call (.ref C) ⟨[],[]⟩) R s:=by
 obtain ⟨hh,g,d,t,os⟩:=s
 exact PySem.W.make_core (PySem.W.makes_of X hm) (PySem.W.looks_findIn X hi) hb (.inr ⟨rfl,rfl⟩) h
end
def dZ (f:Str)(v:V):List (Str×V)->List (Str×V)
 | []=>[(f,v)]
 | (g,x)::r=>if g=f then (g,v)::r else (g,x)::dZ f v r
theorem mN (f g:Str)(v:V):∀fs:List (Str×V),(dZ f v fs).lookup g=if g=f then some v else fs.lookup g
 | []=>by
  show abZ g [(f,v)]=_
  by_cases h:g=f
  ·have hb:(g==f)=true:=beq_iff_eq.mpr h
   simp only [abZ,hb,aek h]
  ·have hb:(g==f)=false:=beq_eq_false_iff_ne.mpr h
   simp only [abZ,hb,aej h]
 | (k,x)::r=>by
  have ih:=mN f g v r
  rw [show dZ f v ((k,x)::r)=(if k=f then (k,v)::r else (k,x)::dZ f v r) from rfl]
  by_cases hk:k=f
  ·rw [aek hk]
   by_cases h:g=k
   ·have hb:(g==k)=true:=beq_iff_eq.mpr h
    simp only [abZ,hb,aek (h.trans hk)]
   ·have hb:(g==k)=false:=beq_eq_false_iff_ne.mpr h
    simp only [abZ,hb,aej (fun e:g=f=>h (e.trans hk.symm))]
  ·rw [aej hk]
   by_cases h:g=k
   ·have hb:(g==k)=true:=beq_iff_eq.mpr h
    simp only [abZ,hb,aej (fun e:g=f=>hk (h.symm.trans e))]
   ·have hb:(g==k)=false:=beq_eq_false_iff_ne.mpr h
    simp only [abZ,hb]
    exact ih
theorem lK (f:Str)(v:V):∀fs:List (Str×V),f∈(dZ f v fs).map (·.1)/\∀g,g∈fs.map (·.1)->g∈(dZ f v fs).map (·.1)
 | []=>⟨by simp [dZ],fun g h=>by simp at h⟩
 | (k,x)::r=>by
  obtain ⟨i1,i2⟩:=lK f v r
  rw [show dZ f v ((k,x)::r)=(if k=f then (k,v)::r else (k,x)::dZ f v r) from rfl]
  by_cases hk:k=f
  ·rw [aek hk]
   subst hk
   exact ⟨by simp,fun g h=>by simpa using h⟩
  ·rw [aej hk]
   refine ⟨?_,fun g h=>?_⟩
   ·rw [aaj]
    exact aan _ i1
   ·rw [aaj] at h ⊢
    rcases aaL.mp h with e|e
    ·exact aaL.mpr (.inl e)
    ·exact aan _ (i2 g e)
theorem mO (f:Str)(v:V):∀fs:List (Str×V),(dZ f v fs).length<=fs.length+1
 | []=>by simp [dZ]
 | (k,x)::r=>by
  have ih:=mO f v r
  rw [show dZ f v ((k,x)::r)=(if k=f then (k,v)::r else (k,x)::dZ f v r) from rfl]
  by_cases hk:k=f
  ·rw [aek hk,aaQ,aaQ];omega
  ·rw [aej hk,aaQ,aaQ];omega
theorem gR.some_of (r:gR (some v) o):∃u,o=some u/\RelV v u:=by
 cases o with
 | none=>exact (show False from r).elim
 | some u=>exact ⟨u,rfl,r⟩
theorem gR.none_of (r:gR none o):o=none:=by
 cases o with
 | none=>rfl
 | some u=>exact (show False from r).elim
theorem CD (r:RelV v u):PySem.W.handedIn u=true:=by
 cases v with
 | cg=>cases (show u=Value.none from r);rfl
 | bl b=>cases (show u=Value.bool b from r);rfl
 | int i=>obtain ⟨t,e⟩:=(show ∃t,u=Value.int i t from r);cases e;rfl
 | str x=>obtain ⟨t,e⟩:=(show ∃t,u=Value.str x t from r);cases e;rfl
 | byt b=>obtain ⟨t,e⟩:=(show ∃t,u=Value.bytes b t from r);cases e;rfl
 | OL b=>obtain ⟨t,e⟩:=(show ∃t,u=Value.float b t from r);cases e;rfl
 | ref a=>cases (show u=Value.ref a from r);rfl
 | ty n=>cases (show u=Value.type n from r);rfl
section
variable {P:aeB}{w:World}{H H':Hp}{h h':Heap}{a C dx:aef}{fs fs':List (Str×V)}
theorem nR (bO:ju P w H h)(e:H a=some (.ins C dx fs)):∃mA,xW h a dx C mA/\(∀f,gR (fs.lookup f) (mA f))/\PySem.Within mA (fs.map (·.1))/\fs.length<=1000/\H dx=some (.own a):=by
 obtain ⟨d,z,ne,ob,mA,n,r,q⟩:=(show cK P w H h a (.ins C dx fs) from bO a _ e)
 exact ⟨mA,⟨ob,n,ne⟩,r,q,z,d⟩
end
structure vK (K:Frag)(C:aef):Prop where
 pg:afa K C Str.empty=true
 hd:afk K C=true
 po:afw K C=true
 sa:aeF K (.ref C) "__setattr__"=some (some (.builtin "object.__setattr__"))
theorem vK.get {K:Frag}(c:vK K C)(f:Str):afa K C f=true:=c.pg
def fV (K:Frag)(C:aef)(f:Str):Prop:=aeF K (.ref C) f=some none
theorem fV.TR {K:Frag}(n:fV K C f):PySem.W.takerIn K C f=some none:=by
 unfold PySem.W.takerIn
 rw [show aeF K (.ref C) f=some none from n]
 rfl
structure Meth (K:Frag)(C:aef)(m:Str)(f:aef):Prop where
 at_:aeF K (.ref C) m=some (some (.ref f))
 fn:agv K (.ref f)=true
 kp:keepIn K (.ref f)=true
section
variable {X:Cx}{pins:ζ}{σ:St}{H:Hp}{s:aep}{a C dx:aef}{fs:List (Str×V)}{f:Str}{v:V}{A:aeI}{E:δ}
theorem xX {Q:δ}(I:Inv X pins σ H s)(e:H a=some (.ins C dx fs))(c:vK X.K C)(n:fV X.K C f)(l:fs.lookup f=some v)
  (h:∀u s',Inv X pins σ H s' ->RelV v u->Q u s'):aen (aes X.prog X.w) A (getAttr (.ref a) f b) Q E s:=by
 obtain ⟨mA,O,r,_,_,_⟩:=nR I.bO e
 obtain ⟨u,hu,ru⟩:=gR.some_of (v:=v) (o:=mA f) (by rw [<-l];exact r f)
 exact get_map I.jG O (c.get f) c.hd n hu (CD ru) (h u _ (I.tok _) ru)
theorem jI (I:Inv X pins σ H s)(e:H a=some (.ins C dx fs))(c:vK X.K C)(k:Meth X.K C m g)(l:fs.lookup m=none)
  (h:Q (.ref g,[.ref a]) s):aen (aes X.prog X.w) A (getMethod (.ref a) m pl) Q E s:=by
 obtain ⟨mA,O,r,_,_,_⟩:=nR I.bO e
 have hn:mA m=none:=gR.none_of (by rw [<-l];exact r m)
 exact HZ I.jG O (c.get m) k.at_ k.fn hn h
theorem xY (I:Inv X pins σ H s)(e:H a=some (.ins C dx fs))(c:vK X.K C)(n:fV X.K C f)(hl:fs.length<1000)(ry:RelV y u)
  (h:∀s',Inv X pins σ (upd H a (.ins C dx (dZ f y fs))) s' ->Q () s'):aen (aes X.prog X.w) A (setAttr (.ref a) f u) Q E s:=by
 obtain ⟨mA,O,r,wi,_,ho⟩:=nR I.bO e
 have hz:(fs.map (·.1)).length<=ael:=by rw [aah,sizeLine_eq];omega
 refine MZ I.jG O c.sa c.po n.TR c.hd wi hz fun h' O' sb=>h _ ?_
 have hd:∃o,h'.get? dx=some o:=let ⟨o,_,_,e',_⟩:=O'.ns;⟨o,e'⟩
 refine I.write (x:=a) (e:=dx) (by rw [e];exact True.intro) (.inr ho) (fun b q hb z=>(sb.2 b hb).trans z) hd ?_
 refine ⟨by rw [ao O.ne];exact ho,?_,O.ne,O'.obj,_,O'.ns,fun g=>?_,fun g hg=>?_⟩
 ·have:=mO f y fs;omega
 ·show gR ((dZ f y fs).lookup g) (if g=f then some u else mA g)
  rw [mN]
  by_cases q:g=f
  ·rw [aek q,aek q];exact ry
  ·rw [aej q,aej q];exact r g
 ·by_cases q:g=f
  ·rw [q];exact (lK f y fs).1
  ·refine (lK f y fs).2 g (wi g fun z=>hg ?_)
   show (if g=f then some u else mA g)=none
   rw [aej q];exact z
theorem Inv.made (I:Inv X pins σ H s):Inv X pins σ (upd (upd H s.heap.objs.size (.own (s.heap.objs.size+1))) (s.heap.objs.size+1) (.ins C s.heap.objs.size []))
  {s with heap:=(s.heap.push aeQ).push (aeT C s.heap.objs.size)}:=by
 have e1:(s.heap.push aeQ).get? s.heap.objs.size=some aeQ:=aez s.heap rfl
 have e2:((s.heap.push aeQ).push (aeT C s.heap.objs.size)).get? (s.heap.objs.size+1)=some (aeT C s.heap.objs.size):=by
  have:=aez (s.heap.push aeQ) (o:=aeT C s.heap.objs.size) rfl
  rwa [afC] at this
 have e3:(s.heap.push aeQ).Ns s.heap.objs.size (fun _=>none):=⟨aeQ, #[],_,e1,rfl,(fun e he=>aet he (by simp)),fun _=>rfl⟩
 have I1:=I.laid (a:=s.heap.objs.size) (o:=.own (s.heap.objs.size+1)) (h':=s.heap.push aeQ) (t':=s.toks) (fun b u q=>aeh _ q) (aal _) ⟨_,e1⟩
 refine I1.laid (a:=s.heap.objs.size+1) (o:=.ins C s.heap.objs.size []) (t':=s.toks) (fun b u q=>aeh _ q) (ajR (afC _ _)) ?_
 have ne:s.heap.objs.size≠s.heap.objs.size+1:=aaM (aaV _)
 refine ⟨by rw [ao ne,ak],aaS _,ne,e2,fun _=>none,(Heap.Ns1.of_empty e3).at fun o q=>aeh _ q,fun _=>True.intro,fun y hy=>aet rfl hy⟩
theorem M0 {Q:δ}(hb:afM e f env (aeM e env)=aeM e env)
  (h:aen (aes prog w) A (aeM e env) (fun o s₁=>aen (aes prog w) A (getAttr o f true) Q E s₁) E s):aen (aes prog w) A (aeM (.Attribute e f pos) env) Q E s:=
 Attribute_any_ h (by rw [arm_eval_Attribute,hb])
end
inductive OZ (K:Frag)(f:Str)(Q:VK)(x:V)(H1:Hp):Prop
|mk (a C dx fs v:_)(_:x=.ref a)(_:H1 a=some (.ins C dx fs))(_:vK K C)(_:fV K C f)(_:fs.lookup f=some v)(_:Q v H1)
def aby (K:Frag)(ta:TE)(f:Str):TE:=fun σ H Q=>ta σ H fun x H1=>OZ K f Q x H1
inductive O0 (K:Frag)(f:Str)(D:Ends)(σ:St)(y:V)(x:V)(H2:Hp):Prop
|mk (a C dx fs:_)(_:x=.ref a)(_:H2 a=some (.ins C dx fs))(_:vK K C)(_:fV K C f)(_:fs.length<1000)(_:D.nx σ (upd H2 a (.ins C dx (dZ f y fs))))
def abz (K:Frag)(ta tv:TE)(f:Str):TS:=fun D σ H=>tv σ H fun y H1=>ta σ H1 fun x H2=>O0 K f D σ y x H2
section
variable {X:Cx}{o e value:Expr}{f:Str}{pos pos' xZ:Pos}{ta tv:TE}
theorem cJ (he:PE X e ta)(hb:afM e f X.env (aeM e X.env)=aeM e X.env):PE X (.Attribute e f pos) (aby X.K ta f):=by
 intro pins s σ H Q I h
 refine M0 hb (cB (he pins s σ H _ I h) fun u s1 ⟨x,H1,I1,rx,a,C,dx,fs,v,ex,ea,c,n,l,q⟩=>?_)
 subst ex
 obtain rfl:u=Value.ref a:=rx
 exact xX I1 ea c n l fun u' s2 I2 ru=>⟨v,H1,I2,ru,q⟩
theorem tJ (ha:PE X o ta)(hv:PE X value tv)(hs:afN value (some (.Attribute o f pos')) pos.line X.env=pure false):PS X (.Assign [.Attribute o f pos'] value pos) (abz X.K ta tv f):=by
 intro pins s σ H D I h
 refine plainObj_wpAny_Assign_Attribute (cB (hv pins s σ H _ I h) fun u s1 ⟨y,H1,I1,ry,q⟩=>cB (ha pins s1 σ H1 _ I1 q) fun ov s2 ⟨x,H2,I2,rx,a,C,dx,fs,ex,ea,c,n,l,q2⟩=>?_) hs
 subst ex
 obtain rfl:ov=Value.ref a:=rx
 exact xY I2 ea c n l ry fun s3 I3=>⟨σ,_,I3,q2⟩
end
section
variable {X:Cx}{pins:ζ}{σ:St}{H:Hp}{s:aep}{A:aeI}{E:δ}{Q:δ}{c:Value}{b:Bool}
inductive lM (K:Frag)(H:Hp):V->Value->Prop where
 | cg:lM K H .cg (.type "NoneType")
 | bl (x:Bool):lM K H (.bl x) (.type "bool")
 | int (i:Int):lM K H (.int i) (.type "int")
 | str (x:Str):lM K H (.str x) (.type "str")
 | OL (x:UInt64):lM K H (.OL x) (.type "float")
 | lst {a:aef} {xs:ε} (e:H a=some (.lst xs)):lM K H (.ref a) (.type "list")
 | gi {a:aef} {o:Obj} {xs:ε} (e:H a=some (.gi o (.lst xs))):lM K H (.ref a) (.type "list")
 | tup {a:aef} {xs:ε} (e:H a=some (.tup xs)):lM K H (.ref a) (.type "tuple")
 | dK {a:aef} {kvs:γ} (e:H a=some (.dK kvs)):lM K H (.ref a) (.type "dict")
 | dT {a:aef} {kvs:Ξ} (e:H a=some (.dT kvs)):lM K H (.ref a) (.type "dict")
 | ins {a C dx:aef} {fs:List (Str×V)} (e:H a=some (.ins C dx fs)) (cl:vK K C) (ha:aeF K (.ref C) "__class__"=some (some (.builtin "object.__class__")))
   (hn:PySem.W.specialIn K (.builtin "object.__class__") "__get__"=some (some (.builtin "getset_descriptor.__get__"))) (htk:PySem.W.takesIn K (.builtin "object.__class__")=some true)
   (hm:PySem.W.mroIn K C (.type "object")=some true):lM K H (.ref a) (.ref C)
theorem CG (I:Inv X pins σ H s)(rx:RelV x u)(ty:lM X.K H x t)(e:aeV X.K t c=some b)(h:∀tk,Q (.bool b) {s with toks:=tk}):
  aen (aes X.prog X.w) A (call (.builtin "isinstance") [u,c]) Q E s:=by
 cases ty with
 | cg=>cases (show u=Value.none from rx);exact ae1 PySem.W.kitx_none I.jG True.intro e (fun z=>nomatch z) h
 | bl y=>cases (show u=Value.bool y from rx);exact ae1 PySem.W.kitx_bool I.jG True.intro e (fun z=>nomatch z) h
 | int i=>obtain ⟨t,q⟩:=(show ∃t,u=Value.int i t from rx);cases q;exact ae1 PySem.W.kitx_int I.jG True.intro e (fun z=>nomatch z) h
 | str y=>obtain ⟨t,q⟩:=(show ∃t,u=Value.str y t from rx);cases q;exact ae1 PySem.W.kitx_str I.jG True.intro e (fun z=>nomatch z) h
 | OL y=>obtain ⟨t,q⟩:=(show ∃t,u=Value.float y t from rx);cases q;exact ae1 PySem.W.kitx_float I.jG True.intro e (fun z=>nomatch z) h
 | @lst a xs ea=>
  cases (show u=Value.ref a from rx)
  obtain ⟨_,_,n,_,h1⟩:=(show cK X.prog X.w H s.heap a (.lst xs) from I.bO a _ ea)
  exact ae1 PySem.W.kitx_list I.jG ⟨_,h1,rfl⟩ e (fun z=>nomatch z) h
 | @gi a ob xs ea=>
  cases (show u=Value.ref a from rx)
  obtain ⟨_,_,_,n,_,h1⟩:=(show cK X.prog X.w H s.heap a (.gi ob (.lst xs)) from I.bO a _ ea)
  exact ae1 PySem.W.kitx_list I.jG ⟨_,h1,rfl⟩ e (fun z=>nomatch z) h
 | @tup a xs ea=>
  cases (show u=Value.ref a from rx)
  obtain ⟨_,_,_,p⟩:=(show cK X.prog X.w H s.heap a (.tup xs) from I.bO a _ ea)
  obtain ⟨o,h1,h2,_⟩:=p
  exact ae1 PySem.W.kitx_tuple I.jG ⟨o,h1,h2⟩ e (fun z=>nomatch z) h
 | @dK a kvs ea=>
  cases (show u=Value.ref a from rx)
  obtain ⟨_,_,vs,_,p⟩:=(show cK X.prog X.w H s.heap a (.dK kvs) from I.bO a _ ea)
  obtain ⟨o,es,ep,h1,h2,_⟩:=p
  exact ae1 PySem.W.kitx_dict I.jG ⟨o,h1,h2.1⟩ e (fun z=>nomatch z) h
 | @dT a kvs ea=>
  cases (show u=Value.ref a from rx)
  obtain ⟨_,_,xs,_,o,es,ep,h1,h2,_⟩:=(show cK X.prog X.w H s.heap a (.dT kvs) from I.bO a _ ea)
  exact ae1 PySem.W.kitx_dict I.jG ⟨o,h1,h2.1⟩ e (fun z=>nomatch z) h
 | @ins a C dx fs ea cl ha hn htk hm=>
  cases (show u=Value.ref a from rx)
  obtain ⟨mA,O,_⟩:=nR I.bO ea
  obtain ⟨od,J,_⟩:=O.look
  exact ae1 (PySem.W.kitx_own (cl.get _) cl.hd ha hn htk hm) I.jG J e (fun z=>nomatch z) h
end
end L2
namespace L2
open PySem PySem.Spec PyProof.Rows
structure cx (k:Nat)(A:aeI):Prop where
 hd:A.handled=none
 dp:A.depth+3*k+5<agH
 un:A.units+16*k+200<afG
theorem cx.mono (r:cx k A)(h:j<=k):cx j A:=⟨r.hd,by have:=r.dp;omega,by have:=r.un;omega⟩
theorem cx.deeper (r:cx (k+1) A)(env:Env):cx k (A.deeper env):=
 ⟨r.hd,by have:=r.dp;show A.depth+1+3*k+5<_;omega,by have:=r.un;show A.units+3+16*k+200<_;omega⟩
theorem x3 {A:aeI}{us:ο}{kw:Φ}:(A.under (.builtin "type.__call__" ⟨.ref C::us,kw⟩)).depth=A.depth+1:=by
 first|rfl|simp [Around.under,Code.weight,Code.isCreation,Code.isGuard,Code.isCaller,Code.frames,Code.isFrame,guardIds]
theorem x4 {A:aeI}{us:ο}{kw:Φ}:(A.under (.builtin "type.__call__" ⟨.ref C::us,kw⟩)).units=A.units+1:=by
 first|rfl|simp [Around.under,Code.cUnits,Code.frames,Code.isFrame]
theorem cx.make (r:cx (k+1) A)(C:aef)(us:ο)(kw:Φ):cx k (A.under (.builtin "type.__call__" ⟨.ref C::us,kw⟩)):=
 ⟨r.hd,by have:=r.dp;rw [x3];omega,by have:=r.un;rw [x4];omega⟩
theorem cx.depth (r:cx k A):A.depth<agH:=by have:=r.dp;omega
theorem cx.units (r:cx k A):A.units+64<afG:=by have:=r.un;omega
def dJ:TA:=fun _ H Q=>Q [] H
def mP (ta:TE)(tr:TA):TA:=fun σ H Q=>ta σ H fun x H1=>tr σ H1 fun xs H2=>Q (x::xs) H2
section
variable {X:Cx}{e:Expr}{es:Δ}{te:TE}{t:TA}{pos:Pos}
theorem eZ:PA X [] dJ:=fun _ _ _ _ H Q I h=>afR ⟨[],H,I,.nil,h⟩
theorem M3 (ha:PE X e te)(hr:PA X es t)(hs:aeA (e::es) X.env=(false,aeM e X.env)::aeA es X.env:=by rfl):PA X (e::es) (mP te t):=by
 intro pos pins s σ H Q I h
 rw [hs]
 show aen _ _ (spliced ((false,aeM e X.env)::afc pos (aeA es X.env))) _ _ s
 refine afo (cB (ha pins s σ H _ I h) fun u s1 ⟨x,H1,I1,r1,q1⟩=>?_)
 exact cB (hr pos pins s1 σ H1 _ I1 q1) fun us s2 ⟨xs,H2,I2,r2,q2⟩=>⟨x::xs,H2,I2,.cons r1 r2,q2⟩
def abA (t:TA):TE:=fun σ H Q=>t σ H fun xs H1=>xs.length<=ael/\∀p,H1 p=none->Q (.ref p) (upd H1 p (.tup xs))
def abB (t:TA):TE:=fun σ H Q=>t σ H fun xs H1=>xs.length<=ael/\∀p,H1 p=none->Q (.ref p) (upd H1 p (.lst xs))
theorem aU (h:PA X es t):PE X (.Tuple es x1 pos) (abA t):=by
 intro pins s σ H Q I hq
 refine wpAny_Tuple_spliced (cB (h pos pins s σ H _ I hq) fun us s1 ⟨xs,H1,I1,r,z,q⟩=>⟨by rw [<-r.length];exact z,?_⟩)
 have hf:H1 s1.heap.objs.size=none:=I1.bO.fresh (aal _)
 refine ⟨.ref s1.heap.objs.size,upd H1 s1.heap.objs.size (.tup xs),I1.laid (t':=s1.toks) (fun b u e=>aeh _ e) (aal _) ?_,rfl,q _ hf⟩
 exact ⟨z,us,r,⟨_,aez _ rfl,rfl,_,rfl⟩⟩
theorem bV (h:PA X es t):PE X (.List es pos) (abB t):=by
 intro pins s σ H Q I hq
 refine wpAny_List_spliced (cB (h pos pins s σ H _ I hq) fun us s1 ⟨xs,H1,I1,r,z,q⟩=>⟨by rw [<-r.length];exact z,?_⟩)
 have hf:H1 s1.heap.objs.size=none:=I1.bO.fresh (aal _)
 refine ⟨.ref s1.heap.objs.size,upd H1 s1.heap.objs.size (.lst xs),I1.laid (t':=s1.toks) (fun b u e=>aeh _ e) (aal _) ?_,rfl,q _ hf⟩
 exact ⟨z,us,0,r,aez _ rfl⟩
end
abbrev Sp:=List V->Hp->VK->XK->Prop
abbrev j9:=List Env->Hp->aep->XK->Value->aep->Prop
structure x5 (P:aeB)(w:World)(K:Frag)(mg:ι)(base:Heap)(A:aeI)(outer:List Env)(s:aep)(H:Hp):Prop where
 frames:A.frames=some outer
 mod:Mod K mg base
 bs:∀b o,base.get? b=some o->s.heap.get? b=some o/\H b=none
 MG:base.objs.size<=s.heap.objs.size
 nj:s.heap.FunFrames base outer
 Qt:∀b∈zv outer,H b=none
 bO:ju P w H s.heap
 bare:aga s.gens
def CE (outer:List Env)(P:aeB)(w:World)(H:Hp)(s:aep)(Q:VK)(u:Value)(s':aep):Prop:=
 ∃v H',s'.os=s.os/\aga s'.gens/\Un (zv outer) [] H H' s.heap s'.heap/\ju P w H' s'.heap/\RelV v u/\Q v H'
def CR (CX:j9)(outer:List Env)(P:aeB)(w:World)(H:Hp)(s:aep)(Q:VK)(E:XK)(r:Result)(s':aep):Prop:=
 match r with
 | .ok (.ret u)=>CE outer P w H s Q u s'
 | .ok _=>False
 | .error e=>CX outer H s E e s'
structure cO (P:aeB)(w:World)(K:Frag)(mg:ι)(base:Heap)(CX:j9)(k:Nat)(f:aef)(fd:FuncData)(ps:ρ)(sp:Sp):Prop where
 len:∀vs H Q E,sp vs H Q E->vs.length=ps.length
 run:∀(A:aeI)(outer:List Env)(s:aep)(H:Hp)(args:Args)(us:ο)(vs:ε)(Q:VK)(E:XK),cx k A->x5 P w K mg base A outer s H->BindsTo s fd args (ps.zip us)->Vals vs us->sp vs H Q E->
  afd (aes P w) A (.call (.ref f) args) (CR CX outer P w H s Q E) s
theorem cO.mono {K:Frag}(F:cO P w K mg base CX j f fd ps sp)(h:j<=k):
  cO P w K mg base CX k f fd ps sp:=⟨F.len,fun A outer s H args us vs Q E hr=>F.run A outer s H args us vs Q E (hr.mono h)⟩
theorem cO.imp {K:Frag}(F:cO P w K mg base CX k f fd ps sp)
  (h:∀vs H Q E,sp' vs H Q E->sp vs H Q E):cO P w K mg base CX k f fd ps sp':=
 ⟨fun vs H Q E q=>F.len vs H Q E (h _ _ _ _ q),fun A outer s H args us vs Q E hr he hb hv hs=>F.run A outer s H args us vs Q E hr he hb hv (h _ _ _ _ hs)⟩
theorem x5.make {K:Frag}(e:x5 P w K mg base A outer s H)(C:aef)(us:ο)(kw:Φ):
  x5 P w K mg base (A.under (.builtin "type.__call__" ⟨.ref C::us,kw⟩)) outer s H:=⟨by first|exact e.frames|(simpa [Around.under,Code.envs,Code.isFrame,pushEnvs] using e.frames),e.mod,e.bs,e.MG,e.nj,e.Qt,e.bO,e.bare⟩
section
variable {X:Cx}{pins:ζ}{σ:St}{H:Hp}{s s':aep}
theorem Inv.TU (I:Inv X pins σ H s):x5 X.prog X.w X.K X.mg X.base X.A X.stack s H:=
 ⟨I.ok.frames,I.ok.mod,I.bs,aak I.ok.MG I.sz,I.stack,I.zA,I.bO,I.bare⟩
theorem Inv.after (I:Inv X pins σ H s)(h:CE X.stack X.prog X.w H s Q u s'):EP X pins σ Q u s':=by
 obtain ⟨v,H',os,bare,un,bO,r,q⟩:=h
 obtain ⟨hh,g,d,t,os'⟩:=s'
 obtain rfl:os'=s.os:=os
 exact ⟨v,H',I.call (h':=hh) (g':=g) (d':=d) (t':=t) (ch:=[]) un bO bare (fun b z=>aet z (by simp)),r,q⟩
end
def zH (sp:Sp)(dvs:ε)(E:XK)(t:TA):TE:=fun σ H Q=>t σ H fun vs H1=>sp (vs++dvs) H1 Q E
def O1 (C:aef)(sp:Sp)(dvs:ε)(E:XK)(t:TA):TE:=fun σ H Q=>t σ H fun vs H1=>∀x dx,H1 x=none->H1 dx=none->dx≠x->
 sp (.ref x::(vs++dvs)) (upd (upd H1 dx (.own x)) x (.ins C dx [])) (fun v H2=>v=.cg/\Q (.ref x) H2) E
def Binds (K:Frag)(fd:FuncData)(ps:ρ)(ds:ο):Prop:=
 ∀(s:aep)(us:ο),K.In s.heap->(us++ds).length=ps.length->BindsTo s fd ⟨us,[]⟩ (ps.zip (us++ds))
theorem Binds.all {K:Frag}(h:∀us:List Value,us.length=ps.length->bindArgs fd ⟨us,[]⟩=pure (ps.zip us)):Binds K fd ps []:=fun s us _ hl=>by
 rw [acB] at hl ⊢
 exact .of_eq (h us hl)
def Passes (CX:j9)(X:Cx)(E:XK):Prop:=∀(pins:ζ)(σ:St)(H:Hp)(s:aep)(e:Value)(s':aep),Inv X pins σ H s->CX X.stack H s E e s' ->X.xe e s'
section
variable {X:Cx}{CX:j9}{k:Nat}{f C:aef}{fd:FuncData}{ps:ρ}{sp:Sp}{dvs:ε}{ds:ο}{E:XK}{x m:Str}{p pos apos:Pos}{e o:Expr}{es:Δ}{ta:TE}{t:TA}
theorem tK {σ:St}{us:ο}{vs:ε}(F:cO X.prog X.w X.K X.mg X.base CX k f fd ps sp)(hr:cx k X.A)(hb:Binds X.K fd ps ds)(hd:Vals dvs ds)(hx:Passes CX X E)
  (I:Inv X pins σ H s) (r:Vals vs us) (h:sp (vs++dvs) H Q E):aen (aes X.prog X.w) X.A (call (.ref f) us) (EP X pins σ Q) X.xe s:=by
 have r2:Vals (vs++dvs) (us++ds):=r.append hd
 have hl:(us++ds).length=ps.length:=by rw [<-r2.length];exact F.len _ _ _ _ h
 refine wpAny_call (codeAny_mono (F.run X.A X.stack s H ⟨us,[]⟩ (us++ds) (vs++dvs) Q E hr I.TU (hb s us I.jG hl) r2 h) fun r s' hq=>?_)
 cases r with
 | error e=>exact hx pins σ H s e s' I hq
 | ok fl=>
  cases fl with
  | ret u=>exact I.after hq
  | next=>exact False.elim hq
  | brk=>exact False.elim hq
  | cont=>exact False.elim hq
theorem M6 (F:cO X.prog X.w X.K X.mg X.base CX k f fd ps sp)(hr:cx k X.A)(hg:Gl X x)(hm:X.mg x=some (.ref f))(hk:keepIn X.K (.ref f)=true)(hb:Binds X.K fd ps ds)(hd:Vals dvs ds)(hx:Passes CX X E)
  (ha:PA X (e::es) t) (vL:(x==("__debug__":Str))=false:=by decide) (he:aeA (e::es) X.env=(false,aeM e X.env)::aeA es X.env:=by rfl) (vv:(afc pos (aeA es X.env)).any (·.1)=false:=by rfl):
  PE X (.Call (.Name x p) (e::es) [] pos) (zH sp dvs E t):=by
 intro pins s σ H Q I h
 refine afp (j6 I hg hm ?_ vL)
 refine af7 (h₀:=X.base) I.ok.mod.OM hk (cB (ha pos pins s σ H _ I h) fun us s1 ⟨vs,H1,I1,r,q⟩=>⟨I1.jG,?_⟩) he vv
 exact tK F hr hb hd hx I1 r q
structure Mk (K:Frag)(C f:aef):Prop where
 makes:afg K C=true
 init:aeF K (.ref C) "__init__"=some (some (.ref f))
 fn:agv K (.ref f)=true
 kp:keepIn K (.ref C)=true
theorem vM {σ:St}{us:ο}{vs:ε}(M:Mk X.K C f)(F:cO X.prog X.w X.K X.mg X.base CX k f fd ps sp)(hr:cx (k+1) X.A)(hb:Binds X.K fd ps ds)(hd:Vals dvs ds)
  (hx:Passes CX X E) (I:Inv X pins σ H s) (r:Vals vs us)
  (h:∀x dx,H x=none->H dx=none->dx≠x->sp (.ref x::(vs++dvs)) (upd (upd H dx (.own x)) x (.ins C dx [])) (fun v H2=>v=.cg/\Q (.ref x) H2) E):
  aen (aes X.prog X.w) X.A (call (.ref C) us) (EP X pins σ Q) X.xe s:=by
 have hq:=h (s.heap.objs.size+1) s.heap.objs.size (I.bO.fresh (ajZ _)) (I.bO.fresh (aal _)) (aaM (aaV _))
 have I2:=Inv.made (C:=C) I
 have r2:Vals (V.ref (s.heap.objs.size+1)::(vs++dvs)) (Value.ref (s.heap.objs.size+1)::(us++ds)):=.cons rfl (r.append hd)
 have hl:(Value.ref (s.heap.objs.size+1)::us++ds).length=ps.length:=by
  have e:=r2.length
  rw [F.len _ _ _ _ hq] at e
  exact e.symm
 refine wpAny_call (IA (f:=f) I.jG M.makes M.init (beq_iff_eq.mp M.fn) (codeAny_mono (F.run _ X.stack _ _ ⟨Value.ref (s.heap.objs.size+1)::us,[]⟩ (Value.ref (s.heap.objs.size+1)::(us++ds)) _ _ E (hr.make C us [])
  (I2.TU.make C us []) (hb _ (Value.ref (s.heap.objs.size+1)::us) I2.jG hl) r2 hq) fun r s' nq =>?_))
 cases r with
 | error e=>exact hx pins σ _ _ e s' I2 nq
 | ok fl=>
  cases fl with
  | ret u=>
   obtain ⟨v,H',I3,rv,ev,q3⟩:=I2.after nq
   subst ev
   exact ⟨rv,⟨V.ref (s.heap.objs.size+1),H',I3,rfl,q3⟩⟩
  | next=>exact False.elim nq
  | brk=>exact False.elim nq
  | cont=>exact False.elim nq
theorem zI (M:Mk X.K C f)(F:cO X.prog X.w X.K X.mg X.base CX k f fd ps sp)(hr:cx (k+1) X.A)(hg:Gl X x)(hm:X.mg x=some (.ref C))(hb:Binds X.K fd ps ds)(hd:Vals dvs ds)(hx:Passes CX X E)
  (ha:PA X (e::es) t) (vL:(x==("__debug__":Str))=false:=by decide) (he:aeA (e::es) X.env=(false,aeM e X.env)::aeA es X.env:=by rfl) (vv:(afc pos (aeA es X.env)).any (·.1)=false:=by rfl):
  PE X (.Call (.Name x p) (e::es) [] pos) (O1 C sp dvs E t):=by
 intro pins s σ H Q I h
 refine afp (j6 I hg hm ?_ vL)
 refine af7 (h₀:=X.base) I.ok.mod.OM M.kp (cB (ha pos pins s σ H _ I h) fun us s1 ⟨vs,H1,I1,r,q⟩=>⟨I1.jG,?_⟩) he vv
 exact vM M F hr hb hd hx I1 r q
theorem IC (M:Mk X.K C f)(F:cO X.prog X.w X.K X.mg X.base CX k f fd ps sp)(hr:cx (k+1) X.A)(hg:Gl X x)(hm:X.mg x=some (.ref C))(hb:Binds X.K fd ps ds)(hd:Vals dvs ds)(hx:Passes CX X E)
  (vL:(x==("__debug__":Str))=false:=by decide):PE X (.Call (.Name x p) [] [] pos) (O1 C sp dvs E dJ):=by
 intro pins s σ H Q I h
 refine afp (j6 I hg hm ?_ vL)
 exact PySem.W.callWith_K0 I.jG M.kp (vM (us:=[]) M F hr hb hd hx I .nil h)
end
section
variable {X:Cx}{CX:j9}{k:Nat}{f C:aef}{fd:FuncData}{ps ks:ρ}{sp:Sp}{E:XK}{x m:Str}{p pos apos auH:Pos}{e o:Expr}{es:Δ}{kws:List Keyword}{te ta:TE}{t tk:TA}{nm:Option Str}
variable {g:List Value->List Value->List Value}{gV:List V->List V->List V}
end
structure aC (N P:ρ)(sc:Scope):Prop where
 kind:sc.kind=.function
 co:sc.isCoroutine=false
 gen:sc.isGenerator=false
 nd:N.Nodup
 pre:N.take P.length=P
 par:∀x∈P,sc.names.lookup x=some .local\/sc.names.lookup x=some .cell
 QJ:∀y∈sc.names,y.2≠.free
theorem r8 {afS:Str->Option NameKind}:∀{binds:Φ} {m:ι},(∀v,(x,v)∉binds)->bindL afS binds m x=m x
 | [],_,_=>rfl
 | (n,v)::r,m,h=>by
  unfold bindL
  rw [r8 fun w hw=>h w (aan _ hw)]
  split
  ·have:x≠n:=by rintro rfl;exact h v aas
   simp [this]
  ·rfl
theorem r9 {afS:Str->Option NameKind}:∀{binds:Φ} {m:ι},(∀v,(x,v)∉binds)->bindC afS binds m x=m x
 | [],_,_=>rfl
 | (n,v)::r,m,h=>by
  unfold bindC
  rw [r9 fun w hw=>h w (aan _ hw)]
  split
  ·rfl
  ·have:x≠n:=by rintro rfl;exact h v aas
   simp [this]
theorem r_ {afS:Str->Option NameKind}:∀{P:ρ} {vs:ο} {i:Nat} {m:ι},P.Nodup->P[i]?=some x->vs[i]?=some v->afS x=some .local->
  bindL afS (P.zip vs) m x=some v
 | [],_,_,_,_,h,_,_=>by simp at h
 | _::_,[],_,_,_,_,h,_=>by simp at h
 | p::P,w::vs,0,m,nd,h1,h2,hk=>by
  simp at h1 h2;subst h1;subst h2
  show bindL afS ((p,w)::P.zip vs) m p=_
  unfold bindL
  rw [r8 fun v hv=>(aaR.mp nd).1 (ajW hv).1,aek hk]
  simp
 | p::P,w::vs,i+1,m,nd,h1,h2,hk=>by
  show bindL afS ((p,w)::P.zip vs) m x=_
  unfold bindL
  exact r_ (i:=i) (aaR.mp nd).2 (by simpa using h1) (by simpa using h2) hk
theorem se {afS:Str->Option NameKind}:∀{P:ρ} {vs:ο} {i:Nat} {m:ι},P.Nodup->P[i]?=some x->vs[i]?=some v->afS x≠some .local->
  bindC afS (P.zip vs) m x=some v
 | [],_,_,_,_,h,_,_=>by simp at h
 | _::_,[],_,_,_,_,h,_=>by simp at h
 | p::P,w::vs,0,m,nd,h1,h2,hk=>by
  simp at h1 h2;subst h1;subst h2
  show bindC afS ((p,w)::P.zip vs) m p=_
  unfold bindC
  rw [r9 fun v hv=>(aaR.mp nd).1 (ajW hv).1,aej hk]
  simp
 | p::P,w::vs,i+1,m,nd,h1,h2,hk=>by
  show bindC afS ((p,w)::P.zip vs) m x=_
  unfold bindC
  exact se (i:=i) (aaR.mp nd).2 (by simpa using h1) (by simpa using h2) hk
def start (N:ρ)(vs:ε):St:=vs.map some++aaF (N.length-vs.length) none
def j_ (CX:j9)(P:aeB)(w:World)(K:Frag)(mg:ι)(base:Heap)(N:ρ)(qual:Str)(scope:Scope)(f:aef)(cd:Value)(A:aeI)(outer:List Env)(s:aep)(H:Hp)(E:XK):Cx where
 prog:=P
 w:=w
 K:=K
 mg:=mg
 base:=base
 A:=A.deeper (afO qual scope s.heap.objs.size f cd)
 N:=N
 s₀:=s
 H₀:=H
 env:=afO qual scope s.heap.objs.size f cd
 outer:=outer
 stack:=afO qual scope s.heap.objs.size f cd::outer
 ex:=[]
 calm:=true
 fn:=fun _=>true
 pn:=[]
 xe:=fun e s'=>aen (aes P w) (A.deeper (afO qual scope s.heap.objs.size f cd)) (leaving (afO qual scope s.heap.objs.size f cd) e) (fun _ TV =>CX outer H s E e TV) (fun e' TV =>CX outer H s E e' TV) s'
theorem vN {sc:Scope}(h:sc.names.lookup x=some .cell):∃c,(cellsFrom n sc.names []).lookup x=some c:=by
 have q:=PySem.W.cellsFrom_some sc.names n [] (.inl h)
 exact aed.mp q
theorem CH {K:Frag}{us:ο}{vs:ε}
  (S:aC N ps scope) (hd:A.handled=none) (e0:x5 P w K mg base A outer s H) (hl:vs.length=ps.length) (r:Vals vs us)
  (x:InCallC s s.heap.objs.size (bindL (afO qual scope s.heap.objs.size f cd).kindOf (ps.zip us) fun _=>none) (cellsFrom (s.heap.objs.size+1) scope.names []) (bindC (afO qual scope s.heap.objs.size f cd).kindOf (ps.zip us) fun _=>none) s1):
  Inv (j_ CX P w K mg base N qual scope f cd A outer s H E) [] (start N vs) H s1:=by
 have vv:ps.length<=N.length:=by have:=aeE acf S.pre;rw [aaJ] at this;omega
 obtain ⟨h1,tk,rfl,hk⟩:=x.done
 have TX:∀b:aef,b∉(j_ CX P w K mg base N qual scope f cd A outer s H E).ex:=fun b z=>aet (show b∈([]:List aef) from z) (by simp)
 refine ⟨⟨e0.mod,S.kind,rfl,rfl,aal _,fun y z c h1 h2=>?_,fun y hy=>?_,fun y c _ h=>?_,fun _=>hd,Around.frames_deeper e0.frames,.inr ⟨rfl,rfl⟩,fun b z=>aet z (TX b),e0.bs,e0.MG,fun b _ _=>TX b,fun b z=>aet z (TX b),e0.nj,e0.Qt⟩,
  rfl,e0.bare,Un.kept hk,⟨_,x.toInCall.ns,fun i y v h1 h2 h3=>?_⟩,fun y c h=>⟨_,x.cell y c h⟩,e0.bO.fresh (aal _),fun y c h=>?_,fun p hp=>aet (show p∈([]:List (aef×Obj)) from hp) (by simp),e0.bO.kept hk,?_⟩
 ·exact name_of_addr x.apart (afI h1) (afI h2)
 ·have hy:scope.names.lookup y=some .cell\/scope.names.lookup y=some .free:=hy
  rcases hy with hy|hy
  ·exact vN hy
  ·exact aet rfl (S.QJ _ (afI hy))
 ·exact aa1 (x.above y c (afI h))
 ·have hi:i<vs.length:=by
   unfold start at h2
   by_cases hi:i<vs.length
   ·exact hi
   ·rw [aav (by simpa using hi)] at h2
    rw [aa_] at h2
    split at h2<;>cases h2
  have ha:vs[i]?=some v:=by
   unfold start at h2
   rw [aar (by simpa using hi),aag] at h2
   cases e:vs[i]? with
   | none=>rw [e] at h2;cases h2
   | some a=>rw [e] at h2;cases h2;rfl
  obtain ⟨u,hu,rv⟩:=r.get ha
  have hp:ps[i]?=some y:=by
   rw [<-S.pre,List.getElem?_take_of_lt (by omega)];exact h1
  have ndP:ps.Nodup:=by rw [<-S.pre];exact S.nd.sublist (List.take_sublist _ _)
  refine ⟨u,rv,?_⟩
  rcases S.par y (Wp hp) with k|k
  ·exact .inl ⟨k,r_ ndP hp hu k⟩
  ·obtain ⟨c,e⟩:=vN (n:=s.heap.objs.size+1) k
   refine .inr ⟨.inl k,c,e,?_⟩
   have q:=x.cell y c e
   rw [se ndP hp hu (by show scope.names.lookup y≠_;rw [k];decide)] at q
   exact q
 ·exact e0.bO.fresh (aa1 (x.above y c (afI h)))
 ·unfold start
  show _=N.length
  rw [aat,aah,ab']
  omega
theorem zJ {K:Frag}{dV kV doc pm cp ct oc:Value}{an od:Θ}
  {qV:Ν}   (lk:K.lookup f=some ⟨oc,od,.func (fnOf name qual params body scope dV kV doc pm an cp ct),qV⟩) (q_:codeIn K cp qual=true) (S:aC N ps scope)
  (len:∀vs H Q E,sp vs H Q E->vs.length=ps.length)
  (fW:∀(A:aeI)(outer:List Env)(s:aep)(H:Hp)(vs:ε)(Q:VK)(E:XK),cx k (A.deeper (afO qual scope s.heap.objs.size f cp))->sp vs H Q E->
   ∃t,PSs (j_ CX P w K mg base N qual scope f cp A outer s H E) body t/\t {nx:=fun _ H'=>Q .cg H',rt:=Q} (start N vs) H):
  cO P w K mg base CX (k+1) f (fnOf name qual params body scope dV kV doc pm an cp ct) ps sp:=by
 refine ⟨len,fun A outer s H args us vs Q E hr e0 hb r nA=>?_⟩
 have hl:=len _ _ _ _ nA
 have KX:K.In s.heap:=e0.mod.OM.keeps fun b o e=>(e0.bs b o e).1
 have lim:s.heap.NoLimit:=e0.mod.nolimit.keeps fun b o e=>(e0.bs b o e).1
 have TY:∀y∈ps.zip us,scope.names.lookup y.1=some .local\/(scope.names.lookup y.1=some .cell/\((cellsFrom (s.heap.objs.size+1) scope.names []).lookup y.1).isSome=true):=fun ⟨n,v⟩ hy=>by
  rcases S.par n (ajW hy).1 with q|q
  ·exact .inl q
  ·exact .inr ⟨q,PySem.W.cellsFrom_some _ _ _ (.inl q)⟩
 refine codeAny_call_function hr.depth (KX _ _ lk) rfl S.co S.gen rfl (PySem.W.codeRec_of KX q_) (hb _ _ _ _ ?_)
 refine wpAny_newFunctionEnv_cells S.kind TY fun env he s1 x=>?_
 subst he
 refine ⟨lim.keeps x.toInCall.keep,codeAny_func ?_⟩
 obtain ⟨t,ht,hq⟩:=fW A outer s H vs Q E (hr.deeper _) nA
 have I:Inv (j_ CX P w K mg base N qual scope f cp A outer s H E) [] (start N vs) H s1:=CH S hr.hd e0 hl r x
 refine aeU (ht [] s1 (start N vs) H _ I hq) (fun fl s' hs=>?_) fun e s' hs=>hs
 have fin:∀{σ' :St} {H':Hp} {v:V} {u:Value},Inv (j_ CX P w K mg base N qual scope f cp A outer s H E) [] σ' H' s' ->RelV v u->Q v H' ->CE outer P w H s Q u s':=
  fun {σ' H' v u} J rv q=>⟨v,H',J.os,J.bare,J.base,J.bO,rv,q⟩
 cases fl with
 | ret u=>
  obtain ⟨v,σ',H',J,rv,q⟩:=hs
  exact fin J rv q
 | next=>
  obtain ⟨σ',H',J,q⟩:=hs
  exact fin (v:=V.cg) (u:=Value.none) J rfl q
 | brk=>
  obtain ⟨_,_,_,q⟩:=hs
  exact False.elim q
 | cont=>
  obtain ⟨_,_,_,q⟩:=hs
  exact False.elim q
end L2
namespace L2
open PySem PySem.Spec PyProof.Rows
section
variable {X:Cx}{x:Str}{p pos:Pos}{e:Expr}{es:Δ}{t:TA}{id T:String}{r:List V->Hp->VK->Prop}
def tCB (r:List V->Hp->VK->Prop)(t:TA):TE:=fun σ H Q=>t σ H fun vs H1=>r vs H1 Q
theorem aG (hc:ft X (.builtin id) r)(hg:Gl X x)(hm:X.mg x=none)(hv:aeL x=some (.builtin id))(ha:PA X (e::es) t)(hn:x≠ "__name__":=by decide)(vL:(x==("__debug__":Str))=false:=by decide)
  (he:aeA (e::es) X.env=(false,aeM e X.env)::aeA es X.env:=by rfl) (vv:(afc pos (aeA es X.env)).any (·.1)=false:=by rfl):PE X (.Call (.Name x p) (e::es) [] pos) (tCB r t):=by
 intro pins s σ H Q I h
 refine afp (gS I hg hm hv ?_ hn vL)
 exact PyProof.Rows.callWith_builtin1 (cB (ha pos pins s σ H _ I h) fun us s1 ⟨vs,H1,I1,r1,q1⟩=>hc pins s1 σ H1 vs us Q I1 r1 q1) he vv
theorem b_ (hc:ft X (.type T) r)(hg:Gl X x)(hm:X.mg x=none)(hv:aeL x=some (.type T))(ha:PA X (e::es) t)(hn:x≠ "__name__":=by decide)(vL:(x==("__debug__":Str))=false:=by decide)
  (he:aeA (e::es) X.env=(false,aeM e X.env)::aeA es X.env:=by rfl) (vv:(afc pos (aeA es X.env)).any (·.1)=false:=by rfl):PE X (.Call (.Name x p) (e::es) [] pos) (tCB r t):=by
 intro pins s σ H Q I h
 refine afp (gS I hg hm hv ?_ hn vL)
 exact aeZ (cB (ha pos pins s σ H _ I h) fun us s1 ⟨vs,H1,I1,r1,q1⟩=>hc pins s1 σ H1 vs us Q I1 r1 q1) he vv
end
end L2
namespace HT
open PySem PyProof.Rows
section
open PySem.SeqAt
open PySem.AutoSeq1 (wpAny_loadPart')
open PySem.MeetsSeq PySem.MeetsSeq2 PySem.MeetsSeq3
end
section
variable {prog:aeB}{w:World}{A:aeI}{E:δ}{s:aep}
theorem M7 {vs ws:ο}{Q:δ}(ht:IsTup s.heap t vs.toArray)(hb:IsTup s.heap b ws.toArray)(hv:vs≠[])
  (h1:ws=[]->Q (.ref t) s) (h2:ws≠[]->Q (.ref s.heap.objs.size) {s with heap:=s.heap.push {cls:=.type "tuple",data:=.seq (vs++ws).toArray}})
  (hsz:vs.length+ws.length<=ael):aen (aes prog w) A (ae9 .Add (.ref t) (.ref b)) Q E s:=by
 obtain ⟨⟨cls,dd,data,sl⟩,ho,hc,n,hd⟩:=id ht
 obtain ⟨⟨auI,O3,data2,sl2⟩,ID,QK,n2,hd2⟩:=id hb
 simp only at hc hd QK hd2
 subst hc hd QK hd2
 have e:vs.toArray++ws.toArray=(vs++ws).toArray:=by simp
 by_cases hw:ws=[]
 ·exact concat_meets ⟨_,ho,rfl⟩ ⟨_,ID,rfl⟩ noFill_tuple_add seq_tuple_add PySem.F.slot_tuple_add PySem.F.entry_tuple_add (PySem.F.args_tuple_add_2 _ _)
   (tuple_addW1 t b vs.toArray ws.toArray n n2 dd O3 sl sl2 (by simpa using hv) (by simp [hw])) ⟨ho,ID,h1 hw⟩
 ·refine concat_meets ⟨_,ho,rfl⟩ ⟨_,ID,rfl⟩ noFill_tuple_add seq_tuple_add PySem.F.slot_tuple_add PySem.F.entry_tuple_add (PySem.F.args_tuple_add_2 _ _)
   (tuple_addW2 t b vs.toArray ws.toArray n n2 dd O3 sl sl2 (by simpa using hv) (by simpa using hw) (by rw [aaz,aaz];exact hsz)) ⟨ho,ID,?_⟩
  rw [e]
  exact h2 hw
def dN (n d:Nat):Option Int->Nat
 | none=>d
 | some v=>if v<0 then (v+(n:Int)).toNat else min v.toNat n
theorem vO (n d:Nat):dN n d none=d:=rfl
theorem nV (n d k:Nat):dN n d (some (k:Int))=min k n:=by
 show (if (k:Int)<0 then ((k:Int)+(n:Int)).toNat else min (k:Int).toNat n)=min k n
 rw [aej (by omega),Int.toNat_natCast]
theorem QL (n d:Nat)(hd:d<=n)(o:Ο):dN n d o<=n:=by
 cases o with
 | none=>exact hd
 | some v=>
  show (if v<0 then (v+(n:Int)).toNat else min v.toNat n)<=n
  by_cases hv:v<0
  ·rw [aek hv];omega
  ·rw [aej hv];exact Nat.min_le_right _ _
theorem zK (v:Int)(n d:Nat):(if v<0 then max (v+(n:Int)) 0 else min v (n:Int))=((dN n d (some v):Nat):Int):=by
 show (if v<0 then max (v+(n:Int)) 0 else min v (n:Int))=(((if v<0 then (v+(n:Int)).toNat else min v.toNat n):Nat):Int)
 by_cases hv:v<0
 ·simp only [aek hv];omega
 ·simp only [aej hv];omega
theorem x6 (lo hi:Ο)(n:Nat):Builtin.Slice.sliceAdjust lo hi 1 (n:Int)=(((dN n 0 lo:Nat):Int),((dN n n hi:Nat):Int)):=by
 have h1:¬ ((1:Int)<0):=by omega
 unfold Builtin.Slice.sliceAdjust
 simp only [h1,if_false]
 refine acT ?_ ?_
 ·cases lo with
  | none=>rfl
  | some v=>exact zK v n 0
 ·cases hi with
  | none=>rfl
  | some v=>exact zK v n n
theorem x8 (i j:Nat):afx (i:Int) (j:Int) 1=j-i:=by
 unfold afx
 have h1:(1:Int) > 0:=by omega
 simp only [h1,if_true,Int.ediv_one]
 split<;>omega
theorem oK {o:Ο}(p:IsPart v o)(h:Q o s):aen (aes prog w) A (Builtin.Slice.slicePartIndex v) Q E s:=by
 cases p with
 | none=>exact slicePart_none h
 | int i t=>exact slicePart_int h
theorem lQ {lo hi:Ο}{Q:Int×Int×Nat->aep->Prop}(hs:s.heap.IsSliceOf sl vl vu .none)(pl:IsPart vl lo)(pu:IsPart vu hi)
  (h:Q (((dN n 0 lo:Nat):Int),1,dN n n hi-dN n 0 lo) s):aen (aes prog w) A (Builtin.Slice.sliceApplied (.ref sl) (pure (n:Int))) Q E s:=by
 obtain ⟨os,TZ,hcs,T1⟩:=id hs
 unfold Builtin.Slice.sliceApplied Builtin.Slice.sliceFields
 refine aeg (aeg (afB TZ T1 (x:=vl) rfl (aeg (afB TZ T1 (x:=vu) rfl (aeg (afB TZ T1 (x:=.none) rfl (aeo ?_)))))))
 refine aeg (slicePart_none ?_)
 show aen _ _ (if ((1:Int)==0)=true then _ else _) _ _ s
 rw [aej (by decide)]
 refine aeg (oK pl (aeg (oK pu (aeg (aeo ?_)))))
 show aen _ _ (match Builtin.Slice.sliceAdjust lo hi 1 (n:Int) with|(lo,hi)=>pure (lo,(1:Int),afx lo hi 1)) _ _ s
 rw [x6 lo hi n]
 show aen _ _ (pure (((dN n 0 lo:Nat):Int),(1:Int),afx ((dN n 0 lo:Nat):Int) ((dN n n hi:Nat):Int) 1)) _ _ s
 rw [x8]
 exact aeo h
theorem IE (xs:Κ)(i k:Nat):((abb k).filterMap fun (m:Nat)=>xs[((i:Int)+(m:Int)*1).toNat]?).toArray=((xs.toList.drop i).take k).toArray:=by
 have e:(fun (m:Nat)=>xs[((i:Int)+(m:Int)*1).toNat]?)=fun m=>xs[i+m]? :=by
  funext m
  have:((i:Int)+(m:Int)*1).toNat=i+m:=by omega
  rw [this]
 rw [e]
 have:=pick_run xs i k
 rw [List.filterMap_map] at this
 have e2:((fun x=>xs[x]?) ∘ fun x=>i+x)=fun m=>xs[i+m]? :=rfl
 rw [e2] at this
 rw [this]
theorem kc {items:Κ}{lo hi:Ο}{Q:δ}(ht:IsTup s.heap t items)(hs:s.heap.IsSliceOf sl vl vu .none)(pl:IsPart vl lo)(pu:IsPart vu hi)
  (hw:¬ (dN items.size 0 lo=0/\dN items.size items.size hi=items.size))
  (h:Q (.ref s.heap.objs.size) {s with heap:=s.heap.push {cls:=.type "tuple",data:=.seq ((items.toList.drop (dN items.size 0 lo)).take (dN items.size items.size hi-dN items.size 0 lo)).toArray}})
  (hsz:items.size<=ael):aen (aes prog w) A (getItem (.ref t) (.ref sl)) Q E s:=by
 have zM:sizeOk (.seq ((items.toList.drop (dN items.size 0 lo)).take (dN items.size items.size hi-dN items.size 0 lo)).toArray):=by
  show ((items.toList.drop (dN items.size 0 lo)).take (dN items.size items.size hi-dN items.size 0 lo)).toArray.size<=ael
  rw [aaz,aaJ,adC,adR]
  omega
 have hj:dN items.size items.size hi<=items.size:=QL _ _ (aal _) hi
 obtain ⟨os,TZ,hcs,T1⟩:=id hs
 have hTs:s.TypeIs (.ref sl) "slice":=⟨os,TZ,hcs⟩
 unfold getItem
 try with_reducible refine ae5 ?_
 first|refine aeg (aeo ?_)|skip
 refine aeg (wpAny_sequenceKey ht.typeIs (by decide) ?_)
 refine aeg (wpAny_callSpecial?_slot (name:=aeY "__getitem__") ht.typeIs PyProof.Rows.slot_tuple_getitem
  (agn PyProof.Rows.slot_tuple_getitem ht.typeIs entry_tuple_getitem ?_ (args_tuple_getitem _ _)))
 show aen _ _ (Builtin.Tuple.tupleItemsOf (.ref t) >>=_) _ _ s
 refine aeg (tupleItemsOf_ ht ?_)
 refine aeg (afU hTs ?_)
 rw [aek (by decide)]
 refine aeg (lQ hs pl pu ?_)
 have hno:¬ ((((dN items.size 0 lo:Nat):Int)==0 && (1:Int)==1 && (dN items.size items.size hi-dN items.size 0 lo)==items.size)=true):=by
  intro q
  rw [abN,abN] at q
  have q1:((dN items.size 0 lo:Nat):Int)=0:=eq_of_beq q.1.1
  have q2:dN items.size items.size hi-dN items.size 0 lo=items.size:=eq_of_beq q.2
  exact hw ⟨by omega,by omega⟩
 show aen _ _ (if (((dN items.size 0 lo:Nat):Int)==0 && (1:Int)==1 && (dN items.size items.size hi-dN items.size 0 lo)==items.size)=true then _ else _) _ _ s
 rw [aej hno,IE]
 first
  | exact aeg (m:=afF _) (afi (aeo ⟨_,rfl,aeo h⟩) zM)
  | exact aeg (m:=afF _) (afi (aeg (aeo (aeo ⟨_,rfl,aeo h⟩))) zM)
  | exact aeg (aeg (m:=afF _) (afi (aeo (aeo ⟨_,rfl,aeo h⟩)) zM))
  | exact aeg (aeg (m:=afF _) (afi (aeo ⟨_,rfl,aeo h⟩) zM))
end
end HT
namespace L2
open PySem PySem.Spec PyProof.Rows
abbrev TO:=St->Hp->(Option Int->Hp->Prop)->Prop
def PO (X:Cx)(e:Option Expr)(t:TO):Prop:=
 ∀(pins:ζ)(s:aep)(σ:St)(H:Hp)(Q:Option Int->Hp->Prop),Inv X pins σ H s->t σ H Q->
  aen (aes X.prog X.w) X.A (evalPart e X.env) (fun u s'=>∃o H',Inv X pins σ H' s'/\IsPart u o/\Q o H') X.xe s
def M8:TO:=fun _ H Q=>Q none H
inductive IF (Q:(Option Int->Hp->Prop))(x:V)(H1:Hp):Prop
|mk (i:_)(_:x=.int i)(_:Q (some i) H1)
def T2 (t:TE):TO:=fun σ H Q=>t σ H fun x H1=>IF Q x H1
section
variable {X:Cx}{e:Expr}{te:TE}{lo hi:Option Expr}{tl th:TO}{pos p2:Pos}
theorem fj:PO X none M8:=by
 intro pins s σ H Q I h
 rw [evalPart_none]
 exact aeo ⟨none,H,I,.none,h⟩
theorem cM (h:PE X e te):PO X (some e) (T2 te):=by
 intro pins s σ H Q I hw
 rw [evalPart_some]
 refine cB (h pins s σ H _ I hw) fun u s1 ⟨x,H1,I1,r1,q1⟩=>?_
 obtain ⟨i,rfl,q⟩:=q1
 obtain ⟨t,rfl⟩:=r1
 exact ⟨some i,H1,I1,.int i t,q⟩
def T3 (X:Cx)(r:V->Option Int->Option Int->Hp->VK->Prop):Prop:=
 ∀(pins:ζ)(s:aep)(σ:St)(H:Hp)(x:V)(v vl vu:Value)(lo hi:Ο)(sl:aef)(Q:VK),Inv X pins σ H s->RelV x v->s.heap.IsSliceOf sl vl vu .none->IsPart vl lo->IsPart vu hi->r x lo hi H Q->
  ∃T id,agx (.type T) "__getitem__"=pure (some (.builtin id))/\s.TypeIs v T/\aen (aes X.prog X.w) X.A (getItem v (.ref sl)) (EP X pins σ Q) X.xe s
def tSl (r:V->Option Int->Option Int->Hp->VK->Prop)(te:TE)(tl th:TO):TE:=fun σ H Q=>te σ H fun x H1=>tl σ H1 fun l H2=>th σ H2 fun u H3=>r x l u H3 Q
theorem cP (hr:T3 X r)(he:PE X e te)(hl:PO X lo tl)(hu:PO X hi th):PE X (.Subscript e (.Slice lo hi none p2) pos) (tSl r te tl th):=by
 intro pins s σ H Q I h
 refine Subscript_ (cB (he pins s σ H _ I h) fun v s1 ⟨x,H1,I1,r1,q1⟩=>?_)
 refine wpAny_Slice (cB (hl pins s1 σ H1 _ I1 q1) fun vl s2 ⟨l,H2,I2,pl,q2⟩=>cB (hu pins s2 σ H2 _ I2 q2) fun vu s3 ⟨u,H3,I3,pu,q3⟩=>?_)
 rw [evalPart_none]
 refine aeo ?_
 have I4:Inv X pins σ H3 {s3 with heap:=s3.heap.push {cls:=.type "slice",data:=.fields #[vl,vu,.none]}}:=I3.kept (t':=s3.toks) fun b ob q=>aeh _ q
 obtain ⟨T,id,hT,ht,hg⟩:=hr pins {s3 with heap:=s3.heap.push {cls:=.type "slice",data:=.fields #[vl,vu,.none]}} σ H3 x v vl vu l u s3.heap.objs.size Q I4 r1 (Heap.IsSliceOf.new ..) pl pu q3
 show aen (aes X.prog X.w) X.A (subscriptTail e (.Slice lo hi none p2) v (.ref s3.heap.objs.size)) (EP X pins σ Q) X.xe {s3 with heap:=s3.heap.push {cls:=.type "slice",data:=.fields #[vl,vu,.none]}}
 exact tail_any (ops:=[.ref s3.heap.objs.size,v]) ht hT hg (by with_unfolding_all rfl)
def fK (xs:ε)(lo hi:Ο):List V:=(xs.drop (HT.dN xs.length 0 lo)).take (HT.dN xs.length xs.length hi-HT.dN xs.length 0 lo)
theorem mQ (xs:ε)(lo hi:Ο):(fK xs lo hi).length<=xs.length:=by
 unfold fK
 rw [aaJ,adC]
 omega
inductive QM (K:Frag)(x:V)(lo:Ο)(hi:Ο)(H:Hp)(Q:VK):Prop
|mk (a xs:_)(_:x=.ref a)(_:bJ K H a xs)(_:¬ (HT.dN xs.length 0 lo=0/\HT.dN xs.length xs.length hi=xs.length))(_:∀p,H p=none->Q (.ref p) (upd H p (.tup (fK xs lo hi))))
theorem tN:T3 X (QM X.K):=by
 intro pins s σ H x v vl vu lo hi sl Q I rx hs pl pu h
 obtain ⟨a,xs,rfl,hx,hw,q⟩:=h
 cases rx
 obtain ⟨its,r,ht,hz⟩:=I.tuple hx
 have hlen:its.toArray.size=xs.length:=by rw [aaz];exact r.length.symm
 refine ⟨"tuple",_,PyProof.Rows.slot_tuple_getitem.lookup,ht.typeIs,HT.kc ht hs pl pu (by rw [hlen];exact hw) ?_ (by rw [hlen];exact hz)⟩
 rw [hlen]
 refine ⟨.ref s.heap.objs.size,_,I.laid (t':=s.toks) (o:=.tup (fK xs lo hi)) (fun b ob q=>aeh _ q) (aal _) ?_,rfl,q _ (I.bO.fresh (aal _))⟩
 exact ⟨aak (mQ xs lo hi) hz,_,(r.drop (HT.dN xs.length 0 lo)).take (HT.dN xs.length xs.length hi-HT.dN xs.length 0 lo),IsTup.new _ _⟩
inductive IG (K:Frag)(x:V)(y:V)(H:Hp)(Q:VK):Prop
|mk (a b xs ys:_)(_:x=.ref a)(_:y=.ref b)(_:bJ K H a xs)(_:bJ K H b ys)(_:xs≠[])(_:xs.length+ys.length<=ael)(_:(ys=[]->Q (.ref a) H))(_:(ys≠[]->∀p,H p=none->Q (.ref p) (upd H p (.tup (xs++ys)))))
theorem Vals.tO {xs:ε}{us:ο}(r:Vals xs us):us=[] ↔ xs=[]:=by
 cases r with
 | nil=>simp
 | cons _ _=>simp
theorem tQ:i7 X (ae9 .Add) (IG X.K):=by
 intro pins s σ H x y v u Q I rx ry h
 obtain ⟨a,b,xs,ys,rfl,rfl,ha,hb,hx,hz,q1,q2⟩:=h
 cases rx
 cases ry
 obtain ⟨its,r1,p1,_⟩:=I.tuple ha
 obtain ⟨d0,r2,p2,_⟩:=I.tuple hb
 refine HT.M7 p1 p2 (fun z=>hx (r1.tO.mp z)) (fun z=>⟨.ref a,H,I,rfl,q1 (r2.tO.mp z)⟩) (fun z=>?_) (by rw [<-r1.length,<-r2.length];exact hz)
 refine ⟨.ref s.heap.objs.size,_,I.laid (t':=s.toks) (o:=.tup (xs++ys)) (fun b ob q=>aeh _ q) (aal _) ?_,rfl,q2 (fun w=>z (r2.tO.mpr w)) _ (I.bO.fresh (aal _))⟩
 exact ⟨by rw [aat];exact hz,_,r1.append r2,IsTup.new _ _⟩
end
end L2
namespace L2
open PySem PySem.Spec PyProof.Rows
def CI (n:Nat)(i:Int):Option Nat:=if 0<=i then (if i<n then some i.toNat else none) else if -(n:Int)<=i then some (i+n).toNat else none
def gh {α:Type}(xs:List α)(i:Int):Option α:=(CI xs.length i).bind fun j=>xs[j]?
theorem zN (h:CI n i=some j):seqIndex? i n=some j/\j<n/\ -(n:Int)<=i/\i<n:=by
 unfold CI at h
 by_cases h0:0<=i
 ·rw [aek h0] at h
  by_cases h1:i<n
  ·rw [aek h1] at h
   have e:i.toNat=j:=aaA h
   exact ⟨by rw [seqIndex_of h0 h1,e],by omega,by omega,h1⟩
  ·rw [aej h1] at h;cases h
 ·rw [aej h0] at h
  by_cases h1: -(n:Int)<=i
  ·rw [aek h1] at h
   have e:(i+n).toNat=j:=aaA h
   exact ⟨by rw [seqIndex_neg (by omega) h1,e],by omega,h1,by omega⟩
  ·rw [aej h1] at h;cases h
theorem tR {v:α}(h:gh xs i=some v):∃j,seqIndex? i xs.length=some j/\xs[j]?=some v/\j<xs.length/\ -(xs.length:Int)<=i/\i<xs.length:=by
 unfold gh at h
 cases e:CI xs.length i with
 | none=>rw [e] at h;cases h
 | some j=>
  rw [e] at h
  obtain ⟨h1,h2,h3,h4⟩:=zN e
  exact ⟨j,h1,h,h2,h3,h4⟩
theorem bP {j:Nat}{v:α}(h:xs[j]?=some v):gh xs (j:Int)=some v:=by
 have hj:j<xs.length:=(ir.mp h).1
 have e:CI xs.length (j:Int)=some j:=by
  unfold CI
  rw [aek (by omega),aek (by omega)];simp
 unfold gh;rw [e];exact h
theorem IH (xs:List α)(v:α):gh (xs++[v]) (-1)=some v:=by
 have hl:(xs++[v]).length=xs.length+1:=by simp
 have e:CI (xs++[v]).length (-1)=some xs.length:=by
  unfold CI
  rw [hl,aej (by decide),aek (by omega)]
  congr 1
  omega
 unfold gh
 rw [e]
 show (xs++[v])[xs.length]?=some v
 simp
def zO (b:Expr):Prop:=∀o i,subscripted b false o i=operate [o,i] (getItem o i)
def O4 (X:Cx)(r:R2):Prop:=
 ∀(value slice:Expr)(pins:ζ)(s:aep)(σ:St)(H:Hp)(x y:V)(v u:Value)(Q:VK),Inv X pins σ H s->RelV x v->RelV y u->r x y H Q->
  subscripted slice false v u=operate [v,u] (getItem v u)->aen (aes X.prog X.w) X.A (subscriptTail value slice v u) (EP X pins σ Q) X.xe s
def MtR (X:Cx)(id:String)(r:Ω):Prop:=
 ∀(pins:ζ)(s:aep)(σ:St)(H:Hp)(x:V)(xs:ε)(v:Value)(us:ο)(Q:VK),Inv X pins σ H s->RelV x v->Vals xs us->r x xs H Q->
  aen (aes X.prog X.w) X.A (call (.builtin id) (v::us)) (EP X pins σ Q) X.xe s
section
variable {X:Cx}{a b:Expr}{ta tb:TE}{pos:Pos}
theorem II (hr:O4 X r)(ha:PE X a ta)(hb:PE X b tb)(hs:zO b):PE X (.Subscript a b pos) (MV r ta tb):=by
 intro pins s σ H Q I h
 exact Subscript_ (QG ha hb I h fun v u s2 x y H2 I2 rx ry q=>hr a b pins s2 σ H2 x y v u Q I2 rx ry q (hs _ _))
inductive M9 (K:Frag)(x:V)(y:V)(H:Hp)(Q:VK):Prop
|mk (p xs i v:_)(_:x=.ref p)(_:y=.int i)(_:aV K H p xs)(_:gh xs i=some v)(_:Q v H)
inductive IJ (K:Frag)(x:V)(y:V)(H:Hp)(Q:VK):Prop
|mk (p xs i v:_)(_:x=.ref p)(_:y=.int i)(_:bJ K H p xs)(_:gh xs i=some v)(_:Q v H)
inductive T4 (x:V)(y:V)(H:Hp)(Q:VK):Prop
|mk (z i c:_)(_:x=.str z)(_:y=.int i)(_:z.length<=ael)(_:gh z.cps.toList i=some c)(_:Q (.str ⟨#[c]⟩) H)
theorem aQ:O4 X (M9 X.K):=by
 intro value slice pins s σ H x y v u Q I rx ry h hs
 obtain ⟨p,xs,i,z,rfl,rfl,hq,he,q⟩:=h
 cases rx
 obtain ⟨t,rfl⟩:=ry
 obtain ⟨its,r,pl,hz⟩:=I.list hq
 obtain ⟨j,h1,h2,h3,h4,h5⟩:=tR he
 obtain ⟨w,ew,mL⟩:=r.get h2
 have hl:=r.length
 have hn:=oJ
 have fin:EP X pins σ Q w s:=⟨z,H,I,mL,q⟩
 by_cases h0:0<=i
 ·have hj:i.toNat=j:=by
   rw [seqIndex_of h0 h5] at h1
   exact aaA h1
  exact item_listR pl.isList h0 (by omega) (by rw [hj];simpa using ew) fin hs
 ·have hj:(i+(its.toArray.size:Int)).toNat=j:=by
   rw [seqIndex_neg (by omega) h4] at h1
   rw [aaz,<-hl]
   exact aaA h1
  exact subscriptTail_builtinR (x:=w) pl.isList.typeIs slot_list_getitem.lookup
   (wpAny_getItem_list_neg (Q:=fun r s'=>r=w/\EP X pins σ Q r s') pl.isList (by omega) (by rw [aaz]<;>omega) (by omega) (by rw [hj];simpa using ew) ⟨rfl,fin⟩) hs
theorem jJ:O4 X (IJ X.K):=by
 intro value slice pins s σ H x y v u Q I rx ry h hs
 obtain ⟨p,xs,i,z,rfl,rfl,hq,he,q⟩:=h
 cases rx
 obtain ⟨t,rfl⟩:=ry
 obtain ⟨its,r,pl,hz⟩:=I.tuple hq
 obtain ⟨j,h1,h2,h3,h4,h5⟩:=tR he
 obtain ⟨w,ew,mL⟩:=r.get h2
 have hl:=r.length
 have hn:=oJ
 have fin:EP X pins σ Q w s:=⟨z,H,I,mL,q⟩
 exact subscriptTail_builtinR (x:=w) pl.typeIs slot_tuple_getitem.lookup
  (getItem_tuple (j:=j) (Q:=fun r s'=>r=w/\EP X pins σ Q r s') pl (by omega) (by omega) (by rw [aaz,<-hl];exact h1) (by simpa using ew) ⟨rfl,fin⟩) hs
theorem QN:O4 X T4:=by
 intro value slice pins s σ H x y v u Q I rx ry h hs
 obtain ⟨z,i,c,rfl,rfl,hz,he,q⟩:=h
 obtain ⟨t,rfl⟩:=rx
 obtain ⟨t',rfl⟩:=ry
 obtain ⟨j,h1,h2,h3,h4,h5⟩:=tR he
 have hl:z.cps.toList.length=z.length:=by simp [Str.length]
 rw [hl] at h1 h4 h5
 have hn:=oJ
 exact tail_any (typeIs_str s z t) slot_str_getitem.lookup (getItem_str (c:=c) (by
  have e1:decide (i < -(2^63:Int))=false:=aeR (by omega)
  have e2:decide (i≥2^63)=false:=aeR (by omega)
  rw [e1,e2,aj9]) (by rw [h1];simpa using h2) ⟨.str ⟨#[c]⟩,H,I.tok _,⟨_,rfl⟩,q⟩) hs
theorem x9 (its:ο)(n j:Nat)(u:Value):afy (·.setIfInBounds j u) {cls:=.type "list",data:=.seq its.toArray n}={cls:=.type "list",data:=.seq (its.set j u).toArray n}:=by
 simp [afy]
theorem Inv.lst {pins:ζ}{σ:St}{H:Hp}{s:aep}{p:aef}{xs:ε}(I:Inv X pins σ H s)(h:H p=some (.lst xs)):
  ∃(its:ο)(n:Nat),Vals xs its/\s.heap.get? p=some {cls:=.type "list",data:=.seq its.toArray n}/\xs.length<=ael:=by
 obtain ⟨z,its,n,r,e⟩:=I.bO p _ h
 exact ⟨its,n,r,e,z⟩
theorem Inv.QO {σ:St}{xs ys:ε}{its its':ο}(I:Inv X pins σ H s)(h:H p=some (.lst xs))
  (ho:s.heap.get? p=some {cls:=.type "list",data:=.seq its.toArray n}) (hf:f {cls:=.type "list",data:=.seq its.toArray n}={cls:=.type "list",data:=.seq its'.toArray n'}) (r:Vals ys its') (hz:ys.length<=ael) (t:Nat):
  Inv X pins σ (upd H p (.lst ys)) {s with heap:=s.heap.update p f,toks:=t}:=by
 have e:(s.heap.update p f).get? p=some {cls:=.type "list",data:=.seq its'.toArray n'}:=by
  rw [afV f ho (by rw [hf]<;>rfl),hf]
 refine I.write (x:=p) (e:=p) (by rw [h];trivial) (.inl rfl) (fun b u hb q=>(aeX _ _ (aaD hb)).trans q) ⟨_,e⟩ ?_
 exact ⟨hz,its',n',r,e⟩
inductive O5 (o:V)(i:V)(v:V)(H:Hp)(Q:(Hp->Prop)):Prop
|mk (p xs k j:_)(_:o=.ref p)(_:i=.int k)(_:H p=some (.lst xs))(_:CI xs.length k=some j)(_:Q (upd H p (.lst (xs.set j v))))
theorem set_list:TJ X O5:=by
 intro pins s σ H o i v ov iv u Q I ro ri rv h
 obtain ⟨p,xs,k,j,rfl,rfl,hp,hj,q⟩:=h
 cases ro
 obtain ⟨t,rfl⟩:=ri
 obtain ⟨its,n,r,ho,hz⟩:=I.lst hp
 obtain ⟨h1,h2,h3,h4⟩:=zN hj
 have hl:=r.length
 have hn:=oJ
 have I':Inv X pins σ (upd H p (.lst (xs.set j v))) {s with heap:=s.heap.update p (afy (·.setIfInBounds j u))}:=
  I.QO hp ho (x9 its n j u) (r.set rv j) (by rw [akF];exact hz) s.toks
 by_cases h0:0<=k
 ·have hk:k.toNat=j:=by
   rw [seqIndex_of h0 h4] at h1
   exact aaA h1
  exact PySem.W.ki_setAt ho h0 (by omega) (by rw [aaz,<-hl];exact h4) (by rw [hk];exact ⟨_,I',q⟩)
 ·have hk:(k+(its.toArray.size:Int)).toNat=j:=by
   rw [seqIndex_neg (by omega) h3] at h1
   rw [aaz,<-hl]
   exact aaA h1
  exact PySem.W.ki_setBack ho (by omega) (by rw [aaz,<-hl];exact h3) (by omega) (by rw [hk];exact ⟨_,I',q⟩)
theorem tS (lo hi:Ο)(n:Nat):(af6 lo hi none n).1=((HT.dN n 0 lo:Nat):Int)/\(af6 lo hi none n).2.1=((HT.dN n n hi:Nat):Int)/\(af6 lo hi none n).2.2=1:=by
 refine ⟨?_,?_,rfl⟩
 ·cases lo with
  | none=>simp [af6,HT.dN]
  | some i=>
   simp only [af6,HT.dN,akz,show (1:Int) > 0 by decide,if_true]
   by_cases h:i<0
   ·simp only [h,if_true]<;>omega
   ·simp only [h,if_false]<;>omega
 ·cases hi with
  | none=>simp [af6,HT.dN]
  | some i=>
   simp only [af6,HT.dN,akz,show (1:Int) > 0 by decide,if_true]
   by_cases h:i<0
   ·simp only [h,if_true]<;>omega
   ·simp only [h,if_false]<;>omega
theorem rf (its:ο)(lo hi:Ο):slicePick its.toArray lo hi none=((its.drop (HT.dN its.length 0 lo)).take (HT.dN its.length its.length hi-HT.dN its.length 0 lo)).toArray:=by
 obtain ⟨h1,h2,h3⟩:=tS lo hi its.toArray.size
 unfold slicePick
 rw [h1,h2,h3]
 simp only [sliceRange_one,pick_run,aaz]<;>rfl
inductive T5 (K:Frag)(x:V)(lo:Ο)(hi:Ο)(H:Hp)(Q:VK):Prop
|mk (a xs:_)(_:x=.ref a)(_:aV K H a xs)(_:∀p,H p=none->Q (.ref p) (upd H p (.lst (fK xs lo hi))))
theorem gX:T3 X (T5 X.K):=by
 intro pins s σ H x v vl vu lo hi sl Q I rx hs pl pu h
 obtain ⟨a,xs,rfl,hx,q⟩:=h
 cases rx
 obtain ⟨its,r,ht,hz⟩:=I.list hx
 have hlen:=r.length
 refine ⟨"list",_,slot_list_getitem.lookup,ht.isList.typeIs,wpAny_getItem_list_slice ht.isList hs pl pu .none (by simp) ?_ (by rw [aaz]<;>omega)⟩
 rw [rf,<-hlen]
 refine ⟨.ref s.heap.objs.size,_,I.laid (t':=s.toks) (o:=.lst (fK xs lo hi)) (fun b ob q=>aeh _ q) (aal _) ?_,rfl,q _ (I.bO.fresh (aal _))⟩
 exact ⟨aak (mQ xs lo hi) hz,_,0,(r.drop (HT.dN xs.length 0 lo)).take (HT.dN xs.length xs.length hi-HT.dN xs.length 0 lo),aez _ rfl⟩
def iN:V->Bool
 | .cg=>true
 | .bl _=>true
 | .int _=>true
 | .str _=>true
 | _=>false
def kg:V->V->Bool
 | .cg,.cg=>true
 | .bl a,.bl b=>a==b
 | .bl a,.int b=>(if a then 1 else 0)==b
 | .int a,.bl b=>a==(if b then 1 else 0)
 | .int a,.int b=>a==b
 | .str a,.str b=>a==b
 | _,_=>false
theorem IK (ry:RelV y u)(rx:RelV x v)(fy:iN y=true)(fx:iN x=true):SeqAt.EqAt A s u v (kg y x):=by
 cases y with
 | cg=>
  cases ry
  cases x with
  | cg=>cases rx;exact SeqAt.EqAt.same _
  | bl b=>cases rx;exact SeqAt.EqAt.none_bool b
  | int b=>obtain ⟨t,rfl⟩:=rx;exact SeqAt.EqAt.none_int b t
  | str b=>obtain ⟨t,rfl⟩:=rx;exact SeqAt.EqAt.none_str b t
  | _=>exact aet (show false=true from fx) aaC
 | bl a=>
  cases ry
  cases x with
  | cg=>cases rx;exact SeqAt.EqAt.bool_none a
  | bl b=>cases rx;exact SeqAt.EqAt.bool_bool a b
  | int b=>obtain ⟨t,rfl⟩:=rx;exact SeqAt.EqAt.bool_int a b t
  | str b=>obtain ⟨t,rfl⟩:=rx;exact SeqAt.EqAt.bool_str a b t
  | _=>exact aet (show false=true from fx) aaC
 | int a=>
  obtain ⟨t',rfl⟩:=ry
  cases x with
  | cg=>cases rx;exact SeqAt.EqAt.int_none a t'
  | bl b=>cases rx;exact SeqAt.EqAt.int_bool a t' b
  | int b=>obtain ⟨t,rfl⟩:=rx;exact SeqAt.EqAt.int_int a t' b t
  | str b=>obtain ⟨t,rfl⟩:=rx;exact SeqAt.EqAt.int_str a t' b t
  | _=>exact aet (show false=true from fx) aaC
 | str a=>
  obtain ⟨t',rfl⟩:=ry
  cases x with
  | cg=>cases rx;exact SeqAt.EqAt.str_none a t'
  | bl b=>cases rx;exact SeqAt.EqAt.str_bool a t' b
  | int b=>obtain ⟨t,rfl⟩:=rx;exact SeqAt.EqAt.str_int a t' b t
  | str b=>obtain ⟨t,rfl⟩:=rx;exact SeqAt.EqAt.str_str a t' b t
  | _=>exact aet (show false=true from fx) aaC
 | _=>exact aet (show false=true from fy) aaC
def x_ (x:V)(u:Value):Bool:=match u with
 | .none=>kg .cg x
 | .bool b=>kg (.bl b) x
 | .int i _=>kg (.int i) x
 | .str z _=>kg (.str z) x
 | _=>false
theorem IL (r:RelV y u)(f:iN y=true):x_ x u=kg y x:=by
 cases y with
 | cg=>cases r;rfl
 | bl b=>cases r;rfl
 | int i=>obtain ⟨t,rfl⟩:=r;rfl
 | str z=>obtain ⟨t,rfl⟩:=r;rfl
 | _=>exact aet (show false=true from f) aaC
theorem ki :∀{xs:ε} {us:ο},Vals xs us->xs.all iN=true->us.any (x_ x)=xs.any fun y=>kg y x
 | _,_,.nil,_=>rfl
 | y::xs,u::us,.cons r t,f=>by
  rw [adN,abN] at f
  rw [acH,acH,IL r f.1,ki t f.2]
theorem iO (rx:RelV x v)(fx:iN x=true):∀{xs:ε} {us:ο},Vals xs us->xs.all iN=true->∀u∈us,SeqAt.EqAt A s u v (x_ x u)
 | _,_,.nil,_=>fun u hu=>by cases hu
 | y::xs,u::us,.cons r t,f=>fun u' hu=>by
  rw [adN,abN] at f
  rcases aaL.mp hu with rfl|hu
  ·rw [IL r f.1];exact IK r rx f.1 fx
  ·exact iO rx fx t f.2 u' hu
def M_ (x:V)(xs:ε):Bool:=xs.any fun y=>kg y x
inductive rIn (K:Frag)(neg:Bool)(x:V)(y:V)(H:Hp)(Q:VK):Prop
|mk (p xs:_)(_:y=.ref p)(_:(aV K H p xs\/bJ K H p xs))(_:iN x=true)(_:xs.all iN=true)(_:Q (.bl (if neg then !M_ x xs else M_ x xs)) H)
theorem sf:i7 X (ae2 .In) (rIn X.K false):=by
 intro pins s σ H x y v u Q I rx ry h
 obtain ⟨p,xs,rfl,hq,fx,fs,q⟩:=h
 cases ry
 rcases hq with hq|hq
 ·obtain ⟨its,r,pl,hz⟩:=I.list hq
  refine SeqAt.in_listAt (x_ x) pl.isList (fun w hw=>iO rx fx r fs w (by simpa using hw)) ⟨.bl _,H,I,rfl,?_⟩
  rw [show its.toArray.any (x_ x)=its.any (x_ x) by simp,ki r fs]
  exact q
 ·obtain ⟨its,r,pl,hz⟩:=I.tuple hq
  refine SeqAt.in_tupleAt (x_ x) pl (fun w hw=>iO rx fx r fs w (by simpa using hw)) ⟨.bl _,H,I,rfl,?_⟩
  rw [show its.toArray.any (x_ x)=its.any (x_ x) by simp,ki r fs]
  exact q
theorem tV:i7 X (ae2 .NotIn) (rIn X.K true):=by
 intro pins s σ H x y v u Q I rx ry h
 obtain ⟨p,xs,rfl,hq,fx,fs,q⟩:=h
 cases ry
 rcases hq with hq|hq
 ·obtain ⟨its,r,pl,hz⟩:=I.list hq
  refine SeqAt.notIn_listAt (x_ x) pl.isList (fun w hw=>iO rx fx r fs w (by simpa using hw)) ⟨.bl _,H,I,rfl,?_⟩
  rw [show its.toArray.any (x_ x)=its.any (x_ x) by simp,ki r fs]
  exact q
 ·obtain ⟨its,r,pl,hz⟩:=I.tuple hq
  refine SeqAt.notIn_tupleAt (x_ x) pl (fun w hw=>iO rx fx r fs w (by simpa using hw)) ⟨.bl _,H,I,rfl,?_⟩
  rw [show its.toArray.any (x_ x)=its.any (x_ x) by simp,ki r fs]
  exact q
theorem aD:ft X (.builtin "len") (fun xs H Q=>∃p ys,xs=[.ref p]/\(aV X.K H p ys\/bJ X.K H p ys)/\Q (.int ys.length) H):=by
 intro pins s σ H xs us Q I r h
 obtain ⟨p,ys,rfl,hq,q⟩:=h
 obtain ⟨u,rfl,rx⟩:=vals1 r
 cases rx
 have hn:=oJ
 rcases hq with hq|hq
 ·obtain ⟨its,r',pl,hz⟩:=I.list hq
  have hlen:=r'.length
  exact Calls.call_len_list pl.isList (by simp only [aaz]<;>omega) ⟨.int ys.length,H,I.tok _,⟨s.toks+1,by rw [aaz,hlen]⟩,q⟩
 ·obtain ⟨its,r',pl,hz⟩:=I.tuple hq
  have hlen:=r'.length
  exact len_tuple pl (by simp only [aaz]<;>omega) ⟨.int ys.length,H,I.tok _,⟨s.toks+1,by rw [aaz,hlen]⟩,q⟩
def tyV (K:Frag)(T:String)(x:V)(H:Hp):Prop:=match x with
 | .str _=>T="str"
 | .int _=>T="int"
 | .ref p=>(T="list"/\∃xs,aV K H p xs)\/(T="tuple"/\∃o,K.lookup p=some o/\o.cls=.type "tuple"/\o.dict=none)\/
   (T="dict"/\((∃kvs,H p=some (.dK kvs))\/∃kvs,H p=some (.dT kvs)))\/(T="set"/\∃S n,H p=some (.set S n))
 | _=>False
theorem IM {σ:St}(I:Inv X pins σ H s)(r:RelV x v)(ty:tyV X.K T x H):
  s.TypeIs v T/\∀a,v=.ref a->∃ob,s.heap.get? a=some ob/\ob.dict=none:=by
 cases x with
 | str z=>
  obtain ⟨t,rfl⟩:=r
  cases (show T="str" from ty)
  exact ⟨typeIs_str s z t,fun _ e=>nomatch e⟩
 | int i=>
  obtain ⟨t,rfl⟩:=r
  cases (show T="int" from ty)
  exact ⟨typeIs_int s i t,fun _ e=>nomatch e⟩
 | ref p=>
  cases r
  rcases ty with ⟨rfl,xs,hq⟩|⟨rfl,o,hk,hc,hd⟩|⟨rfl,hk⟩|⟨rfl,S,n,hk⟩
  ·obtain ⟨its,_,pl,_⟩:=I.list hq
   refine ⟨pl.isList.typeIs,fun a e=>?_⟩
   cases e
   obtain ⟨o,n,e,c,hd,_⟩:=pl
   exact ⟨o,e,hd⟩
  ·refine ⟨⟨o,I.jG p o hk,hc⟩,fun a e=>?_⟩
   cases e
   exact ⟨o,I.jG _ o hk,hd⟩
  ·have z:∃o,s.heap.get? p=some o/\o.ExactDict:=by
    rcases hk with ⟨kvs,hk⟩|⟨kvs,hk⟩
    ·obtain ⟨_,_,_,_,o,_,_,e,ex,_⟩:=I.bO p _ hk
     exact ⟨o,e,ex⟩
    ·obtain ⟨_,_,_,_,o,_,_,e,ex,_⟩:=I.bO p _ hk
     exact ⟨o,e,ex⟩
   obtain ⟨o,e,ex⟩:=z
   refine ⟨⟨o,e,ex.1⟩,fun a e2=>?_⟩
   cases e2
   exact ⟨o,e,ex.2.1⟩
  ·obtain ⟨o,_,_,_,e,ex,_⟩:=I.bO p _ hk
   refine ⟨⟨o,e,ex.1⟩,fun a e2=>?_⟩
   cases e2
   exact ⟨o,e,ex.2.1⟩
 | _=>exact False.elim ty
def tBM (K:Frag)(T:String)(r:Ω)(to:TE)(t:TA):TE:=fun σ H Q=>to σ H fun x H1=>tyV K T x H1/\t σ H1 fun xs H2=>r x xs H2 Q
variable {o e:Expr}{es:Δ}{to:TE}{t:TA}{name:Str}{apos dG:Pos}{T id:String}{r:Ω}
theorem gs (pa:PlainAttrs T)(slot:Slot T name id)(hty:typeOf (.builtin id)=pure (.type "method_descriptor"))(hm:MtR X id r)(ho:PE X o to)(ha:PA X (e::es) t)
  (vP:afM o name X.env (aeM o X.env)=aeM o X.env:=by rfl)
  (abD:((afc dG (aeA (e::es) X.env)).all (fun x=> !x.1) && (backToKw dG (agi [] X.env)).all (fun x=>x.1.isSome)
   && decide ((e::es).length+([]:List Keyword).length+(if ([]:List Keyword).isEmpty then 0 else 1)<30))=true:=by rfl)
  (vQ:(apos.endLine==dG.line)=true:=by rfl) (hs:aeA (e::es) X.env=(false,aeM e X.env)::aeA es X.env:=by rfl) (QP:(afc dG (aeA es X.env)).any (·.1)=false:=by rfl):
  PE X (.Call (.Attribute o name apos) (e::es) [] dG) (tBM X.K T r to t):=by
 intro pins s σ H Q I h
 refine wpAny_Call_method_late vP abD vQ rfl (cB (ho pins s σ H _ I h) fun v s1 ⟨x,H1,I1,r1,ty,q1⟩=>?_)
 obtain ⟨h1,h2⟩:=IM I1 r1 ty
 refine ⟨T,id,pa,slot,hty,h1,h2,?_⟩
 have hA:=ha dG pins s1 σ H1 _ I1 q1
 rw [hs] at hA ⊢
 refine afl (by show (false || (afc dG (aeA es X.env)).any (·.1))=false;rw [QP]<;>rfl) (Calls.evalArgs_plain ?_)
 exact cB hA fun us s2 ⟨vs,H2,I2,r2,q2⟩=>hm pins s2 σ H2 x vs v us Q I2 r1 r2 q2
end
end L2
namespace L2
open PySem PySem.Spec PyProof.Rows
def MtM (X:Cx)(id:String)(r:Ω):Prop:=
 ∀(pins:ζ)(s:aep)(σ:St)(H:Hp)(x:V)(xs:ε)(v:Value)(us:ο)(Q:VK),Inv X pins σ H s->RelV x v->Vals xs us->r x xs H Q->
  aen (aes X.prog X.w) X.A (call (.builtin id) (v::us)) (EP X pins σ Q) X.xe s
theorem Vals.one:∀{x:V} {us:ο},Vals [x] us->∃u,us=[u]/\RelV x u
 | _,_,.cons r .nil=>⟨_,rfl,r⟩
theorem Vals.eraseIdx:∀{xs:ε} {us:ο} (i:Nat),Vals xs us->Vals (xs.eraseIdx i) (us.eraseIdx i)
 | _,_,_,.nil=>.nil
 | _,_,0,.cons _ t=>t
 | _,_,i+1,.cons r t=>.cons r (Vals.eraseIdx i t)
theorem Vals.rep {xs:ε}{us:ο}(h:Vals xs us):∀k:Nat,Vals (aaF k xs).flatten (aaF k us).flatten
 | 0=>.nil
 | k+1=>by
  rw [ab8,ab8,adf,adf]
  exact Vals.append h (Vals.rep h k)
theorem si {α:Type}:∀(l:List α)(i:Nat),(l.eraseIdx i).length<=l.length
 | [],_=>aal _
 | _::_,0=>ajZ _
 | _::r,i+1=>Nat.succ_le_succ (si r i)
theorem foldl_rep (its:ο):∀(k:Nat)(acc:ο),
  akP (fun x1 x2=>x1++x2) acc.toArray (aaF k its.toArray)=(acc++(aaF k its).flatten).toArray
 | 0,acc=>by simp
 | k+1,acc=>by
  have e:acc.toArray++its.toArray=(acc++its).toArray:=by simp
  have e2:(acc++its)++(aaF k its).flatten=acc++(aaF (k+1) its).flatten:=by
   rw [ab8,adf,ab5]
  rw [<-e2,<-foldl_rep its k (acc++its),<-e,ab8,List.foldl_cons]
section
variable {X:Cx}{pins:ζ}{σ:St}{H:Hp}{s:aep}{l b:aef}{xs ys zs:ε}
theorem Inv.QQ {its its':ο}(I:Inv X pins σ H s)(hH:H l=some (.lst xs))
  (e:s.heap.get? l=some {cls:=.type "list",data:=.seq its.toArray n}) (hf:f its.toArray=its'.toArray) (hv:Vals ys its') (hz:ys.length<=ael):
  Inv X pins σ (upd H l (.lst ys)) {s with heap:=s.heap.update l (afy f),toks:=t'}:=by
 have q:=PySem.IsL.update e f
 rw [hf] at q
 refine I.write (x:=l) (e:=l) (by rw [hH];exact trivial) (.inl rfl) (fun b' u hb hu=>(aeX s.heap (afy f) (aaD hb)).trans hu) ⟨_,q⟩ ?_
 exact ⟨hz,its',_,hv,q⟩
theorem Inv.QR {its:ο}(I:Inv X pins σ H s)(hv:Vals ys its)(hz:ys.length<=ael):
  Inv X pins σ (upd H s.heap.objs.size (.lst ys)) {s with heap:=s.heap.push {cls:=.type "list",data:=.seq its.toArray},toks:=t'}:=
 I.laid (fun _ _ q=>aeh _ q) (aal _) ⟨hz,its,0,hv,aez _ rfl⟩
theorem Inv.fresh (I:Inv X pins σ H s):H s.heap.objs.size=none:=I.bO.fresh (aal _)
theorem Inv.jK (I:Inv X pins σ H s)(hH:H l=some (.lst xs)):xs.length<=ael/\∃(its:ο)(n:Nat),Vals xs its/\xs.length=its.length/\s.heap.get? l=some {cls:=.type "list",data:=.seq its.toArray n}:=by
 obtain ⟨z,its,n,r,e⟩:=I.bO l _ hH
 exact ⟨z,its,n,r,r.length,e⟩
theorem vR (h:n<=ael):afh n=false:=by
 unfold afh
 exact aeR (by omega)
end
section
variable {X:Cx}
inductive zP (x:V)(vs:ε)(H:Hp)(Q:VK):Prop
|mk (l xs y:_)(_:x=.ref l)(_:vs=[y])(_:H l=some (.lst xs))(_:xs.length<ael)(_:Q .cg (upd H l (.lst (xs++[y]))))
theorem cQ:MtM X "list.append" zP:=by
 intro pins s σ H x vs v us Q I rx rv h
 obtain ⟨l,xs,y,rfl,rfl,hH,hz,q⟩:=h
 cases rx
 obtain ⟨u,rfl,ru⟩:=rv.one
 obtain ⟨z,its,n,r,hl,e⟩:=I.jK hH
 refine agd F.slot_list_append ⟨_,e,rfl⟩ F.entry_list_append (F.args_list_append_2 _ _) (PySem.list_append l its.toArray n u (by rw [aaz];omega)) ⟨e,?_⟩
 refine ⟨.cg,_,I.QQ (its':=its++[u]) hH e (by simp) (r.append (.cons ru .nil)) ?_,rfl,q⟩
 rw [aat,abH]
 omega
def QS:V->List V->Hp->VK->Prop:=fun x vs H Q=>∃l xs i k y,x=.ref l/\vs=[.int i]/\H l=some (.lst xs)/\ -(2^63)<=i/\i<2^63/\seqIndex? i xs.length=some k/\xs[k]?=some y/\Q y (upd H l (.lst (xs.eraseIdx k)))
theorem oM:MtM X "list.pop" QS:=by
 intro pins s σ H x vs v us Q I rx rv h
 obtain ⟨l,xs,i,k,y,rfl,rfl,hH,h1,h2,hk,hy,q⟩:=h
 cases rx
 obtain ⟨u,rfl,ru⟩:=rv.one
 obtain ⟨t,rfl⟩:=ru
 obtain ⟨z,its,n,r,hl,e⟩:=I.jK hH
 obtain ⟨w,hw,mL⟩:=r.get hy
 refine agd F.slot_list_pop ⟨_,e,rfl⟩ F.entry_list_pop (F.args_list_pop_2 _ _)
  (MeetsSeq.list_pop_at l its.toArray n i t k w (fitsIndex_both h1 h2) (by rw [aaz,<-hl];exact hk) (by rw [<-Array.getElem?_toList];exact hw) (by rw [aaz];omega)) ⟨e,?_⟩
 refine ⟨y,_,I.QQ (its':=its.eraseIdx k) hH e ?_ (r.eraseIdx k) ?_,mL,q⟩
 ·show its.toArray.eraseIdxIfInBounds k=(its.eraseIdx k).toArray
  rw [List.eraseIdxIfInBounds_toArray]
 ·have:=si xs k
  omega
inductive T6 (x:V)(y:V)(H:Hp)(Q:VK):Prop
|mk (l b xs zs:_)(_:x=.ref l)(_:y=.ref b)(_:H l=some (.lst xs))(_:H b=some (.lst zs))(_:xs.length+zs.length<=ael)(_:∀p,H p=none->Q (.ref p) (upd H p (.lst (xs++zs))))
theorem iP:i7 X (ae9 .Add) T6:=by
 intro pins s σ H x y v u Q I rx ry h
 obtain ⟨l,b,xs,zs,rfl,rfl,hH,hB,hz,q⟩:=h
 cases rx
 cases ry
 obtain ⟨z,its,n,r,hl,e⟩:=I.jK hH
 obtain ⟨z2,d0,n2,r2,ya,e2⟩:=I.jK hB
 refine PySem.P.add_list e e2 ?_ (by rw [aaz,aaz];omega)
 have ea:its.toArray++d0.toArray=(its++d0).toArray:=by simp
 rw [ea]
 exact ⟨.ref _,_,I.QR (t':=s.toks) (r.append r2) (by rw [aat];omega),rfl,q _ I.fresh⟩
inductive T7 (x:V)(y:V)(H:Hp)(Q:VK):Prop
|mk (l k xs:_)(_:x=.ref l)(_:y=.int k)(_:H l=some (.lst xs))(_: -(2^63)<=k)(_:k<2^63)(_:xs.length*k.toNat<=ael)(_:∀p,H p=none->Q (.ref p) (upd H p (.lst (aaF k.toNat xs).flatten)))
theorem len_rep {α:Type}(xs:List α)(k:Nat):(aaF k xs).flatten.length=k*xs.length:=by
 induction k with
 | zero=>simp
 | succ k ih=>rw [ab8,adf,aat,ih,Nat.succ_mul,ajS]
theorem IP:i7 X (ae9 .Mult) T7:=by
 intro pins s σ H x y v u Q I rx ry h
 obtain ⟨l,k,xs,rfl,rfl,hH,h1,h2,hz,q⟩:=h
 cases rx
 obtain ⟨t,rfl⟩:=ry
 obtain ⟨z,its,n,r,hl,e⟩:=I.jK hH
 have hlen:its.toArray.size*k.toNat<=ael:=by rw [aaz,<-hl];exact hz
 have abE:¬ its.toArray.size*k.toNat > (2^63-1) / 8:=by
  have:(ael:Nat)<=(2^63-1) / 8:=by decide
  omega
 have abF:¬ (!Builtin.List.listFitsIndex k)=true:=by
  rw [fitsIndex_both h1 h2]
  exact aaC
 have IQ:¬ afh (its.toArray.size*k.toNat)=true:=by
  rw [vR hlen]
  exact aaC
 have abG:akP (fun x1 x2=>x1++x2) #[] (aaF (if its.toArray.isEmpty=true then 0 else k.toNat) its.toArray)=(aaF k.toNat its).flatten.toArray:=by
  have f0:∀m:Nat,akP (fun x1 x2=>x1++x2) #[] (aaF m its.toArray)=(aaF m its).flatten.toArray:=fun m=>by
   have:=foldl_rep its m []
   rw [ace] at this
   exact this
  rw [f0]
  cases its with
  | nil=>simp
  | cons a r'=>rw [aej (by simp)]
 refine wpAny_binaryOp_repeat_ref (T:="list") (U:="int") (by decide) ⟨_,e,rfl⟩ (fun s'=>typeIs_int s' k t) noFill_list_mul F.fills_int_mul F.slot_int_rmul repeat_list F.slot_int_index.lookup
  (agd F.slot_int_rmul (typeIs_int s k t) F.entry_int_rmul (F.args_int_rmul_2 _ _) (int___rmul___int_list k t l its.toArray n)
   ⟨e,rfl,⟨_,e,rfl⟩,agd F.slot_list_mul ⟨_,e,rfl⟩ F.entry_list_mul (F.args_list_mul_2 _ _) (AutoListH.list___mul___list_int_3 l its.toArray n k t abF abE IQ) ⟨e,?_⟩⟩)
 rw [abG]
 exact ⟨.ref _,_,I.QR (t':=s.toks) (r.rep k.toNat) (by rw [len_rep,adW];exact hz),rfl,q _ I.fresh⟩
end
section
variable {prog:aeB}{w:World}{A:aeI}{E:δ}{s:aep}
set_option maxRecDepth 100000 in
end
section
variable {X:Cx}
end
end L2
namespace Att
open PySem PySem.W PySem.Calls PyProof.Rows
theorem nE :∀(ns:ξ)(vs:ο),WellAll P h vs (ns.map WData.int)->IntsAre vs ns:=by
 intro ns
 induction ns with
 | nil=>
  intro vs w
  rw [aa2] at w
  cases w
  exact .nil
 | cons n ns ih=>
  intro vs w
  rw [aaj] at w
  cases w with
  | cons a b=>
   cases a
   exact .cons _ _ (ih _ b)
theorem CJ {l:OpenLaw}(hn:l.most=some n){vals:ο}
  (Na:l.row.toRowW.claim.pre args=true) (hwl:WellAll P h vals args):
  ∃a vs ns,vals=[Value.ref a]/\args=[WData.list (ns.map WData.int)]/\h.get? a=some {cls:=.type "list",data:=.seq vs.toArray}/\IntsAre vs ns/\ns.length<=n:=by
 have hsh:WShape.hasAll [] args [.list .int]=true:=(pre_splitW Na).1
 have hc:l.pre.holds [] {args:=args}=true:=(pre_splitW Na).2
 obtain ⟨d,r,rfl,h1,h2⟩:=hasAllW_cons hsh
 obtain rfl:=hasAllW_nil h2
 obtain ⟨xs,rfl,h3⟩:=hasW_list h1
 obtain ⟨ns,rfl⟩:=items_int h3
 have hlen:ns.length<=n:=by
  unfold OpenLaw.pre at hc
  have h4:(WTm.not (.lt (.lit (.int (n:Int))) (.len (.arg 0)))).holds [] {args:=[.list (ns.map .int)]}=true:=by
   have h4:=(holds_andW hc).1
   rw [hn] at h4
   exact h4
  have h5:=condW_of h4 (w_not (w_lt w_lit (w_len_list (w_arg rfl))))
  rw [aah] at h5
  refine af_ fun q=>?_
  have q':(n:Int)<((ns.length:Nat):Int):=by omega
  first
   | (rw [aeD q'] at h5;exact aet h5 (by decide))
   | (simp at h5;omega)
 cases hwl with
 | cons w1 w2=>
  cases w2
  cases w1 with
  | list ho IS=>exact ⟨_,_,ns,rfl,rfl,ho,nE ns _ IS,hlen⟩
theorem CK (l:OpenLaw)(args:List WData):l.row.toRowW.claim.post args (.bool true) args=true:=
 postW_of (r:=l.row.toRowW) (X:=(true==true))
  (show WShape.has [] (.bool true) .bool=true by first|rfl|decide|simp [WShape.has,WShape.arms,WShape.armsAll])
  (show (WTm.eq .res (.lit (.bool true))).value [] {args:=args,res:=some (.bool true),after:=args}=some (.bool (true==true)) from w_eq_bool (w_res rfl) w_lit) rfl
section
variable {prog:aeB}{w:World}{A:aeI}{E:δ}{s:aep}{K:Frag}
end
end Att
namespace L2
open PySem PySem.Spec PyProof.Rows
theorem sj:∀{vs:ο} {ns:ξ},IntsAre vs ns->Vals (ns.map V.int) vs
 | _,_,.nil=>.nil
 | _,_,.cons n t h=>.cons ⟨t,rfl⟩ (sj h)
def T8 (H:Hp):Prop:=∀b,H b=none\/∃o xs,H b=some (.gi o (.lst xs))
theorem IT {K:Frag}{mg mb:ι}{vs:ο}{ns:ξ}
  (KX:K.In s₁.heap) (hns:s₁.heap.Ns aex mg) (hb:s₁.heap.Ns agq mb) (hbb:∀x:Str,x≠ "__name__"->mb x=aeL x) (abI:s₁.heap.NoLimit) (Nb:s₁.heap.NoSeer) (hg:s₁.gens= #[])
  (ha:s₁.heap.get? a=some {cls:=.type "list",data:=.seq vs.toArray}) (hi:IntsAre vs ns) (hl:ns.length<=ael) (hr:cx k callerA)
  (F:∀base:Heap,K.In base->base.Ns aex mg->cO P w K mg base CX k fa fd [x] sp) (T9:∀(s:aep)(u:Value),BindsTo s fd ⟨[u],[]⟩ [(x,u)])
  (nA:∀H:Hp,T8 H->aV K H a (ns.map V.int)->sp [.ref a] H (fun v _=>v=.bl true) fun _ _ _=>False)
  (hCX:∀H e s',CX [] H s₁ (fun _ _ _=>False) e s' ->False):
  afd (aes P w) callerA (.call (.ref fa) ⟨[.ref a],[]⟩) (fun r s'=>r=.ok (.ret (.bool true))/\OldK s₁.heap s'.heap/\s'.os=s₁.os/\aga s'.gens) s₁:=by
 have rv:=sj hi
 have abJ:=hi.length
 have core:∀H:Hp,T8 H->aV K H a (ns.map V.int)->ju P w H s₁.heap->(∀b,H b≠none->b=a)->(H a≠none->K.lookup a=none)->
   afd (aes P w) callerA (.call (.ref fa) ⟨[.ref a],[]⟩) (fun r s'=>r=.ok (.ret (.bool true))/\OldK s₁.heap s'.heap/\s'.os=s₁.os/\aga s'.gens) s₁:=by
  intro H hO hS bO hA hK
  have tW:∀{b:aef} {o:Obj},s₁.heap.get? b=some o->H b=none->(tE s₁.heap H).get? b=some o:=fun e n=>HL e n
  have TX:∀{b:aef} {o:Obj} {es:Array DictEntry} {ep:Nat},s₁.heap.get? b=some o->o.data=.dict es ep->H b=none:=fun {b o es ep} e d=>by
   cases q:H b with
   | none=>rfl
   | some u=>
    have e':b=a:=hA b (by rw [q];simp)
    subst e'
    rw [ha] at e;cases e
    have d':Data.seq vs.toArray _=Data.dict es ep:=d
    cases d'
  have O6:∀{b:aef} {m:ι},s₁.heap.Ns b m->(tE s₁.heap H).Ns b m:=fun {b m} ⟨o,es,ep,e,d,r⟩=>⟨o,es,ep,tW e (TX e d),d,r⟩
  have hKb:K.In (tE s₁.heap H):=fun b o e=>tW (KX b o e) (by
   cases q:H b with
   | none=>rfl
   | some u=>
    have e':b=a:=hA b (by rw [q];simp)
    subst e'
    rw [hK (by rw [q];simp)] at e;cases e)
  have hM:Mod K mg (tE s₁.heap H):=⟨hKb,O6 hns,⟨mb,O6 hb,hbb⟩,let ⟨mc,h1,h2⟩:=abI;⟨mc,O6 h1,h2⟩,
   ⟨let ⟨mc,h1,h2⟩:=Nb.statics;⟨mc,O6 h1,h2⟩,let ⟨mc,h1,h2⟩:=Nb.mods;⟨mc,O6 h1,h2⟩,let ⟨mc,h1,h2⟩:=Nb.imp;⟨mc,O6 h1,h2⟩,
    let ⟨mg',bm,ob,h1,h2,h3,h4,h5⟩:=Nb.main;⟨mg',bm,ob,O6 h1,h2,tW h3 (by
     cases q:H bm with
     | none=>rfl
     | some u=>
      have e':bm=a:=hA bm (by rw [q];simp)
      subst e'
      rw [ha] at h3
      cases h3
      have h4':Value.type "list"=Value.type "module":=h4
      injection h4' with e9
      exact aet e9 (by decide)),h4,h5⟩⟩⟩
  have e0:x5 P w K mg (tE s₁.heap H) callerA [] s₁ H:=⟨rfl,hM,fun b o e=>MD e,ajR (BY _ _),trivial,fun b hb=>aet (show b∈([]:List aef) from hb) (by simp),bO,.of_eq hg⟩
  refine codeAny_mono ((F _ hKb (O6 hns)).run callerA [] s₁ H ⟨[.ref a],[]⟩ [.ref a] [.ref a] _ _ hr e0 (T9 s₁ (.ref a)) (.cons rfl .nil) (nA H hO hS)) fun r s' h=>?_
  cases r with
  | error e=>exact (hCX H e s' h).elim
  | ok fl=>
   cases fl with
   | next=>exact False.elim h
   | brk=>exact False.elim h
   | cont=>exact False.elim h
   | ret u=>
    obtain ⟨v,H',os,bare,un,abK,r',q⟩:=h
    have q':v=.bl true:=q
    subst q'
    obtain rfl:u=Value.bool true:=r'
    refine ⟨rfl,OldK.of_keep fun b o e=>?_,os,bare⟩
    cases q:H b with
    | none=>exact un.keep b o e q (by intro z;exact aet (show b∈([]:List aef) from z) (by simp)) (by simp)
    | some u=>
     rcases hO b with z|⟨ob,xs,z⟩
     ·rw [q] at z;cases z
     ·have z2:=un.oF b ob _ z
      obtain ⟨e1,_⟩:=bO b _ z
      obtain ⟨e2,_⟩:=abK b _ z2
      rw [e] at e1;cases e1
      exact e2
 cases hk:K.lookup a with
 | some o=>
  have e:=KX a o hk
  rw [ha] at e
  cases e
  refine core (fun _=>none) (fun _=>.inl rfl) (.inr ⟨_,vs.toArray,_,hk,rfl,rfl,rfl,by rw [aaz,abJ];exact hl,by simpa using rv⟩) (fun b u z=>by have z':(none:Option HO)=some u:=z;cases z') (fun b z=>aet rfl z) fun z=>aet rfl z
 | none=>
  refine core (fun b=>if b=a then some (.gi {cls:=.type "list",data:=.seq vs.toArray} (.lst (ns.map V.int))) else none) (fun b=>?_) (.inl (.inr ⟨{cls:=.type "list",data:=.seq vs.toArray},aek rfl⟩)) (fun b u z=>?_) (fun b z=>?_) fun _=>hk
  ·by_cases hb:b=a
   ·exact .inr ⟨_,_,aek hb⟩
   ·exact .inl (aej hb)
  ·by_cases hb:b=a
   ·have z':=(aek hb).symm.trans z
    cases z'
    subst hb
    exact ⟨ha,by rw [aah];exact hl,vs,_,rv,ha⟩
   ·have z':=(aej hb).symm.trans z
    cases z'
  ·by_cases hb:b=a
   ·exact hb
   ·exact aet (aej hb) z
end L2
namespace L2
open PySem PySem.Spec PyProof.Rows
abbrev KOf {K:Frag}{h:Heap}(_:K.In h):Frag:=K
end L2
namespace L2
open PySem PySem.Spec PyProof.Rows
def inClass (s:Stmt)(j:Nat):Stmt:=match s with
 | .ClassDef _ _ _ body _ _ _ _ _ _ _=>body.getD j (.Pass ⟨0,0,0,0⟩)
 | _=>.Pass ⟨0,0,0,0⟩
def aA (s:Stmt):Arguments:=match s with
 | .FunctionDef _ a _ _ _ _ _ _ _ _=>a
 | _=>{posonlyargs:=[],args:=[],vararg:=none,kwonlyargs:=[],kw_defaults:=[],kwarg:=none,defaults:=[]}
def av (s:Stmt):List Stmt:=match s with
 | .FunctionDef _ _ b _ _ _ _ _ _ _=>b
 | _=>[]
def ae (s:Stmt):Scope:=match s with
 | .FunctionDef _ _ _ _ _ _ sc _ _ _=>sc
 | _=>{kind:=.function,names:=[],isGenerator:=false,isCoroutine:=false}
abbrev E0:XK:=fun _ _ _=>False
structure nG (K:Frag)(x qual:Str)(st:Stmt)(f:aef)(fd:FuncData):Prop where
 ex:∃(oc:Value)(od:Θ)(kV doc pm:Value)(an:Θ)(cp ct:Value)(qV:Ν),
  fd=fnOf x qual (aA st) (av st) (ae st) .none kV doc pm an cp ct/\K.lookup f=some ⟨oc,od,.func fd,qV⟩/\codeIn K cp qual=true
 kp:keepIn K (.ref f)=true
section
variable {P:aeB}{w:World}{K:Frag}{mg:ι}{base:Heap}
theorem nG.binds {st:Stmt}(F:nG K x qual st f fd)
  (h:∀(kV doc pm:Value)(an:Θ)(cp ct:Value)(us:ο),us.length=ps.length->bindArgs (fnOf x qual (aA st) (av st) (ae st) .none kV doc pm an cp ct) ⟨us,[]⟩=pure (ps.zip us)):Binds K fd ps []:=by
 obtain ⟨oc,od,kV,doc,pm,an,cp,ct,qV,rfl,lk,q_⟩:=F.ex
 exact .all (h kV doc pm an cp ct)
theorem dk {st:Stmt}{od an:Θ}{qV:Ν}{kV doc pm cp ct:Value}(l:K.lookup f=some ⟨oc,od,.func (fnOf x qual (aA st) (av st) (ae st) .none kV doc pm an cp ct),qV⟩)
  (c:codeIn K cp qual=true) (k:keepIn K (.ref f)=true):nG K x qual st f (fnOf x qual (aA st) (av st) (ae st) .none kV doc pm an cp ct):=⟨⟨oc,od,kV,doc,pm,an,cp,ct,qV,rfl,l,c⟩,k⟩
end
theorem b6 (hr:cx k A):A.units+1<afG:=aap (Nat.add_le_add_left (by decide:1<=64) _) hr.units
section
variable {X:Cx}
theorem pv (i:Nat){pos:Pos}(hN:X.N[i]?=some x:=by rfl)(hv:Vis X.env.scope x:=by first|exact adg rfl|exact adZ (adg rfl)|exact adZ (adZ rfl))(hd:(x==("__debug__":Str))=false:=by decide)
  (q_:(x==("__classdict__":Str))=false:=by decide):PE X (.Name x pos) (MK i):=Qw hN hv hd q_
end
theorem QT {A B:Prop}(h:B):if false=true then A else B:=by
 rw [aej aaC]
 exact h
theorem bg {c A B:Prop}[Decidable c](h1:c->A)(h2:¬ c->B):if c then A else B:=by
 by_cases h:c
 ·rw [aek h]
  exact h1 h
 ·rw [aej h]
  exact h2 h
theorem IU {c A B:Prop}[Decidable c](hc:c)(h:B):if (!decide c)=true then A else B:=by
 rw [aeD hc]
 exact QT h
def au (H H':Hp):Prop:=∀b o,H b=some o->H' b=some o
theorem au.refl (H:Hp):au H H:=fun _ _ h=>h
theorem au.trans (a:au H H1)(b:au H1 H2):au H H2:=fun c o h=>b c o (a c o h)
theorem au.free (e:au H H')(h:H' l=alf):H l=alf:=by
 cases q:H l with
 | none=>rfl
 | some o=>
  rw [e l o q] at h
  cases h
theorem au.seq {K:Frag}(e:au H H')(h:aV K H a xs):aV K H' a xs:=by
 rcases h with (h|⟨o,h⟩)|h
 ·exact .inl (.inl (e _ _ h))
 ·exact .inl (.inr ⟨o,e _ _ h⟩)
 ·exact .inr h
end L2
namespace Ty
def gz (t b:Int):Int:=(aaZ t b:Nat)
def sg (t b:Int):Int:=if b<0 then -gz t b else gz t b
def low (t b:Int):Int×Int:=(t.fdiv (sg t b),b.fdiv (sg t b))
theorem vS (a b:Int):aaZ b (a.fmod b)=aaZ a b:=by
 rw [aki,Int.gcd_sub_mul_left_right,Int.gcd_comm]
theorem sk {a b:Int}(h:b≠0):(a.fmod b).natAbs<b.natAbs:=by
 rcases adh b 0 with q|q|q
 ·have h1:(-a).fmod (-b)= -(a.fmod b):=by
   rw [aki,aki,Int.neg_fdiv_neg,Int.neg_mul]
   omega
  have h2:=acA (-a) (show 0 < -b by omega)
  have h3:=ad0 (-a) (show 0 < -b by omega)
  omega
 ·exact aet q h
 ·have h2:=acA a q
  have h3:=ad0 a q
  omega
theorem tX (h:b≠0):0<gz t b:=by
 have:=akG.mpr (adZ h:t≠0\/b≠0)
 show (0:Int)<((aaZ t b:Nat):Int)
 omega
theorem T_ (h:b≠0):(gz t b).natAbs<=b.natAbs:=by
 have h1:aaZ t b ∣ b.natAbs:=acI.mpr (acj t b)
 have h2:=Nat.le_of_dvd (by omega) h1
 show ((aaZ t b:Nat):Int).natAbs<=_
 omega
theorem oN (h:b≠0):sg t b≠0:=by
 have:=tX (t:=t) h
 unfold sg
 split<;>omega
theorem QU :(sg t b).natAbs=(gz t b).natAbs:=by
 unfold sg
 split
 ·exact aj0 _
 ·rfl
theorem vT (t b:Int):sg t b ∣ t:=by
 unfold sg gz
 split
 ·exact Int.neg_dvd.mpr (acv t b)
 ·exact acv t b
theorem tY (t b:Int):sg t b ∣ b:=by
 unfold sg gz
 split
 ·exact Int.neg_dvd.mpr (acj t b)
 ·exact acj t b
theorem cG {a g:Int}(h:g≠0)(d:g ∣ a):a=g*a.fdiv g:=by
 obtain ⟨c,hc⟩:=d
 have:=acM h hc
 rw [this]
 exact hc
theorem nX (h:b≠0):t=sg t b*(low t b).1:=cG (oN h) (vT t b)
theorem kj (h:b≠0):b=sg t b*(low t b).2:=cG (oN h) (tY t b)
theorem km (h:b≠0):0<(low t b).2:=by
 have e:=kj (t:=t) h
 have g:=tX (t:=t) h
 rcases adh (low t b).2 0 with q|q|q
 ·exfalso
  by_cases c:b<0
  ·have s:sg t b= -gz t b:=by unfold sg;rw [aek c]
   rw [s] at e
   have:=Int.mul_pos_of_neg_of_neg (show -gz t b<0 by omega) q
   omega
  ·have s:sg t b=gz t b:=by unfold sg;rw [aej c]
   rw [s] at e
   have:=ad8 g q
   omega
 ·exfalso
  rw [q,adi] at e
  exact h e
 ·exact q
theorem CL (h:b≠0):(low t b).1*b=t*(low t b).2:=by
 have e1:=nX (t:=t) h
 have e2:=kj (t:=t) h
 calc (low t b).1*b=(low t b).1*(sg t b*(low t b).2):=by rw [<-e2]
  _=sg t b*(low t b).1*(low t b).2:=by rw [<-adO,ack (low t b).1]
  _=t*(low t b).2:=by rw [<-e1]
theorem nY (h:b≠0):aaZ (low t b).1 (low t b).2=1:=by
 have e1:=nX (t:=t) h
 have e2:=kj (t:=t) h
 have k:aaZ t b=(sg t b).natAbs*aaZ (low t b).1 (low t b).2:=by
  have q:=akA (sg t b) (low t b).1 (low t b).2
  rw [<-e1,<-e2] at q
  exact q
 have g:(sg t b).natAbs=aaZ t b:=by
  rw [QU]
  rfl
 have p:=akG.mpr (adZ h:t≠0\/b≠0)
 rw [g] at k
 have k':aaZ t b*1=aaZ t b*aaZ (low t b).1 (low t b).2:=by rw [Nat.mul_one];exact k
 exact (Nat.eq_of_mul_eq_mul_left p k').symm
theorem dH {g a:Int}(h:g≠0):a.natAbs<=(g*a).natAbs:=by
 rw [ab1]
 have:1<=g.natAbs:=by omega
 have:=aaG a.natAbs this
 omega
theorem oO (h:b≠0):(low t b).1.natAbs<=t.natAbs:=by
 have e:=nX (t:=t) h
 have:=dH (g:=sg t b) (a:=(low t b).1) (oN h)
 rw [<-e] at this
 exact this
theorem oP (h:b≠0):(low t b).2.natAbs<=b.natAbs:=by
 have e:=kj (t:=t) h
 have:=dH (g:=sg t b) (a:=(low t b).2) (oN h)
 rw [<-e] at this
 exact this
theorem IV (hg:g≠0)(ht:t=g*x)(hb:b=g*y)(hy:0<y)(h1:aaZ x y=1):low t b=(x,y):=by
 have hbn:b≠0:=by
  rw [hb]
  exact akH hg (by omega)
 have gg:aaZ t b=g.natAbs:=by
  rw [ht,hb,akA,h1,Nat.mul_one]
 have s:sg t b=g:=by
  unfold sg gz
  rw [gg]
  by_cases c:g<0
  ·have:b<0:=by rw [hb];exact Int.mul_neg_of_neg_of_pos c hy
   rw [aek this]
   omega
  ·have:¬ b<0:=by
    have:=Int.mul_nonneg (show 0<=g by omega) (show 0<=y by omega)
    omega
   rw [aej this]
   omega
 unfold low
 rw [s]
 rw [acM hg ht,acM hg hb]
theorem oQ (hy:0<y)(h:aaZ x y=1):low x y=(x,y):=IV (g:=1) (by decide) (by omega) (by omega) hy h
theorem so (hk:k≠0)(h:b≠0):low (k*t) (k*b)=low t b:=by
 refine IV (g:=k*sg t b) (akH hk (oN h)) ?_ ?_ (km h) (nY h)
 ·rw [adO]
  exact aeE (k*·) (nX h)
 ·rw [adO]
  exact aeE (k*·) (kj h)
theorem rg (hb:b≠0)(hc:c≠0)(h:t*c=u*b):low t b=low u c:=by
 rw [<-so (t:=t) (b:=b) hc hb,<-so (t:=u) (b:=c) hb hc]
 rw [ack c t,h,ack u b,ack c b]
end Ty
set_option maxHeartbeats 4000000
namespace Ty
open PySem PySem.Spec PyProof.Rows L2
open Builtin.Int (intBits)
section
variable {X:Cx}
def vU (i j:Int):Prop:=intBits i<=33554432/\intBits j<=33554432
theorem cV:i7 X (ae9 .Mult) (rI vU fun i j=>.int (i*j)):=
 opI fun _ _ _ _ _ _ _ hc q=>mul_int q (IntMulOk.of_le hc.1 hc.2 (by decide))
def Ua (i j:Int):Prop:=j≠0/\intBits j<=9000
theorem abL (h:intBits j<=9000):Builtin.divisionGoesByPylong i j=false:=by
 refine PyProof.noPylong_of_log2 ?_
 have h1:=intBits_le_iff.mp h
 by_cases h0:j.natAbs=0
 ·rw [h0]
  decide+kernel
 ·exact (Nat.log2_lt h0).mpr h1
theorem vV:i7 X (ae9 .FloorDiv) (rI Ua fun i j=>.int (i.fdiv j)):=
 opI fun _ _ _ _ _ _ _ hc q=>floordiv_int hc.1 q (.inl (abL hc.2))
end
inductive Da where
 | v (x:V)
 | t (ds:List Da)
 | l (ds:List Da)
mutual
def Is (K:Frag)(H:Hp):Da->V->Prop
 | .v x,u=>u=x/\iN x=true
 | .t ds,u=>∃p xs,u=.ref p/\bJ K H p xs/\iw K H ds xs
 | .l ds,u=>∃p xs,u=.ref p/\aV K H p xs/\iw K H ds xs
def iw (K:Frag)(H:Hp):List Da->List V->Prop
 | [],[]=>True
 | d::ds,x::xs=>Is K H d x/\iw K H ds xs
 | _,_=>False
end
mutual
def jk:Da->Da->Bool
 | .v x,.v y=>kg x y
 | .t ds,.t es=>dD ds es
 | .l ds,.l es=>dD ds es
 | _,_=>false
def dD:List Da->List Da->Bool
 | [],[]=>true
 | d::ds,e::es=>jk d e && dD ds es
 | _,_=>false
end
mutual
def alike:Da->Da->Bool
 | .v _,.v _=>true
 | .t ds,.t es=>d3 ds es
 | .l ds,.l es=>d3 ds es
 | _,_=>false
def d3:List Da->List Da->Bool
 | d::ds,e::es=>alike d e && d3 ds es
 | _,_=>true
end
mutual
def dep:Da->Nat
 | .v _=>0
 | .t ds=>iQ ds+1
 | .l ds=>iQ ds+1
def iQ:List Da->Nat
 | []=>0
 | d::ds=>max (dep d) (iQ ds)
end
theorem iw.length {K:Frag}:∀{ds:List Da} {xs:ε},iw K H ds xs->ds.length=xs.length
 | [],[],_=>rfl
 | _::_,_::_,h=>aeE (·+1) (iw.length (by unfold iw at h;exact h.2))
 | [],_::_,h=>by unfold iw at h;exact h.elim
 | _::_,[],h=>by unfold iw at h;exact h.elim
def iR (ds es:List Da)(j:Nat):Bool:=match ds[j]?,es[j]? with
 | some d,some e=>jk d e
 | _,_=>true
theorem dy:∀ds es:List Da,dD ds es=((abb (min ds.length es.length)).all (iR ds es) && ds.length==es.length)
 | [],[]=>rfl
 | [],_::_=>by simp [dD]
 | _::_,[]=>by simp [dD]
 | d::ds,e::es=>by
  have ih:=dy ds es
  have r:min (d::ds).length (e::es).length=min ds.length es.length+1:=by simp [Nat.succ_min_succ]
  rw [r,ajT,adN,akj]
  have b0:iR (d::ds) (e::es) 0=jk d e:=rfl
  have b1:(iR (d::ds) (e::es) ∘ Nat.succ)=iR ds es:=by
   funext j
   rfl
  have l1:((d::ds).length==(e::es).length)=(ds.length==es.length):=by simp
  rw [b0,b1,l1,Bool.and_assoc,<-ih]
  rfl
section
variable {X:Cx}{pins:ζ}{σ:L2.St}{H:Hp}{s:aep}
theorem IW (h:iN x=true):kg x x=true:=by
 cases x<;>first|rfl|(simp [kg];done)|(cases h;done)
mutual
theorem tZ (I:Inv X pins σ H s):∀(d e:Da)(x:V),Is X.K H d x->Is X.K H e x->alike d e=true->jk d e=true
 | .v a,.v b,x,h1,h2,_=>by
  unfold Is at h1 h2
  obtain ⟨rfl,f⟩:=h1
  obtain ⟨rfl,_⟩:=h2
  unfold jk
  exact IW f
 | .t ds,.t es,x,h1,h2,a=>by
  unfold Is at h1 h2
  obtain ⟨p,xs,rfl,q1,k1⟩:=h1
  obtain ⟨p',ys,e',q2,k2⟩:=h2
  cases e'
  cases I.gF q1 q2
  unfold jk
  unfold alike at a
  exact oR I ds es xs k1 k2 a
 | .l ds,.l es,x,h1,h2,a=>by
  unfold Is at h1 h2
  obtain ⟨p,xs,rfl,q1,k1⟩:=h1
  obtain ⟨p',ys,e',q2,k2⟩:=h2
  cases e'
  cases I.iJ q1 q2
  unfold jk
  unfold alike at a
  exact oR I ds es xs k1 k2 a
 | .v _,.t _,_,_,_,a=>by unfold alike at a;cases a
 | .v _,.l _,_,_,_,a=>by unfold alike at a;cases a
 | .t _,.v _,_,_,_,a=>by unfold alike at a;cases a
 | .t _,.l _,_,_,_,a=>by unfold alike at a;cases a
 | .l _,.v _,_,_,_,a=>by unfold alike at a;cases a
 | .l _,.t _,_,_,_,a=>by unfold alike at a;cases a
theorem oR (I:Inv X pins σ H s):∀(ds es:List Da)(xs:ε),iw X.K H ds xs->iw X.K H es xs->d3 ds es=true->dD ds es=true
 | [],[],_,_,_,_=>by unfold dD;rfl
 | d::ds,e::es,x::xs,h1,h2,a=>by
  unfold iw at h1 h2
  unfold d3 at a
  rw [abN] at a
  unfold dD
  rw [tZ I d e x h1.1 h2.1 a.1,oR I ds es xs h1.2 h2.2 a.2]
  rfl
 | [],_::_,[],_,h2,_=>by unfold iw at h2;exact h2.elim
 | [],_::_,_::_,h1,_,_=>by unfold iw at h1;exact h1.elim
 | _::_,[],[],h1,_,_=>by unfold iw at h1;exact h1.elim
 | _::_,[],_::_,_,h2,_=>by unfold iw at h2;exact h2.elim
 | _::_,_::_,[],h1,_,_=>by unfold iw at h1;exact h1.elim
end
theorem in1_units (A:aeI):A.in1.units=A.units+1:=rfl
mutual
theorem zQ (I:Inv X pins σ H s):∀(d e:Da)(x y:V)(u w:Value)(A:aeI),Is X.K H d x->Is X.K H e y->alike d e=true->RelV x u->RelV y w->A.units+dep d<afG->SeqAt.EqAt A s u w (jk d e)
 | .v a,.v b,x,y,u,w,A,h1,h2,_,r1,r2,_=>by
  unfold Is at h1 h2
  obtain ⟨rfl,f1⟩:=h1
  obtain ⟨rfl,f2⟩:=h2
  unfold jk
  exact IK r1 r2 f1 f2
 | .t ds,.t es,x,y,u,w,A,h1,h2,a,r1,r2,hu=>by
  have dO :=h1
  have O7 :=h2
  unfold Is at h1 h2
  obtain ⟨p,xs,rfl,q1,k1⟩:=h1
  obtain ⟨p',ys,rfl,q2,k2⟩:=h2
  cases r1
  cases r2
  by_cases e:p=p'
  ·subst e
   rw [tZ I _ _ _ dO O7 a]
   exact .same _
  ·refine .of_refs e ?_
   obtain ⟨its,v1,t1,_⟩:=I.tuple q1
   obtain ⟨d0,v2,t2,_⟩:=I.tuple q2
   unfold jk
   rw [dy,k1.length,k2.length,v1.length,v2.length]
   have z:=SeqAt.RcAt.tuples (A:=A) (e:=iR ds es) t1 t2 (by unfold dep at hu;omega) fun j g1 g2=>by
    unfold dep at hu
    unfold alike at a
    exact fX I ds es xs ys its d0 A.in1 k1 k2 a v1 v2 (by rw [in1_units];omega) j (by simpa using g1) (by simpa using g2)
   simpa using z
 | .l ds,.l es,x,y,u,w,A,h1,h2,a,r1,r2,hu=>by
  have dO :=h1
  have O7 :=h2
  unfold Is at h1 h2
  obtain ⟨p,xs,rfl,q1,k1⟩:=h1
  obtain ⟨p',ys,rfl,q2,k2⟩:=h2
  cases r1
  cases r2
  by_cases e:p=p'
  ·subst e
   rw [tZ I _ _ _ dO O7 a]
   exact .same _
  ·refine .of_refs e ?_
   obtain ⟨its,v1,t1,_⟩:=I.list q1
   obtain ⟨d0,v2,t2,_⟩:=I.list q2
   unfold jk
   unfold dep at hu
   unfold alike at a
   by_cases el:its.length=d0.length
   ·rw [dy,k1.length,k2.length,v1.length,v2.length]
    have z:=SeqAt.RcAt.lists (A:=A) (e:=iR ds es) t1.isList t2.isList (by simpa using el) (by omega) fun j g1 g2=>
     fX I ds es xs ys its d0 A.in1 k1 k2 a v1 v2 (by rw [in1_units];omega) j (by simpa using g1) (by simpa using g2)
    rw [el,akk,beq_self_eq_true,aj_]
    rw [aaz,el] at z
    exact z
   ·have ne:dD ds es=false:=by
     rw [dy,k1.length,k2.length,v1.length,v2.length,beq_eq_false_iff_ne.mpr el,ad1]
    rw [ne]
    exact SeqAt.RcAt.lists_lengths t1.isList t2.isList (by simpa using el) (by omega)
 | .v _,.t _,_,_,_,_,_,_,_,a,_,_,_=>by unfold alike at a;cases a
 | .v _,.l _,_,_,_,_,_,_,_,a,_,_,_=>by unfold alike at a;cases a
 | .t _,.v _,_,_,_,_,_,_,_,a,_,_,_=>by unfold alike at a;cases a
 | .t _,.l _,_,_,_,_,_,_,_,a,_,_,_=>by unfold alike at a;cases a
 | .l _,.v _,_,_,_,_,_,_,_,a,_,_,_=>by unfold alike at a;cases a
 | .l _,.t _,_,_,_,_,_,_,_,a,_,_,_=>by unfold alike at a;cases a
theorem fX (I:Inv X pins σ H s):∀(ds es:List Da)(xs ys:ε)(us ws:ο)(A:aeI),iw X.K H ds xs->iw X.K H es ys->d3 ds es=true->Vals xs us->Vals ys ws->A.units+iQ ds<afG->
  ∀(j:Nat)(h1:j<us.length)(h2:j<ws.length),SeqAt.EqAt A s us[j] ws[j] (iR ds es j)
 | d::ds,e::es,xs,ys,us,ws,A,k1,k2,a,v1,v2,hu,j,h1,h2=>by
  cases xs with
  | nil=>unfold iw at k1;exact k1.elim
  | cons x xs=>
   cases ys with
   | nil=>unfold iw at k2;exact k2.elim
   | cons y ys=>
    cases v1 with
    | cons r1 v1=>
     cases v2 with
     | cons r2 v2=>
      unfold iw at k1 k2
      unfold d3 at a
      rw [abN] at a
      unfold iQ at hu
      cases j with
      | zero=>exact zQ I d e x y _ _ A k1.1 k2.1 a.1 r1 r2 (by omega)
      | succ j=>exact fX I ds es xs ys _ _ A k1.2 k2.2 a.2 v1 v2 (by omega) j (by simpa using h1) (by simpa using h2)
 | [],_,xs,_,us,_,_,k1,_,_,v1,_,_,_,h1,_=>by
  cases xs with
  | nil=>
   cases v1
   exact aet h1 (abj _)
  | cons x xs=>unfold iw at k1;exact k1.elim
 | _::_,[],_,ys,_,ws,_,_,k2,_,_,v2,_,_,_,h2=>by
  cases ys with
  | nil=>
   cases v2
   exact aet h2 (abj _)
  | cons y ys=>unfold iw at k2;exact k2.elim
end
end
section
variable {X:Cx}
inductive O8 (K:Frag)(x:V)(y:V)(H:Hp)(Q:VK):Prop
|mk (ds es:_)(_:((Is K H (.t ds) x/\Is K H (.t es) y)\/(Is K H (.l ds) x/\Is K H (.l es) y)))(_:d3 ds es=true)(_:iQ ds<=60)(_:Q (.bl (dD ds es)) H)
inductive IX (K:Frag)(x:V)(y:V)(H:Hp)(Q:VK):Prop
|mk (ds es:_)(_:((Is K H (.t ds) x/\Is K H (.t es) y)\/(Is K H (.l ds) x/\Is K H (.l es) y)))(_:d3 ds es=true)(_:iQ ds<=60)(_:Q (.bl (!dD ds es)) H)
theorem t_ (hu:X.A.units+64<afG):i7 X (ae2 .Eq) (O8 X.K):=by
 intro pins s σ H x y v u Q I rx ry h
 obtain ⟨ds,es,h,a,hd,q⟩:=h
 rcases h with ⟨h1,h2⟩|⟨h1,h2⟩
 ·unfold Is at h1 h2
  obtain ⟨p,xs,rfl,q1,k1⟩:=h1
  obtain ⟨p',ys,rfl,q2,k2⟩:=h2
  cases rx
  cases ry
  obtain ⟨its,v1,t1,_⟩:=I.tuple q1
  obtain ⟨d0,v2,t2,_⟩:=I.tuple q2
  have z:=SeqAt.RcAt.tuples (A:=X.A) (e:=iR ds es) t1 t2 (by omega) fun j g1 g2=>
   fX I ds es xs ys its d0 X.A.in1 k1 k2 a v1 v2 (by rw [in1_units];omega) j (by simpa using g1) (by simpa using g2)
  refine z X.prog X.w X.xe _ ⟨.bl _,H,I,rfl,?_⟩
  have e:=dy ds es
  rw [k1.length,k2.length,v1.length,v2.length] at e
  simpa [e] using q
 ·unfold Is at h1 h2
  obtain ⟨p,xs,rfl,q1,k1⟩:=h1
  obtain ⟨p',ys,rfl,q2,k2⟩:=h2
  cases rx
  cases ry
  obtain ⟨its,v1,t1,_⟩:=I.list q1
  obtain ⟨d0,v2,t2,_⟩:=I.list q2
  have e:=dy ds es
  rw [k1.length,k2.length,v1.length,v2.length] at e
  by_cases el:its.length=d0.length
  ·have z:=SeqAt.RcAt.lists (A:=X.A) (e:=iR ds es) t1.isList t2.isList (by simpa using el) (by omega) fun j g1 g2=>
    fX I ds es xs ys its d0 X.A.in1 k1 k2 a v1 v2 (by rw [in1_units];omega) j (by simpa using g1) (by simpa using g2)
   refine z X.prog X.w X.xe _ ⟨.bl _,H,I,rfl,?_⟩
   rw [el,akk,beq_self_eq_true,aj_] at e
   simpa [e,el] using q
  ·have ne:dD ds es=false:=by rw [e,beq_eq_false_iff_ne.mpr el,ad1]
   rw [ne] at q
   exact SeqAt.RcAt.lists_lengths t1.isList t2.isList (by simpa using el) (by omega) X.prog X.w X.xe _ ⟨.bl _,H,I,rfl,q⟩
theorem ua (hu:X.A.units+64<afG):i7 X (ae2 .NotEq) (IX X.K):=by
 intro pins s σ H x y v u Q I rx ry h
 obtain ⟨ds,es,h,a,hd,q⟩:=h
 rcases h with ⟨h1,h2⟩|⟨h1,h2⟩
 ·unfold Is at h1 h2
  obtain ⟨p,xs,rfl,q1,k1⟩:=h1
  obtain ⟨p',ys,rfl,q2,k2⟩:=h2
  cases rx
  cases ry
  obtain ⟨its,v1,t1,_⟩:=I.tuple q1
  obtain ⟨d0,v2,t2,_⟩:=I.tuple q2
  have z:=SeqAt.RcNeAt.tuples (A:=X.A) (e:=iR ds es) t1 t2 (by omega) fun j g1 g2=>
   fX I ds es xs ys its d0 X.A.in1 k1 k2 a v1 v2 (by rw [in1_units];omega) j (by simpa using g1) (by simpa using g2)
  refine z X.prog X.w X.xe _ ⟨.bl _,H,I,rfl,?_⟩
  have e:=dy ds es
  rw [k1.length,k2.length,v1.length,v2.length] at e
  simpa [e] using q
 ·unfold Is at h1 h2
  obtain ⟨p,xs,rfl,q1,k1⟩:=h1
  obtain ⟨p',ys,rfl,q2,k2⟩:=h2
  cases rx
  cases ry
  obtain ⟨its,v1,t1,_⟩:=I.list q1
  obtain ⟨d0,v2,t2,_⟩:=I.list q2
  have e:=dy ds es
  rw [k1.length,k2.length,v1.length,v2.length] at e
  by_cases el:its.length=d0.length
  ·have z:=SeqAt.RcNeAt.lists (A:=X.A) (e:=iR ds es) t1.isList t2.isList (by simpa using el) (by omega) fun j g1 g2=>
    fX I ds es xs ys its d0 X.A.in1 k1 k2 a v1 v2 (by rw [in1_units];omega) j (by simpa using g1) (by simpa using g2)
   refine z X.prog X.w X.xe _ ⟨.bl _,H,I,rfl,?_⟩
   rw [el,akk,beq_self_eq_true,aj_] at e
   simpa [e,el] using q
  ·have ne:dD ds es=false:=by rw [e,beq_eq_false_iff_ne.mpr el,ad1]
   rw [ne] at q
   exact SeqAt.RcNeAt.lists_lengths t1.isList t2.isList (by simpa using el) (by omega) X.prog X.w X.xe _ ⟨.bl _,H,I,rfl,q⟩
def QV:V->Value
 | .ty n=>.type n
 | .ref a=>.ref a
 | _=>.none
def O9:V->Bool
 | .ty _=>true
 | .ref _=>true
 | _=>false
theorem zR (h:O9 c=true)(r:RelV c u):u=QV c:=by
 cases c<;>first|exact r|(cases h;done)
inductive Ub (K:Frag)(xs:ε)(H:Hp)(Q:VK):Prop
|mk (x c t b:_)(_:xs=[x,c])(_:O9 c=true)(_:lM K H x t)(_:aeV K t (QV c)=some b)(_:Q (.bl b) H)
theorem fu:ft X (.builtin "isinstance") (Ub X.K):=by
 intro pins s σ H xs us Q I r h
 obtain ⟨x,c,t,b,rfl,hc,ty,e,q⟩:=h
 obtain ⟨u,w,rfl,r1,r2⟩:=vals2 r
 obtain rfl:=zR hc r2
 exact CG I r1 ty e fun tk=>⟨.bl b,H,I.tok tk,rfl,q⟩
end
section
variable {K:Frag}
theorem IY (h:((Value.type a==Value.type b)=true->v=true)/\((Value.type a==Value.type b)=false->PySem.W.kitMeta b=true/\(fastBuiltinMro a).map (·.contains (Value.type b))=some v)):aeV K (.type a) (.type b)=some v:=by
 unfold aeV
 by_cases e:(Value.type a==Value.type b)=true
 ·rw [aek e,h.1 e]
 ·rw [aej e]
  obtain ⟨h1,h2⟩:=h.2 (by simpa using e)
  unfold PySem.W.kitCls
  dsimp only
  rw [aek h1]
  exact h2
end
theorem bS:aeL "len"=some (.builtin "len"):=by decide+kernel
theorem O_:aeL "abs"=some (.builtin "abs"):=by decide+kernel
theorem cu:aeL "isinstance"=some (.builtin "isinstance"):=by decide+kernel
theorem Pa:aeL "all"=some (.builtin "all"):=by decide+kernel
theorem IZ:aeL "int"=some (.type "int"):=by decide+kernel
theorem QW:aeL "bool"=some (.type "bool"):=by decide+kernel
theorem Pb:aeL "str"=some (.type "str"):=by decide+kernel
theorem gY:aeL "list"=some (.type "list"):=by decide+kernel
theorem ub:aeL "tuple"=some (.type "tuple"):=by decide+kernel
theorem oT:aeL "dict"=some (.type "dict"):=by decide+kernel
theorem kq {pos:Pos}(hg:Gl X x)(hm:X.mg x=none)(hv:aeL x=some (.type n))(hn:x≠ "__name__":=by decide)(hd:(x==("__debug__":Str))=false:=by decide):PE X (.Name x pos) (tC (.ty n)):=MM (v:=.ty n) hg hm hv rfl hn hd
def QX (_ j:Int):Prop:=j≠0
theorem nz (h:j≠0):QX i j:=h
theorem gu :i7 X (ae9 .Mod) (rI QX fun i j=>.int (i.fmod j)):=MX
theorem Nc :iQ [.v a,.v b]<=60:=by simp [iQ,dep]
end Ty
set_option maxHeartbeats 4000000
namespace TyAtt
open PySem PySem.W PySem.Calls PyProof.Rows
open Builtin.Int (intBits)
theorem CM {ns:ξ}(h:(WData.list (ns.map WData.int)).layable=true)(hn:n∈ns):intBits n<=1048576:=by
 obtain ⟨_,_,hw⟩:=layableW_iff.mp h
 have a:∀(l:ξ),n∈l->intBits n<=WData.weightAll (l.map WData.int):=by
  intro l
  induction l with
  | nil=>intro q;cases q
  | cons y r ih=>
   intro q
   rw [aaj]
   unfold WData.weightAll
   rcases aaL.mp q with z|z
   ·subst z
    have:intBits n<=WData.weight (.int n):=by
     unfold WData.weight
     exact aal _
    omega
   ·have:=ih z
    omega
 have b:=a ns hn
 unfold WData.weight at hw
 omega
theorem vW {l:OpenLaw}{loose:ρ}
  (hn:l.most=some n) (hdf:d.params.defaults=[])
  (call:∀(w:World)(s₀ s₁:aep)(mg mb:ι)(fa:aef)(o:Obj)(pm cd doc:Value)(a:aef)(vs:ο)(ns:ξ),
   Ground q loose [] XP w s₀ mg mb s₁.heap->YP w s₁.heap->
   s₁.heap.get? fa=some o->o.data=.func (docDef d.name d.params d.body d.scope pm cd doc)->s₁.heap.CodeRec cd d.name->mg d.name=some (.ref fa)->
   s₁.heap.get? a=some {cls:=.type "list",data:=.seq vs.toArray}->IntsAre vs ns->ns.length<=n->(∀i∈ns,intBits i<=1048576)->s₁.gens= #[]->
   afd (aes l.prog w) callerA (.call (.ref fa) ⟨[.ref a],[]⟩) (fun r s'=>r=.ok (.ret (.bool true))/\OldK s₁.heap s'.heap/\s'.os=s₁.os/\aga s'.gens) s₁):
  WalkO q loose XP YP l.row.toRowW d [] (fun f vs=>PySem.call f vs):=by
 intro w s₀ s₁ mg mb G Y fa o pm cd doc dV kV ho hd q_ hD Uc hg args vals as Na hlay hrd hwl hlo
 obtain rfl:dV=.none:=Dflts.none hD hdf
 obtain rfl:kV=.none:=Dflts.noKw hD
 obtain ⟨a,vs,ns,rfl,rfl,QY,hints,hlen⟩:=Att.CJ hn Na hwl
 have hb:∀i∈ns,intBits i<=1048576:=fun i hi=>CM (layW_cons hlay).1 hi
 refine enter_call (codeAny_mono (call w s₀ s₁ mg mb fa o pm cd doc a vs ns G Y ho (fd_plain hd) q_ Uc QY hints hlen hb hg) fun r s' hq=>?_)
 obtain ⟨rfl,h2,h3,h4⟩:=hq
 exact ⟨.inl ⟨.bool true,.bool true,[],rfl,fun _=>rfl,.bool true,Att.CK l _,fun _=>⟨List.Pairwise.nil,fun _ hm=>(nomatch hm)⟩⟩,h2,h3,h4⟩
end TyAtt
namespace Ty
open PySem PySem.Spec PyProof.Rows L2
open Builtin.Int (intBits)
structure Fn (P:aeB)(w:World)(K:Frag)(mg:ι)(base:Heap)(CX:j9)(k:Nat)(x:Str)(ps:ρ)(sp:Sp):Prop where
 ex:∃(f:aef)(fd:FuncData),cO P w K mg base CX k f fd ps sp/\Binds K fd ps []/\mg x=some (.ref f)/\keepIn K (.ref f)=true
structure Def (K:Frag)(mg:ι)(x:Str)(st:Stmt)(ps:ρ):Prop where
 ex:∃(f:aef)(dV oc:Value)(od:Θ)(kV doc pm:Value)(an:Θ)(cp ct:Value)(qV:Ν),
  K.lookup f=some ⟨oc,od,.func (fnOf x x (aA st) (av st) (ae st) dV kV doc pm an cp ct),qV⟩/\codeIn K cp x=true/\keepIn K (.ref f)=true/\
  Binds K (fnOf x x (aA st) (av st) (ae st) dV kV doc pm an cp ct) ps []/\mg x=some (.ref f)
theorem Def.of {K:Frag}{st:Stmt}(F:nG K x x st f fd)(b:Binds K fd ps [])(m:mg x=some (.ref f)):Def K mg x st ps:=by
 obtain ⟨oc,od,kV,doc,pm,an,cp,ct,qV,rfl,lk,q_⟩:=F.ex
 exact ⟨f,.none,oc,od,kV,doc,pm,an,cp,ct,qV,lk,q_,F.kp,b,m⟩
section
variable {P:aeB}{w:World}{K:Frag}{mg:ι}{base:Heap}{CX:j9}
theorem Def.ok {st:Stmt}(D:Def K mg x st ps)(S:aC N ps (ae st))(len:∀vs H Q E,sp vs H Q E->vs.length=ps.length)
  (fW:∀(f:aef)(cp:Value)(A:aeI)(outer:List Env)(s:aep)(H:Hp)(vs:ε)(Q:VK)(E:XK),cx k (A.deeper (afO x (ae st) s.heap.objs.size f cp))->sp vs H Q E->
   ∃t,PSs (j_ CX P w K mg base N x (ae st) f cp A outer s H E).vt (av st) t/\t {nx:=fun _ H'=>Q .cg H',rt:=Q} (start N vs) H):Fn P w K mg base CX (k+1) x ps sp:=by
 obtain ⟨f,dV,oc,od,kV,doc,pm,an,cp,ct,qV,lk,q_,kp,b,m⟩:=D.ex
 refine ⟨f,_,zJ lk q_ S len fun A outer s H vs Q E hr nA=>?_,b,m,kp⟩
 obtain ⟨t,h,q⟩:=fW f cp A outer s H vs Q E hr nA
 exact ⟨t,h.vt,q⟩
theorem _root_.L2.nG.okG {st:Stmt}(F:nG K x x st f fd)(S:aC N ps (ae st))(len:∀vs H Q E,sp vs H Q E->vs.length=ps.length)
  (fW:∀(cp:Value)(A:aeI)(outer:List Env)(s:aep)(H:Hp)(vs:ε)(Q:VK)(E:XK),cx k (A.deeper (afO x (ae st) s.heap.objs.size f cp))->sp vs H Q E->
   ∃t,PSs (j_ CX P w K mg base N x (ae st) f cp A outer s H E).vt (av st) t/\t {nx:=fun _ H'=>Q .cg H',rt:=Q} (start N vs) H):cO P w K mg base CX (k+1) f fd ps sp:=by
 obtain ⟨oc,od,kV,doc,pm,an,cp,ct,qV,rfl,lk,q_⟩:=F.ex
 refine zJ lk q_ S len fun A outer s H vs Q E hr nA=>?_
 obtain ⟨t,h,q⟩:=fW cp A outer s H vs Q E hr nA
 exact ⟨t,h.vt,q⟩
def vX (CX:j9):Prop:=∀outer H s e s',CX outer H s E0 e s' ->False
theorem oU {X:Cx}(h:vX CX):Passes CX X.vt E0:=fun _ _ _ _ _ _ _ q=>(h _ _ _ _ _ q).elim
section
variable {X:Cx}{k:Nat}{ps:ρ}{sp:Sp}{E:XK}{x:Str}{p pos:Pos}{e:Expr}{es:Δ}{t:TA}
theorem oV (F:Fn X.prog X.w X.K X.mg X.base CX k x ps sp)(hr:cx k X.A)(hx:Passes CX X E)(ha:PA X (e::es) t)(hg:Gl X x:=by rfl)(vL:(x==("__debug__":Str))=false:=by decide)
  (he:aeA (e::es) X.env=(false,aeM e X.env)::aeA es X.env:=by rfl) (vv:(afc pos (aeA es X.env)).any (·.1)=false:=by rfl):PE X (.Call (.Name x p) (e::es) [] pos) (zH sp [] E t):=by
 obtain ⟨f,fd,G,b,m,kp⟩:=F.ex
 exact M6 G hr hg m kp b .nil hx ha vL he vv
end
end
def I_ (K:Frag):Sp:=fun vs H Q _=>∃(a:aef)(ns:ξ),vs=[.ref a]/\aV K H a (ns.map V.int)/\ns.length<=63/\(∀i∈ns,intBits i<=1048576)/\∀H',Q (.bl true) H'
theorem walk {l:PySem.W.OpenLaw}{loose:ρ}{K:Params->Frag}{CX:World->j9}
  (hn:l.most=some 63) (hdf:d.params.defaults=[]) (hi:importsNone q=true) (hr:cx k callerA)
  (hY:∀(w:World)(h:Heap),YP w h->(K w.params).In h) (hm:∀w,vX (CX w))
  (F:∀(w:World)(mg:ι)(fa:aef)(h:Heap),(K w.params).In h->h.Ns aex mg->mg d.name=some (.ref fa)->
   ∃fd:FuncData,(∀(s:aep)(u:Value),BindsTo s fd ⟨[u],[]⟩ [(x,u)])/\
    ∀base:Heap,(K w.params).In base->base.Ns aex mg->cO l.prog w (K w.params) mg base (CX w) k fa fd [x] (I_ (K w.params))):
  PySem.W.WalkO q loose XP YP l.row.toRowW d [] (fun f vs=>PySem.call f vs):=by
 refine TyAtt.vW hn hdf fun w s₀ s₁ mg mb fa o pm cd doc a vs ns G Y ho hd q_ Uc QY hints hlen hb hg=>?_
 have KX:=hY w _ Y
 obtain ⟨fd,hbd,hF⟩:=F w mg fa _ KX G.T.g Uc
 exact IT KX G.T.g G.T.b G.T.builtins G.T.nolimit (G.T.seer hi) hg QY hints (aak hlen (by decide)) hr hF hbd (fun H hO hS=>⟨a,ns,rfl,hS,hlen,hb,fun _=>rfl⟩) fun H e s'=>hm w [] H s₁ e s'
end Ty
set_option maxHeartbeats 4000000
namespace Ty
open PySem PySem.Spec PyProof.Rows
end Ty
set_option maxHeartbeats 4000000
namespace Ty
open PySem PySem.Spec PyProof.Rows L2
def DictAt (h:Heap)(a:aef)(dx:Θ):Prop:=∃o,h.get? a=some o/\o.dict=dx
def aY (P:aeB)(w:World):j9:=fun outer H s E e s'=>∃(a:aef)(cls a0:Value)(dx:Θ)(H':Hp)(B:Heap),
 e=.ref a/\Heap.FlyingW B outer a cls a0 s'.heap/\DictAt s'.heap a dx/\Un (zv outer) [] H H' s.heap s'.heap/\ju P w H' s'.heap/\s'.os=s.os/\aga s'.gens/\
 (∀b o,s.heap.get? b=some o->b∉zv outer->∃o',B.get? b=some o')/\(∀b u,H' b=some u->∃o,B.get? b=some o)/\E cls dx H'
theorem aY.yd :vX (aY P w):=fun _ _ _ _ _ h=>by obtain ⟨_,_,_,_,_,_,_,_,_,_,_,_,_,_,_,z⟩:=h;exact z
section
variable {P:aeB}{w:World}{K:Frag}{mg:ι}{base:Heap}{N:ρ}{qual:Str}{scope:Scope}{f:aef}{cp:Value}{A:aeI}{outer:List Env}{s0:aep}{H0:Hp}{E:XK}
abbrev cxr (P:aeB)(w:World)(K:Frag)(mg:ι)(base:Heap)(N:ρ)(qual:Str)(scope:Scope)(f:aef)(cp:Value)(A:aeI)(outer:List Env)(s0:aep)(H0:Hp)(E:XK):Cx:=j_ (aY P w) P w K mg base N qual scope f cp A outer s0 H0 E
end
section
variable {X:Cx}{pins:ζ}{σ:L2.St}{H H':Hp}{s:aep}
def XP (X:Cx)(pins:ζ)(σ:L2.St)(E:XK)(e:Value)(s':aep):Prop:=∃H s,Inv X pins σ H s/\aY X.prog X.w X.stack H s E e s'
end
end Ty
set_option maxHeartbeats 4000000
namespace TyExc
open PySem PySem.W PySem.Calls PyProof.Rows Builtin Builtin.ObjectAttr Builtin.Getset_descriptor
section
variable {prog:aeB}{w:World}{A:aeI}{E:δ}{K:Frag}{h:Heap}{g:Array GenState}{d:Drawn}{t:Nat}{os:OsState}{a C:aef}{o:Obj}
end
end TyExc
set_option maxHeartbeats 4000000
namespace Ty
open PySem PySem.Spec PyProof.Rows L2
section
variable {X:Cx}
end
end Ty
set_option maxHeartbeats 4000000
namespace TyExc
open PySem PySem.W PySem.Calls PyProof.Rows Builtin Builtin.ObjectAttr Builtin.Getset_descriptor
section
variable {prog:aeB}{w:World}{A:aeI}{E:δ}{K:Frag}{h:Heap}{g:Array GenState}{d:Drawn}{t:Nat}{os:OsState}{a C:aef}{o:Obj}{od:Option Obj}{name:Str}{v:Value}
end
end TyExc
set_option maxHeartbeats 4000000
namespace TyExc
open PySem PySem.W PySem.Calls PyProof.Rows Builtin Builtin.ObjectAttr
section
variable {prog:aeB}{w:World}{A:aeI}{E:δ}{K:Frag}{s:aep}{x C:aef}{ox:Obj}{od:Option Obj}{name:Str}{v:Value}{cd:ClassData}
end
end TyExc
set_option maxHeartbeats 400000
namespace TyExc
open PySem PySem.W PySem.Calls PyProof.Rows Builtin
section
variable {prog:aeB}{w:World}{A:aeI}{K:Frag}{h:Heap}{g:Array GenState}{d:Drawn}{t:Nat}{os:OsState}{e C:aef}{oe:Obj}{vs:Κ}{args:ο}{E:δ}
end
end TyExc
set_option maxHeartbeats 400000
namespace TyExc
open PySem PySem.W PySem.Calls PyProof.Rows Builtin
section
variable {prog:aeB}{w:World}{A:aeI}{K:Frag}{h:Heap}{g:Array GenState}{d:Drawn}{t:Nat}{os:OsState}{nm q:Str}{C N f:aef}{bs bm bmB:ο}{abO:Bool}{sn:ρ}{sub:ο}{ab:Bool}{col:Option Bool}{dd:Θ}{k0 k1 k2 k3 k5:Option Value}{B newId abP:String}{rest:ο}{E:δ}
end
end TyExc
set_option maxHeartbeats 400000
namespace TyExc
open PySem PySem.W PySem.Calls PyProof.Rows Builtin
section
variable {M:Model}{A:aeI}{E:δ}{env:Env}{nm q:Str}{C N:aef}{bs bm:ο}{abO:Bool}{sn:ρ}{sub:ο}{ab:Bool}{col:Option Bool}{dd:Θ}{k0 k1 k2 k3 k5:Option Value}{newId:String}{s:aep}{x:Sem Value}{Q:Flow->aep->Prop}
end
end TyExc
set_option maxHeartbeats 400000
namespace TyExc
open PySem PySem.W
end TyExc
namespace Ty
open PySem PySem.Spec PyProof.Rows L2
section
variable {P:aeB}{w:World}{H:Hp}{h:Heap}{C a:aef}{dx:Θ}
end
section
variable {X:Cx}
end
end Ty
set_option maxHeartbeats 1000000
namespace Ty
open PySem PySem.Spec PyProof.Rows L2
section
variable {P:aeB}{w:World}{K:Frag}{mg:ι}{base:Heap}{N:ρ}{qual:Str}{scope:Scope}{f:aef}{cp:Value}{A:aeI}{outer:List Env}{s0:aep}{H0:Hp}{E:XK}
end
section
variable {prog:aeB}{w:World}{A:aeI}{R:Μ}{s:aep}
theorem uc {ifs:Δ}(I:Nat->aep->Prop)
  (turn:∀n s,I n s->aen (aes prog w) A (af2 it) (fun r s₁=>match r with
   | none=>R (.ok .next) s₁
   | some v=>aen (aes prog w) A (agu target it v) (fun _ s₁' =>aen (aes prog w) A (assign target env v) (fun _ s₂=>
     aen (aes prog w) A (forIn ifs true fun c r=>if r=true then do let ok <- isTrue c env (aeM c env);pure (ForInStep.yield ok) else pure (ForInStep.yield r)) (fun ok s₃=>
      if ok=true then aen (aes prog w) A (aeM elt env) (fun x s₄=>
       aen (aes prog w) A (call (.builtin "list.append") [acc,x]) (fun _ s₅=>∃m,m<n/\I m s₅) (fun _ _=>False) s₄) (fun _ _=>False) s₃
      else ∃m,m<n/\I m s₃) (fun _ _=>False) s₂) (fun _ _=>False) s₁') (fun _ _=>False) s₁) (fun _ _=>False) s)
  (n:Nat) (h:I n s):
  afd (aes prog w) A (.compLoop (.ListComp elt [⟨target,iter,ifs,0⟩] scope pos) 0 it acc env) R s:=by
 refine codeAny_loop rfl I (fun n s hI=>?_) n h
 show aen _ A ((compTurn (.ListComp elt [⟨target,iter,ifs,0⟩] scope pos) 0 it acc env).onRaise (fun x=>do noteFrame x env;theTreesLotGoes x)) _ _ s
 refine wpAny_noted ?_
 rw [compTurn_list]
 refine aeg (agm (aeg (aeU (turn n s hI) (fun r s₁ h₁=>?_) fun _ _ h'=>h'.elim)))
 cases r with
 | none=>exact aeo h₁
 | some v=>
  refine aeg (aeU h₁ (fun _ s₁' h₁' =>?_) fun _ _ h'=>h'.elim)
  refine aeg (aeU h₁' (fun _ s₂ h₂=>aeg (aeU h₂ (fun ok s₃ h₃=>?_) fun _ _ h'=>h'.elim)) fun _ _ h'=>h'.elim)
  cases ok with
  | false=>exact aeo ⟨rfl,h₃⟩
  | true=>
   exact aeg (aeg (aeU h₃ (fun x s₄ h₄=>aeg (aeU h₄ (fun _ s₅ h₅=>aeo (aeo ⟨rfl,h₅⟩)) fun _ _ h'=>h'.elim)) fun _ _ h'=>h'.elim))
end
def bo (env:Env)(fr:ρ):List (Str×aef):=fr.filterMap fun n=>(env.cells.lookup n).map fun c=>(n,c)
theorem lookup_mem {α:Type}{c:α}:∀{l:List (Str×α)},l.lookup x=some c->(x,c)∈l
 | [],h=>by simp at h
 | (y,d)::r,h=>by
  rw [acQ] at h
  cases e:x==y with
  | true=>
   rw [e] at h
   have e1:x=y:=by simpa using e
   cases h
   rw [e1]
   exact aas
  | false=>
   rw [e] at h
   exact aan _ (lookup_mem h)
theorem CN (h:(x,c)∈bo env fr):env.cells.lookup x=some c:=by
 obtain ⟨n,_,e⟩:=adY.mp h
 cases q:env.cells.lookup n with
 | none=>rw [q] at e;cases e
 | some d=>
  rw [q] at e
  have e':(n,d)=(x,c):=aaA e
  cases e'
  exact q
theorem fS (h:(bo env fr).lookup x=some c):env.cells.lookup x=some c:=CN (lookup_mem h)
theorem lR (q:env.cells.lookup x=some c):∀{fr:ρ},x∈fr->(bo env fr).lookup x=some c
 | [],h=>nomatch h
 | y::r,h=>by
  unfold bo
  rw [acS]
  by_cases e:x=y
  ·subst e
   rw [q]
   simp
  ·have hr:x∈r:=by
    rcases aaL.mp h with z|z
    ·exact aet z e
    ·exact z
   have ih:=lR q hr
   cases z:env.cells.lookup y with
   | none=>exact ih
   | some d=>
    show abZ x ((y,d)::_)=_
    rw [acQ]
    have ne:(x==y)=false:=by simpa using e
    rw [ne]
    exact ih
def fF (env:Env):List Str->Prop
 | []=>True
 | y::r=>(env.kindOf y=some .cell\/env.kindOf y=some .free)/\fF env r
theorem fF.at :∀{fr:ρ},fF env fr->x∈fr->env.kindOf x=some .cell\/env.kindOf x=some .free
 | [],_,h=>nomatch h
 | y::r,a,h=>by
  rcases aaL.mp h with z|z
  ·rw [z]
   exact a.1
  ·exact fF.at a.2 z
section
variable {X:Cx}
def ud (X:Cx)(NB:ρ)(scope:Scope)(fn:Str->Bool)(cl:List (Str×aef))(C:aef)(s:aep)(H:Hp)(fp:χ):Cx:=
 {prog:=X.prog,w:=X.w,K:=X.K,mg:=X.mg,base:=X.base,A:=X.A,N:=NB,s₀:=s,H₀:=H,env:=compEnvC scope cl C X.env,outer:=X.stack,stack:=X.stack,ex:=fp,fn:=fn,calm:=X.calm,pn:=[],xe:=fun _ _=>False}
abbrev nZ (X:Cx)(NB:ρ)(scope:Scope)(cl:List (Str×aef))(C:aef)(s:aep)(H:Hp)(fp:χ):Cx:=ud X NB scope (fun _=>false) cl C s H fp
structure JA (X:Cx)(scope:Scope)(ow:aef->List (Str×aef))(fn:Str->Bool)(fr:ρ)(caps:Χ):Prop where
 CO:closureFor scope X.env=pure (bo X.env fr)
 kind:scope.kind=.function
 names:∀y∈scope.names,y.2=.local->scope.names.lookup y.1=some .local
 free:∀y∈scope.names,y.2=.free->y.1∈fr
 caps:caps.map (fun i=>X.N[i]?)=fr.map some
 out:fF X.env fr
 Ud:fF (compEnvC scope [] 0 X.env) fr
 new:∀{s:aep} {Q:Env->aep->Prop} {E:δ},(∀h',h'.Ns s.heap.objs.size (fun _=>none)->(∀b o,s.heap.get? b=some o->h'.get? b=some o)->(∀x c,(ow s.heap.objs.size).lookup x=some c->h'.IsCell c none)->
   Q (newEnv scope s.heap.objs.size X.env.globals (ow s.heap.objs.size++bo X.env fr) X.env.qual none .none (some X.env) agq) {s with heap:=h',toks:=s.toks+([]:List (Str×Value)).length})->
  aen (aes X.prog X.w) X.A (agJ scope X.env.globals (bo X.env fr) [] X.env.qual none .none (some X.env)) Q E s
 ge:∀C x c,(ow C).lookup x=some c->C<c
 one:∀C x z c,(ow C).lookup x=some c->(ow C).lookup z=some c->x=z
 fn1:∀C x,fn x=true->(ow C).lookup x≠none
 only:∀z∈scope.names,z.2=.cell->fn z.1=true
 ny:∀C,∀x∈fr,(ow C).lookup x=none
theorem sr {o cl:List (Str×aef)}(h:(o++cl).lookup x=some c):o.lookup x=some c\/(o.lookup x=none/\cl.lookup x=some c):=by
 rw [ad2] at h
 cases e:o.lookup x with
 | none=>rw [e] at h;exact .inr ⟨rfl,h⟩
 | some d=>rw [e] at h;exact .inl h
structure ue (X:Cx)(scope:Scope)(fr:ρ)(caps:Χ):Prop where
 CO:closureFor scope X.env=pure (bo X.env fr)
 cell:∀y∈scope.names,y.2≠.cell
 kind:scope.kind=.function
 names:∀y∈scope.names,y.2=.local->scope.names.lookup y.1=some .local
 free:∀y∈scope.names,y.2=.free->y.1∈fr
 caps:caps.map (fun i=>X.N[i]?)=fr.map some
 out:fF X.env fr
 Ud:fF (compEnvC scope [] 0 X.env) fr
def PF (X:Cx)(ifs:Δ)(t:TT):Prop:=
 ∀(pins:ζ)(s:aep)(σ:L2.St)(H:Hp)(Q:Bool->Hp->Prop),Inv X pins σ H s->t σ H Q->
  aen (aes X.prog X.w) X.A (forIn ifs true fun c r=>if r=true then do let ok <- isTrue c X.env (aeM c X.env);pure (ForInStep.yield ok) else pure (ForInStep.yield r)) (TP X pins σ Q) X.xe s
def jm:TT:=fun _ H Q=>Q true H
theorem oW:PF X [] jm:=fun _ _ _ H _ I h=>wpAny_tests_nil ⟨H,I,h⟩
theorem QZ (h:PT X c t):PF X [c] t:=fun pins s σ H Q I q=>wpAny_tests_one (h pins s σ H Q I q)
def sB (k:Nat)(caps:Χ)(σ:L2.St):L2.St:=aaF k none++caps.map fun i=>(σ[i]?).getD none
def lS (D:aef)(g:TG)(tt:TT)(te:TE)(J:It)(σ0:L2.St)(H1:Hp)(Q:VK):Prop:=∃W:Nat->Nat->L2.St->List V->Hp->Prop,
 (∃m,W 0 m σ0 [] (upd H1 D (.lst [])))/\∀i m σ2 ys H2,W i m σ2 ys H2->(J.stop i H2/\Q (.ref D) H2)\/(J.go i H2/\∀x H3,J.GU i H2 x H3->g x σ2 H3 fun σ4 H4=>tt σ4 H4 fun b H5=>
  if b=true then te σ4 H5 fun v H6=>H6 D=some (.lst ys)/\ys.length<ael/\∃m',m'<m/\W (i+1) m' σ4 (ys++[v]) (upd H6 D (.lst (ys++[v]))) else ∃m',m'<m/\W (i+1) m' σ4 ys H5)
def kr (k:Nat)(caps:Χ)(wi:TI)(g:TG)(tt:TT)(te:TE):TE:=fun σ H Q=>wi σ H fun J H1=>∀D,H1 D=none->lS D g tt te J (sB k caps σ) H1 Q
theorem Q0 (h:(sB k caps σ)[i]?=some (some v)):k<=i/\∃j,caps[i-k]?=some j/\σ[j]?=some (some v):=by
 unfold sB at h
 by_cases c:i<k
 ·rw [aar (by simpa using c),aa_,aek c] at h
  cases h
 ·rw [aav (by simpa using af_ c),ab',aag] at h
  refine ⟨af_ c,?_⟩
  cases e:caps[i-k]? with
  | none=>rw [e] at h;cases h
  | some j=>
   rw [e] at h
   refine ⟨j,rfl,?_⟩
   have h':(σ[j]?).getD none=some v:=aaA h
   cases z:σ[j]? with
   | none=>rw [z] at h';cases h'
   | some o=>
    rw [z] at h'
    exact aeE some h'
theorem oX {σ:L2.St}
    {RR:Value->aef->Result->aep->Prop} {E:δ} (hc:X.calm=true) (B:JA X scope ow fn fr caps)
  (hg:∀C s H fp,PG (ud X (tn++fr) scope fn (ow C++bo X.env fr) C s H fp) target g) (ht:∀C s H fp,PF (ud X (tn++fr) scope fn (ow C++bo X.env fr) C s H fp) ifs tt) (he:∀C s H fp,PE (ud X (tn++fr) scope fn (ow C++bo X.env fr) C s H fp) elt te)
  (I2:Inv X pins σ H2 s2) (T:Turn X.prog X.w X.K target J fp it Pc) (ji:Pc 0 s2.heap) (f2:∀b∈fp,iL X pins H2 b) (q:∀D,H2 D=none->lS D g tt te J (sB tn.length caps σ) H2 Q)
  (fin:∀D C H' s' m,Inv X pins σ H' s' ->s'.heap.Ns C m->iL X pins H' C->Q (.ref D) H' ->RR (.ref D) C (.ok .next) s'):
  aen (aes X.prog X.w) X.A (newList []) (fun acc s₃=>aen (aes X.prog X.w) X.A (agJ scope X.env.globals (bo X.env fr) [] X.env.qual none .none (some X.env)) (fun Ue s₄=>
   afd (aes X.prog X.w) X.A (.compStart (.ListComp elt [⟨target,iter,ifs,0⟩] scope pos) 0 (.ref it) acc {Ue with scope:=relabel scope X.env}) (RR acc Ue.locals) s₄) E s₃) E s2:=by
 refine afi (B.new (fun h₁ Q3 hk₁ hc₁=>?_))
 have I3:Inv X pins σ (upd H2 s2.heap.objs.size (.lst [])) {s2 with heap:=s2.heap.push {cls:=.type "list",data:=.seq ([]:List Value).toArray}}:=I2.QR (t':=s2.toks) (its:=[]) .nil (aaS _)
 obtain ⟨W,⟨m0,w0⟩,turn⟩:=q s2.heap.objs.size (I2.bO.fresh (aal _))
 generalize hH3:upd H2 s2.heap.objs.size (.lst [])=H3 at I3 w0
 have f3:∀b∈fp,iL X pins H3 b:=fun b hb=>by
  obtain ⟨a0,a1⟩:=f2 b hb
  refine ⟨?_,a1⟩
  obtain ⟨o,e,_⟩:=T.obj _ _ ji b hb
  rw [<-hH3,ao (aaM (aew e))]
  exact a0
 generalize hD:s2.heap.objs.size=D at*
 generalize hs3:({s2 with heap:=s2.heap.push {cls:=.type "list",data:=.seq ([]:List Value).toArray}}:aep)=s3 at*
 have e3:s3.heap=s2.heap.push {cls:=.type "list",data:=.seq ([]:List Value).toArray}:=by rw [<-hs3]
 have MS:Pc 0 s3.heap:=T.keep _ _ _ ji fun b _ o e=>by rw [e3];exact aeh _ e
 have kept:∀b o,s3.heap.get? b=some o->h₁.get? b=some o:=fun b o e=>hk₁ b o e
 generalize hC:s3.heap.objs.size=C at*
 have Ug:s3.heap.objs.size<=C:=ajR hC
 have I4:Inv X pins σ H3 {s3 with heap:=h₁,toks:=s3.toks+([]:List (Str×Value)).length}:=I3.kept kept
 have fpC:∀b∈fp,b≠C:=fun b hb z=>by
  obtain ⟨o,e,_⟩:=T.obj _ _ MS b hb
  exact aet z (aaM (aaB (aew e) Ug))
 have nst:∀b∈fp,b∉zv X.stack:=fun b hb z=>(aaL.mp (I3.xR b z)).elim (f3 b hb).2.1 (f3 b hb).2.2.1
 have old:∀x c,(bo X.env fr).lookup x=some c->c<C:=fun x c e=>by
  obtain ⟨v,ic⟩:=I3.cell x c (fS e)
  rw [<-hC]
  exact ic.lt
 have abQ:∀x z c,(ow C++bo X.env fr).lookup x=some c->(ow C++bo X.env fr).lookup z=some c->x=z:=fun x z c e1 e2=>by
  rcases sr e1 with b1|⟨_,b1⟩<;>rcases sr e2 with b2|⟨_,b2⟩
  ·exact B.one _ _ _ _ b1 b2
  ·exact aet (old z c b2) (Nat.lt_asymm (B.ge _ _ _ b1))
  ·exact aet (old x c b1) (Nat.lt_asymm (B.ge _ _ _ b2))
  ·exact I3.ok.inj x z c (fS b1) (fS b2)
 have abR:∀x c,fn x=true->(ow C++bo X.env fr).lookup x=some c->s3.heap.objs.size<=c:=fun x c hx e=>by
  rcases sr e with b1|⟨a1,b1⟩
  ·exact aak (ajR hC) (aa1 (B.ge _ _ _ b1))
  ·exact aet a1 (B.fn1 C x hx)
 have nfp:∀b∈fp,∀x c,(ow C++bo X.env fr).lookup x=some c->c≠b:=fun b hb x c e=>by
  rcases sr e with b1|⟨a1,b1⟩
  ·obtain ⟨o,eo,_⟩:=T.obj _ _ MS b hb
   have:=aew eo
   rw [hC] at this
   exact aaD (aaM (adX this (B.ge _ _ _ b1)))
  ·exact (f3 b hb).2.2.2.2.1 x c (fS b1)
 have Uh:∀{x:Str} {c:aef},x∈fr->(bo X.env fr).lookup x=some c->(ow C++bo X.env fr).lookup x=some c:=fun {x c} hx e=>by
  rw [ad2,B.ny C x hx]
  exact e
 have okB:(ud X (tn++fr) scope fn (ow C++bo X.env fr) C s3 H3 fp).Ok:=by
  refine ⟨I3.ok.mod,B.kind,I3.ok.glob,I3.ok.blt,Ug,abQ,fun x hx=>?_,abR,I3.ok.hd,I3.ok.frames,.inl rfl,
   fun b hb=>⟨fpC b hb,fun x c e=>nfp b hb x c e⟩,I3.bs,aak I3.ok.MG I3.sz,fun b o e hb=>?_,nst,I3.stack,I3.zA⟩
  ·have hm:∃k,(x,k)∈scope.names/\k≠.local/\(k=.cell\/k=.free):=by
    have:∃k',(relabel scope X.env).names.lookup x=some k'/\(k'=.cell\/k'=.free):=by
     rcases hx with z|z
     ·exact ⟨_,z,.inl rfl⟩
     ·exact ⟨_,z,.inr rfl⟩
    obtain ⟨k',e',h'⟩:=this
    obtain ⟨⟨n,k⟩,hn,en⟩:=aai.mp (lookup_mem e')
    dsimp only at en
    by_cases cc:(k==NameKind.free && X.env.scope.kind==.function && X.env.kindOf n==some .cell)=true
    ·rw [aek cc] at en
     cases en
     have kf:k=.free:=by
      rw [abN,abN] at cc
      simpa using cc.1.1
     exact ⟨k,hn,(by intro z;rw [kf] at z;cases z),.inr kf⟩
    ·rw [aej cc] at en
     cases en
     exact ⟨k',hn,fun z'=>by rcases h' with y|y<;>(rw [y] at z';cases z'),h'⟩
   obtain ⟨k,hk,_,h2⟩:=hm
   rcases h2 with z|z
   ·cases e:(ow C).lookup x with
    | none=>exact aet e (B.fn1 C x (B.only _ hk z))
    | some c=>exact ⟨c,by show abZ x (ow C++_)=_;rw [ad2,e];rfl⟩
   ·have hf:=B.free _ hk z
    obtain ⟨c,ec⟩:=I3.ok.has x (B.out.at hf)
    exact ⟨c,Uh hf (lR ec hf)⟩
  ·obtain ⟨_,_,_,h1,_⟩:=f3 b hb
   rcases h1 with z|z
   ·exact I3.ok.HM b o e z
   ·exact aa3 _ (aaB (aaB (aew e) I3.ok.MG) z)
 have IB:Inv (ud X (tn++fr) scope fn (ow C++bo X.env fr) C s3 H3 fp) [] (sB tn.length caps σ) H3 {s3 with heap:=h₁,toks:=s3.toks+([]:List (Str×Value)).length}:=by
  refine ⟨okB,rfl,I3.bare,Un.kept kept,⟨_,Q3,fun i x v e1 e2 _=>?_⟩,fun x c e=>(sr e).elim (fun z=>⟨none,hc₁ x c z⟩) (fun z=>I4.cell x c (fS z.2)),?_,fun x c e=>(sr e).elim (fun z=>I3.bO.fresh (aak Ug (aa1 (B.ge _ _ _ z)))) (fun z=>I3.iu x c (fS z.2)),fun p hp=>(nomatch hp),I3.bO.kept kept,?_⟩
  ·obtain ⟨hk,j,ej,es⟩:=Q0 e2
   have CP :fr[i-tn.length]?=some x:=by
    have z:(tn++fr)[i]?=some x:=e1
    rw [aav hk] at z
    exact z
   have hx:x∈fr:=Wp CP
   have eN:X.N[j]?=some x:=by
    have z:=aeE (fun l:List (Option Str)=>l[i-tn.length]?) B.caps
    simp only [aag,ej,CP,acC] at z
    exact aaA z
   have ko:=B.out.at hx
   obtain ⟨m,hn,hl⟩:=I4.loc
   obtain ⟨u,r,lk⟩:=hl j x v eN es (by rcases ko with z|z;exact .inr (.inl z);exact .inr (.inr z))
   refine ⟨u,r,?_⟩
   rcases lk with ⟨k1,_⟩|⟨_,c,ec,ic⟩
   ·rcases ko with z|z<;>(rw [z] at k1;cases k1)
   ·exact .inr ⟨B.Ud.at hx,c,Uh hx (lR ec hx),ic⟩
  ·exact I3.bO.fresh Ug
  ·have:=aeE acf B.caps
   simp only [aah] at this
   show (sB tn.length caps σ).length=(tn++fr).length
   unfold sB
   simp [this]
 have JB:∀{H':Hp},(∀b∈fp,H' b=none)->∀b∈fp,iL (ud X (tn++fr) scope fn (ow C++bo X.env fr) C s3 H3 fp) [] H' b:=fun hn b hb=>
  ⟨hn b hb,fpC b hb,nst b hb,.inl hb,nfp b hb,fun p hp=>(nomatch hp)⟩
 have st4:Pc 0 h₁:=T.keep _ _ _ MS fun b _ o e=>kept b o e
 have loop:afd (aes X.prog X.w) X.A (.compLoop (.ListComp elt [⟨target,iter,ifs,0⟩] scope pos) 0 (.ref it) (.ref D) (compEnvC scope (ow C++bo X.env fr) C X.env)) (RR (.ref D) C) {s3 with heap:=h₁,toks:=s3.toks+([]:List (Str×Value)).length}:=by
  refine uc (fun n s'=>∃i σ' ys H',Inv (ud X (tn++fr) scope fn (ow C++bo X.env fr) C s3 H3 fp) [] σ' H' s'/\Pc i s'.heap/\(∀b∈fp,H' b=none)/\W i n σ' ys H') ?_ m0 ⟨0,_,[],H3,IB,st4,fun b hb=>(f3 b hb).1,w0⟩
  rintro n s5 ⟨i,σ5,ys,H5,I5,MT,fr5,w5⟩
  rcases turn i n σ5 ys H5 w5 with ⟨stop,qn⟩|⟨go,step⟩
  ·refine aeU (T.done (ud X (tn++fr) scope fn (ow C++bo X.env fr) C s3 H3 fp) rfl rfl rfl hc i [] s5 σ5 H5 (fun _ _=>False) I5 (JB fr5) MT stop) (fun r s6 ⟨hr,I6⟩=>?_) fun _ _ z=>z
   subst hr
   obtain ⟨m,hn,_⟩:=I6.loc
   have J6:Inv X pins σ H5 s6:=I3.Tw (ch:=fp) I6.os I6.base I6.bO I6.bare fun b hb=>⟨(f3 b hb).2.2.2.1,(f3 b hb).2.1,(f3 b hb).2.2.2.2.1,(f3 b hb).2.2.2.2.2⟩
   exact fin D C H5 s6 m J6 hn (I3.lH Ug I6.free) qn
  ·refine aeU (T.item (ud X (tn++fr) scope fn (ow C++bo X.env fr) C s3 H3 fp) rfl rfl rfl hc i [] s5 σ5 H5 (fun _ _=>False) I5 (JB fr5) MT go) (fun r s6 ⟨u,hr,h6⟩=>?_) fun _ _ z=>z
   subst hr
   refine aeU h6 (fun _ s7 ⟨x,H7,I7,r7,y7,Pd,fr7⟩=>?_) fun _ _ z=>z
   have I7':=I7.pinned (JB fr7) (T.obj _ _ Pd)
   have held:∀{σ' :L2.St} {H':Hp} {s':aep},Inv (ud X (tn++fr) scope fn (ow C++bo X.env fr) C s3 H3 fp) ([]++oI fp s7.heap) σ' H' s' ->Pc (i+1) s'.heap/\∀b∈fp,H' b=none:=fun {σ' H' s'} I'=>by
    refine ⟨T.keep _ _ _ Pd fun b hb o e=>(I'.pin (b,o) (aaN _ (aaN _ (gT hb e)))).1,fun b hb=>?_⟩
    obtain ⟨o,e,d⟩:=T.obj _ _ Pd b hb
    exact (I'.pin (b,o) (aaN _ (aaN _ (gT hb e)))).2.1
   refine aeU (hg C s3 H3 fp _ s7 σ5 H7 x u _ I7' r7 (step x H7 y7)) (fun _ s8 ⟨σ8,H8,I8,q8⟩=>?_) fun _ _ z=>z
   refine aeU (ht C s3 H3 fp _ s8 σ8 H8 _ I8 q8) (fun ok s9 ⟨H9,I9,q9⟩=>?_) fun _ _ z=>z
   cases ok with
   | false=>
    rw [aej aaC] at q9
    obtain ⟨m',hm,w9⟩:=q9
    rw [aej aaC]
    obtain ⟨a,b⟩:=held I9
    exact ⟨m',hm,i+1,σ8,ys,H9,I9.iM,a,b,w9⟩
   | true=>
    rw [aek rfl] at q9
    rw [aek rfl]
    refine aeU (he C s3 H3 fp _ s9 σ8 H9 _ I9 q9) (fun v ye ⟨y9,Pe,I10,r10,hDD,hl,m',hm,w10⟩=>?_) fun _ _ z=>z
    refine aeU (cQ (X:=ud X (tn++fr) scope fn (ow C++bo X.env fr) C s3 H3 fp) _ ye σ8 Pe (.ref D) [y9] (.ref D) [v] (fun _ H'=>W (i+1) m' σ8 (ys++[y9]) H') I10 rfl (.cons r10 .nil) ⟨D,ys,y9,rfl,rfl,hDD,hl,w10⟩) (fun _ JC ⟨z,SR,I11,_,q11⟩=>?_) fun _ _ z=>z
    obtain ⟨a,b⟩:=held I11
    exact ⟨m',hm,i+1,σ8,ys++[y9],SR,I11.iM,a,b,q11⟩
 exact codeAny_compStart_list loop (T.self X.A 0 _ _ _ st4 loop)
theorem JD (hc:X.calm=true)(B:JA X scope ow fn fr caps)(hi:PI X target iter wi)
  (hg:∀C s H fp,PG (ud X (tn++fr) scope fn (ow C++bo X.env fr) C s H fp) target g) (ht:∀C s H fp,PF (ud X (tn++fr) scope fn (ow C++bo X.env fr) C s H fp) ifs tt) (he:∀C s H fp,PE (ud X (tn++fr) scope fn (ow C++bo X.env fr) C s H fp) elt te)
  (hs:∀x,ae3 iter X.env x=pure x:=by intro _;rfl):PE X (.ListComp elt [⟨target,iter,ifs,0⟩] scope pos) (kr tn.length caps wi g tt te):=by
 intro pins s σ H Q I h
 rw [eval_ListComp]
 refine wpAny_comprehension_free (use:=none) rfl hs B.CO B.kind B.names (cB (hi pins s σ H _ I h) fun v s1 h1=>cB h1 fun itv s2 h2=>?_)
 obtain ⟨it,fp,Pc,J,H2,rfl,I2,T,ji,f2,q⟩:=h2
 refine oX (Q:=Q) (RR:=fun acc C=>compPost (aes X.prog X.w) X.A X.xe none (EP X pins σ Q) acc C) hc B hg ht he I2 T ji f2 q ?_
 intro D C H' s' m I' hn fc qq
 obtain ⟨g0,g1,g2,g3,g4,g5⟩:=fc
 exact ⟨m,hn,fun h' Pf =>⟨.ref D,H',I'.turned (t':=s'.toks) (fun b o hb e=>(Pf.2 b hb).trans e) g0 g1 g3 g4 g5,rfl,qq⟩⟩
theorem vY {lV:Pos}(hN:X.N.Nodup)(Nd:X.N[i]?=some y)(hx:Loc X.env.scope y)
  (hc:X.calm=true) (B:JA X scope ow fn fr caps) (hi:PI X target iter wi)
  (hg:∀C s H fp,PG (ud X (tn++fr) scope fn (ow C++bo X.env fr) C s H fp) target g) (ht:∀C s H fp,PF (ud X (tn++fr) scope fn (ow C++bo X.env fr) C s H fp) ifs tt) (he:∀C s H fp,PE (ud X (tn++fr) scope fn (ow C++bo X.env fr) C s H fp) elt te)
  (uf:afN (.ListComp elt [⟨target,iter,ifs,0⟩] scope pos) (some (.Name y py)) lV.line X.env=pure true:=by rfl)
  (hs:∀x,ae3 iter X.env x=pure x:=by intro _;rfl) (hf:X.fn y=true\/X.env.scope.names.lookup y=some .local:=by first|exact .inl rfl|exact .inr rfl|assumption):
  PS X (.Assign [.Name y py] (.ListComp elt [⟨target,iter,ifs,0⟩] scope pos) lV) (vG (kr tn.length caps wi g tt te) (b9 i)):=by
 intro pins s σ H D I h
 rw [exec_Assign_Name_used _ _ _ _ uf]
 refine aeg (agm (aeg ?_))
 show aen _ X.A (do let _ <- comprehension (.ListComp elt [⟨target,iter,ifs,0⟩] scope pos) scope X.env _ (newList []) false (aeM iter X.env) (some (assign (.Name y py) X.env))) _ _ s
 refine aeg (aeU (wpAny_comprehension_free (use:=some (assign (.Name y py) X.env)) (Q:=fun _ s'=>SP X pins D .next s') rfl hs B.CO B.kind B.names
  (cB (hi pins s σ H _ I h) fun v s1 h1=>cB h1 fun itv s2 h2=>?_)) (fun _ s' hq=>aeo (aeo hq)) fun _ _ e=>e)
 obtain ⟨it,fp,Pc,J,H2,rfl,I2,T,ji,f2,q⟩:=h2
 refine oX (Q:=fun v H1=>b9 i v σ H1 D.nx) (RR:=fun acc C=>compPost (aes X.prog X.w) X.A X.xe (some (assign (.Name y py) X.env)) (fun _ s'=>SP X pins D .next s') acc C) hc B hg ht he I2 T ji f2 q ?_
 intro DD C H' s' m I' hn fc qq
 obtain ⟨g0,g1,g2,g3,g4,g5⟩:=fc
 show aen _ X.A (assign (.Name y py) X.env (.ref DD)) _ _ _
 refine wpAny_assign_Name (rY I' hN Nd hx (v:=.ref DD) (u:=.ref DD) rfl (fun TV I'' ⟨a,sb,ha⟩=>?_) hf)
 have hCa:C≠a:=by
  rcases ha with z|z
  ·rw [z]
   exact g1
  ·exact fun e=>g4 y a z e.symm
 exact ⟨m,hn.sameBut sb hCa,fun h' Pf =>⟨_,H',I''.turned (t':=TV.toks) (fun b o hb e=>(Pf.2 b hb).trans e) g0 g1 g3 g4 g5,qq⟩⟩
theorem ue.g {caps:Χ}(B:ue X scope fr caps):JA X scope (fun _=>[]) (fun _=>false) fr caps:=
 ⟨B.CO,B.kind,B.names,B.free,B.caps,B.out,B.Ud,fun hQ=>wpAny_newFunctionEnv B.cell (by intro y hy;simp at hy) (fun h₁ Q3 abS=>hQ h₁ Q3 (fun b o e=>(abS.2 b (aaM (aew e))).trans (aeh _ e)) fun _ _ z=>(nomatch z)) B.kind,
  fun _ _ _ z=>(nomatch z),fun _ _ _ _ z=>(nomatch z),fun _ _ z=>(nomatch z),fun z hz e=>aet e (B.cell z hz),fun _ _ _=>rfl⟩
theorem zV (hc:X.calm=true)(B:ue X scope fr caps)(hi:PI X target iter wi)
  (hg:∀C s H fp,PG (nZ X (tn++fr) scope (bo X.env fr) C s H fp) target g) (ht:∀C s H fp,PF (nZ X (tn++fr) scope (bo X.env fr) C s H fp) ifs tt) (he:∀C s H fp,PE (nZ X (tn++fr) scope (bo X.env fr) C s H fp) elt te)
  (hs:∀x,ae3 iter X.env x=pure x:=by intro _;rfl):PE X (.ListComp elt [⟨target,iter,ifs,0⟩] scope pos) (kr tn.length caps wi g tt te):=
 JD hc B.g hi hg ht he hs
theorem zW {lV:Pos}(hN:X.N.Nodup)(Nd:X.N[i]?=some y)(hx:Loc X.env.scope y)
  (hc:X.calm=true) (B:ue X scope fr caps) (hi:PI X target iter wi)
  (hg:∀C s H fp,PG (nZ X (tn++fr) scope (bo X.env fr) C s H fp) target g) (ht:∀C s H fp,PF (nZ X (tn++fr) scope (bo X.env fr) C s H fp) ifs tt) (he:∀C s H fp,PE (nZ X (tn++fr) scope (bo X.env fr) C s H fp) elt te)
  (uf:afN (.ListComp elt [⟨target,iter,ifs,0⟩] scope pos) (some (.Name y py)) lV.line X.env=pure true:=by rfl)
  (hs:∀x,ae3 iter X.env x=pure x:=by intro _;rfl) (hf:X.fn y=true\/X.env.scope.names.lookup y=some .local:=by first|exact .inl rfl|exact .inr rfl|assumption):
  PS X (.Assign [.Name y py] (.ListComp elt [⟨target,iter,ifs,0⟩] scope pos) lV) (vG (kr tn.length caps wi g tt te) (b9 i)):=
 vY hN Nd hx hc B.g hi hg ht he uf hs hf
end
section
variable {D:aef}{te:TE}{cap:L2.St}{H1:Hp}{Q:VK}
theorem yf (n:Nat)(xs:Nat->V)(Pv:Nat->List V->Hp->Prop)(h0:Pv 0 [] (upd H1 D (.lst [])))
  (go:∀i ys H,i<n->Pv i ys H->J.go i H/\∀x H',J.GU i H x H' ->H'=H/\x=xs i) (stop:∀ys H,Pv n ys H->J.stop n H)
  (hs:∀i ys H (R:VK),i<n->Pv i ys H->H D=some (.lst ys)->(∀v H6,H6 D=some (.lst ys)->ys.length<ael->Pv (i+1) (ys++[v]) (upd H6 D (.lst (ys++[v])))->R v H6)->te (some (xs i)::cap) H R)
  (hd:∀ys H,Pv n ys H->H D=some (.lst ys)->Q (.ref D) H):lS D (b9 0) jm te J (none::cap) H1 Q:=by
 refine ⟨fun i m σ ys H=>m=n-i/\i<=n/\(∃o,σ=o::cap)/\Pv i ys H/\H D=some (.lst ys),⟨n,by simp,aaS _,⟨none,rfl⟩,h0,ak⟩,?_⟩
 rintro i m σ ys H ⟨rfl,hi,⟨o,rfl⟩,p,hD⟩
 by_cases lj:i<n
 ·obtain ⟨g1,g2⟩:=go i ys H lj p
  refine .inr ⟨g1,fun x H' y=>?_⟩
  obtain ⟨e1,e2⟩:=g2 x H' y
  subst e1 e2
  unfold b9 jm
  dsimp only
  rw [aek rfl]
  exact hs i ys _ _ lj p hD fun v H6 a b c=>⟨a,b,n-(i+1),by omega,rfl,by omega,⟨_,rfl⟩,c,ak⟩
 ·have e:i=n:=by omega
  subst e
  exact .inl ⟨stop ys H p,hd ys H p hD⟩
end
section
variable {X:Cx}{tg:Expr}
end
section
variable {prog:aeB}{w:World}{A:aeI}{E:δ}
end
structure SS (K:Frag)(C:aef):Prop where
 makes:afg K C=true
 init:aeF K (.ref C) "__init__"=some (some (.builtin "object.__init__"))
 kp:keepIn K (.ref C)=true
def Ui (C:aef):TE:=fun _ H Q=>∀x dx,H x=none->H dx=none->dx≠x->Q (.ref x) (upd (upd H dx (.own x)) x (.ins C dx []))
section
variable {X:Cx}
theorem Nf {σ:L2.St}(M:SS X.K C)(I:Inv X pins σ H s)(h:Ui C σ H Q):aen (aes X.prog X.w) X.A (call (.ref C) []) (EP X pins σ Q) X.xe s:=by
 have hq:=h (s.heap.objs.size+1) s.heap.objs.size (I.bO.fresh (ajZ _)) (I.bO.fresh (aal _)) (aaM (aaV _))
 have I2:=Inv.made (C:=C) I
 have Y:=PySem.W.makes_of (M:=aes X.prog X.w) I.jG M.makes
 refine wpAny_call (CC I.jG M.makes M.init (fun self=>PySem.W.Looks.of_pure (PySem.W.oi_bind self)) ?_)
 have ho:((s.heap.push aeQ).push (aeT C s.heap.objs.size)).get? (s.heap.objs.size+1)=some (aeT C s.heap.objs.size):=by
  have:=aez (s.heap.push aeQ) (o:=aeT C s.heap.objs.size) rfl
  rwa [afC] at this
 have t1:PySem.W.Looks (aes X.prog X.w) ((s.heap.push aeQ).push (aeT C s.heap.objs.size)) (typeOf (.ref (s.heap.objs.size+1))) (.ref C):=(PySem.W.Looks.ld ho).andThen .now
 have t2:PySem.W.Looks (aes X.prog X.w) ((s.heap.push aeQ).push (aeT C s.heap.objs.size)) (isInstance (.ref (s.heap.objs.size+1)) (.type "object")) true:=
  t1.andThen (Y.top.keeps fun b o e=>aeh _ (aeh _ e))
 refine codeAny_call_builtin PySem.W.oi_plain PySem.W.entry_oi (@PySem.W.check_slot (aes X.prog X.w) _ _ _ "object.__init__" "object" "__init__" (.ref (s.heap.objs.size+1)) [] [] _ PySem.W.oi_kind PySem.W.oi_split t2 (PySem.W.oi_args (.ref (s.heap.objs.size+1))) ?_)
 rw [PySem.W.oi_run]
 exact aeo (And.intro rfl ⟨V.ref (s.heap.objs.size+1),_,I2,rfl,hq⟩)
theorem JE (M:SS X.K C)(hg:Gl X x)(hm:X.mg x=some (.ref C))(vL:(x==("__debug__":Str))=false:=by decide):PE X (.Call (.Name x p) [] [] pos) (Ui C):=by
 intro pins s σ H Q I h
 refine afp (j6 I hg hm ?_ vL)
 exact PySem.W.callWith_K0 I.jG M.kp (Nf M I h)
end
structure bH (P:aeB)(w:World)(K:Frag)(mg:ι)(base:Heap)(CX:j9)(k:Nat)(C:aef)(m:Str)(ps:ρ)(sp:Sp):Prop where
 ex:∃(f:aef)(fd:FuncData),vK K C/\Meth K C m f/\cO P w K mg base CX k f fd ps sp/\Binds K fd ps []
theorem bH.mono {K:Frag}(M:bH P w K mg base CX j C m ps sp)(h:j<=k):bH P w K mg base CX k C m ps sp:=by
 obtain ⟨f,fd,a,b,c,d⟩:=M.ex
 exact ⟨f,fd,a,b,c.mono h,d⟩
section
variable {X:Cx}{CX:j9}{k:Nat}{E:XK}{m:Str}{pos apos:Pos}{e o:Expr}{es:Δ}{ta:TE}{t:TA}
inductive Pg (P:aeB)(w:World)(K:Frag)(mg:ι)(base:Heap)(CX:j9)(k:Nat)(m:Str)(E:XK)(t:TA)(σ:L2.St)(Q:VK)(x:V)(H1:Hp):Prop
|mk (a C dx fs ps sp:_)(_:x=.ref a)(_:H1 a=some (.ins C dx fs))(_:fs.lookup m=none)(_:bH P w K mg base CX k C m ps sp)(_:t σ H1 fun vs H2=>sp (x::vs) H2 Q E)
def Uj (P:aeB)(w:World)(K:Frag)(mg:ι)(base:Heap)(CX:j9)(k:Nat)(m:Str)(E:XK)(ta:TE)(t:TA):TE:=fun σ H Q=>ta σ H fun x H1=>Pg P w K mg base CX k m E t σ Q x H1
theorem fL (he:PE X o ta)(hr:cx k X.A)(hx:Passes CX X E)
  (ht:aeM (.Call (.Attribute o m apos) [] [] pos) X.env=(do
   let ov <- aeM o X.env
   standAt apos.atName
   let (f,first) <- agp [ov] (getMethod ov m pl)
   callWith pos f first (afc pos (aeA [] X.env)) (backToKw pos (agi [] X.env))):=by rfl):
  PE X (.Call (.Attribute o m apos) [] [] pos) (Uj X.prog X.w X.K X.mg X.base CX k m E ta dJ):=by
 intro pins s σ H Q I h
 refine PySem.W.methodCall_KW (pl:=pl) (cB (he pins s σ H _ I h) fun u s1 ⟨x,H1,I1,rx,a,C,dx,fs,ps,sp,ex,ea,l,M,q⟩=>?_) ht
 subst ex
 obtain rfl:u=Value.ref a:=rx
 obtain ⟨f,fd,c,hm,F,hb⟩:=M.ex
 refine jI I1 ea c hm l ?_
 exact PySem.W.callWith_K0 (first:=[.ref a]) I1.jG hm.kp (tK (us:=[.ref a]) (vs:=[.ref a]) (dvs:=[]) F hr hb .nil hx I1 (.cons rfl .nil) q)
theorem cW {pl:Sem Bool}(he:PE X o ta)(hr:cx k X.A)(hx:Passes CX X E)(ha:PA X (e::es) t)
  (MQ:aeA (e::es) X.env=(false,aeM e X.env)::aeA es X.env:=by rfl) (vv:(afc pos (aeA es X.env)).any (·.1)=false:=by rfl)
  (ht:aeM (.Call (.Attribute o m apos) (e::es) [] pos) X.env=(do
   let ov <- aeM o X.env
   standAt apos.atName
   let (f,first) <- agp [ov] (getMethod ov m pl)
   callWith pos f first (afc pos (aeA (e::es) X.env)) (backToKw pos (agi [] X.env))):=by rfl):
  PE X (.Call (.Attribute o m apos) (e::es) [] pos) (Uj X.prog X.w X.K X.mg X.base CX k m E ta t):=by
 intro pins s σ H Q I h
 refine PySem.W.methodCall_KW (pl:=pl) (cB (he pins s σ H _ I h) fun u s1 ⟨x,H1,I1,rx,a,C,dx,fs,ps,sp,ex,ea,l,M,q⟩=>?_) ht
 subst ex
 obtain rfl:u=Value.ref a:=rx
 obtain ⟨f,fd,c,hm,F,hb⟩:=M.ex
 refine jI I1 ea c hm l ?_
 refine af7 (first:=[.ref a]) (h₀:=X.base) I.ok.mod.OM hm.kp (cB (ha pos pins s1 σ H1 _ I1 q) fun us s2 ⟨vs,H2,I2,r,q2⟩=>⟨I2.jG,?_⟩) MQ vv
 refine tK (us:=.ref a::us) (vs:=.ref a::vs) (dvs:=[]) F hr hb .nil hx I2 (.cons rfl r) ?_
 rw [acB]
 exact q2
end
theorem Uk (h:vX CX)(e:X.xe=fun _ _=>False):Passes CX X E0:=fun _ _ _ _ _ _ _ q=>(h _ _ _ _ _ q).elim
section
variable {σ:L2.St}{H:Hp}{Q:VK}{QB:Bool->Hp->Prop}{QA:List V->Hp->Prop}{D:Ends}{t u:TS}{ta tb te:TE}{tc td:TT}{t1:TA}
end
section
variable {X:Cx}
inductive Ul (x:V)(lo:Ο)(hi:Ο)(H:Hp)(Q:VK):Prop
|mk (z:_)(_:x=.str z)(_:z.length<=ael)(_:Q (.str (Txt.slice z lo hi)) H)
theorem Q4:T3 X Ul:=by
 intro pins s σ H x v vl vu lo hi sl Q I rx hs pl pu h
 obtain ⟨z,rfl,hz,q⟩:=h
 obtain ⟨t,rfl⟩:=rx
 refine ⟨"str",_,F.slot_str_getitem.lookup,typeIs_str _ _ _,?_⟩
 cases pl<;>cases pu
 ·exact afJ (l:=none) (u:=none) (st:=none) hs rfl (agy ⟨aak (Txt.slice_le z _ _) hz,fun t' k=>⟨.str _,H,I.tok k,⟨t',rfl⟩,q⟩⟩)
 ·rename_i j uj
  exact afJ (l:=none) (u:=some (j,uj)) (st:=none) hs rfl (agy ⟨aak (Txt.slice_le z _ _) hz,fun t' k=>⟨.str _,H,I.tok k,⟨t',rfl⟩,q⟩⟩)
 ·rename_i i ui
  exact afJ (l:=some (i,ui)) (u:=none) (st:=none) hs rfl (agy ⟨aak (Txt.slice_le z _ _) hz,fun t' k=>⟨.str _,H,I.tok k,⟨t',rfl⟩,q⟩⟩)
 ·rename_i i ui j uj
  exact afJ (l:=some (i,ui)) (u:=some (j,uj)) (st:=none) hs rfl (agy ⟨aak (Txt.slice_le z _ _) hz,fun t' k=>⟨.str _,H,I.tok k,⟨t',rfl⟩,q⟩⟩)
inductive Ph (x:V)(y:V)(H:Hp)(Q:VK):Prop
|mk (z n:_)(_:x=.str z)(_:y=.int n)(_:MulOk z n)(_:Q (.str (Txt.mul z n)) H)
theorem ug:i7 X (ae9 .Mult) Ph:=by
 intro pins s σ H x y v u Q I rx ry h
 obtain ⟨z,n,rfl,rfl,ok,q⟩:=h
 obtain ⟨t,rfl⟩:=rx
 obtain ⟨t',rfl⟩:=ry
 exact SB.mul ok fun t' k=>⟨.str _,H,I.tok k,⟨t',rfl⟩,q⟩
theorem all_range (bs:List Bool):(abb bs.length).all (fun i=>(bs[i]?).getD true)=bs.all id:=by
 induction bs with
 | nil=>rfl
 | cons b r ih=>
  rw [aaQ,ajT,adN,akj,adN,<-ih]
  rfl
inductive Um (K:Frag)(xs:ε)(H:Hp)(Q:VK):Prop
|mk (p:aef)(bs:List Bool)(_:xs=[.ref p])(_:aV K H p (bs.map V.bl))(_:Q (.bl (bs.all id)) H)
theorem sy (hc:X.calm=true):ft X (.builtin "all") (Um X.K):=by
 intro pins s σ H xs us Q I r h
 obtain ⟨p,bs,rfl,hq,q⟩:=h
 obtain ⟨u,rfl,r1⟩:=vals1 r
 cases r1
 obtain ⟨its,rv,pl,hz⟩:=I.list hq
 refine call_all_walk (agf pl.isList ?_)
 have zX:p≠s.heap.objs.size:=by obtain ⟨o,ho,_⟩:=pl.isList;exact aaM (aew ho)
 have I1:Inv X pins σ H {s with heap:=s.heap.push {cls:=.type "list_iterator",data:=.fields #[.ref p,.int 0 0]}}:=I.kept (t':=s.toks) fun b o e=>aeh _ e
 obtain ⟨f0,f1,f2,f3,f4,f5⟩:=I.lH (H':=H) (aal s.heap.objs.size) (I.bO.fresh (aal _))
 have hl:its.length=bs.length:=by rw [<-rv.length,aah]
 refine ⟨s.heap.objs.size,_,_,_,_,_,fun i=>(bs[i]?).getD true,rfl,Walks.list (A:=X.A.in1) (I.ok.hd hc) s.heap.objs.size p zX its.toArray,⟨⟨_,aez _ rfl,rfl,rfl⟩,pl.isList.at fun o e=>aeh _ e⟩,?_,fun h' tk kk=>?_⟩
 ·intro i v s' Q' E' hv nq
  have QI :its[i]?=some v:=by simpa using hv
  have hi:i<bs.length:=by rw [<-hl];exact (ir.mp QI).1
  have eb:(bs.map V.bl)[i]?=some (.bl bs[i]):=by rw [aag,gE hi];rfl
  obtain ⟨u,eu,ru⟩:=rv.get eb
  rw [QI] at eu
  cases eu
  cases ru
  dsimp only at nq
  rw [gE hi] at nq
  exact afu nq
 ·refine ⟨.bl (bs.all id),H,I1.turned (t':=tk) (it:=s.heap.objs.size) (fun b o hb e=>kk b o (by simpa using hb) e) f0 f1 f3 f4 f5,?_,q⟩
  show _=_
  rw [<-all_range bs,aaz,hl]
end
end Ty
set_option maxHeartbeats 4000000
namespace Ty
open PySem PySem.Spec PyProof.Rows L2 PySem.NumText
def dg (m:Nat):List Nat:=(Nat.toDigits 10 m).map Char.toNat
def tx (n:Int):Str:=aeY (toString n)
def Uo:Str:=aeY "/"
def nt (q:Int×Int):Str:=if q.2=1 then tx q.1 else tx q.1++Uo++tx q.2
end Ty
set_option maxHeartbeats 4000000
namespace Ty
open PySem PySem.Spec PyProof.Rows L2 PySem.NumText
section
variable {X:Cx}
end
def isStar:Expr->Bool
 | .Starred .. =>true
 | _=>false
theorem CQ {es:Δ}(h:isStar e=false):aeA (e::es) env=(false,aeM e env)::aeA es env:=by
 cases e<;>first|rfl|(cases h;done)
theorem iA (ha:PE X e te)(hr:PA X es t)(h:isStar e=false:=by rfl):PA X (e::es) (mP te t):=M3 ha hr (CQ h)
end Ty
set_option maxHeartbeats 4000000
namespace Ty
open PySem PySem.Spec PyProof.Rows L2
section
variable {D:aef}{te:TE}{cap:L2.St}{H1:Hp}{Q:VK}
def bQ (D:aef)(H H':Hp):Prop:=∀b o,b≠D->H b=some o->H' b=some o
theorem bQ.of (s:au H H'):bQ D H H':=fun b o _ e=>s b o e
theorem bQ.upd :bQ D H (upd H D o):=fun b o' n e=>by rw [ao n];exact e
theorem vZ (n:Nat)(xs:Nat->V)(Rel:Ψ)(nD:H1 D=none)(hn:n<ael)
  (go:∀i H,i<n->au H1 H->J.go i H/\∀x H',J.GU i H x H' ->H'=H/\x=xs i) (stop:∀H,au H1 H->J.stop n H)
  (hR:∀i v H H' ys,H D=some (.lst ys)->bQ D H H' ->Rel i v H->Rel i v H')
  (he:∀i H (R:VK),i<n->au H1 H->(∀v H6,au H H6->Rel i v H6->R v H6)->te (some (xs i)::cap) H R)
  (hd:∀ys H,ys.length=n->(∀i v,ys[i]?=some v->Rel i v H)->au H1 H->H D=some (.lst ys)->Q (.ref D) H):
  lS D (b9 0) jm te J (none::cap) H1 Q:=by
 refine yf n xs (fun i ys H=>ys.length=i/\(∀i v,ys[i]?=some v->Rel i v H)/\au H1 H) ⟨rfl,fun i v e=>by simp at e,fun b o e=>by rw [ao (aq e nD)];exact e⟩ ?_ ?_ ?_ ?_
 ·rintro i ys H hi ⟨_,_,s⟩
  exact go i H hi s
 ·rintro ys H ⟨_,_,s⟩
  exact stop H s
 ·rintro i ys H R hi ⟨l,r,s⟩ hD k
  refine he i H R hi s fun v H6 s6 rv=>k v H6 (s6 _ _ hD) (by omega) ⟨by simp [l],fun j u e=>?_,fun b o e=>?_⟩
  ·by_cases c:j<ys.length
   ·rw [aar c] at e
    have ru:=hR j u H H6 ys hD (bQ.of s6) (r j u e)
    exact hR j u H6 _ ys (s6 _ _ hD) bQ.upd ru
   ·rw [aav (by omega)] at e
    have ej:j=i:=by
     by_cases z:j-ys.length=0
     ·omega
     ·rw [aam (by simp;omega)] at e
      cases e
    subst ej
    have:v=u:=by
     rw [show j-ys.length=0 by omega] at e
     exact aaA e
    subst this
    exact hR j v H6 _ ys (s6 _ _ hD) bQ.upd rv
  ·rw [ao (aq e nD)]
   exact s6 _ _ (s _ _ e)
 ·rintro ys H ⟨l,r,s⟩ hD
  exact hd ys H l r s hD
theorem cy {K:Frag}(Rel:Ψ)(nD:H1 D=none)(hn:xs.length<ael)(hS:∀H,au H1 H->aV K H a xs)
  (hR:∀i v H H' ys,H D=some (.lst ys)->bQ D H H' ->Rel i v H->Rel i v H')
  (he:∀i x H (R:VK),xs[i]?=some x->au H1 H->(∀v H6,au H H6->Rel i v H6->R v H6)->te (some x::cap) H R)
  (hd:∀ys H,ys.length=xs.length->(∀i v,ys[i]?=some v->Rel i v H)->au H1 H->H D=some (.lst ys)->Q (.ref D) H):
  lS D (b9 0) jm te (MR K a) (none::cap) H1 Q:=by
 refine vZ xs.length (fun i=>(xs[i]?).getD .cg) Rel nD hn (fun i H hi s=>⟨⟨xs,xs[i],hS H s,gE hi⟩,fun x H' y=>⟨y.1,?_⟩⟩) (fun H s=>⟨xs,hS H s,aal _⟩) hR (fun i H R hi s k=>?_) hd
 ·rw [y.2 xs (hS H s)];rfl
 ·have e:xs[i]?=some xs[i]:=gE hi
  have k':=he i _ H R e s k
  rw [<-(show (xs[i]?).getD .cg=xs[i] by rw [e];rfl)] at k'
  exact k'
theorem oY {lo:Int}(Rel:Ψ)(nD:H1 D=none)(hn:n<ael)
  (hR:∀i v H H' ys,H D=some (.lst ys)->bQ D H H' ->Rel i v H->Rel i v H')
  (he:∀(i:Nat) H (R:VK),i<n->au H1 H->(∀v H6,au H H6->Rel i v H6->R v H6)->te (some (.int (lo+i))::cap) H R)
  (hd:∀ys H,ys.length=n->(∀i v,ys[i]?=some v->Rel i v H)->au H1 H->H D=some (.lst ys)->Q (.ref D) H):
  lS D (b9 0) jm te (OT lo n) (none::cap) H1 Q:=
 vZ n (fun i=>.int (lo+i)) Rel nD hn (fun i H hi s=>⟨hi,fun x H' y=>y⟩) (fun H s=>aal n) hR he hd
end
section
variable {X:Cx}{pins:ζ}{σ:L2.St}{H:Hp}{s:aep}{h':Heap}
theorem Inv.i8 {fp:χ}(I:Inv X pins σ H s)(k:∀b o,b∉fp->s.heap.get? b=some o->h'.get? b=some o)(hf:∀b∈fp,iL X pins H b):Inv X pins σ H {s with heap:=h',toks:=t'}:=by
 have ON:∀b u,H b=some u->b∉fp:=fun b u e z=>by rw [(hf b z).1] at e;cases e
 refine I.step (g':=s.gens) (d':=s.drawn) (ch:=fp) (fun b hb=>?_) (fun b o _ _ hc e _=>k b o hc e) (fun b o _ _ hc e _=>⟨o.slots,k b o hc e⟩) (fun _ _ _ _ n=>n)
  (fun b o hc e=>⟨o,k b o hc e⟩) (fun _ _ e=>e) (fun _ _ _ e=>e) (fun b ps e=>⟨#[],by rw [e];simp⟩) (fun m hm=>?_) (fun b u e=>?_) I.bare
 ·obtain ⟨f0,f1,f2,f3,f4,f5⟩:=hf b hb
  exact ⟨f3,f1,f4,f5⟩
 ·obtain ⟨o,es,ep,ho,r⟩:=hm
  exact ⟨o,es,ep,k _ o (fun z=>(hf _ z).2.1 rfl) ho,r⟩
 ·refine (I.bO b u e).qZ (fun c v hc q=>k c v ?_ q) (fun _ q=>q) fun _ _ q=>q
  rcases hc with z|z
  ·rw [z];exact ON b u e
  ·exact ON c _ z
theorem Inv.uh {fp:χ}{T:aef}{xs:ε}{its:ο}(I:Inv X pins σ H s)(k:∀b o,b∉fp->s.heap.get? b=some o->h'.get? b=some o)(hf:∀b∈fp,iL X pins H b)(hT:s.heap.objs.size<=T)
  (hz:xs.length<=ael) (rv:Vals xs its) (ht:IsTup h' T its.toArray):Inv X pins σ (upd H T (.tup xs)) {s with heap:=h',toks:=t'}:=by
 have hn:=I.bO.fresh hT
 have ON:∀b u,H b=some u->b∉fp:=fun b u e z=>by rw [(hf b z).1] at e;cases e
 have ne:∀b o,s.heap.get? b=some o->b≠T:=fun b o e=>aaM (aaB (aew e) hT)
 refine I.step (g':=s.gens) (d':=s.drawn) (ch:=fp) (fun b hb=>?_) (fun b o _ _ hc e _=>k b o hc e) (fun b o _ _ hc e _=>⟨o.slots,k b o hc e⟩) (fun b o _ e n=>by rw [ao (ne b o e)];exact n)
  (fun b o hc e=>⟨o,k b o hc e⟩) (fun b ys e=>by rw [ao (aq e hn)];exact e) (fun b o u e=>by rw [ao (aq e hn)];exact e) (fun b ps e=>⟨#[],by rw [ao (aq e hn),e];simp⟩) (fun m hm=>?_) (fun b u e=>?_) I.bare
 ·obtain ⟨f0,f1,f2,f3,f4,f5⟩:=hf b hb
  exact ⟨f3,f1,f4,f5⟩
 ·obtain ⟨o,es,ep,ho,r⟩:=hm
  exact ⟨o,es,ep,k _ o (fun z=>(hf _ z).2.1 rfl) ho,r⟩
 ·by_cases hb:b=T
  ·subst hb
   rw [ak] at e
   cases e
   exact ⟨hz,its,rv,ht⟩
  ·rw [ao hb] at e
   refine (I.bO b u e).qZ (fun c v hc q=>k c v ?_ q) (fun c q=>by rw [ao (aq q hn)];exact q) fun c ys q=>by rw [ao (aq q hn)];exact q
   rcases hc with z|z
   ·rw [z];exact ON b u e
   ·exact ON c _ z
end
def Itz (K:Frag)(a b:aef):It:=
 ⟨fun i H=>∃xs ys x y,aV K H a xs/\aV K H b ys/\xs[i]?=some x/\ys[i]?=some y,
  fun i H v H'=>∃p x y,(∀xs,aV K H a xs->xs[i]?=some x)/\(∀ys,aV K H b ys->ys[i]?=some y)/\v=.ref p/\H p=none/\H'=upd H p (.tup [x,y]),
  fun i H=>∃xs ys,aV K H a xs/\aV K H b ys/\(xs.length<=i\/ys.length<=i)⟩
theorem JF {K:Frag}{es:Δ}(a b z TI TO i1 i2:aef)(D:ZipApart z TI TO i1 i2 a b):
  Turn P w K (.Tuple es k pos) (Itz K a b) [z,TI,TO,i1,i2] z (fun i h=>IsZip h z TI TO .none/\IsPair h TI (.ref i1) (.ref i2)/\(∃x y,IsPair h TO x y)/\h.IsListIter i1 a i/\h.IsListIter i2 b i) where
 mem:=by simp
 obj:=fun i h st c hc=>by
  obtain ⟨hz,jL,⟨x,y,sE⟩,⟨o1,e1,c1,d1⟩,⟨o2,e2,c2,d2⟩⟩:=st
  have rZ :c=z\/c=TI\/c=TO\/c=i1\/c=i2:=by simpa using hc
  rcases rZ with e|e|e|e|e<;>subst e
  ·exact ⟨_,hz,fun v z=>by cases z⟩
  ·exact ⟨_,jL,fun v z=>by cases z⟩
  ·exact ⟨_,sE,fun v z=>by cases z⟩
  ·exact ⟨_,e1,fun v z=>by rw [d1] at z;cases z⟩
  ·exact ⟨_,e2,fun v z=>by rw [d2] at z;cases z⟩
 keep:=fun i h h' st k=>by
  obtain ⟨hz,jL,⟨x,y,sE⟩,h1,h2⟩:=st
  exact ⟨k z (by simp) _ hz,k TI (by simp) _ jL,⟨x,y,k TO (by simp) _ sE⟩,h1.at fun o e=>k i1 (by simp) o e,h2.at fun o e=>k i2 (by simp) o e⟩
 item:=by
  intro X hP hw hK hc i pins s σ H E I hf st hg
  subst hP hw hK
  obtain ⟨hz,jL,⟨x0,y0,sE⟩,h1,h2⟩:=st
  obtain ⟨xs,ys,x,y,qx,qy,ex,ey⟩:=hg
  obtain ⟨its,rv,p,_⟩:=I.list qx
  obtain ⟨SU,mL,p',_⟩:=I.list qy
  obtain ⟨u,hu,ru⟩:=rv.get ex
  obtain ⟨v,hv,rv'⟩:=mL.get ey
  refine wpAny_pyNext_zip_item D hz jL sE h1 h2 p.isList p'.isList (x:=u) (y:=v) (by simpa using hu) (by simpa using hv) fun h' a1 a2 a3 a4 a5 a6 a7=>?_
  refine ⟨_,rfl,wpAny_letOwnedTupleGo_zip (s:={s with heap:=h'}) a1 fun GX b1 sb=>?_⟩
  have nz:∀c,c≠z->∀o,h'.get? c=some o->GX.get? c=some o:=fun c hc o e=>(sb.2 c hc).trans e
  have kk:∀b o,b∉[z,TI,TO,i1,i2]->s.heap.get? b=some o->GX.get? b=some o:=fun b o hb e=>by
   have iH :b≠z/\b≠TI/\b≠TO/\b≠i1/\b≠i2:=by simpa using hb
   exact nz b iH.1 o (a7 b o iH.1 iH.2.2.1 iH.2.2.2.1 iH.2.2.2.2 e)
  have sz:∀c o,s.heap.get? c=some o->s.heap.objs.size≠c:=fun c o e=>acz (aew e)
  have tz:s.heap.objs.size≠z:=sz _ _ hz
  have hn:=I.bO.fresh (aal s.heap.objs.size)
  have I2:Inv X pins σ (upd H s.heap.objs.size (.tup [x,y])) {s with heap:=GX,toks:=s.toks}:=
   Inv.uh I kk hf (aal _) (by show 2<=ael;decide) (its:=[u,v]) (.cons ru (.cons rv' .nil)) ⟨_,nz _ tz _ a5,rfl,_,rfl⟩
  refine ⟨.ref s.heap.objs.size,_,I2,rfl,⟨s.heap.objs.size,x,y,fun xs' q=>by rw [I.iJ q qx];exact ex,fun ys' q=>by rw [I.iJ q qy];exact ey,rfl,hn,rfl⟩,⟨b1,nz _ D.TIz _ (a7 _ _ D.TIz D.TITO D.TIi1 D.TIi2 jL),⟨_,_,nz _ D.TOz _ a2⟩,a3.at fun o e=>nz _ D.i1z o e,a4.at fun o e=>nz _ D.i2z o e⟩,fun b hb=>?_⟩
  have ob:∃o,s.heap.get? b=some o:=by
   obtain ⟨o1,e1,_⟩:=h1
   obtain ⟨o2,e2,_⟩:=h2
   have rZ :b=z\/b=TI\/b=TO\/b=i1\/b=i2:=by simpa using hb
   rcases rZ with e|e|e|e|e<;>subst e
   ·exact ⟨_,hz⟩
   ·exact ⟨_,jL⟩
   ·exact ⟨_,sE⟩
   ·exact ⟨_,e1⟩
   ·exact ⟨_,e2⟩
  obtain ⟨o,e⟩:=ob
  rw [ao (aaD (sz _ _ e))]
  exact (hf b hb).1
 done:=by
  intro X hP hw hK hc i pins s σ H E I hf st hg
  subst hP hw hK
  obtain ⟨hz,jL,⟨x0,y0,sE⟩,h1,h2⟩:=st
  obtain ⟨xs,ys,qx,qy,ee⟩:=hg
  obtain ⟨its,rv,p,_⟩:=I.list qx
  obtain ⟨SU,mL,p',_⟩:=I.list qy
  have l1:=rv.length
  have l2:=mL.length
  refine wpAny_pyNext_zip_end (I.ok.hd hc) D hz jL sE h1 h2 p.isList p'.isList ?_ fun h' kk=>⟨rfl,Inv.i8 I (fun b o hb e=>?_) hf⟩
  ·rcases ee with e|e
   ·exact .inl (by simp;omega)
   ·exact .inr (by simp;omega)
  ·have iH :b≠z/\b≠TI/\b≠TO/\b≠i1/\b≠i2:=by simpa using hb
   exact kk b o iH.1 iH.2.2.1 iH.2.2.2.1 iH.2.2.2.2 e
 self:=fun _ _ _ _ _ st h=>wpAny_pyIter_zip st.1 h
theorem boot_zip:aeL "zip"=some (.type "zip"):=by decide+kernel
section
variable {X:Cx}
inductive Pj (K:Frag)(R:(It->Hp->Prop))(vs:ε)(H1:Hp):Prop
|mk (a b:_)(_:vs=[.ref a,.ref b])(_:(∃xs,aV K H1 a xs))(_:(∃ys,aV K H1 b ys))(_:R (Itz K a b) H1)
def abT (K:Frag)(ta:TA):TI:=fun σ H R=>ta σ H fun vs H1=>Pj K R vs H1
theorem yg {p pos:Pos}{es:Δ}{k:Nat}{xZ:Pos}(hg:Gl X "zip")(hm:X.mg "zip"=none)(ha:PA X [e1,e2] ta)(hs:aeA [e1,e2] X.env=[(false,aeM e1 X.env),(false,aeM e2 X.env)]:=by rfl)(H_:aeA [e2] X.env=[(false,aeM e2 X.env)]:=by rfl):
  PI X (.Tuple es k xZ) (.Call (.Name "zip" p) [e1,e2] [] pos) (abT X.K ta):=by
 intro pins s σ H R I h
 refine Call_ (gS I hg hm boot_zip (aeZ (cB (ha pos pins s σ H _ I h) fun us s1 ⟨vs,H1,I1,r1,q1⟩=>?_) (by rw [hs,H_]) (by rw [H_];rfl)))
 obtain ⟨a,b,e,⟨xs,hx⟩,⟨ys,hy⟩,q⟩:=q1
 subst e
 cases r1 with
 | cons r rr=>
  cases rr with
  | cons r' rr=>
   cases rr
   cases r
   cases r'
   obtain ⟨its,rv,pl,_⟩:=I1.list hx
   obtain ⟨SU,mL,pl',_⟩:=I1.list hy
   have lt1:a<s1.heap.objs.size:=by obtain ⟨o,ho,_⟩:=pl.isList;exact aew ho
   have lt2:b<s1.heap.objs.size:=by obtain ⟨o,ho,_⟩:=pl'.isList;exact aew ho
   refine call_zip_2 pl.isList pl'.isList fun h' hz jL sE Q6 Up hsz hk=>wpAny_pyIter_zip (s:={s1 with heap:=h'}) hz ?_
   refine ⟨s1.heap.objs.size+4,[s1.heap.objs.size+4,s1.heap.objs.size+2,s1.heap.objs.size+3,s1.heap.objs.size,s1.heap.objs.size+1],_,_,H1,rfl,I1.kept (t':=s1.toks) hk,JF a b _ _ _ _ _ ?_,⟨hz,jL,⟨_,_,sE⟩,Q6,Up⟩,fun c hc=>?_,q⟩
   ·constructor<;>(intro z;simp only [aef] at*;omega)
   ·have rZ :s1.heap.objs.size<=c:=by
     have:c=s1.heap.objs.size+4\/c=s1.heap.objs.size+2\/c=s1.heap.objs.size+3\/c=s1.heap.objs.size\/c=s1.heap.objs.size+1:=by simpa using hc
     simp only [aef] at*
     omega
    exact I1.lH rZ (I1.bO.fresh rZ)
inductive JG (K:Frag)(xs:ε)(H:Hp)(Q:VK):Prop
|mk (p:aef)(ys:ε)(_:xs=[.ref p])(_:aV K H p ys)(_:∀l,H l=none->Q (.ref l) (upd H l (.lst ys)))
theorem oZ:ft X (.type "list") (JG X.K):=by
 intro pins s σ H xs us Q I r h
 obtain ⟨p,ys,rfl,hq,q⟩:=h
 obtain ⟨u,rfl,r1⟩:=vals1 r
 cases r1
 obtain ⟨its,rv,⟨o,n,e,c,d1,d⟩,hz⟩:=I.list hq
 have hlen:=rv.length
 refine call_list_seq p (.inl rfl) e c d (fun h' c' hk hl=>?_) (by simp;omega)
 have hn:=I.bO.fresh (aal s.heap.objs.size)
 have I2:Inv X pins σ (upd H s.heap.objs.size (.lst ys)) {s with heap:=h',toks:=s.toks}:=I.laid (t':=s.toks) hk (aal _) ⟨hz,its,c',rv,hl⟩
 exact ⟨.ref _,_,I2,rfl,q _ hn⟩
end
section
variable {X:Cx}{K:Frag}
theorem cX (h:X.K=K):O4 X (IJ K):=by subst h;exact jJ
theorem o_ (h:X.K=K):O4 X (M9 K):=by subst h;exact aQ
theorem uk {k:Nat}{pos:Pos}(hK:X.K=K)(hc:X.calm=true)(h:TH X es t)
  (hn:(afY es X.env).length=n:=by rfl) (MQ:(afY es X.env).findIdx? (·.1)=none:=by rfl):PG X (.Tuple es k pos) (HP K n t):=by subst hK;exact eY hc h hn MQ
end
section
variable {D:aef}{te:TE}{cap:L2.St}{H1:Hp}{Q:VK}
theorem v7 {K:Frag}(Rel:Ψ)(nD:H1 D=none)(hn:xs.length<ael)(hl:ys.length=xs.length)(hX:∀H,au H1 H->aV K H a xs)(hY:∀H,au H1 H->aV K H b ys)
  (hR:∀i v H H' ys,H D=some (.lst ys)->bQ D H H' ->Rel i v H->Rel i v H')
  (he:∀i x y H (R:VK),xs[i]?=some x->ys[i]?=some y->au H1 H->(∀v H6,au H H6->Rel i v H6->R v H6)->te (some x::some y::cap) H R)
  (hd:∀zs H,zs.length=xs.length->(∀i v,zs[i]?=some v->Rel i v H)->au H1 H->H D=some (.lst zs)->Q (.ref D) H):
  lS D (HP K 2 (vF (b9 0) (vF (b9 1) Qz))) jm te (Itz K a b) (none::none::cap) H1 Q:=by
 refine ⟨fun i m σ zs H=>m=xs.length-i/\i<=xs.length/\(∃o o',σ=o::o'::cap)/\(zs.length=i/\(∀i v,zs[i]?=some v->Rel i v H)/\au H1 H)/\H D=some (.lst zs),⟨xs.length,by simp,aaS _,⟨none,none,rfl⟩,⟨rfl,fun i v e=>by simp at e,fun b o e=>by rw [ao (aq e nD)];exact e⟩,ak⟩,?_⟩
 rintro i m σ zs H ⟨rfl,hi,⟨o,o',rfl⟩,⟨l,r,s⟩,hD⟩
 by_cases lj:i<xs.length
 ·have e1:xs[i]?=some xs[i]:=gE lj
  have e2:ys[i]?=some (ys[i]'(by omega)):=gE (by omega)
  refine .inr ⟨⟨xs,ys,_,_,hX H s,hY H s,e1,e2⟩,fun v H' y=>?_⟩
  obtain ⟨p,x,y,q1,q2,rfl,np,rfl⟩:=y
  have e1:=q1 xs (hX H s)
  have e2:=q2 ys (hY H s)
  have sp:au H (upd H p (.tup [x,y])):=fun b o e=>by rw [ao (aq e np)];exact e
  refine ⟨p,_,rfl,bJ.of ak,rfl,_,_,rfl,_,_,rfl,rfl,?_⟩
  unfold jm
  dsimp only
  rw [aek rfl]
  refine he i x y _ _ e1 e2 (fun b o e=>sp _ _ (s _ _ e)) fun v H6 s6 rv=>⟨s6 _ _ (sp _ _ hD),by omega,xs.length-(i+1),by omega,rfl,by omega,⟨_,_,rfl⟩,⟨by simp [l],fun j u e=>?_,fun b o e=>?_⟩,ak⟩
  ·by_cases c:j<zs.length
   ·rw [aar c] at e
    have ru:=hR j u H H6 zs hD (bQ.of fun b o q=>s6 _ _ (sp _ _ q)) (r j u e)
    exact hR j u H6 _ zs (s6 _ _ (sp _ _ hD)) bQ.upd ru
   ·rw [aav (by omega)] at e
    have ej:j=i:=by
     by_cases z:j-zs.length=0
     ·omega
     ·rw [aam (by simp;omega)] at e
      cases e
    subst ej
    have:v=u:=by
     rw [show j-zs.length=0 by omega] at e
     exact aaA e
    subst this
    exact hR j v H6 _ zs (s6 _ _ (sp _ _ hD)) bQ.upd rv
  ·rw [ao (aq e nD)]
   exact s6 _ _ (sp _ _ (s _ _ e))
 ·have e:i=xs.length:=by omega
  subst e
  exact .inl ⟨⟨xs,ys,hX H s,hY H s,.inl (aal _)⟩,hd zs H l r s hD⟩
end
open Builtin.Int (intBits)
def vl (q:Int×Int):Rat:=(q.1:Rat) / (q.2:Rat)
structure Sm (T B:Nat)(q:Int×Int):Prop where
 pos:0<q.2
 low:aaZ q.1 q.2=1
 top:q.1.natAbs<=2^T
 bot:q.2.natAbs<=2^B
theorem cR {b:Int}(h:b≠0):(b:Rat)≠0:=by simpa using h
theorem um (h:b≠0):vl (low t b)=(t:Rat) / (b:Rat):=by
 have c:=CL (t:=t) h
 have p:=km (t:=t) h
 have h1:=cR h
 have h2:=cR (b:=(low t b).2) (by omega)
 have c':((low t b).1:Rat)*b=t*(low t b).2:=by exact_mod_cast c
 unfold vl
 grind
theorem v9 {t b u c:Int}(hb:b≠0)(hc:c≠0)(h:(t:Rat) / b=(u:Rat) / c):t*c=u*b:=by
 have h1:=cR hb
 have h2:=cR hc
 have:(t:Rat)*c=u*b:=by grind
 exact_mod_cast this
theorem Q7 (hq:0<q.2)(hr:0<r.2)(gq:aaZ q.1 q.2=1)(gr:aaZ r.1 r.2=1)(h:vl q=vl r):q=r:=by
 have c:=v9 (t:=q.1) (b:=q.2) (u:=r.1) (c:=r.2) (by omega) (by omega) h
 have e:=rg (t:=q.1) (b:=q.2) (u:=r.1) (c:=r.2) (by omega) (by omega) c
 rw [oQ hq gq,oQ hr gr] at e
 exact acT (aeE akl e) (aeE akm e)
theorem CS {b d:Int}(hd:d≠0)(h:d ∣ b):((b.fdiv d:Int):Rat)=(b:Rat) / d:=by
 have e:=cG hd h
 have h1:=cR hd
 have:(b:Rat)=d*(b.fdiv d:Int):=by exact_mod_cast e
 grind
def gZ (xs ys:ς):Rat:=(aa5 (fun a b=>vl a*vl b) xs ys).sum
theorem CT {xs ys:ς}:gZ (x::xs) (y::ys)=vl x*vl y+gZ xs ys:=by simp [gZ]
def mR (ts:ξ)(qs:ς)(b:Int):Prop:=ts.length=qs.length/\∀(i:Nat)(t:Int)(q:Int×Int),ts[i]?=some t->qs[i]?=some q->(t:Rat)=vl q*b
theorem mR.tail {ts:ξ}{qs:ς}(h:mR (t::ts) (q::qs) b):mR ts qs b:=⟨by simpa using h.1,fun i t' q' e1 e2=>h.2 (i+1) t' q' (by simpa using e1) (by simpa using e2)⟩
theorem uo {a b:Int}(h1:a.natAbs<=2^m)(h2:b.natAbs<=2^n):(a*b).natAbs<=2^(m+n):=by
 rw [ab1,adP]
 exact aa7 h1 h2
theorem Q8 {a b:Int}(h1:a.natAbs<=2^m)(h2:b.natAbs<=2^m):(a+b).natAbs<=2^(m+1):=by
 have:=acN a b
 rw [adk]
 omega
theorem ph {a:Int}(h:a.natAbs<=2^m)(hm:m<=n):a.natAbs<=2^n:=aak h (aaI (by decide) hm)
theorem i9 (h:a.natAbs<=2^m)(hm:m<n):intBits a<=n:=intBits_le_iff.mpr (aap h (Nat.pow_lt_pow_right (by decide) hm))
theorem n_ (h1:a.natAbs<=2^m)(h2:b.natAbs<=2^n)(hm:m<30000000)(hn:n<30000000):vU a b:=⟨aak (i9 h1 hm) (by decide),aak (i9 h2 hn) (by decide)⟩
theorem Sm.up (h:Sm T B q)(hT:T<=T')(hB:B<=B'):Sm T' B' q:=⟨h.pos,h.low,ph h.top hT,ph h.bot hB⟩
theorem JH {b d:Int}(hb:0<b)(hd:0<d):0<b.fdiv (gz b d)*d/\b ∣ b.fdiv (gz b d)*d/\d ∣ b.fdiv (gz b d)*d/\(b.fdiv (gz b d)*d).natAbs<=b.natAbs*d.natAbs:=by
 have gp:=tX (t:=b) (b:=d) (by omega)
 have g1:gz b d ∣ b:=acv ..
 have g2:gz b d ∣ d:=acj ..
 have e1:=cG (g:=gz b d) (by omega) g1
 have e2:=cG (g:=gz b d) (by omega) g2
 generalize gz b d=g at*
 have p1:0<b.fdiv g:=by
  rcases adh (b.fdiv g) 0 with z|z|z
  ·exfalso
   have:=ad8 gp z
   omega
  ·rw [z] at e1;omega
  ·exact z
 refine ⟨acm p1 hd,⟨d.fdiv g,?_⟩,⟨b.fdiv g,ack ..⟩,?_⟩
 ·have:b.fdiv g*d=b.fdiv g*(g*d.fdiv g):=by rw [<-e2]
  rw [this]
  have h3:b*d.fdiv g=g*b.fdiv g*d.fdiv g:=by rw [<-e1]
  rw [h3]
  rw [<-adO,ack (b.fdiv g) g]
 ·rw [ab1]
  exact aaG _ (by
   have:=dH (g:=g) (a:=b.fdiv g) (by omega)
   rw [<-e1] at this
   exact this)
theorem CU {b:Int}(hq:0<q.2)(h:q.2 ∣ b):((q.1*b.fdiv q.2:Int):Rat)=vl q*b:=by
 have e:=CS (b:=b) (d:=q.2) (by omega) h
 have:((q.1*b.fdiv q.2:Int):Rat)=q.1*((b.fdiv q.2:Int):Rat):=by push_cast;rfl
 rw [this,e]
 unfold vl
 grind
theorem gG {b d:Int}(hd:d≠0)(h:d ∣ b):(b.fdiv d).natAbs<=b.natAbs:=by
 have:=dH (g:=d) (a:=b.fdiv d) hd
 rw [<-cG hd h] at this
 exact this
section
variable {D:aef}{te:TE}{cap:L2.St}{H1:Hp}{Q:VK}
theorem CV (n:Nat)(xs:Nat->V)(Rel:Ψ)(nD:H1 D=none)(hn:n<ael)
  (go:∀i H,i<n->au H1 H->J.go i H/\∀x H',J.GU i H x H' ->H'=H/\x=xs i) (stop:∀H,au H1 H->J.stop n H)
  (hR:∀i v H H' ys,H D=some (.lst ys)->bQ D H H' ->Rel i v H->Rel i v H')
  (he:∀i H (R:VK),i<n->au H1 H->(∃ys,H D=some (.lst ys))->(∀v H6,au H H6->Rel i v H6->R v H6)->te (some (xs i)::cap) H R)
  (hd:∀ys H,ys.length=n->(∀i v,ys[i]?=some v->Rel i v H)->au H1 H->H D=some (.lst ys)->Q (.ref D) H):
  lS D (b9 0) jm te J (none::cap) H1 Q:=by
 refine yf n xs (fun i ys H=>ys.length=i/\(∀i v,ys[i]?=some v->Rel i v H)/\au H1 H) ⟨rfl,fun i v e=>by simp at e,fun b o e=>by rw [ao (aq e nD)];exact e⟩ ?_ ?_ ?_ ?_
 ·rintro i ys H hi ⟨_,_,s⟩
  exact go i H hi s
 ·rintro ys H ⟨_,_,s⟩
  exact stop H s
 ·rintro i ys H R hi ⟨l,r,s⟩ hD k
  refine he i H R hi s ⟨_,hD⟩ fun v H6 s6 rv=>k v H6 (s6 _ _ hD) (by omega) ⟨by simp [l],fun j u e=>?_,fun b o e=>?_⟩
  ·by_cases c:j<ys.length
   ·rw [aar c] at e
    have ru:=hR j u H H6 ys hD (bQ.of s6) (r j u e)
    exact hR j u H6 _ ys (s6 _ _ hD) bQ.upd ru
   ·rw [aav (by omega)] at e
    have ej:j=i:=by
     by_cases z:j-ys.length=0
     ·omega
     ·rw [aam (by simp;omega)] at e
      cases e
    subst ej
    have:v=u:=by
     rw [show j-ys.length=0 by omega] at e
     exact aaA e
    subst this
    exact hR j v H6 _ ys (s6 _ _ hD) bQ.upd rv
  ·rw [ao (aq e nD)]
   exact s6 _ _ (s _ _ e)
 ·rintro ys H ⟨l,r,s⟩ hD
  exact hd ys H l r s hD
theorem pj {K:Frag}(Rel:Ψ)(nD:H1 D=none)(hn:xs.length<ael)(hS:∀H,au H1 H->aV K H a xs)
  (hR:∀i v H H' ys,H D=some (.lst ys)->bQ D H H' ->Rel i v H->Rel i v H')
  (he:∀i x H (R:VK),xs[i]?=some x->au H1 H->(∃ys,H D=some (.lst ys))->(∀v H6,au H H6->Rel i v H6->R v H6)->te (some x::cap) H R)
  (hd:∀ys H,ys.length=xs.length->(∀i v,ys[i]?=some v->Rel i v H)->au H1 H->H D=some (.lst ys)->Q (.ref D) H):
  lS D (b9 0) jm te (MR K a) (none::cap) H1 Q:=by
 refine CV xs.length (fun i=>(xs[i]?).getD .cg) Rel nD hn (fun i H hi s=>⟨⟨xs,xs[i],hS H s,gE hi⟩,fun x H' y=>⟨y.1,?_⟩⟩) (fun H s=>⟨xs,hS H s,aal _⟩) hR (fun i H R hi s dd k=>?_) hd
 ·rw [y.2 xs (hS H s)];rfl
 ·have e:xs[i]?=some xs[i]:=gE hi
  have k':=he i _ H R e s dd k
  rw [<-(show (xs[i]?).getD .cg=xs[i] by rw [e];rfl)] at k'
  exact k'
end
theorem Ng {E:δ}{s:aep}
  (hc:∀n acc,cellsFrom n scope.names acc=(y,n)::acc) (hp:∀h,pushCells h scope.names=h.push {cls:=.type "cell",data:=.cell none})
  (hQ:∀h',h'.Ns s.heap.objs.size (fun _=>none)->(∀b o,s.heap.get? b=some o->h'.get? b=some o)->h'.IsCell (s.heap.objs.size+1) none->
   Q (newEnv scope s.heap.objs.size globals ((y,s.heap.objs.size+1)::cl) qual none .none (some outer) agq) {s with heap:=h',toks:=s.toks+([]:List (Str×Value)).length}):
  aen M A (agJ scope globals cl [] qual none .none (some outer)) Q E s:=by
 simp only [agJ,aj',if_true]
 refine aeg (wpAny_alloc ?_)
 refine aeg (wpAny_layCells _ (fun name kind cells=>by cases hkc:kind==NameKind.cell<;>simp [hkc]) _ _ _ _ ?_)
 rw [show ({s with heap:=s.heap.push {cls:=.type "dict",data:=.dict #[]}}:aep).heap.objs.size=s.heap.objs.size+1 from afC ..,hc,hp]
 rw [aj1]
 refine aeg (aeo (aeo ?_))
 refine hQ _ ((Heap.Ns.new s.heap (.type "dict")).keeps fun b o e=>aeh _ e) (fun b o e=>aeh _ (aeh _ e)) ?_
 have:=aez (s.heap.push {cls:=.type "dict",data:=.dict #[]}) (o:={cls:=.type "cell",data:=.cell none}) rfl
 rw [afC] at this
 exact ⟨_,this,rfl⟩
section
variable {X:Cx}
theorem JI {K:Frag}(h:X.K=K)(hl:PE X l tl):PI X tg l (OU K tl):=by subst h;exact bx hl
abbrev Q9 (X:Cx)(NB:ρ)(scope:Scope)(y:Str)(cl:List (Str×aef))(C:aef)(s:aep)(H:Hp)(fp:χ):Cx:=ud X NB scope (fun x=>x==y) ((y,C+1)::cl) C s H fp
structure Q_ (X:Cx)(scope:Scope)(y:Str)(fr:ρ)(caps:Χ):Prop where
 CO:closureFor scope X.env=pure (bo X.env fr)
 kind:scope.kind=.function
 names:∀y∈scope.names,y.2=.local->scope.names.lookup y.1=some .local
 free:∀y∈scope.names,y.2=.free->y.1∈fr
 caps:caps.map (fun i=>X.N[i]?)=fr.map some
 out:fF X.env fr
 Ud:fF (compEnvC scope [] 0 X.env) fr
 Ra:∀n acc,cellsFrom n scope.names acc=(y,n)::acc
 Uq:∀h,pushCells h scope.names=h.push {cls:=.type "cell",data:=.cell none}
 only:∀z∈scope.names,z.2=.cell->z.1=y
 ny:y∉fr
theorem Nh {y x:Str}{C c:aef}(h:abZ x [(y,C)]=some c):x=y/\c=C:=by
 rw [acQ] at h
 cases e:x==y with
 | true=>
  rw [e] at h
  exact ⟨by simpa using e,(aaA h).symm⟩
 | false=>rw [e] at h;cases h
theorem Q_.g {caps:Χ}(B:Q_ X scope y fr caps):JA X scope (fun C=>[(y,C+1)]) (fun x=>x==y) fr caps:=
 ⟨B.CO,B.kind,B.names,B.free,B.caps,B.out,B.Ud,fun hQ=>Ng B.Ra B.Uq fun h' a b c=>hQ h' a b fun x d e=>by rw [(Nh e).2];exact c,
  fun C x c e=>by rw [(Nh e).2];exact aaV _,fun C x z c e1 e2=>(Nh e1).1.trans (Nh e2).1.symm,fun C x h e=>(by rw [acQ,h] at e;cases e),fun z hz e=>by simpa using B.only z hz e,
  fun C x hx=>by rw [acQ,show (x==y)=false by simpa using fun z:x=y=>B.ny (by rw [<-z];exact hx)];rfl⟩
end
end Ty
namespace L2
open PySem PySem.Spec PyProof.Rows
section
variable {κ:Type}[DecidableEq κ]
def bY (kvs:List (κ×V))(k:κ):Option V:=(kvs.find? fun kv=>decide (kv.1=k)).map (·.2)
def putK (kvs:List (κ×V))(k:κ)(v:V):List (κ×V):=
 if (kvs.any fun kv=>decide (kv.1=k))=true then kvs.map (fun kv=>if kv.1=k then (kv.1,v) else kv) else kvs++[(k,v)]
def d5 (kvs:List (κ×V))(k:κ):List (κ×V):=kvs.filter fun kv=>decide (kv.1≠k)
theorem bT {k:κ}(e:p.1=k):bY (p::r) k=some p.2:=by simp [bY,acD,e]
theorem bG {k:κ}(e:¬ p.1=k):bY (p::r) k=bY r k:=by simp [bY,acD,e]
theorem fY (k:κ):∀kvs:List (κ×V),(kvs.any fun kv=>decide (kv.1=k))=(bY kvs k).isSome
 | []=>rfl
 | p::r=>by
  rw [acH]
  by_cases e:p.1=k
  ·simp only [bT e,aeD e,Bool.true_or,aj']
  ·rw [bG e,aeR e,Bool.false_or];exact fY k r
theorem v_ (k j:κ)(y:V):∀kvs:List (κ×V),bY (kvs.map fun kv=>if kv.1=k then (kv.1,y) else kv) j=(bY kvs j).map fun x=>if j=k then y else x
 | []=>rfl
 | p::r=>by
  have ih:=v_ k j y r
  rw [aaj]
  by_cases h:p.1=k
  ·rw [aek h]
   by_cases e:p.1=j
   ·rw [bT (p:=(p.1,y)) e,bT e,acC,aek (e.symm.trans h)]
   ·rw [bG (p:=(p.1,y)) e,bG e,ih]
  ·rw [aej h]
   by_cases e:p.1=j
   ·rw [bT (p:=p) e,bT e,acC,aej (fun z=>h (e.trans z))]
   ·rw [bG (p:=p) e,bG e,ih]
theorem sG (k j:κ)(y:V):∀kvs:List (κ×V),bY kvs k=none->bY (kvs++[(k,y)]) j=if j=k then some y else bY kvs j
 | [],_=>by
  by_cases e:k=j
  ·rw [aek e.symm];exact bT (p:=(k,y)) e
  ·rw [aej (fun z=>e z.symm)];exact bG (p:=(k,y)) e
 | p::r,hn=>by
  rw [acR]
  have hk:¬ p.1=k:=fun z=>by rw [bT z] at hn;cases hn
  rw [bG hk] at hn
  have ih:=sG k j y r hn
  by_cases e:p.1=j
  ·rw [bT e,bT e,aej (fun z=>hk (e.trans z))]
  ·rw [bG e,bG e,ih]
theorem iS (kvs:List (κ×V))(k j:κ)(y:V):bY (putK kvs k y) j=if j=k then some y else bY kvs j:=by
 unfold putK
 by_cases a:(kvs.any fun kv=>decide (kv.1=k))=true
 ·rw [aek a,v_]
  rw [fY] at a
  by_cases e:j=k
  ·obtain ⟨x,hx⟩:=aed.mp a
   rw [aek e,e,hx,acC,aek rfl]
  ·rw [aej e]
   cases bY kvs j with
   | none=>rfl
   | some x=>rw [acC,aej e]
 ·rw [aej a]
  refine sG k j y kvs ?_
  rw [fY] at a
  cases q:bY kvs k with
  | none=>rfl
  | some x=>rw [q] at a;exact (a rfl).elim
theorem iT (kvs:List (κ×V))(k:κ)(v:V):(putK kvs k v).length<=kvs.length+1:=by
 unfold putK
 split
 ·rw [aah];omega
 ·rw [aat,aaQ,acX];omega
theorem dI {k:κ}(v:V)(h:bY kvs k=none):putK kvs k v=kvs++[(k,v)]:=by
 unfold putK
 rw [fY,h]
 exact aej (by decide)
theorem gR.gH {o:ψ}(r:gR o u):o.isSome=u.isSome:=by
 cases o with
 | none=>cases u with
  | none=>rfl
  | some _=>exact (show False from r).elim
 | some _=>cases u with
  | none=>exact (show False from r).elim
  | some _=>rfl
theorem gR.getD {o:ψ}(r:gR o u)(rd:RelV d d'):RelV (o.getD d) (u.getD d'):=by
 cases o with
 | none=>cases u with
  | none=>exact rd
  | some _=>exact (show False from r).elim
 | some _=>cases u with
  | none=>exact (show False from r).elim
  | some _=>exact r
theorem KV.val (r:KV kvs vs)(k:κ):gR (bY kvs k) (valueAt vs k):=by
 unfold KV at r
 induction r with
 | nil=>exact True.intro
 | @cons p q ps qs h t ih=>
  obtain ⟨h1,h2⟩:=h
  by_cases e:p.1=k
  ·have e':q.1=k:=h1.symm.trans e
   have b:valueAt (q::qs) k=some q.2:=by simp [valueAt,acD,e']
   rw [bT e,b];exact h2
  ·have e':¬ q.1=k:=fun z=>e (h1.trans z)
   have b:valueAt (q::qs) k=valueAt qs k:=by simp [valueAt,acD,e']
   rw [bG e,b];exact ih
theorem KV.any (r:KV kvs vs)(k:κ):(kvs.any fun kv=>decide (kv.1=k))=vs.any fun kv=>decide (kv.1=k):=by
 unfold KV at r
 induction r with
 | nil=>rfl
 | cons h t ih=>rw [acH,acH,ih,h.1]
theorem KV.Rb (r:KV kvs vs)(k:κ)(ry:RelV y u):
  KV (kvs.map fun kv=>if kv.1=k then (kv.1,y) else kv) (vs.map fun kv=>if kv.1=k then (kv.1,u) else kv):=by
 unfold KV at r ⊢
 induction r with
 | nil=>exact .nil
 | @cons p q ps qs h t ih=>
  rw [aaj,aaj]
  refine .cons ?_ ih
  obtain ⟨h1,h2⟩:=h
  by_cases e:p.1=k
  ·rw [aek e,aek (h1.symm.trans e)];exact ⟨h1,ry⟩
  ·rw [aej e,aej (fun z=>e (h1.trans z))];exact ⟨h1,h2⟩
theorem KV.put (r:KV kvs vs)(k:κ)(ry:RelV y u):KV (putK kvs k y) (stored vs k u):=by
 unfold putK stored
 rw [r.any k]
 by_cases e:(vs.any fun kv=>decide (kv.1=k))=true
 ·rw [aek e,aek e];exact r.Rb k ry
 ·rw [aej e,aej e];exact agj r ⟨rfl,ry⟩
theorem KV.drop (r:KV kvs vs)(k:κ):KV (d5 kvs k) (without vs k):=by
 unfold KV at r ⊢
 unfold d5 without
 induction r with
 | nil=>exact .nil
 | @cons p q ps qs h t ih=>
  obtain ⟨h1,h2⟩:=h
  rw [abW,abW]
  by_cases e:p.1=k
  ·have a:¬ decide (p.1≠k)=true:=by simp [e]
   have b:¬ decide (q.1≠k)=true:=by simp [h1.symm.trans e]
   rw [aej a,aej b];exact ih
  ·have e':¬ q.1=k:=fun z=>e (h1.trans z)
   have a:decide (p.1≠k)=true:=by simp [e]
   have b:decide (q.1≠k)=true:=by simp [e']
   rw [aek a,aek b];exact .cons ⟨h1,h2⟩ ih
theorem KV.length {vs:List (κ×Value)}(r:KV kvs vs):kvs.length=vs.length:=aer r
theorem JJ (kvs:List (κ×V))(k:κ):(d5 kvs k).length<=kvs.length:=acK _ _
end
theorem jw (r:RelV (kV k) u):(bF P w).is k u=true:=by
 cases k with
 | inl i=>obtain ⟨t,e⟩:=(show ∃t,u=Value.int i t from r);subst e;exact vB P w i t
 | inr x=>obtain ⟨t,e⟩:=(show ∃t,u=Value.str x t from r);subst e;exact vC P w x t
theorem sH :∀{ks:List Key} {us:ο},Vals (ks.map kV) us->ItemsAre (bF P w) ks us
 | [],_,r=>by rw [aa2] at r;cases r;exact .nil
 | k::ks,_,r=>by
  rw [aaj] at r
  cases r with
  | cons h t=>exact .cons (jw h) (sH t)
abbrev KT (H:Hp):List (List Key×V)->List (List Key×aef×Value)->Prop:=Paired fun p q=>p.1=q.1/\H q.2.1=some (.tup (p.1.map kV))/\RelV p.2 q.2.2
theorem KT.val {kvs:Ξ}{xs:Υ}(r:KT H kvs xs)(k:List Key):gR (bY kvs k) ((atKey xs k).map (·.2)):=by
 induction r with
 | nil=>exact True.intro
 | @cons p q ps qs h t ih=>
  obtain ⟨h1,_,h2⟩:=h
  by_cases e:p.1=k
  ·have e':q.1=k:=h1.symm.trans e
   have b:atKey (q::qs) k=some q.2:=by simp [atKey,acD,e']
   rw [bT e,b];exact h2
  ·have e':¬ q.1=k:=fun z=>e (h1.trans z)
   have b:atKey (q::qs) k=atKey qs k:=by simp [atKey,acD,e']
   rw [bG e,b];exact ih
theorem KT.Rb {kvs:Ξ}{xs:Υ}(r:KT H kvs xs)(k:List Key)(ry:RelV y u):
  KT H (kvs.map fun kv=>if kv.1=k then (kv.1,y) else kv) (xs.map (putAt k u)):=by
 induction r with
 | nil=>exact .nil
 | @cons p q ps qs h t ih=>
  rw [aaj,aaj]
  refine .cons ?_ ih
  obtain ⟨h1,h2,h3⟩:=h
  unfold putAt
  by_cases e:p.1=k
  ·rw [aek e,aek (h1.symm.trans e)];exact ⟨h1,h2,ry⟩
  ·rw [aej e,aej (fun z=>e (h1.trans z))];exact ⟨h1,h2,h3⟩
theorem KT.put {kvs:Ξ}{xs:Υ}(r:KT H kvs xs)(k:List Key)(hb:H b=some (.tup (k.map kV)))(ry:RelV y u):
  KT H (putK kvs k y) (storedH xs k b u):=by
 have e:(kvs.any fun kv=>decide (kv.1=k))=(atKey xs k).isSome:=by
  rw [fY,(r.val k).gH,aea]
 unfold putK storedH
 rw [e]
 by_cases q:(atKey xs k).isSome=true
 ·rw [aek q,aek q];exact r.Rb k ry
 ·rw [aej q,aej q];exact agj r ⟨rfl,hb,ry⟩
theorem KT.keeps {kvs:Ξ}{xs:Υ}(r:KT H kvs xs)(ht:∀b ys,H b=some (.tup ys)->H' b=some (.tup ys)):KT H' kvs xs:=
 Paired.bL r fun _ _ z=>⟨z.1,ht _ _ z.2.1,z.2.2⟩
section
variable {P:aeB}{w:World}{H:Hp}{h:Heap}{a:aef}
theorem Pk (ok:ju P w H h)(e:Rd H a u):cK P w H h a u:=e.ok ok
theorem jx (ok:ju P w H h)(e:Rd H a (.dK kvs)):kvs.length<=ael/\(a==ae6)=false/\∃vs,KV kvs vs/\h.DictOf (bF P w) a vs:=
 show cK P w H h a (.dK kvs) from Pk ok e
theorem ku (ok:ju P w H h)(e:H a=some (.dK kvs)):kvs.length<=ael/\(a==ae6)=false/\∃vs,KV kvs vs/\h.DictOf (bF P w) a vs:=jx ok (.inl e)
theorem lW (ok:ju P w H h)(e:H a=some (.tup (ks.map kV))):(tupleKind (bF P w)).is h ks a:=by
 obtain ⟨_,its,r,o,h1,h2,n,h3⟩:=(show cK P w H h a (.tup (ks.map kV)) from ok a _ e)
 exact ⟨o,its.toArray,n,h1,h2,h3,by simpa using sH r⟩
theorem pC (ok:ju P w H h)(e:Rd H a (.dT kvs)):kvs.length<=ael/\(a==ae6)=false/\
  ∃xs,KT H kvs xs/\h.DictOfH (tupleKind (bF P w)) a xs:=by
 obtain ⟨z,y,xs,r,o,es,ep,h1,h2,h3,h4,h5⟩:=(show cK P w H h a (.dT kvs) from Pk ok e)
 refine ⟨z,y,xs,r,o,es,ep,h1,h2,h3,h4,fun x hx=>?_,h5⟩
 have all:∀{l:Ξ} {m:Υ},KT H l m->∀x∈m,(tupleKind (bF P w)).is h x.1 x.2.1:=by
  intro l m q
  induction q with
  | nil=>intro x hx;exact nomatch hx
  | @cons p q ps qs hq t ih=>
   intro x hx
   rcases aaL.mp hx with e|hx
   ·subst e
    exact lW ok (by rw [<-hq.1];exact hq.2.1)
   ·exact ih x hx
 exact all r x hx
theorem Ur (ok:ju P w H h)(e:H a=some (.dT kvs)):kvs.length<=ael/\(a==ae6)=false/\
  ∃xs,KT H kvs xs/\h.DictOfH (tupleKind (bF P w)) a xs:=pC ok (.inl e)
end
def dm (H:Hp)(a:aef)(y:V)(r:ψ):Prop:=
 (∃kvs k,Rd H a (.dK kvs)/\y=kV k/\r=bY kvs k)\/∃kvs k b,Rd H a (.dT kvs)/\y=.ref b/\H b=some (.tup (k.map kV))/\r=bY kvs k
def kz (H:Hp)(a:aef)(y v:V)(H':Hp):Prop:=
 (∃kvs k,H a=some (.dK kvs)/\y=kV k/\kvs.length<ael/\H'=upd H a (.dK (putK kvs k v)))\/
 ∃kvs k b,H a=some (.dT kvs)/\y=.ref b/\H b=some (.tup (k.map kV))/\kvs.length<ael/\H'=upd H a (.dT (putK kvs k v))
theorem dm.k {kvs:γ}{k:Key}(e:H a=some (.dK kvs)):dm H a (kV k) (bY kvs k):=.inl ⟨kvs,k,.inl e,rfl,rfl⟩
theorem kz.k {kvs:γ}{k:Key}(e:H a=some (.dK kvs))(hl:kvs.length<ael):kz H a (kV k) v (upd H a (.dK (putK kvs k v))):=.inl ⟨kvs,k,e,rfl,hl,rfl⟩
section
variable {X:Cx}{pins:ζ}{σ:St}{H:Hp}{s:aep}{a:aef}{y v:V}{u r:Value}{o:ψ}{A:aeI}{E:δ}
theorem Inv.big (I:Inv X pins σ H s):ae6<s.heap.objs.size:=by
 have h:aex<s.heap.objs.size:=(I.mod.glob.keeps I.bk).lt
 exact adX (by decide) h
theorem CW {Q:δ}(hu:A.units+1<afG)(I:Inv X pins σ H s)(g:dm H a y (some v))(ry:RelV y u)(h:∀w' s',Inv X pins σ H s' ->RelV v w' ->Q w' s'):
  aen (aes X.prog X.w) A (getItem (.ref a) u) Q E s:=by
 rcases g with ⟨kvs,k,e,ey,l⟩|⟨kvs,k,b,e,ey,eb,l⟩
 ·subst ey
  obtain ⟨z,hd,vs,rel,dd⟩:=jx I.bO e
  obtain ⟨w',hw,mL⟩:=gR.some_of (v:=v) (o:=valueAt vs k) (by rw [l];exact rel.val k)
  exact wpAny_getItem_of (jw ry) dd.mapOf hw (h w' _ (I.tok _) mL)
 ·subst ey
  cases (show u=Value.ref b from ry)
  obtain ⟨z,hd,xs,rel,dd⟩:=pC I.bO e
  obtain ⟨w',hw,mL⟩:=gR.some_of (v:=v) (o:=(atKey xs k).map (·.2)) (by rw [l];exact rel.val k)
  obtain ⟨p,hp,Us⟩:=aaw.mp hw
  refine wpAny_getItem_heap (afQ hu) (lW I.bO eb) dd hp ?_
  rw [Us]
  exact h w' _ (I.tok _) mL
theorem abU {Q:δ}(hu:A.units+1<afG)(I:Inv X pins σ H s)(g:dm H a y o)(ry:RelV y u)(h:∀s',Inv X pins σ H s' ->Q (.bool o.isSome) s'):
  aen (aes X.prog X.w) A (ae2 .In u (.ref a)) Q E s:=by
 rcases g with ⟨kvs,k,e,ey,l⟩|⟨kvs,k,b,e,ey,eb,l⟩
 ·subst ey
  obtain ⟨z,hd,vs,rel,dd⟩:=jx I.bO e
  refine wpAny_in_of (jw ry) hd dd.mapOf ?_
  rw [<-(rel.val k).gH,<-l]
  exact h _ (I.tok _)
 ·subst ey
  cases (show u=Value.ref b from ry)
  obtain ⟨z,hd,xs,rel,dd⟩:=pC I.bO e
  refine wpAny_in_heap (afQ hu) (lW I.bO eb) hd dd ?_
  have q:=(rel.val k).gH
  rw [aea] at q
  rw [<-q,<-l]
  exact h _ (I.tok _)
theorem Ni {Q:δ}(hu:A.units+1<afG)(I:Inv X pins σ H s)(g:dm H a y o)(ry:RelV y u)(h:∀s',Inv X pins σ H s' ->Q (.bool (!o.isSome)) s'):
  aen (aes X.prog X.w) A (ae2 .NotIn u (.ref a)) Q E s:=by
 rcases g with ⟨kvs,k,e,ey,l⟩|⟨kvs,k,b,e,ey,eb,l⟩
 ·subst ey
  obtain ⟨z,hd,vs,rel,dd⟩:=jx I.bO e
  refine wpAny_notIn_of (jw ry) hd dd.mapOf ?_
  rw [<-(rel.val k).gH,<-l]
  exact h _ (I.tok _)
 ·subst ey
  cases (show u=Value.ref b from ry)
  obtain ⟨z,hd,xs,rel,dd⟩:=pC I.bO e
  refine wpAny_notIn_heap (afQ hu) (lW I.bO eb) hd dd ?_
  have q:=(rel.val k).gH
  rw [aea] at q
  rw [<-q,<-l]
  exact h _ (I.tok _)
theorem i_ (I:Inv X pins σ H s)(mu:Tp (H a))(hs:agr a s.heap h')(he:∃q,h'.get? a=some q)(new:cK X.prog X.w (upd H a ob) h' a ob):
  Inv X pins σ (upd H a ob) {s with heap:=h',toks:=t'}:=
 I.write (x:=a) (e:=a) mu (.inl rfl) (fun b q hb z=>(hs.2 b hb).trans z) he new
theorem lX {kvs:γ}(z:kvs.length<=ael)(hd:(a==ae6)=false)(rel:KV kvs vs)(dd:h'.DictOf (bF P w) a vs):
  cK P w H' h' a (.dK kvs):=⟨z,hd,vs,rel,dd⟩
theorem CY (hu:A.units+1<afG)(I:Inv X pins σ H s)(g:kz H a y v H')(ry:RelV y u)(rv:RelV v r)(h:∀s',Inv X pins σ H' s' ->Q () s'):
  aen (aes X.prog X.w) A (setItem (.ref a) u r) Q E s:=by
 rcases g with ⟨kvs,k,e,ey,l,eH⟩|⟨kvs,k,b,e,ey,eb,l,eH⟩
 ·subst ey eH
  obtain ⟨z,hd,vs,rel,dd⟩:=ku I.bO e
  have hz:vs.length<=ael:=by rw [<-rel.length];exact z
  have hl:(putK kvs k v).length<=ael:=by have:=iT kvs k v;omega
  refine wpAny_setItem_pairs (hsz:=hz) (jw ry) dd fun h' GY hs=>h _ ?_
  have he:∃q,h'.get? a=some q:=let ⟨q,_,_,hq,_⟩:=GY;⟨q,hq⟩
  exact i_ I (by rw [e];exact True.intro) hs he (lX hl hd (rel.put k rv) GY)
 ·subst ey eH
  cases (show u=Value.ref b from ry)
  obtain ⟨z,hd,xs,rel,dd⟩:=Ur I.bO e
  have hz:xs.length<=ael:=by rw [<-aer rel];exact z
  have hl:(putK kvs k v).length<=ael:=by have:=iT kvs k v;omega
  refine wpAny_setItem_heap (hsz:=hz) (afQ hu) (lW I.bO eb) dd fun h' GY hs=>h _ ?_
  obtain ⟨q,es,ep,hq,h2,h3,h4,_,h5⟩:=GY
  refine i_ I (by rw [e];exact True.intro) hs ⟨q,hq⟩ ⟨hl,hd,_,(rel.put k eb rv).keeps fun c ys ec=>?_,q,es,ep,hq,h2,h3,h4,h5⟩
  rw [ao (To ec e (fun z=>nomatch z))]
  exact ec
end
section
variable {X:Cx}{pins:ζ}{σ:St}{H:Hp}{s:aep}{a:aef}{kvs:γ}{k:Key}{u:Value}{A:aeI}{E:δ}
theorem Ut {more:ο}{Q:δ}(I:Inv X pins σ H s)(e:H a=some (.dK kvs))(ry:RelV (kV k) u)(l:bY kvs k=some v)(hm:more=[]\/∃x,more=[x])
  (h:∀w' s',Inv X pins σ (upd H a (.dK (d5 kvs k))) s' ->RelV v w' ->Q w' s'):aen (aes X.prog X.w) A (call (.builtin "dict.pop") (.ref a::u::more)) Q E s:=by
 obtain ⟨z,hd,vs,rel,dd⟩:=ku I.bO e
 obtain ⟨w',hw,mL⟩:=gR.some_of (v:=v) (o:=valueAt vs k) (by rw [<-l];exact rel.val k)
 have hp:(keyPart u).isSome=true:=by
  cases k with
  | inl i=>obtain ⟨t,q⟩:=(show ∃t,u=Value.int i t from ry);subst q;rfl
  | inr x=>obtain ⟨t,q⟩:=(show ∃t,u=Value.str x t from ry);subst q;rfl
 have ha:argsOk "dict.pop" ⟨.ref a::u::more,[]⟩:=by
  rcases hm with q|⟨x,q⟩
  ·subst q;exact PySem.F.args_dict_pop_2 _ _
  ·subst q;exact PySem.F.args_dict_pop_3 _ _ _
 refine agz PySem.F.slot_dict_pop dd.typeIs PySem.F.entry_dict_pop ha (meets_dict_pop_there (bF X.prog X.w) a (jw ry) more hm hp)
  ⟨vs,w',dd,by rw [<-rel.length];exact z,hw,fun h' GY hs=>h w' _ ?_ mL⟩
 have he:∃q,h'.get? a=some q:=let ⟨q,_,_,hq,_⟩:=GY;⟨q,hq⟩
 exact i_ I (by rw [e];exact True.intro) hs he (lX (aak (JJ kvs k) z) hd (rel.drop k) GY)
theorem Uu {Q:δ}(I:Inv X pins σ H s)(e:Rd H a (.dK kvs))(h:∀t s',Inv X pins σ H s' ->Q (.int kvs.length t) s'):aen (aes X.prog X.w) A (call (.builtin "len") [.ref a]) Q E s:=by
 obtain ⟨z,hd,vs,rel,dd⟩:=jx I.bO e
 refine call_len_dict hd dd (by rw [<-rel.length];rw [sizeLine_eq] at z;omega) ?_
 rw [<-rel.length]
 exact h _ _ (I.tok _)
end
def Uv (i:Expr):Prop:=∀ov iv,subscripted i false ov iv=operate [ov,iv] (getItem ov iv)
theorem Nj {E:δ}{T id:String}{Q:δ}
  (hl:agx (.type T) "__getitem__"=pure (some (.builtin id))) (hs:Uv slice)
  (h:aen (aes prog w) A (aeM value env) (fun o s₁=>aen (aes prog w) A (aeM slice env) (fun i s₂=>s₂.TypeIs o T/\aen (aes prog w) A (getItem o i) Q E s₂) E s₁) E s):
  aen (aes prog w) A (aeM (.Subscript value slice pos) env) Q E s:=by
 refine Subscript_ (aeU h (fun o s₁ h₁=>aeU h₁ (fun i s₂ h₂=>?_) fun _ _ x=>x) fun _ _ x=>x)
 obtain ⟨hT,h₂⟩:=h₂
 unfold subscriptTail
 refine aeg ?_
 rw [getitemInPython_of_ne hT.not_modules]
 refine aeg (wpAny_specialOf hT hl ?_)
 have fin:aen (aes prog w) A (subscripted slice false o i) (fun r s₃=>aen (aes prog w) A (letTemporaryGo value o r >>=fun _=>pure r) Q E s₃) E s₂:=by
  rw [hs o i]
  exact wpAny_operating (aeU h₂ (fun r s₃ h₃=>aeg (wpAny_letTemporaryGo (aeo h₃))) fun _ _ x=>x)
 first
  | exact aeo (aeg fin)
  | exact aeg (aeo (aeg fin))
  | exact aeg fin
theorem wc {σ:St}(I:Inv X pins σ H s)(g:dm H a y o):s.TypeIs (.ref a) "dict":=by
 rcases g with ⟨kvs,k,e,_,_⟩|⟨kvs,k,b,e,_,_,_⟩
 ·obtain ⟨_,_,vs,_,dd⟩:=jx I.bO e
  exact dd.typeIs
 ·obtain ⟨_,_,xs,_,dd⟩:=pC I.bO e
  exact dd.typeIs
inductive JK (Q:VK)(x:V)(y:V)(H2:Hp):Prop
|mk (a v:_)(_:x=.ref a)(_:dm H2 a y (some v))(_:Q v H2)
def Uw (td ty:TE):TE:=fun σ H Q=>td σ H fun x H1=>ty σ H1 fun y H2=>JK Q x y H2
inductive Pl (Q:VK)(y:V)(x:V)(H2:Hp):Prop
|mk (a o:_)(_:x=.ref a)(_:dm H2 a y o)(_:Q (.bl o.isSome) H2)
def abV (ty td:TE):TE:=fun σ H Q=>ty σ H fun y H1=>td σ H1 fun x H2=>Pl Q y x H2
inductive wd (Q:VK)(y:V)(x:V)(H2:Hp):Prop
|mk (a o:_)(_:x=.ref a)(_:dm H2 a y o)(_:Q (.bl (!o.isSome)) H2)
def Nk (ty td:TE):TE:=fun σ H Q=>ty σ H fun y H1=>td σ H1 fun x H2=>wd Q y x H2
inductive JL (D:Ends)(σ:L2.St)(v:V)(x:V)(y:V)(H3:Hp):Prop
|mk (a H4:_)(_:x=.ref a)(_:kz H3 a y v H4)(_:D.nx σ H4)
def Ux (td ty tv:TE):TS:=fun D σ H=>tv σ H fun v H1=>td σ H1 fun x H2=>ty σ H2 fun y H3=>JL D σ v x y H3
section
variable {X:Cx}{o i e value:Expr}{pos pos' xZ:Pos}{td ty tv:TE}
theorem cv (hu:X.A.units+1<afG)(ho:PE X o td)(hi:PE X i ty)(hs:Uv i):PE X (.Subscript o i pos) (Uw td ty):=by
 intro pins s σ H Q I h
 refine Nj PySem.F.slot_dict_getitem.lookup hs (cB (ho pins s σ H _ I h) fun u s1 ⟨x,H1,I1,rx,q1⟩=>cB (hi pins s1 σ H1 _ I1 q1) fun iv s2 ⟨y,H2,I2,ry,a,v,ex,g,q2⟩=>?_)
 subst ex
 obtain rfl:u=Value.ref a:=rx
 exact ⟨wc I2 g,CW hu I2 g ry fun w' s3 I3 mL =>⟨v,H2,I3,mL,q2⟩⟩
theorem JM (hu:X.A.units+1<afG)(hi:PE X i ty)(ho:PE X o td):PC X .In i o (abV ty td):=by
 intro pins s σ H Q I h
 refine cB (hi pins s σ H _ I h) fun iv s1 ⟨y,H1,I1,ry,q1⟩=>cB (ho pins s1 σ H1 _ I1 q1) fun u s2 ⟨x,H2,I2,rx,a,ov,ex,g,q2⟩=>?_
 subst ex
 obtain rfl:u=Value.ref a:=rx
 exact abU hu I2 g ry fun s3 I3=>⟨.bl ov.isSome,H2,I3,rfl,q2⟩
theorem lY (hu:X.A.units+1<afG)(hi:PE X i ty)(ho:PE X o td):PC X .NotIn i o (Nk ty td):=by
 intro pins s σ H Q I h
 refine cB (hi pins s σ H _ I h) fun iv s1 ⟨y,H1,I1,ry,q1⟩=>cB (ho pins s1 σ H1 _ I1 q1) fun u s2 ⟨x,H2,I2,rx,a,ov,ex,g,q2⟩=>?_
 subst ex
 obtain rfl:u=Value.ref a:=rx
 exact Ni hu I2 g ry fun s3 I3=>⟨.bl (!ov.isSome),H2,I3,rfl,q2⟩
theorem fM (hu:X.A.units+1<afG)(ho:PE X o td)(hi:PE X i ty)(hv:PE X value tv)(hs:afN value (some (.Subscript o i pos')) pos.line X.env=pure false):
  PS X (.Assign [.Subscript o i pos'] value pos) (Ux td ty tv):=by
 intro pins s σ H D I h
 refine wpAny_Assign_Subscript (cB (hv pins s σ H _ I h) fun r s1 ⟨v,H1,I1,rv,q1⟩=>cB (ho pins s1 σ H1 _ I1 q1) fun u s2 ⟨x,H2,I2,rx,q2⟩=>cB (hi pins s2 σ H2 _ I2 q2) fun iv s3 ⟨y,H3,I3,ry,a,H4,ex,g,q3⟩=>?_) hs
 subst ex
 obtain rfl:u=Value.ref a:=rx
 exact CY hu I3 g ry rv fun s4 I4=>⟨σ,H4,I4,q3⟩
end
theorem we (h:Heap)(hb:ae6<h.objs.size):cK P w H (h.push {cls:=.type "dict",data:=.dict #[]}) h.objs.size (.dK []):=
 ⟨aaS _,beq_eq_false_iff_ne.mpr (aaD (aaM hb)),[],.nil,Heap.DictOf.new h⟩
def Rc:TE:=fun _ H Q=>∀p,H p=none->Q (.ref p) (upd H p (.dK []))
section
variable {X:Cx}{pos:Pos}
theorem fZ:PE X (.Dict [] [] pos) Rc:=fun pins s σ H Q I h=>
 wpAny_Dict_empty ⟨.ref s.heap.objs.size,_,I.laid (a:=s.heap.objs.size) (o:=.dK []) (t':=s.toks) (fun _ _ q=>aeh _ q) (aal _) (we s.heap I.big),rfl,h _ (I.bO.fresh (aal _))⟩
end
def yh:List (TE×TE)->St->Hp->(List (V×V)->Hp->Prop)->Prop
 | [],_,H,Q=>Q [] H
 | (tk,tv)::r,σ,H,Q=>tk σ H fun x H1=>tv σ H1 fun y H2=>yh r σ H2 fun ps H3=>Q ((x,y)::ps) H3
abbrev VV:List (V×V)->List (Value×Value)->Prop:=Paired fun p q=>RelV p.1 q.1/\RelV p.2 q.2
def PPs (X:Cx)(pos:Pos)(keys:List (Option Expr))(values:Δ)(Nl:List (TE×TE)):Prop:=
 ∀(pins:ζ)(s:aep)(σ:St)(H:Hp)(Q:List (V×V)->Hp->Prop),Inv X pins σ H s->yh Nl σ H Q->
  aen (aes X.prog X.w) X.A (evalPairs (pairTrees keys values X.env pos)) (fun vs s'=>∃ps H',Inv X pins σ H' s'/\VV ps vs/\Q ps H') X.xe s
theorem zY :PPs X pos [] [] []:=fun pins s σ H Q I h=>pairTrees_nil_walk ⟨[],H,I,.nil,h⟩
theorem pD (hk:PE X k tk)(hv:PE X v tv)(hr:PPs X pos ks vs Nl):
  PPs X pos (some k::ks) (v::vs) ((tk,tv)::Nl):=fun pins s σ H Q I h=>
 pairTrees_cons_walk (cB (hk pins s σ H _ I h) fun u s1 ⟨x,H1,I1,rx,q1⟩=>cB (hv pins s1 σ H1 _ I1 q1) fun w2 s2 ⟨y,H2,I2,ry,q2⟩=>
  cB (hr pins s2 σ H2 _ I2 q2) fun ws s3 ⟨ps,H3,I3,rel,q3⟩=>⟨(x,y)::ps,H3,I3,.cons ⟨rx,ry⟩ rel,q3⟩)
def bN (kvs more:γ):List (Key×V):=more.foldl (fun acc kv=>putK acc kv.1 kv.2) kvs
theorem KV.merge:∀{more:γ} {rs:List (Key×Value)} {kvs:γ} {vs:List (Key×Value)},KV more rs->KV kvs vs->KV (bN kvs more) (merged vs rs):=by
 intro more rs kvs vs r
 unfold KV at r
 induction r generalizing kvs vs with
 | nil=>intro q;exact q
 | @cons p q ps qs h t ih=>
  intro r0
  have e:KV (putK kvs p.1 p.2) (stored vs q.1 q.2):=by
   have:=r0.put p.1 h.2
   rw [<-h.1];exact this
  exact ih e
theorem fk:∀(more kvs:γ),(bN kvs more).length<=kvs.length+more.length
 | [],kvs=>by show kvs.length<=kvs.length+0;omega
 | p::r,kvs=>by
  have h1:=fk r (putK kvs p.1 p.2)
  have h2:=iT kvs p.1 p.2
  show (bN (putK kvs p.1 p.2) r).length<=_
  rw [aaQ];omega
theorem pE :∀{kvs:γ} {ws:List (Value×Value)},VV (kvs.map fun kv=>(kV kv.1,kv.2)) ws->∃rs,Carries (bF P w) ws rs/\KV kvs rs
 | [],_,r=>by rw [aa2] at r;cases r;exact ⟨[],True.intro,.nil⟩
 | p::kvs,_,r=>by
  rw [aaj] at r
  cases r with
  | @cons a b as bs h t=>
   obtain ⟨rs,c,q⟩:=pE (P:=P) (w:=w) t
   obtain ⟨b1,b2⟩:=b
   exact ⟨(p.1,b2)::rs,⟨jw h.1,rfl,c⟩,.cons ⟨rfl,h.2⟩ q⟩
def Uy (Nl:List (TE×TE)):TE:=fun σ H Q=>∀p,H p=none->yh Nl σ (upd H p (.dK [])) fun ps H2=>H2 p=some (.dK [])/\∃kvs:List (Key×V),ps=kvs.map (fun kv=>(kV kv.1,kv.2))/\kvs.length<=15/\Q (.ref p) (upd H2 p (.dK (bN [] kvs)))
theorem zZ (h:PPs X pos keys values Nl)(IS:keys.all (·.isSome)=true)(hl:keys.length=values.length)(h0:keys≠[])
  (h15:keys.length<=15):PE X (.Dict keys values pos) (Uy Nl):=by
 intro pins s σ H Q I q
 have hn:=I.bO.fresh (aal s.heap.objs.size)
 have I1:=I.laid (a:=s.heap.objs.size) (o:=.dK []) (h':=s.heap.push {cls:=.type "dict",data:=.dict #[]}) (t':=s.toks) (fun _ _ q=>aeh _ q) (aal _) (we s.heap I.big)
 refine wpAny_Dict_walk (knd:=bF X.prog X.w) IS hl h0 h15 (cB (h pins _ σ _ _ I1 (q _ hn)) fun ws s2 ⟨ps,H2,I2,rel,e,kvs,ep,lk,q2⟩=>?_)
 subst ep
 obtain ⟨rs,c,rk⟩:=pE (P:=X.prog) (w:=X.w) rel
 obtain ⟨z,hd,vs0,r0,dd⟩:=ku I2.bO e
 cases r0
 refine ⟨rs,c,dd,fun h' GY hs=>⟨.ref s.heap.objs.size,_,?_,rfl,q2⟩⟩
 have hz:(bN [] kvs).length<=ael:=by
  have h1:=fk kvs []
  rw [acX] at h1
  rw [sizeLine_eq];omega
 have he:∃q,h'.get? s.heap.objs.size=some q:=let ⟨q,_,_,hq,_⟩:=GY;⟨q,hq⟩
 exact i_ I2 (by rw [e];exact True.intro) hs he (lX hz hd (rk.merge .nil) GY)
structure M1 (X:Cx)(o:Expr)(m:Str)(apos:Pos)(e:Expr)(dG:Pos):Prop where
 base:afM o m X.env (aeM o X.env)=aeM o X.env
 few:((afc dG (aeA [e] X.env)).all (fun x=> !x.1) && (backToKw dG (agi [] X.env)).all (fun x=>x.1.isSome)
  && decide (([e]:List Expr).length+([]:List Keyword).length+(if ([]:List Keyword).isEmpty then 0 else 1)<30))=true
 line:(apos.endLine==dG.line)=true
 trees:afc dG (aeA [e] X.env)=[(false,aeM e X.env)]
structure M2 (X:Cx)(o:Expr)(m:Str)(apos:Pos)(e f:Expr)(dG:Pos):Prop where
 base:afM o m X.env (aeM o X.env)=aeM o X.env
 few:((afc dG (aeA [e,f] X.env)).all (fun x=> !x.1) && (backToKw dG (agi [] X.env)).all (fun x=>x.1.isSome)
  && decide (([e,f]:List Expr).length+([]:List Keyword).length+(if ([]:List Keyword).isEmpty then 0 else 1)<30))=true
 line:(apos.endLine==dG.line)=true
 trees:afc dG (aeA [e,f] X.env)=[(false,aeM e X.env),(false,aeM f X.env)]
def IsD (H:Hp)(a:aef):Prop:=(∃kvs,Rd H a (.dK kvs))\/∃kvs,Rd H a (.dT kvs)
theorem yi {σ:St}(I:Inv X pins σ H s)(d:IsD H a):
  s.TypeIs (.ref a) "dict"/\(∀b,Value.ref a=.ref b->∃ob,s.heap.get? b=some ob/\ob.dict=none)/\(a==ae6)=false:=by
 rcases d with ⟨kvs,e⟩|⟨kvs,e⟩
 ·obtain ⟨_,hd,vs,_,dd⟩:=jx I.bO e
  refine ⟨dd.typeIs,fun b q=>?_,hd⟩
  cases q
  obtain ⟨ob,_,_,h1,h2,_⟩:=dd
  exact ⟨ob,h1,h2.2.1⟩
 ·obtain ⟨_,hd,xs,_,dd⟩:=pC I.bO e
  refine ⟨dd.typeIs,fun b q=>?_,hd⟩
  cases q
  obtain ⟨ob,_,_,h1,h2,_⟩:=dd
  exact ⟨ob,h1,h2.2.1⟩
section
variable {X:Cx}{pins:ζ}{σ:St}{H:Hp}{s:aep}{a:aef}{y d:V}{u r:Value}{o:ψ}{A:aeI}{E:δ}
theorem Rf {Q:δ}(hu:A.units+1<afG)(I:Inv X pins σ H s)(g:dm H a y o)(ry:RelV y u)(rd:RelV d r)(h:∀w' s',Inv X pins σ H s' ->RelV (o.getD d) w' ->Q w' s'):
  aen (aes X.prog X.w) A (call (.builtin "dict.get") [.ref a,u,r]) Q E s:=by
 rcases g with ⟨kvs,k,e,ey,l⟩|⟨kvs,k,b,e,ey,eb,l⟩
 ·subst ey
  obtain ⟨z,hd,vs,rel,dd⟩:=jx I.bO e
  refine agz PySem.F.slot_dict_get dd.typeIs PySem.F.entry_dict_get (PySem.F.args_dict_get_3 _ _ _) (meets_dict_get_default (bF X.prog X.w) a (jw ry) hd r) ⟨_,dd.mapOf,h _ _ (I.tok _) ?_⟩
  rw [l]
  exact (rel.val k).getD rd
 ·subst ey
  cases (show u=Value.ref b from ry)
  obtain ⟨z,hd,xs,rel,dd⟩:=pC I.bO e
  refine agz PySem.F.slot_dict_get dd.typeIs PySem.F.entry_dict_get (PySem.F.args_dict_get_3 _ _ _) (meetsH_dict_get_default (tupleKind (bF X.prog X.w)) a b hd r) ⟨afQ hu,k,xs,lW I.bO eb,dd,h _ _ (I.tok _) ?_⟩
  rw [l]
  exact (rel.val k).getD rd
end
def Rg (td ty tx:TE):TE:=fun σ H Q=>td σ H fun x H1=>∃a,x=.ref a/\IsD H1 a/\ty σ H1 fun y H2=>tx σ H2 fun z H3=>∃o,dm H3 a y o/\Q (o.getD z) H3
def Rh (td ty:TE):TE:=fun σ H Q=>td σ H fun x H1=>∃a,x=.ref a/\IsD H1 a/\ty σ H1 fun y H2=>∃kvs k v,H2 a=some (.dK kvs)/\y=kV k/\bY kvs k=some v/\Q v (upd H2 a (.dK (d5 kvs k)))
section
variable {X:Cx}{o e f:Expr}{apos dG:Pos}{td ty tx:TE}
theorem wg (hu:X.A.units+1<afG)(ho:PE X o td)(he:PE X e ty)(hf:PE X f tx)(m:M2 X o "get" apos e f dG):PE X (.Call (.Attribute o "get" apos) [e,f] [] dG) (Rg td ty tx):=by
 intro pins s σ H Q I h
 refine wpAny_Call_method m.base m.few m.line PySem.F.plainAttrs_dict PySem.F.slot_dict_get PySem.F.type_dict_get (cB (ho pins s σ H _ I h) fun u s1 ⟨x,H1,I1,rx,a,ex,d,q1⟩=>?_)
 subst ex
 obtain rfl:u=Value.ref a:=rx
 obtain ⟨t1,t2,_⟩:=yi I1 d
 refine ⟨t1,t2,?_⟩
 rw [m.trees]
 refine afl rfl (Calls.evalArgs_plain (afo (cB (he pins s1 σ H1 _ I1 q1) fun iv s2 ⟨y,H2,I2,ry,q2⟩=>
  afo (cB (hf pins s2 σ H2 _ I2 q2) fun fv s3 ⟨z,H3,I3,rz,ov,g,q3⟩=>afR ?_))))
 exact Rf hu I3 g ry rz fun w' s4 I4 mL =>⟨_,H3,I4,mL,q3⟩
theorem pF (ho:PE X o td)(he:PE X e ty)(m:M1 X o "pop" apos e dG):PE X (.Call (.Attribute o "pop" apos) [e] [] dG) (Rh td ty):=by
 intro pins s σ H Q I h
 refine wpAny_Call_method m.base m.few m.line PySem.F.plainAttrs_dict PySem.F.slot_dict_pop PySem.F.type_dict_pop (cB (ho pins s σ H _ I h) fun u s1 ⟨x,H1,I1,rx,a,ex,d,q1⟩=>?_)
 subst ex
 obtain rfl:u=Value.ref a:=rx
 obtain ⟨t1,t2,_⟩:=yi I1 d
 refine ⟨t1,t2,?_⟩
 rw [m.trees]
 refine afl rfl (Calls.evalArgs_plain (afo (cB (he pins s1 σ H1 _ I1 q1) fun iv s2 ⟨y,H2,I2,ry,kvs,k,v,ea,ey,l,q2⟩=>afR ?_)))
 subst ey
 exact Ut I2 ea ry l (.inl rfl) fun w' s3 I3 mL =>⟨v,_,I3,mL,q2⟩
end
section
variable {X:Cx}{pins:ζ}{σ:St}{H:Hp}{s:aep}{a:aef}{kvs:γ}{A:aeI}{E:δ}
end
section
variable {X:Cx}{pins:ζ}{σ:St}{H:Hp}{s:aep}{a:aef}{y:V}{u:Value}{A:aeI}{E:δ}
end
end L2
set_option maxHeartbeats 4000000
namespace Ty
open PySem PySem.Spec PyProof.Rows L2
section
variable {X:Cx}
theorem Nn {σ:L2.St}(I:Inv X pins σ H s):s.heap.NoSeer:=I.ok.mod.seer.keeps I.bk
theorem cx.py (r:cx k A)(h:32<=k):A.depth+Builtin.pylongFrames<agH:=by
 have:=r.dp
 have:Builtin.pylongFrames=100:=rfl
 omega
theorem f7 (ht:X.prog.given.tree=none)(hd:X.A.depth+Builtin.pylongFrames<agH)(MQ:X.stack=env::l)(h1:env.scope.isGenerator=false)(h2:env.scope.isCoroutine=false)(h3:env.builtins=agq)(h4:env.globals=aex):
  i7 X (ae9 .FloorDiv) (rI QX fun i j=>.int (i.fdiv j)):=by
 intro pins s σ H x y v u Q I rx ry h
 obtain ⟨i,j,rfl,rfl,hc,q⟩:=h
 obtain ⟨t,rfl⟩:=rx
 obtain ⟨t',rfl⟩:=ry
 exact floordiv_int hc ⟨.int _,H,I.tok _,⟨_,rfl⟩,q⟩ (.inr (PylongRoom.of I.nolimit hd (SeerAt.of (Nn I) ht (by rw [I.ok.frames,MQ]) h1 h2 h3 h4)))
end
section
variable {prog:aeB}{w:World}{A:aeI}{E:δ}{s:aep}{KK:Type}[DecidableEq KK]{knd:KeyKind prog w KK}
theorem CZ (hm:s.heap.DictOf knd d kvs)(h:Q false s):aen (aes prog w) A (Builtin.List.listLengthHint (.ref d)) Q E s:=by
 unfold Builtin.List.listLengthHint
 refine aeg (wpAny_specialOf (name:=aeY "__len__") hm.typeIs F.slot_dict_len.lookup ?_)
 generalize hid:("dict.__len__":String)=id0
 wp_delta
 rw [show splitId id0=some ("dict","__len__") from by subst hid;decide+kernel]
 subst hid
 refine aeg (wpAny_isInstance (T:="dict") (b:=true) hm.typeIs (by rw [isSubtype_type];kernel_rfl) ?_)
 refine wpAny_ite_split (fun hab=>aet hab (by decide)) (fun _=>?_)
 refine wpAny_ite_split (fun _=>?_) (fun hab=>aet (by decide+kernel) hab)
 refine aeg (afU (T:="dict") hm.typeIs ?_)
 exact aeo h
theorem wj {R:Μ}(hh:A.handled=none)(hd:(d==ae6)=false)(hm:s.heap.DictAt knd d kvs ep)(hlen:kvs.length<=ael)(S:aef)(res:Value)(c₀:Nat)(hS:s.heap.get? S=some {cls:=.type "list",data:=.seq #[] c₀})
  (hR:∀h' tk iU c',(∀b o,b≠S->s.heap.get? b=some o->h'.get? b=some o)->h'.get? S=some {cls:=.type "list",dict:=none,data:=.seq iU c',slots:= #[]}->
   ItemsOf (fun i v=>∃k x,kvs[i]?=some (k,x)/\knd.is k v=true) iU kvs.length->R (.ok (.ret res)) {s with heap:=h',toks:=tk}):
  aen (aes prog w) A.in1 (afq (.ref S) (.ref d) res)
   (fun fin s'=>match fin with | .done f=>R (.ok f) s' | .again c'=>c'.quiet=true/\afd (aes prog w) A c' R s') (fun e s'=>R (.error e) s') s:=by
 obtain ⟨od,es,SV,q_,jn,hk0,hp0,hn0⟩:=id hm
 have hT:s.TypeIs (.ref d) "dict":=hm.dictOf.typeIs
 have SW:S≠d:=fun e=>by
  rw [e] at hS
  rw [hS] at SV
  cases SV
  cases jn
 have hdI:d≠s.heap.objs.size:=aaM (aew SV)
 have hSI:S≠s.heap.objs.size:=aaM (aew hS)
 have hSf:S∉[s.heap.objs.size,d]:=fun hm=>by
  rcases aaL.mp hm with z|z
  ·exact hSI z
  ·exact SW (aao.mp z)
 have W:=(Walks.dictKeys (knd:=knd) (A:=A.in1) hh s.heap.objs.size d hdI kvs ep).toS
 unfold afq
 refine aeg (afU (T:="dict") hT ?_)
 have h1:Builtin.List.listSameRef (.ref S) (.ref d)=false:=by simp [Builtin.List.listSameRef,SW]
 have h2:(Value.type "dict"==Value.type "list")=false:=by decide
 have h3:(Value.type "dict"==Value.type "tuple")=false:=by decide
 simp only [h1,h2,h3,aj9,ac0,if_false]
 refine aeg (wpAny_pyIter_dict hd hm ?_)
 have Np:(s.heap.push {cls:=.type "dict_keyiterator",data:=.fields #[.ref d,.int 0 0,.int kvs.length 0,.int ep 0]}).DictAt knd d kvs ep:=hm.at' fun o e=>aeh _ e
 refine aeg (ae5 (CZ (knd:=knd) Np.dictOf ?_))
 have Uz:=aeh {cls:=.type "dict_keyiterator",data:=.fields #[.ref d,.int 0 0,.int kvs.length 0,.int ep 0]} hS
 have it₁:(s.heap.push {cls:=.type "dict_keyiterator",data:=.fields #[.ref d,.int 0 0,.int kvs.length 0,.int ep 0]}).IsKeyIter s.heap.objs.size d 0 kvs.length ep:=⟨_,aez _ rfl,rfl,rfl⟩
 have key:∀(h:Heap)(c₁ tk:Nat),h.IsKeyIter s.heap.objs.size d 0 kvs.length ep->h.DictAt knd d kvs ep->(∀b o,b≠S->s.heap.get? b=some o->h.get? b=some o)->
   h.get? S=some {cls:=.type "list",data:=.seq #[] c₁}->afd (aes prog w) A (.builtin "list.extend.loop" ⟨[.ref S,.ref s.heap.objs.size,res],[]⟩) R {s with heap:=h,toks:=tk}:=by
  intro h c₁ tk hit hdm hk Uz
  refine codeAny_extend_loopS W hlen S hSf res kvs.length 0 _ #[] c₁ rfl (aaS _) ⟨hit,hdm⟩ Uz (ItemsOf.nil _) fun s' iU c' hm' Nq rh=>?_
  rw [Moved.eq_with hm']
  refine hR s'.heap s'.toks iU c' (fun b o hb e=>hm'.heap b o (fun C_=>?_) (hk b o hb e)) Nq rh
  rcases aaL.mp C_ with e'|C_
  ·exact hb e'
  ·exact aet (aew e) (by rw [aao.mp C_];exact aa3 _)
 refine wpAny_ite_split (fun _=>?_) (fun _=>aeo ⟨af3 F.plain_extend_loop _,key _ c₀ _ it₁ Np (fun b o _ e=>aeh _ e) Uz⟩)
 refine aeg (wpAny_rule ?_)
 refine aeg ?_
 show aen _ _ (updateSeq S (·.push .none) >>=fun _=>updateSeq S (·.pop)) _ _ _
 refine aeg (agB Uz rfl ?_)
 have hS₂:=afV (afy (·.push Value.none)) Uz rfl
 refine agB (hz:=by seq_fits) hS₂ rfl ?_
 have hS₃:=afV (afy (·.pop)) hS₂ rfl
 refine aeo ⟨af3 F.plain_extend_loop _,key _ _ _ (it₁.at fun o e=>?_) (Np.at' fun o e=>?_) (fun b o hb e=>?_) hS₃⟩
 ·exact (aeX _ _ hSI).trans ((aeX _ _ hSI).trans e)
 ·exact (aeX _ _ SW).trans ((aeX _ _ SW).trans e)
 ·exact (aeX _ _ (aaD hb)).trans ((aeX _ _ (aaD hb)).trans (aeh _ e))
theorem pG {R:Μ}(hh:A.handled=none)(hd:(d==ae6)=false)(hm:s.heap.DictAt knd d kvs ep)(hlen:kvs.length<=ael)(S:aef)(hS:s.heap.get? S=some {cls:=.type "list",data:=.seq #[]})
  (hR:∀h' tk iU c',(∀b o,b≠S->s.heap.get? b=some o->h'.get? b=some o)->h'.get? S=some {cls:=.type "list",dict:=none,data:=.seq iU c',slots:= #[]}->
   ItemsOf (fun i v=>∃k x,kvs[i]?=some (k,x)/\knd.is k v=true) iU kvs.length->R (.ok (.ret .none)) {s with heap:=h',toks:=tk}):
  aen (aes prog w) A.in1 (Builtin.«list.__init__» ⟨[.ref S,.ref d],[]⟩)
   (fun fin s'=>match fin with | .done f=>R (.ok f) s' | .again c'=>c'.quiet=true/\afd (aes prog w) A c' R s') (fun e s'=>R (.error e) s') s:=by
 obtain ⟨od,es,SV,q_,jn,hk0,hp0,hn0⟩:=id hm
 have SW:S≠d:=fun e=>by
  rw [e] at hS
  rw [hS] at SV
  cases SV
  cases jn
 show aen _ _ (do let old <- Builtin.List.listItems (.ref S);Builtin.List.listUpdate (.ref S) (fun _=> #[]);letGo old.toList.reverse;afq (.ref S) (.ref d) .none) _ _ s
 refine aeg ?_
 unfold Builtin.List.listItems
 refine aeg (age hS rfl (aeo ?_))
 show aen _ _ (updateSeq S (fun _=> #[]) >>=fun _=>letGo (#[]:Array Value).toList.reverse >>=fun _=>afq (.ref S) (.ref d) .none) _ _ s
 refine aeg (agB hS rfl ?_)
 have hS₂:=afV (afy (fun _=>(#[]:Array Value))) hS rfl
 have oth:∀b o,b≠S->s.heap.get? b=some o->(s.heap.update S (afy (fun _=>(#[]:Array Value)))).get? b=some o:=
  fun b o hb e=>(aeX _ _ (aaD hb)).trans e
 refine aeg (wpAny_letGo ?_)
 refine wj hh hd (hm.at' fun o e=>oth d o (aaD SW) e) hlen S .none _ hS₂ fun h' tk iU c' hk Nq rh=>?_
 exact hR h' tk iU c' (fun b o hb e=>hk b o hb (oth b o hb e)) Nq rh
theorem pH {Q:δ}(hh:A.handled=none)(hd:(d==ae6)=false)(hm:s.heap.DictAt knd d kvs ep)(hlen:kvs.length<=ael)
  (hQ:∀h' tk iU c',(∀b o,s.heap.get? b=some o->h'.get? b=some o)->
   h'.get? s.heap.objs.size=some {cls:=.type "list",dict:=none,data:=.seq iU c',slots:= #[]}->ItemsOf (fun i v=>∃k x,kvs[i]?=some (k,x)/\knd.is k v=true) iU kvs.length->Q (.ref s.heap.objs.size) {s with heap:=h',toks:=tk}):
  aen (aes prog w) A (call (.type "list") [.ref d]) Q E s:=by
 refine callType_codes (Q₁:=fun obj s₁=>obj=.ref s.heap.objs.size/\s₁={s with heap:=s.heap.push {cls:=.type "list",data:=.seq #[]}}) F.called_list (F.typeCall_list_1 _) F.entry_list_init
  (code_list_new _ ⟨rfl,rfl⟩) fun obj s₁ h₁=>?_
 obtain ⟨rfl,rfl⟩:=h₁
 have hS:(s.heap.push {cls:=.type "list",data:=.seq #[]}).get? s.heap.objs.size=some {cls:=.type "list",data:=.seq #[]}:=aez _ rfl
 refine ⟨⟨_,hS,rfl⟩,F.args_list_init_2 _ _,pG (A:=A.in1) hh hd (hm.at' fun o e=>aeh _ e) hlen _ hS fun h' tk iU c' hk Nq rh=>?_⟩
 exact ⟨rfl,hQ h' tk iU c' (fun b o e=>hk b o (aaM (aew e)) (aeh _ e)) Nq rh⟩
end
theorem aw :∀{l₁:List α} {l₂:List β} {i:Nat} {a:α},Paired F l₁ l₂->l₁[i]?=some a->∃b,l₂[i]?=some b/\F a b
 | _,_,_,_,.nil,h=>by simp at h
 | _,_,0,_,.cons r _,h=>by
  cases h
  exact ⟨_,rfl,r⟩
 | _,_,i+1,_,.cons _ t,h=>by
  obtain ⟨b,e,f⟩:=aw (i:=i) t (by simpa using h)
  exact ⟨b,by simpa using e,f⟩
theorem cF :∀{l₁:List α} {l₂:List β},l₁.length=l₂.length->(∀(i:Nat)(a:α)(b:β),l₁[i]?=some a->l₂[i]?=some b->F a b)->Paired F l₁ l₂
 | [],[],_,_=>.nil
 | a::l₁,b::l₂,h,f=>.cons (f 0 a b rfl rfl) (cF (by simpa using h) fun i a b e1 e2=>f (i+1) a b (by simpa using e1) (by simpa using e2))
 | [],_::_,h,_=>by simp at h
 | _::_,[],h,_=>by simp at h
theorem oa (h:(bF P w).is k u=true):RelV (kV k) u:=by
 rcases cw h with ⟨i,t,rfl,rfl⟩|⟨x,t,rfl,rfl⟩
 ·exact ⟨t,rfl⟩
 ·exact ⟨t,rfl⟩
section
variable {X:Cx}
inductive JN (xs:ε)(H:Hp)(Q:VK):Prop
|mk (p:aef)(kvs:γ)(_:xs=[.ref p])(_:Rd H p (.dK kvs))(_:∀l,H l=none->Q (.ref l) (upd H l (.lst (kvs.map fun kv=>kV kv.1))))
theorem e_ (hc:X.calm=true):ft X (.type "list") JN:=by
 intro pins s σ H xs us Q I r h
 obtain ⟨p,kvs,rfl,hq,q⟩:=h
 obtain ⟨u,rfl,r1⟩:=vals1 r
 cases r1
 obtain ⟨z,hd,vs,rel,o,es,ep,ho,hx,jn,hk,hp,hn⟩:=jx I.bO hq
 have hl:=rel.length
 refine pH (knd:=bF X.prog X.w) (I.ok.hd hc) hd ⟨o,es,ho,hx,jn,hk,hp,hn⟩ (by omega) fun h' tk iU c' kk hS rh=>?_
 have Tu :=I.bO.fresh (aal s.heap.objs.size)
 have rv:Vals (kvs.map fun kv=>kV kv.1) iU.toList:=cF (by have:=rh.1;simp;omega) fun i a b e1 e2=>by
  rw [aag] at e1
  obtain ⟨kv,ek,rfl⟩:=aaw.mp e1
  obtain ⟨q',eq,e3,_⟩:=aw rel ek
  obtain ⟨k,x,e4,e5⟩:=rh.2 i b (by simpa using e2)
  rw [eq] at e4
  cases e4
  rw [e3]
  exact oa e5
 have I2:Inv X pins σ (upd H s.heap.objs.size (.lst (kvs.map fun kv=>kV kv.1))) {s with heap:=h',toks:=tk}:=I.laid (t':=tk) kk (aal _) ⟨by rw [aah];exact z,iU.toList,c',rv,by simpa using hS⟩
 exact ⟨.ref _,_,I2,rfl,q _ Tu⟩
theorem Inv.freeze {σ:L2.St}(I:Inv X pins σ H s)(e:H d=some (.dK kvs))(ho:s.heap.get? d=some o):Inv X pins σ (upd H d (.gi o (.dK kvs))) s:=by
 have nx:∀b u,H b=some u->b≠d->upd H d (.gi o (.dK kvs)) b=some u:=fun b u q n=>by rw [ao n];exact q
 refine I.step (g':=s.gens) (t':=s.toks) (d':=s.drawn) (ch:=[]) (fun _ z=>nomatch z) (fun b o _ _ _ e _=>e) (fun b o _ _ _ e _=>⟨o.slots,e⟩) (fun b o _ _ n=>by rw [ao (fun z=>by rw [z,e] at n;cases n)];exact n) (fun b o _ e=>⟨o,e⟩)
  (fun b xs q=>nx b _ q fun z=>by rw [z,e] at q;cases q) (fun b o' u q=>nx b _ q fun z=>by rw [z,e] at q;cases q) (fun b ps q=>⟨#[],by rw [nx b _ q fun z=>by rw [z,e] at q;cases q];simp⟩) (fun m hm=>hm) (fun b u q=>?_) I.bare
 by_cases hb:b=d
 ·subst hb
  rw [ak] at q
  cases q
  exact ⟨ho,I.bO b _ e⟩
 ·rw [ao hb] at q
  exact (I.bO b u q).qZ (fun _ _ _ k=>k) (fun c k=>nx c _ k fun z=>by rw [z,e] at k;cases k) fun c xs k=>nx c _ k fun z=>by rw [z,e] at k;cases k
def UA (d:aef)(o:Obj)(kvs:γ):It:=
 ⟨fun i H=>H d=some (.gi o (.dK kvs))/\i<kvs.length,
  fun i H v H'=>∃p k x,kvs[i]?=some (k,x)/\v=.ref p/\H p=none/\H'=upd H p (.tup [kV k,x]),
  fun i H=>H d=some (.gi o (.dK kvs))/\kvs.length<=i⟩
theorem uq (ok:ju P w H h)(e:H d=some (.gi o (.dK kvs)))(he:o.data=.dict SX ep):
  (d==ae6)=false/\∃vs,KV kvs vs/\h.DictAt (bF P w) d vs ep/\kvs.length<=ael:=by
 obtain ⟨h1,z,hd,vs,rel,o',es,rX,ho,hx,jn,hk,hp,hn⟩:=ok d _ e
 rw [h1] at ho
 cases ho
 rw [he] at jn
 cases jn
 exact ⟨hd,vs,rel,⟨o,SX,h1,hx,he,hk,hp,hn⟩,z⟩
theorem lZ:entryFor table "dict_itemiterator.__iter__"=some Builtin.«dict_keyiterator.__iter__»:=
 entryFor_alias (id':="dict_keyiterator.__iter__") (by kernel_rfl) (by first|rfl|decide+kernel|(unfold String.splitOn;simp+decide [String.splitOnAux])) (by decide+kernel) (by kernel_rfl)
theorem yj {E:δ}{Q:δ}(st:IsItemIter s.heap it d i n ep ok ov)(h:Q (.ref it) s):aen (aes P w) A (pyIter (.ref it)) Q E s:=by
 have hT:s.TypeIs (.ref it) "dict_itemiterator":=⟨_,st,rfl⟩
 refine wpAny_pyIter_slot hT F.slot_dict_itemiterator_iter (agn F.slot_dict_itemiterator_iter hT lZ ?_ (F.args_dict_itemiterator_iter_1 _))
 show aen _ _ (ret (.ref it)) _ _ s
 exact aeo ⟨_,rfl,"dict_itemiterator",_,hT,F.slot_dict_itemiterator_next.lookup,h⟩
theorem yk {K:Frag}{es:Δ}(d it:aef)(o:Obj)(kvs:γ)(he:o.data=.dict SX ep)(zX:it≠d):
  Turn P w K (.Tuple es k pos) (UA d o kvs) [it] it (fun i h=>∃ok ov,IsItemIter h it d i kvs.length ep ok ov) where
 mem:=by simp
 obj:=fun i h st b hb=>by
  have e:b=it:=by simpa using hb
  subst e
  obtain ⟨ok,ov,st⟩:=st
  exact ⟨_,st,fun v z=>by cases z⟩
 keep:=fun i h h' st k=>by
  obtain ⟨ok,ov,st⟩:=st
  exact ⟨ok,ov,k it (by simp) _ st⟩
 item:=by
  intro X hP hw hK hc i pins s σ H E I hf st hg
  subst hP hw hK
  obtain ⟨ok,ov,st⟩:=st
  obtain ⟨fz,hi⟩:=hg
  obtain ⟨hd,vs,rel,da,_⟩:=uq I.bO fz he
  have ek:kvs[i]?=some kvs[i]:=gE hi
  obtain ⟨⟨k',u⟩,ev,e1,ru⟩:=aw rel ek
  have lv:=rel.length
  rw [lv] at st
  refine wpAny_pyNext_items_item st da ev fun key h' HY out tup sz kk=>?_
  refine ⟨_,rfl,wpAny_letOwnedTupleGo_items (s:={s with heap:=h'}) out fun GX ab0 sb=>?_⟩
  have hsz:∀c o,s.heap.get? c=some o->s.heap.objs.size≠c:=fun c o e=>acz (aew e)
  have tz:s.heap.objs.size≠it:=hsz _ _ st
  have nz:∀c,c≠it->∀o,h'.get? c=some o->GX.get? c=some o:=fun c hc o e=>(sb.2 c hc).trans e
  have hn:=I.bO.fresh (aal s.heap.objs.size)
  have CP :kvs[i].1=k':=e1
  have I2:Inv X pins σ (upd H s.heap.objs.size (.tup [kV kvs[i].1,kvs[i].2])) {s with heap:=GX,toks:=s.toks}:=
   Inv.uh I (fun b o hb e=>nz b (by simpa using hb) o (kk b o (by simpa using hb) e)) hf (aal _) (by show 2<=ael;decide) (its:=[key,u]) (.cons (by rw [CP];exact oa HY) (.cons ru .nil)) ⟨_,nz _ tz _ tup,rfl,_,rfl⟩
  refine ⟨.ref s.heap.objs.size,_,I2,rfl,⟨s.heap.objs.size,kvs[i].1,kvs[i].2,ek,rfl,hn,rfl⟩,⟨_,_,by rw [lv];exact ab0⟩,fun b hb=>?_⟩
  have eb:b=it:=by simpa using hb
  rw [ao (by rw [eb];exact aaD tz)]
  exact (hf b hb).1
 done:=by
  intro X hP hw hK hc i pins s σ H E I hf st hg
  subst hP hw hK
  obtain ⟨ok,ov,st⟩:=st
  obtain ⟨fz,hi⟩:=hg
  obtain ⟨hd,vs,rel,da,_⟩:=uq I.bO fz he
  have lv:=rel.length
  rw [lv] at st
  obtain ⟨f0,f1,f2,f3,f4,f5⟩:=hf it (by simp)
  exact wpAny_pyNext_items_end (I.ok.hd hc) st da (aam (by omega)) fun h' eb=>⟨rfl,I.turned (t':=s.toks) (fun b o hb e=>eb b o hb e) f0 f1 f3 f4 f5⟩
 self:=fun _ _ _ _ _ st h=>by
  obtain ⟨ok,ov,st⟩:=st
  exact yj st h
inductive z5 (R:(It->Hp->Prop))(x:V)(H1:Hp):Prop
|mk (d kvs:_)(_:x=.ref d)(_:H1 d=some (.dK kvs))(_:∀o,R (UA d o kvs) (upd H1 d (.gi o (.dK kvs))))
def Ri (te:TE):TI:=fun σ H R=>te σ H fun x H1=>z5 R x H1
theorem kA {apos dG:Pos}{es:Δ}{k:Nat}{xZ:Pos}(ho:PE X e te)(vP:afM e "items" X.env (aeM e X.env)=aeM e X.env:=by rfl)(vQ:(apos.endLine==dG.line)=true:=by rfl):
  PI X (.Tuple es k xZ) (.Call (.Attribute e "items" apos) [] [] dG) (Ri te):=by
 intro pins s σ H R I h
 refine wpAny_Call_method0_late vP vQ (cB (ho pins s σ H _ I h) fun v s1 ⟨x,H1,I1,r1,q1⟩=>?_)
 obtain ⟨d,kvs,rfl,e,q⟩:=q1
 cases r1
 obtain ⟨z,hd,vs,rel,o,UB,ep,Md,hx,jn,hk,hp,hn⟩:=ku I1.bO e
 obtain ⟨h1,h2⟩:=IM (T:="dict") I1 (show RelV (.ref d) (.ref d) from rfl) (.inr (.inr (.inl ⟨rfl,.inl ⟨kvs,e⟩⟩)))
 have da:s1.heap.DictAt (bF X.prog X.w) d vs ep:=⟨o,UB,Md,hx,jn,hk,hp,hn⟩
 have lv:=rel.length
 refine ⟨"dict","dict.items",F.plainAttrs_dict,agh,F.type_dict_items,h1,h2,afl rfl (PySem.evalArgs_none ?_)⟩
 refine agz agh h1 F.entry_dict_items (F.args_dict_items_1 _) (meets_dict_items (bF X.prog X.w) d hd) ⟨⟨vs,da.dictOf⟩,?_⟩
 have I2:=Inv.freeze I1 e Md
 have da2:(s1.heap.push {cls:=.type "dict_items",data:=.fields #[.ref d]}).DictAt (bF X.prog X.w) d vs ep:=da.at' fun o e=>aeh _ e
 show aen (aes X.prog X.w) X.A (pyIter (.ref s1.heap.objs.size)) _ _ _
 refine wpAny_pyIter_items (s:={s1 with heap:=s1.heap.push {cls:=.type "dict_items",data:=.fields #[.ref d]}}) ⟨_,aez _ rfl,rfl,rfl⟩ da2 ?_
 have sz:(s1.heap.push {cls:=.type "dict_items",data:=.fields #[.ref d]}).objs.size=s1.heap.objs.size+1:=afC ..
 have ne:(s1.heap.push {cls:=.type "dict_items",data:=.fields #[.ref d]}).objs.size≠d:=by
  rw [sz]
  exact aaD (aaM (acO (aew Md)))
 have I3:Inv X pins σ (upd H1 d (.gi o (.dK kvs))) {s1 with heap:=(s1.heap.push {cls:=.type "dict_items",data:=.fields #[.ref d]}).push {cls:=.type "dict_itemiterator",data:=.fields #[.none,.bool false,.ref d,.int 0 0,.int vs.length 0,.int ep 0,.none,.none]}}:=I2.kept (t':=s1.toks) fun b o e=>aeh _ (aeh _ e)
 refine ⟨_,[_],_,_,_,rfl,I3,yk d _ o kvs jn ne,⟨_,_,by rw [lv];exact aez _ rfl⟩,fun b hb=>?_,q o⟩
 have eb:b=(s1.heap.push {cls:=.type "dict_items",data:=.fields #[.ref d]}).objs.size:=by simpa using hb
 have le:s1.heap.objs.size<=b:=by rw [eb,sz];exact ajZ _
 exact I2.lH le (I2.bO.fresh le)
end
end Ty
set_option maxHeartbeats 4000000
namespace Ty
def ev:List Int->(Nat->Rat)->Rat
 | [],_=>0
 | a::r,z=>(a:Rat)*z 0+ev r (fun i=>z (i+1))
theorem JO:∀(l:ξ)(z y:Nat->Rat),ev l (fun i=>z i+y i)=ev l z+ev l y
 | [],_,_=>by simp [ev];grind
 | a::r,z,y=>by
  simp only [ev]
  rw [JO r (fun i=>z (i+1)) (fun i=>y (i+1))]
  grind
theorem ur:∀(l:ξ)(z:Nat->Rat),(∀j,((l.getD j 0:Int):Rat)*z j=0)->ev l z=0
 | [],_,_=>rfl
 | a::r,z,h=>by
  have h0:=h 0
  have ih:=ur r (fun i=>z (i+1)) (fun j=>by simpa using h (j+1))
  simp only [ev]
  rw [ih]
  simp at h0
  grind
theorem uu:∀(l:ξ)(z:Nat->Rat)(p:Nat),(∀j,j≠p->((l.getD j 0:Int):Rat)*z j=0)->ev l z=((l.getD p 0:Int):Rat)*z p
 | [],_,_,_=>by simp [ev]
 | a::r,z,0,h=>by
  have ih:=ur r (fun i=>z (i+1)) (fun j=>by simpa using h (j+1) (by omega))
  simp only [ev]
  rw [ih]
  simp
  grind
 | a::r,z,p+1,h=>by
  have h0:=h 0 (by omega)
  have ih:=uu r (fun i=>z (i+1)) p (fun j hj=>by simpa using h (j+1) (by omega))
  simp only [ev]
  rw [ih]
  simp at h0
  simp
  grind
theorem JP :∀{new line lead:ξ},new.length=line.length->lead.length=line.length->(∀j,s*new.getD j 0=t*line.getD j 0-u*lead.getD j 0)->∀z:Nat->Rat,(s:Rat)*ev new z=t*ev line z-u*ev lead z
 | [],[],[],_,_,_,z=>by simp [ev];grind
 | a::new,b::line,c::lead,h1,h2,h,z=>by
  have h0:=h 0
  have ih:=JP (by simpa using h1) (by simpa using h2) (fun j=>by simpa using h (j+1)) (fun i=>z (i+1))
  simp at h0
  have h0':(s:Rat)*a=t*b-u*c:=by exact_mod_cast h0
  simp only [ev]
  grind
 | [],_::_,_,h,_,_,_=>by simp at h
 | _::_,[],_,h,_,_,_=>by simp at h
 | _,[],_::_,_,h,_,_=>by simp at h
 | _,_::_,[],_,h,_,_=>by simp at h
def d6:List Rat->List (List Int)->Nat->Rat
 | c::y,o::os,j=>c*((o.getD j 0:Int):Rat)+d6 y os j
 | _,_,_=>0
theorem wm (hs:s≠0)(j:Nat):∀(os:η)(y1 y2:Τ),y1.length=os.length->y2.length=os.length->s*d6 (aa5 (fun a b=>(t*a-u*b) / s) y1 y2) os j=t*d6 y1 os j-u*d6 y2 os j
 | [],[],[],_,_=>by simp [d6];grind
 | o::os,a::y1,b::y2,h1,h2=>by
  have ih:=wm (t:=t) (u:=u) hs j os y1 y2 (by simpa using h1) (by simpa using h2)
  simp only [ajU,d6]
  grind
 | [],_::_,_,h,_=>by simp at h
 | [],[],_::_,_,h=>by simp at h
 | _::_,[],_,h,_=>by simp at h
 | _::_,_::_,[],_,h=>by simp at h
theorem sL (j:Nat):∀(os:η),d6 (aaF os.length 0) os j=0
 | []=>rfl
 | o::os=>by
  simp only [aaQ,ab8,d6]
  rw [sL j os]
  grind
def l_ (os:η)(l:ξ):Prop:=∃y:List Rat,y.length=os.length/\∀j,((l.getD j 0:Int):Rat)=d6 y os j
theorem wo:∀{os:η} {l:ξ},l∈os->l_ os l
 | o::os,l,h=>by
  rcases aaL.mp h with z|z
  ·subst z
   refine ⟨1::aaF os.length 0,by simp,fun j=>?_⟩
   simp only [d6]
   rw [sL]
   grind
  ·obtain ⟨y,hl,hy⟩:=wo z
   refine ⟨0::y,by simp [hl],fun j=>?_⟩
   simp only [d6]
   rw [<-hy j]
   grind
theorem JQ (hs:s≠0)(h:∀j,s*new.getD j 0=t*line.getD j 0-u*lead.getD j 0)(h1:l_ os line)(h2:l_ os lead):l_ os new:=by
 obtain ⟨y1,l1,e1⟩:=h1
 obtain ⟨y2,l2,e2⟩:=h2
 have Pf :=cR hs
 refine ⟨aa5 (fun a b=>((t:Rat)*a-u*b) / s) y1 y2,by simp [l1,l2],fun j=>?_⟩
 have k:=wm (t:=(t:Rat)) (u:=(u:Rat)) Pf j os y1 y2 l1 l2
 rw [<-e1 j,<-e2 j] at k
 have h':(s:Rat)*(new.getD j 0:Int)=t*(line.getD j 0:Int)-u*(lead.getD j 0:Int):=by exact_mod_cast h j
 rw [<-h'] at k
 grind
def mS (y:Τ):Nat->Rat:=fun i=>if i<y.length then y.getD i 0 else -1
theorem ym (j:Nat)(c:Int):∀(os:η)(y:Τ),y.length=os.length->ev (os.map (fun o=>o.getD j 0)++[c]) (mS y)=d6 y os j-c
 | [],[],_=>by simp [ev,mS,d6];grind
 | o::os,a::y,h=>by
  have ih:=ym j c os y (by simpa using h)
  have ez:(fun i=>mS (a::y) (i+1))=mS y:=by
   funext i
   simp [mS]
  simp only [aaj,acR,ev,d6]
  rw [ez,ih]
  simp [mS]
  grind
 | [],_::_,h=>by simp at h
 | _::_,[],h=>by simp at h
theorem pJ (k:Rat)(j:Nat):∀(os:η)(y:Τ),d6 (y.map (fun a=>a*k)) os j=d6 y os j*k
 | [],_=>by cases ‹List Rat› <;> simp [d6]<;>grind
 | _::_,[]=>by simp [d6]
 | o::os,a::y=>by
  simp only [aaj,d6]
  rw [pJ k j os y]
  grind
structure qW (line lead new:ξ)(c:Nat):Prop where
 len:new.length=line.length
 JR:new.getD c 0=0
 Me:∃s t u:Int,s≠0/\t≠0/\∀j,s*new.getD j 0=t*line.getD j 0-u*lead.getD j 0
theorem qW.zero (h:qW line lead new c)(h1:line.getD j 0=0)(h2:lead.getD j 0=0):new.getD j 0=0:=by
 obtain ⟨s,t,u,hs,_,e⟩:=h.Me
 have:=e j
 rw [h1,h2,adi,adi,Int.sub_self] at this
 rcases ajX.mp this with z|z
 ·exact aet z hs
 ·exact z
theorem qW.at (h:qW line lead new c)(h2:lead.getD j 0=0)(h1:line.getD j 0≠0):new.getD j 0≠0:=by
 obtain ⟨s,t,u,hs,ht,e⟩:=h.Me
 have:=e j
 rw [h2] at this
 intro z
 rw [z,adi,adi,Int.sub_zero] at this
 rcases ajX.mp this.symm with y|y
 ·exact ht y
 ·exact h1 y
theorem qW.comb (h:qW line lead new c)(h1:l_ os line)(h2:l_ os lead):l_ os new:=by
 obtain ⟨s,t,u,hs,ht,e⟩:=h.Me
 exact JQ hs e h1 h2
theorem qW.ev (h:qW line lead new c)(hl:lead.length=line.length)(h2:Ty.ev lead z=0):Ty.ev new z=0 ↔ Ty.ev line z=0:=by
 obtain ⟨s,t,u,hs,ht,e⟩:=h.Me
 have k:=JP h.len hl e z
 rw [h2] at k
 have Pf :=cR hs
 have ht':=cR ht
 constructor
 ·intro w
  rw [w] at k
  grind
 ·intro w
  rw [w] at k
  grind
end Ty
set_option maxHeartbeats 4000000
namespace Ty
open PySem PySem.Spec PyProof.Rows L2
def UC (K:Frag)(a:aef):It:=
 ⟨fun i H=>∃xs x,aV K H a xs/\xs[i]?=some x,
  fun i H v H'=>∃p x,(∀xs,aV K H a xs->xs[i]?=some x)/\v=.ref p/\H p=none/\H'=upd H p (.tup [.int (i:Int),x]),
  fun i H=>∃xs,aV K H a xs/\xs.length<=i⟩
theorem C' {K:Frag}{es:Δ}(a e it:aef)(zX:e≠it):
  Turn P w K (.Tuple es k pos) (UC K a) [e,it] e (fun i h=>(∃old,IsEnum h e it ((i:Nat):Int) old)/\h.IsListIter it a i) where
 mem:=by simp
 obj:=fun i h st c hc=>by
  obtain ⟨⟨old,he⟩,⟨o1,e1,c1,d1⟩⟩:=st
  have rZ :c=e\/c=it:=by simpa using hc
  rcases rZ with z|z<;>subst z
  ·exact ⟨_,he,fun v z=>by cases z⟩
  ·exact ⟨_,e1,fun v z=>by rw [d1] at z;cases z⟩
 keep:=fun i h h' st k=>by
  obtain ⟨⟨old,he⟩,h1⟩:=st
  exact ⟨⟨old,k e (by simp) _ he⟩,h1.at fun o e=>k it (by simp) o e⟩
 item:=by
  intro X hP hw hK hc i pins s σ H E I hf st hg
  subst hP hw hK
  obtain ⟨⟨old,he⟩,h1⟩:=st
  obtain ⟨xs,x,qx,ex⟩:=hg
  obtain ⟨its,rv,p,_⟩:=I.list qx
  obtain ⟨u,hu,ru⟩:=rv.get ex
  refine wpAny_pyNext_enum_item he h1 p.isList (x:=u) (by simpa using hu) zX fun h' a1 a2 a3 a4 a5=>?_
  refine ⟨_,rfl,wpAny_letOwnedTupleGo_enum (s:={s with heap:=h',toks:=s.toks+1}) a1 fun GX b1 sb=>?_⟩
  have nz:∀c,c≠e->∀o,h'.get? c=some o->GX.get? c=some o:=fun c hc o q=>(sb.2 c hc).trans q
  have kk:∀b o,b∉[e,it]->s.heap.get? b=some o->GX.get? b=some o:=fun b o hb q=>by
   have iH :b≠e/\b≠it:=by simpa using hb
   exact nz b iH.1 o (a5 b o iH.1 iH.2 q)
  have sz:∀c o,s.heap.get? c=some o->s.heap.objs.size≠c:=fun c o q=>acz (aew q)
  have tz:s.heap.objs.size≠e:=sz _ _ he
  have hn:=I.bO.fresh (aal s.heap.objs.size)
  have I2:Inv X pins σ (upd H s.heap.objs.size (.tup [.int (i:Int),x])) {s with heap:=GX,toks:=s.toks+1}:=
   Inv.uh I kk hf (aal _) (by show 2<=ael;decide) (its:=[.int i s.toks,u]) (.cons ⟨_,rfl⟩ (.cons ru .nil)) ⟨_,nz _ tz _ a3,rfl,_,rfl⟩
  refine ⟨.ref s.heap.objs.size,_,I2,rfl,⟨s.heap.objs.size,x,fun xs' q=>by rw [I.iJ q qx];exact ex,rfl,hn,rfl⟩,⟨⟨_,by exact b1⟩,a2.at fun o q=>nz _ (aaD zX) o q⟩,fun b hb=>?_⟩
  have ob:∃o,s.heap.get? b=some o:=by
   obtain ⟨o1,e1,_⟩:=h1
   have rZ :b=e\/b=it:=by simpa using hb
   rcases rZ with z|z<;>subst z
   ·exact ⟨_,he⟩
   ·exact ⟨_,e1⟩
  obtain ⟨o,q⟩:=ob
  rw [ao (aaD (sz _ _ q))]
  exact (hf b hb).1
 done:=by
  intro X hP hw hK hc i pins s σ H E I hf st hg
  subst hP hw hK
  obtain ⟨⟨old,he⟩,h1⟩:=st
  obtain ⟨xs,qx,ee⟩:=hg
  obtain ⟨its,rv,p,_⟩:=I.list qx
  have l1:=rv.length
  refine wpAny_pyNext_enum_end (I.ok.hd hc) he h1 p.isList (by simp;omega) fun h' kk=>⟨rfl,Inv.i8 I (fun b o hb q=>?_) hf⟩
  have iH :b≠e/\b≠it:=by simpa using hb
  exact kk b o iH.2 q
 self:=fun _ _ _ _ _ st h=>by
  obtain ⟨⟨old,he⟩,_⟩:=st
  exact wpAny_pyIter_enum he h
theorem boot_enumerate:aeL "enumerate"=some (.type "enumerate"):=by decide+kernel
section
variable {X:Cx}
inductive JS (K:Frag)(R:(It->Hp->Prop))(vs:ε)(H1:Hp):Prop
|mk (a:_)(_:vs=[.ref a])(_:(∃xs,aV K H1 a xs))(_:R (UC K a) H1)
def UD (K:Frag)(ta:TA):TI:=fun σ H R=>ta σ H fun vs H1=>JS K R vs H1
theorem z6 {es:Δ}(hg:Gl X "enumerate")(hm:X.mg "enumerate"=none)(ha:PA X [e1] ta)(hs:aeA [e1] X.env=[(false,aeM e1 X.env)]:=by rfl):
  PI X (.Tuple es k xZ) (.Call (.Name "enumerate" p) [e1] [] pos) (UD X.K ta):=by
 intro pins s σ H R I h
 refine Call_ (gS I hg hm boot_enumerate (aeZ (cB (ha pos pins s σ H _ I h) fun us s1 ⟨vs,H1,I1,r1,q1⟩=>?_) hs rfl))
 obtain ⟨a,e,⟨xs,hx⟩,q⟩:=q1
 subst e
 cases r1 with
 | cons r rr=>
  cases rr
  cases r
  obtain ⟨its,rv,pl,_⟩:=I1.list hx
  refine call_enumerate_list pl.isList fun h' hE hI hsz hk=>wpAny_pyIter_enum (s:={s1 with heap:=h'}) hE ?_
  refine ⟨s1.heap.objs.size+1,[s1.heap.objs.size+1,s1.heap.objs.size],_,_,H1,rfl,I1.kept (t':=s1.toks) hk,C' a _ _ (Nat.succ_ne_self _),⟨⟨_,hE⟩,hI⟩,fun c hc=>?_,q⟩
  have rZ :s1.heap.objs.size<=c:=by
   have:c=s1.heap.objs.size+1\/c=s1.heap.objs.size:=by simpa using hc
   simp only [aef] at*
   omega
  exact I1.lH rZ (I1.bO.fresh rZ)
theorem any_range (bs:List Bool):(abb bs.length).any (fun i=>(bs[i]?).getD true)=bs.any id:=by
 rw [ab7,acw,acw]
 constructor
 ·rintro ⟨i,hi,h⟩
  have UE :i<bs.length:=ab_.mp hi
  rw [gE UE] at h
  exact ⟨bs[i],abX UE,h⟩
 ·rintro ⟨b,hb,h⟩
  obtain ⟨i,hi⟩:=aaq hb
  exact ⟨i,ab_.mpr (ir.mp hi).1,by rw [hi];exact h⟩
inductive Rj (K:Frag)(xs:ε)(H:Hp)(Q:VK):Prop
|mk (p:aef)(bs:List Bool)(_:xs=[.ref p])(_:aV K H p (bs.map V.bl))(_:Q (.bl (bs.any id)) H)
theorem sM (hc:X.calm=true):ft X (.builtin "any") (Rj X.K):=by
 intro pins s σ H xs us Q I r h
 obtain ⟨p,bs,rfl,hq,q⟩:=h
 obtain ⟨u,rfl,r1⟩:=vals1 r
 cases r1
 obtain ⟨its,rv,pl,hz⟩:=I.list hq
 refine call_any_walk (agf pl.isList ?_)
 have zX:p≠s.heap.objs.size:=by obtain ⟨o,ho,_⟩:=pl.isList;exact aaM (aew ho)
 have I1:Inv X pins σ H {s with heap:=s.heap.push {cls:=.type "list_iterator",data:=.fields #[.ref p,.int 0 0]}}:=I.kept (t':=s.toks) fun b o e=>aeh _ e
 obtain ⟨f0,f1,f2,f3,f4,f5⟩:=I.lH (H':=H) (aal s.heap.objs.size) (I.bO.fresh (aal _))
 have hl:its.length=bs.length:=by rw [<-rv.length,aah]
 refine ⟨s.heap.objs.size,_,_,_,_,_,fun i=>(bs[i]?).getD true,rfl,Walks.list (A:=X.A.in1) (I.ok.hd hc) s.heap.objs.size p zX its.toArray,⟨⟨_,aez _ rfl,rfl,rfl⟩,pl.isList.at fun o e=>aeh _ e⟩,?_,fun h' tk kk=>?_⟩
 ·intro i v s' Q' E' hv nq
  have QI :its[i]?=some v:=by simpa using hv
  have hi:i<bs.length:=by rw [<-hl];exact (ir.mp QI).1
  have eb:(bs.map V.bl)[i]?=some (.bl bs[i]):=by rw [aag,gE hi];rfl
  obtain ⟨u,eu,ru⟩:=rv.get eb
  rw [QI] at eu
  cases eu
  cases ru
  dsimp only at nq
  rw [gE hi] at nq
  exact afu nq
 ·refine ⟨.bl (bs.any id),H,I1.turned (t':=tk) (it:=s.heap.objs.size) (fun b o hb e=>kk b o (by simpa using hb) e) f0 f1 f3 f4 f5,?_,q⟩
  show _=_
  rw [<-any_range bs,aaz,hl]
theorem Pm:aeL "any"=some (.builtin "any"):=by decide+kernel
end
theorem wu {K:Frag}{g:TG}{tb:TS}{D:Ends}(Pv:Nat->L2.St->Hp->Prop)(h0:Pv 0 σ H)(hl:∀i σ H,i<=xs.length->Pv i σ H->aV K H a xs)
  (hs:∀i x σ H p,xs[i]?=some x->Pv i σ H->H p=none->g (.ref p) σ (upd H p (.tup [.int (i:Int),x])) fun σ2 H2=>tb {D with nx:=Pv (i+1),ct:=Pv (i+1),bk:=D.nx} σ2 H2) (hd:∀σ H,Pv xs.length σ H->D.nx σ H):
  ∃W:Nat->Nat->L2.St->Hp->Prop,(∃m,W 0 m σ H)/\∀i m σ H,W i m σ H->
   ((UC K a).stop i H/\D.nx σ H)\/((UC K a).go i H/\∃N:L2.St->Hp->Prop,(∀σ' H',N σ' H' ->∃m',m'<m/\W (i+1) m' σ' H')/\∀x H',(UC K a).GU i H x H' ->g x σ H' fun σ2 H2=>tb {D with nx:=N,ct:=N,bk:=D.nx} σ2 H2):=by
 refine ⟨fun i m σ H=>m=xs.length-i/\i<=xs.length/\Pv i σ H,⟨xs.length,by simp,aaS _,h0⟩,?_⟩
 rintro i m σ H ⟨rfl,hi,p⟩
 have q:=hl i σ H hi p
 by_cases lj:i<xs.length
 ·have e:xs[i]?=some xs[i]:=gE lj
  refine .inr ⟨⟨xs,_,q,e⟩,Pv (i+1),fun σ' H' z=>⟨xs.length-(i+1),by omega,rfl,by omega,z⟩,fun x H' y=>?_⟩
  obtain ⟨pp,x',y1,rfl,np,rfl⟩:=y
  exact hs i x' σ H pp (y1 xs q) p np
 ·have e:i=xs.length:=by omega
  subst e
  exact .inl ⟨⟨xs,q,aal _⟩,hd σ H p⟩
theorem ja {g:TG}{tb:TS}{D:Ends}(Pv:Nat->L2.St->Hp->Prop)(h0:Pv 0 σ H)(hl:∀i σ H,i<=kvs.length->Pv i σ H->H d=some (.gi o (.dK kvs)))
  (hs:∀i k x σ H p,kvs[i]?=some (k,x)->Pv i σ H->H p=none->g (.ref p) σ (upd H p (.tup [kV k,x])) fun σ2 H2=>tb {D with nx:=Pv (i+1),ct:=Pv (i+1),bk:=D.nx} σ2 H2) (hd:∀σ H,Pv kvs.length σ H->D.nx σ H):
  ∃W:Nat->Nat->L2.St->Hp->Prop,(∃m,W 0 m σ H)/\∀i m σ H,W i m σ H->
   ((UA d o kvs).stop i H/\D.nx σ H)\/((UA d o kvs).go i H/\∃N:L2.St->Hp->Prop,(∀σ' H',N σ' H' ->∃m',m'<m/\W (i+1) m' σ' H')/\∀x H',(UA d o kvs).GU i H x H' ->g x σ H' fun σ2 H2=>tb {D with nx:=N,ct:=N,bk:=D.nx} σ2 H2):=by
 refine ⟨fun i m σ H=>m=kvs.length-i/\i<=kvs.length/\Pv i σ H,⟨kvs.length,by simp,aaS _,h0⟩,?_⟩
 rintro i m σ H ⟨rfl,hi,p⟩
 have q:=hl i σ H hi p
 by_cases lj:i<kvs.length
 ·refine .inr ⟨⟨q,lj⟩,Pv (i+1),fun σ' H' z=>⟨kvs.length-(i+1),by omega,rfl,by omega,z⟩,fun x H' y=>?_⟩
  obtain ⟨pp,k,x',y1,rfl,np,rfl⟩:=y
  exact hs i k x' σ H pp y1 p np
 ·have e:i=kvs.length:=by omega
  subst e
  exact .inl ⟨⟨q,aal _⟩,hd σ H p⟩
open Builtin.Int (intBits)
section
variable {X:Cx}
def JT (i j:Int):Prop:=intBits i+intBits j<=134217728
theorem jb:i7 X (ae9 .Mult) (rI JT fun i j=>.int (i*j)):=
 opI fun _ _ _ _ _ _ _ hc q=>mul_int q (IntMulOk.of_le (aal _) (aal _) hc)
theorem gI (h1:a.natAbs<=2^m)(h2:b.natAbs<=2^n)(h:m+n<=134000000):JT a b:=by
 have x1:=i9 h1 (aaV m)
 have x2:=i9 h2 (aaV n)
 unfold JT
 omega
inductive Pn (K:Frag)(xs:ε)(H:Hp)(Q:VK):Prop
|mk (p ys:_)(_:xs=[.ref p,.ty "tuple"])(_:bJ K H p ys)(_:Q (.bl true) H)
theorem DA:ft X (.builtin "isinstance") (Pn X.K):=by
 intro pins s σ H xs us Q I r h
 obtain ⟨p,ys,rfl,hq,q⟩:=h
 obtain ⟨u,w,rfl,r1,r2⟩:=vals2 r
 obtain rfl:=zR (c:=.ty "tuple") rfl r2
 cases r1
 obtain ⟨its,rv,⟨o,h1,h2,_⟩,_⟩:=I.tuple hq
 have e:aeV X.K (.type "tuple") (QV (.ty "tuple"))=some true:=by unfold aeV;rw [aek (by decide)]
 exact ae1 PySem.W.kitx_tuple I.jG ⟨o,h1,h2⟩ e (fun z=>nomatch z) fun tk=>⟨.bl true,H,I.tok tk,rfl,q⟩
end
theorem au.bI {K:Frag}(e:au H H')(h:bJ K H a xs):bJ K H' a xs:=by
 rcases h with (h|⟨o,h⟩)|h
 ·exact .inl (.inl (e _ _ h))
 ·exact .inl (.inr ⟨o,e _ _ h⟩)
 ·exact .inr h
section
variable {D:aef}{te:TE}{cap:L2.St}{H1:Hp}{Q:VK}
theorem DB {K:Frag}(Rel:Ψ)(nD:H1 D=none)(hn:xs.length<ael)(hl:ys.length=xs.length)(hX:∀H,au H1 H->aV K H a xs)(hY:∀H,au H1 H->aV K H b ys)
  (hR:∀i v H H' ys,H D=some (.lst ys)->bQ D H H' ->Rel i v H->Rel i v H')
  (he:∀i x y H (R:VK),xs[i]?=some x->ys[i]?=some y->au H1 H->(∃ys,H D=some (.lst ys))->(∀v H6,au H H6->Rel i v H6->R v H6)->te (some x::some y::cap) H R)
  (hd:∀zs H,zs.length=xs.length->(∀i v,zs[i]?=some v->Rel i v H)->au H1 H->H D=some (.lst zs)->Q (.ref D) H):
  lS D (HP K 2 (vF (b9 0) (vF (b9 1) Qz))) jm te (Itz K a b) (none::none::cap) H1 Q:=by
 refine ⟨fun i m σ zs H=>m=xs.length-i/\i<=xs.length/\(∃o o',σ=o::o'::cap)/\(zs.length=i/\(∀i v,zs[i]?=some v->Rel i v H)/\au H1 H)/\H D=some (.lst zs),⟨xs.length,by simp,aaS _,⟨none,none,rfl⟩,⟨rfl,fun i v e=>by simp at e,fun b o e=>by rw [ao (aq e nD)];exact e⟩,ak⟩,?_⟩
 rintro i m σ zs H ⟨rfl,hi,⟨o,o',rfl⟩,⟨l,r,s⟩,hD⟩
 by_cases lj:i<xs.length
 ·have e1:xs[i]?=some xs[i]:=gE lj
  have e2:ys[i]?=some (ys[i]'(by omega)):=gE (by omega)
  refine .inr ⟨⟨xs,ys,_,_,hX H s,hY H s,e1,e2⟩,fun v H' y=>?_⟩
  obtain ⟨p,x,y,q1,q2,rfl,np,rfl⟩:=y
  have e1:=q1 xs (hX H s)
  have e2:=q2 ys (hY H s)
  have sp:au H (upd H p (.tup [x,y])):=fun b o e=>by rw [ao (aq e np)];exact e
  refine ⟨p,_,rfl,bJ.of ak,rfl,_,_,rfl,_,_,rfl,rfl,?_⟩
  unfold jm
  dsimp only
  rw [aek rfl]
  refine he i x y _ _ e1 e2 (fun b o e=>sp _ _ (s _ _ e)) ⟨zs,sp _ _ hD⟩ fun v H6 s6 rv=>⟨s6 _ _ (sp _ _ hD),by omega,xs.length-(i+1),by omega,rfl,by omega,⟨_,_,rfl⟩,⟨by simp [l],fun j u e=>?_,fun b o e=>?_⟩,ak⟩
  ·by_cases c:j<zs.length
   ·rw [aar c] at e
    have ru:=hR j u H H6 zs hD (bQ.of fun b o q=>s6 _ _ (sp _ _ q)) (r j u e)
    exact hR j u H6 _ zs (s6 _ _ (sp _ _ hD)) bQ.upd ru
   ·rw [aav (by omega)] at e
    have ej:j=i:=by
     by_cases z:j-zs.length=0
     ·omega
     ·rw [aam (by simp;omega)] at e
      cases e
    subst ej
    have:v=u:=by
     rw [show j-zs.length=0 by omega] at e
     exact aaA e
    subst this
    exact hR j v H6 _ zs (s6 _ _ (sp _ _ hD)) bQ.upd rv
  ·rw [ao (aq e nD)]
   exact s6 _ _ (sp _ _ (s _ _ e))
 ·have e:i=xs.length:=by omega
  subst e
  exact .inl ⟨⟨xs,ys,hX H s,hY H s,.inl (aal _)⟩,hd zs H l r s hD⟩
end
def mT (K:Frag)(H:Hp)(v:V)(q:Int×Int):Prop:=∃p,v=.ref p/\bJ K H p [.int q.1,.int q.2]
theorem mT.same {K:Frag}(h:mT K H v q)(s:au H H'):mT K H' v q:=by
 obtain ⟨p,e,k⟩:=h
 exact ⟨p,e,Ty.au.bI s k⟩
def dA (K:Frag)(H:Hp)(us:ε)(qs:ς):Prop:=us.length=qs.length/\∀(i:Nat)(u:V)(q:Int×Int),us[i]?=some u->qs[i]?=some q->mT K H u q
theorem dA.same {K:Frag}(h:dA K H us qs)(s:au H H'):dA K H' us qs:=⟨h.1,fun i u q e1 e2=>(h.2 i u q e1 e2).same s⟩
theorem dA.at {K:Frag}(h:dA K H us qs){i:Nat}(e:us[i]?=some u):∃q,qs[i]?=some q/\mT K H u q:=by
 have hi:i<us.length:=(ir.mp e).1
 have hl:=h.1
 have e2:qs[i]?=some (qs[i]'(by omega)):=gE (by omega)
 exact ⟨_,e2,h.2 i u _ e e2⟩
theorem dA.set {K:Frag}(h:dA K H us qs)(n:mT K H v q):dA K H (us.set j v) (qs.set j q):=by
 refine ⟨by simp [h.1],fun i u q' e1 e2=>?_⟩
 rw [abc] at e1 e2
 by_cases c:j=i
 ·subst c
  rw [aek rfl] at e1 e2
  have l:=h.1
  by_cases hj:j<us.length
  ·rw [aek hj] at e1
   rw [aek (by omega)] at e2
   cases e1
   cases e2
   exact n
  ·rw [aej hj] at e1
   cases e1
 ·rw [aej c] at e1 e2
  exact h.2 i u q' e1 e2
def ab2 (K:Frag)(H:Hp)(a:aef)(qs:ς):Prop:=∃us,aV K H a us/\dA K H us qs
def sumTo:Nat->(Nat->Rat)->Rat
 | 0,_=>0
 | n+1,f=>f 0+sumTo n (fun i=>f (i+1))
theorem sN:∀(n:Nat)(f g:Nat->Rat),sumTo n (fun i=>f i+g i)=sumTo n f+sumTo n g
 | 0,_,_=>by simp [sumTo];grind
 | n+1,f,g=>by
  simp only [sumTo]
  rw [sN n (fun i=>f (i+1)) (fun i=>g (i+1))]
  grind
theorem sQ (c:Rat):∀(n:Nat)(f:Nat->Rat),sumTo n (fun i=>c*f i)=c*sumTo n f
 | 0,_=>by simp [sumTo]
 | n+1,f=>by
  simp only [sumTo]
  rw [sQ c n (fun i=>f (i+1))]
  grind
theorem g6:∀(n:Nat)(f:Nat->Rat),(∀i,f i=0)->sumTo n f=0
 | 0,_,_=>rfl
 | n+1,f,h=>by
  simp only [sumTo]
  rw [h 0,g6 n (fun i=>f (i+1)) (fun i=>h (i+1))]
  grind
theorem pK:∀(n:Nat)(l:ξ)(z:Nat->Rat),l.length<=n->ev l z=sumTo n (fun j=>((l.getD j 0:Int):Rat)*z j)
 | n,[],z,_=>by
  rw [g6 n _ (fun i=>by simp)]
  rfl
 | 0,_::_,_,h=>by simp at h
 | n+1,a::r,z,h=>by
  simp only [ev,sumTo]
  rw [pK n r (fun i=>z (i+1)) (by simpa using h)]
  simp
theorem z7 (n:Nat)(z:Nat->Rat):∀(y:Τ)(os:η),(∀o∈os,o.length<=n)->(∀o∈os,ev o z=0)->sumTo n (fun j=>d6 y os j*z j)=0
 | c::y,o::os,h1,h2=>by
  have ih:=z7 n z y os (fun x hx=>h1 x (aan _ hx)) (fun x hx=>h2 x (aan _ hx))
  have e:=h2 o aas
  rw [pK n o z (h1 o aas)] at e
  have k:(fun j=>d6 (c::y) (o::os) j*z j)=fun j=>c*(((o.getD j 0:Int):Rat)*z j)+d6 y os j*z j:=by
   funext j
   simp only [d6]
   grind
  rw [k,sN,sQ,e,ih]
  grind
 | [],os,_,_=>g6 n _ (fun j=>by cases os<;>simp [d6])
 | _::_,[],_,_=>g6 n _ (fun j=>by simp [d6])
theorem Nr {os:η}(h:l_ os l)(hl:l.length<=n)(ho:∀o∈os,o.length<=n)(hz:∀o∈os,ev o z=0):ev l z=0:=by
 obtain ⟨y,_,e⟩:=h
 rw [pK n l z hl,<-z7 n z y os ho hz]
 congr 1
 funext j
 rw [e j]
theorem wz:∀{ts:ξ} {qs xs:ς} {d:Int×Int} {b:Int},mR ts (qs++[d]) b->xs.length=qs.length->ev ts (mS (xs.map vl))=(gZ qs xs-vl d)*b
 | [],qs,xs,d,b,h,_=>by have:=h.1;simp at this
 | t::ts,[],[],d,b,h,_=>by
  have e:=h.2 0 t d rfl rfl
  have l:=h.1
  have:ts=[]:=by simpa using l
  subst this
  simp [ev,mS,gZ]
  rw [e]
  grind
 | t::ts,q::qs,x::xs,d,b,h,hl=>by
  have e:=h.2 0 t q rfl rfl
  have ih:=wz (ts:=ts) (qs:=qs) (xs:=xs) (d:=d) (b:=b) h.tail (by simpa using hl)
  have ez:(fun i=>mS ((x::xs).map vl) (i+1))=mS (xs.map vl):=by
   funext i
   simp [mS]
  simp only [ev]
  rw [ez,ih,e]
  have e0:mS ((x::xs).map vl) 0=vl x:=by simp [mS]
  have ed:gZ (q::qs) (x::xs)=vl q*vl x+gZ qs xs:=by simp [gZ]
  rw [e0,ed]
  grind
 | _::_,[],_::_,_,_,_,hl=>by simp at hl
 | _::_,_::_,[],_,_,_,hl=>by simp at hl
section
variable {X:Cx}
end
section
variable {D:aef}{te:TE}{cap:L2.St}{H1:Hp}{Q:VK}
end
section
variable {X:Cx}
theorem JU {xs:ε}{us:ο}(h:Vals xs us):Vals xs.reverse us.reverse:=by
 have hl:=h.length
 refine cF (by simp [hl]) fun i a b e1 e2=>?_
 have hi:i<xs.length:=by
  have:=(ir.mp e1).1
  simpa using this
 rw [acL hi] at e1
 rw [acL (by omega),<-hl] at e2
 obtain ⟨b',e3,r⟩:=aw h e1
 rw [e2] at e3
 cases e3
 exact r
def ab3 (K:Frag)(te ts:TE):TE:=fun σ H Q=>te σ H fun x H1=>ts σ H1 fun y H2=>y=.int (-1)/\∃l xs,x=.ref l/\aV K H2 l xs/\∀p,H2 p=none->Q (.ref p) (upd H2 p (.lst xs.reverse))
theorem Rk {K:Frag}{e st:Expr}(hK:X.K=K)(he:PE X e te)(hs:PE X st ts):PE X (.Subscript e (.Slice none none (some st) p2) pos) (ab3 K te ts):=by
 subst hK
 intro pins s σ H Q I h
 refine Subscript_ (cB (he pins s σ H _ I h) fun v s1 ⟨x,H1,I1,r1,q1⟩=>?_)
 refine wpAny_Slice ?_
 rw [evalPart_none]
 refine aeo (aeo ?_)
 rw [evalPart_some]
 refine cB (hs pins s1 σ H1 _ I1 q1) fun vk s3 ⟨y,H3,I3,ry,q3⟩=>?_
 obtain ⟨rfl,l,xs,rfl,hx,q⟩:=q3
 obtain ⟨t,rfl⟩:=ry
 cases r1
 have I4:Inv X pins σ H3 {s3 with heap:=s3.heap.push {cls:=.type "slice",data:=.fields #[.none,.none,.int (-1) t]}}:=I3.kept (t':=s3.toks) fun b ob q=>aeh _ q
 obtain ⟨its,r,ht,hz⟩:=I4.list hx
 have hlen:=r.length
 show aen (aes X.prog X.w) X.A (subscriptTail e (.Slice none none (some st) p2) (.ref l) (.ref s3.heap.objs.size)) (EP X pins σ Q) X.xe {s3 with heap:=s3.heap.push {cls:=.type "slice",data:=.fields #[.none,.none,.int (-1) t]}}
 refine tail_any (ops:=[.ref l,.ref s3.heap.objs.size]) ht.isList.typeIs slot_list_getitem.lookup ?_ (by with_unfolding_all rfl)
 refine wpAny_getItem_list_slice ht.isList (Heap.IsSliceOf.new ..) .none .none (.int (-1) t) (by decide) ?_ (by rw [aaz]<;>omega)
 rw [PySem.W.krv_pick]
 refine ⟨.ref _,_,I4.laid (t':=s3.toks) (o:=.lst xs.reverse) (fun b ob q=>aeh _ q) (aal _) ?_,rfl,q _ (I4.bO.fresh (aal _))⟩
 exact ⟨by rw [ab9];exact hz,its.reverse,0,JU r,aez _ rfl⟩
inductive Po (xs:ε)(H:Hp)(Q:VK):Prop
|mk (p:aef)(kvs:γ)(_:xs=[.ref p])(_:Rd H p (.dK kvs))(_:Q (.int (kvs.length:Int)) H)
theorem sR:ft X (.builtin "len") Po:=by
 intro pins s σ H xs us Q I r h
 obtain ⟨p,kvs,rfl,hq,q⟩:=h
 obtain ⟨u,rfl,r1⟩:=vals1 r
 cases r1
 exact Uu I hq fun t s' I'=>⟨.int _,H,I',⟨t,rfl⟩,q⟩
end
section
variable {D:aef}{te:TE}{cap:L2.St}{H1:Hp}{Q:VK}
end
section
variable {X:Cx}
theorem Inv.UG {σ:L2.St}(I:Inv X pins σ H s)(e:H d=some (.gi o u))(n:∀o' u',X.H₀ d≠some (.gi o' u'))(nt:∀xs,u≠.tup xs):Inv X pins σ (upd H d u) s:=by
 have nx:∀b u',H b=some u' ->b≠d->upd H d u b=some u':=fun b u q n=>by rw [ao n];exact q
 have nn:∀b,H b=none->upd H d u b=none:=fun b q=>by rw [ao (fun z=>by rw [z,e] at q;cases q)];exact q
 refine ⟨I.ok,I.os,I.bare,⟨I.base.keep,I.base.slot,fun b ob q z hx=>nn b (I.base.free b ob q z hx),I.base.there,fun b xs q=>?_,fun b ob u' q=>?_,fun b ps q=>?_⟩,I.loc,I.cell,nn _ I.free,fun x c q=>nn _ (I.iu x c q),fun p hp=>?_,?_,I.len⟩
 ·have z:=I.base.q4 b xs q
  exact nx b _ z fun y=>by rw [y,e] at z;cases z
 ·have z:=I.base.oF b ob u' q
  exact nx b _ z fun y=>by rw [y] at q;exact n _ _ q
 ·obtain ⟨m,z⟩:=I.base.q5 b ps q
  exact ⟨m,nx b _ z fun y=>by rw [y,e] at z;cases z⟩
 ·obtain ⟨a1,a2,a3⟩:=I.pin p hp
  exact ⟨a1,nn _ a2,a3⟩
 ·have st:∀{b u'},cK X.prog X.w H s.heap b u' ->cK X.prog X.w (upd H d u) s.heap b u':=fun {b u'} k=>k.qZ (fun _ _ _ z=>z) (fun c z=>nx c _ z fun y=>by rw [y,e] at z;cases z) fun c xs z=>nx c _ z fun y=>by rw [y,e] at z;cases z
  intro b u' q
  by_cases hb:b=d
  ·subst hb
   rw [ak] at q
   cases q
   exact st (I.bO b _ e).2
  ·rw [ao hb] at q
   exact st (I.bO b u' q)
def UH (H0:Hp)(t:TS):TS:=fun D σ H=>t {D with nx:=fun σ' H'=>∃d o kvs,H' d=some (.gi o (.dK kvs))/\(∀o' u',H0 d≠some (.gi o' u'))/\D.nx σ' (upd H' d (.dK kvs))} σ H
theorem og {st:Stmt}(h:PS X st t):PS X st (UH X.H₀ t):=by
 intro pins s σ H D I q
 refine aeU (h pins s σ H _ I q) (fun f s' z=>?_) fun _ _ z=>z
 cases f with
 | next=>
  obtain ⟨σ',H',I',d,o,kvs,e,n,k⟩:=z
  exact ⟨σ',_,Inv.UG I' e n (fun _ z=>nomatch z),k⟩
 | brk=>exact z
 | cont=>exact z
 | ret u=>exact z
def UI (d:aef)(o:Obj)(kvs:γ):It:=
 ⟨fun i H=>H d=some (.gi o (.dK kvs))/\i<kvs.length,
  fun i H v H'=>H'=H/\∃k x,kvs[i]?=some (k,x)/\v=kV k,
  fun i H=>H d=some (.gi o (.dK kvs))/\kvs.length<=i⟩
theorem DC {K:Frag}(d it:aef)(o:Obj)(kvs:γ)(he:o.data=.dict SX ep):
  Turn P w K tg (UI d o kvs) [it] it (fun i h=>h.IsKeyIter it d i kvs.length ep) where
 mem:=by simp
 obj:=fun i h st b hb=>by
  have e:b=it:=by simpa using hb
  subst e
  obtain ⟨o,e,c,d⟩:=st
  exact ⟨o,e,fun v z=>by rw [d] at z;cases z⟩
 keep:=fun i h h' st k=>st.at fun o e=>k it (by simp) o e
 item:=by
  intro X hP hw hK hc i pins s σ H E I hf st hg
  subst hP hw hK
  obtain ⟨fz,hi⟩:=hg
  obtain ⟨hd,vs,rel,da,_⟩:=uq I.bO fz he
  have ek:kvs[i]?=some kvs[i]:=gE hi
  obtain ⟨⟨k',u⟩,ev,e1,ru⟩:=aw rel ek
  have lv:=rel.length
  rw [lv] at st
  obtain ⟨f0,f1,f2,f3,f4,f5⟩:=hf it (by simp)
  refine wpAny_pyNext_dict_item st da ev fun key h' HY xF sb=>?_
  have I1:Inv X pins σ H {s with heap:=h'}:=I.turned (t':=s.toks) (fun b o hb e=>(sb.2 b hb).trans e) f0 f1 f3 f4 f5
  rw [<-lv] at xF
  obtain ⟨o',e',c',d'⟩:=id xF
  have CP :kvs[i].1=k':=e1
  exact ⟨key,rfl,zC (s:={s with heap:=h'}) e' c' d' (by decide) ⟨kV kvs[i].1,H,I1,by rw [CP];exact oa HY,⟨rfl,kvs[i].1,kvs[i].2,ek,rfl⟩,xF,fun b hb=>(hf b hb).1⟩⟩
 done:=by
  intro X hP hw hK hc i pins s σ H E I hf st hg
  subst hP hw hK
  obtain ⟨fz,hi⟩:=hg
  obtain ⟨hd,vs,rel,da,_⟩:=uq I.bO fz he
  have lv:=rel.length
  rw [lv] at st
  obtain ⟨f0,f1,f2,f3,f4,f5⟩:=hf it (by simp)
  exact wpAny_pyNext_dict_end (I.ok.hd hc) st da (aam (by omega)) fun h' eb=>⟨rfl,I.turned (t':=s.toks) (fun b o hb e=>eb b o hb e) f0 f1 f3 f4 f5⟩
 self:=fun _ _ _ _ _ st h=>wpAny_pyIter_keyiter st h
inductive JV (R:(It->Hp->Prop))(x:V)(H1:Hp):Prop
|mk (d kvs:_)(_:x=.ref d)(_:H1 d=some (.dK kvs))(_:∀o,R (UI d o kvs) (upd H1 d (.gi o (.dK kvs))))
def UJ (te:TE):TI:=fun σ H R=>te σ H fun x H1=>JV R x H1
theorem Nt (ho:PE X e te):PI X tg e (UJ te):=by
 intro pins s σ H R I h
 refine cB (ho pins s σ H _ I h) fun v s1 ⟨x,H1,I1,r1,q1⟩=>?_
 obtain ⟨d,kvs,rfl,e,q⟩:=q1
 cases r1
 obtain ⟨z,hd,vs,rel,o,UB,ep,Md,hx,jn,hk,hp,hn⟩:=ku I1.bO e
 have da:s1.heap.DictAt (bF X.prog X.w) d vs ep:=⟨o,UB,Md,hx,jn,hk,hp,hn⟩
 have lv:=rel.length
 have I2:=Inv.freeze I1 e Md
 refine wpAny_pyIter_dict hd da ?_
 have I3:Inv X pins σ (upd H1 d (.gi o (.dK kvs))) {s1 with heap:=s1.heap.push {cls:=.type "dict_keyiterator",data:=.fields #[.ref d,.int 0 0,.int vs.length 0,.int ep 0]}}:=I2.kept (t':=s1.toks) fun b o e=>aeh _ e
 refine ⟨s1.heap.objs.size,[s1.heap.objs.size],_,_,_,rfl,I3,DC d _ o kvs jn,(show Heap.IsKeyIter _ _ d 0 kvs.length ep from ⟨_,aez _ rfl,rfl,by rw [lv];rfl⟩),fun b hb=>?_,q o⟩
 have eb:b=s1.heap.objs.size:=by simpa using hb
 have le:s1.heap.objs.size<=b:=by rw [eb];exact aal _
 exact I2.lH le (I2.bO.fresh le)
theorem JW {g:TG}{tb:TS}{D:Ends}(Pv:Nat->L2.St->Hp->Prop)(h0:Pv 0 σ H)(hl:∀i σ H,i<=kvs.length->Pv i σ H->H d=some (.gi o (.dK kvs)))
  (hs:∀i k x σ H,kvs[i]?=some (k,x)->Pv i σ H->g (kV k) σ H fun σ2 H2=>tb {D with nx:=Pv (i+1),ct:=Pv (i+1),bk:=D.nx} σ2 H2) (hd:∀σ H,Pv kvs.length σ H->D.nx σ H):
  ∃W:Nat->Nat->L2.St->Hp->Prop,(∃m,W 0 m σ H)/\∀i m σ H,W i m σ H->
   ((UI d o kvs).stop i H/\D.nx σ H)\/((UI d o kvs).go i H/\∃N:L2.St->Hp->Prop,(∀σ' H',N σ' H' ->∃m',m'<m/\W (i+1) m' σ' H')/\∀x H',(UI d o kvs).GU i H x H' ->g x σ H' fun σ2 H2=>tb {D with nx:=N,ct:=N,bk:=D.nx} σ2 H2):=by
 refine ⟨fun i m σ H=>m=kvs.length-i/\i<=kvs.length/\Pv i σ H,⟨kvs.length,by simp,aaS _,h0⟩,?_⟩
 rintro i m σ H ⟨rfl,hi,p⟩
 have q:=hl i σ H hi p
 by_cases lj:i<kvs.length
 ·refine .inr ⟨⟨q,lj⟩,Pv (i+1),fun σ' H' z=>⟨kvs.length-(i+1),by omega,rfl,by omega,z⟩,fun x H' y=>?_⟩
  obtain ⟨rfl,k,x',ek,rfl⟩:=y
  exact hs i k x' σ _ ek p
 ·have e:i=kvs.length:=by omega
  subst e
  exact .inl ⟨⟨q,aal _⟩,hd σ H p⟩
inductive JX (xs:ε)(H:Hp)(Q:VK):Prop
|mk (p:aef)(kvs:γ)(_:xs=[.ref p])(_:Rd H p (.dK kvs))(_:∀l,H l=none->Q (.ref l) (upd H l (.dK kvs)))
theorem yn:ft X (.type "dict") JX:=by
 intro pins s σ H vs us Q I r h
 obtain ⟨p,kvs,rfl,e,q⟩:=h
 obtain ⟨u,rfl⟩:∃u,us=[u]:=by cases r with|cons h t=>cases t;exact ⟨_,rfl⟩
 cases r with
 | cons h _=>
 cases h
 obtain ⟨z,hd,vs,rel,dd⟩:=jx I.bO e
 have hn:=I.bO.fresh (aal s.heap.objs.size)
 refine kt_call_dict hd dd (by rw [<-rel.length];exact z) fun h' GY sb=>?_
 have kk:∀b o,s.heap.get? b=some o->h'.get? b=some o:=fun b o eb=>(sb.2 b (fun z=>aet (aew eb) (by rw [z];exact aa3 _))).trans (aeh _ eb)
 have I2:Inv X pins σ (upd H s.heap.objs.size (.dK kvs)) {s with heap:=h',toks:=s.toks}:=I.laid (t':=s.toks) kk (aal _) (lX z (beq_eq_false_iff_ne.mpr (aaD (aaM I.big))) rel GY)
 exact ⟨.ref _,_,I2,rfl,q _ hn⟩
end
section
variable {prog:aeB}{w:World}{KK:Type}[DecidableEq KK]{knd:KeyKind prog w KK}{A:aeI}{E:δ}{s:aep}
open MeetsSeq MeetsSeq2 MeetsSeq3 SeqRoads2 in
open MeetsSeq MeetsSeq2 MeetsSeq3 SeqRoads2 in
end
section
variable {X:Cx}
end
structure Rl (K:Frag)(x qual:Str)(st:Stmt)(f:aef)(fd:FuncData):Prop where
 ex:∃(dV oc:Value)(od:Θ)(kV doc pm:Value)(an:Θ)(cp ct:Value)(qV:Ν),
  fd=fnOf x qual (aA st) (av st) (ae st) dV kV doc pm an cp ct/\K.lookup f=some ⟨oc,od,.func fd,qV⟩/\codeIn K cp qual=true
 kp:keepIn K (.ref f)=true
section
variable {P:aeB}{w:World}{K:Frag}{mg:ι}{base:Heap}{CX:j9}
theorem Nu {st:Stmt}{od an:Θ}{qV:Ν}{kV doc pm cp ct:Value}(l:K.lookup f=some ⟨oc,od,.func (fnOf x qual (aA st) (av st) (ae st) dV kV doc pm an cp ct),qV⟩)
  (c:codeIn K cp qual=true) (k:keepIn K (.ref f)=true):Rl K x qual st f (fnOf x qual (aA st) (av st) (ae st) dV kV doc pm an cp ct):=⟨⟨dV,oc,od,kV,doc,pm,an,cp,ct,qV,rfl,l,c⟩,k⟩
theorem z8 {st:Stmt}(F:nG K name qual st f fd)(S:aC N ps (ae st))(len:∀vs H Q E,sp vs H Q E->vs.length=ps.length)
  (fW:∀(cp:Value)(A:aeI)(outer:List Env)(s:aep)(H:Hp)(vs:ε)(Q:VK)(E:XK),cx k (A.deeper (afO qual (ae st) s.heap.objs.size f cp))->sp vs H Q E->
   ∃t,PSs (cxr P w K mg base N qual (ae st) f cp A outer s H E).vt (av st) t/\t {nx:=fun _ H'=>Q .cg H',rt:=Q} (start N vs) H):cO P w K mg base (aY P w) (k+1) f fd ps sp:=by
 obtain ⟨oc,od,kV,doc,pm,an,cp,ct,qV,rfl,lk,q_⟩:=F.ex
 exact zJ lk q_ S len fun A outer s H vs Q E hr nA=>by
  obtain ⟨t,h,q⟩:=fW cp A outer s H vs Q E hr nA
  exact ⟨t,h.vt,q⟩
theorem JY {st:Stmt}(F:Rl K name qual st f fd)(S:aC N ps (ae st))(len:∀vs H Q E,sp vs H Q E->vs.length=ps.length)
  (fW:∀(cp:Value)(A:aeI)(outer:List Env)(s:aep)(H:Hp)(vs:ε)(Q:VK)(E:XK),cx k (A.deeper (afO qual (ae st) s.heap.objs.size f cp))->sp vs H Q E->
   ∃t,PSs (cxr P w K mg base N qual (ae st) f cp A outer s H E).vt (av st) t/\t {nx:=fun _ H'=>Q .cg H',rt:=Q} (start N vs) H):cO P w K mg base (aY P w) (k+1) f fd ps sp:=by
 obtain ⟨dV,oc,od,kV,doc,pm,an,cp,ct,qV,rfl,lk,q_⟩:=F.ex
 exact zJ lk q_ S len fun A outer s H vs Q E hr nA=>by
  obtain ⟨t,h,q⟩:=fW cp A outer s H vs Q E hr nA
  exact ⟨t,h.vt,q⟩
end
structure uv (P:aeB)(w:World)(K:Frag)(mg:ι)(base:Heap)(CX:j9)(k:Nat)(C:aef)(m:Str)(ps:ρ)(ds:ο)(sp:Sp):Prop where
 ex:∃(f:aef)(fd:FuncData),vK K C/\Meth K C m f/\cO P w K mg base CX k f fd ps sp/\Binds K fd ps ds
section
variable {X:Cx}{CX:j9}{k:Nat}{E:XK}{m:Str}{pos apos:Pos}{e o:Expr}{es:Δ}{ta:TE}{t:TA}
inductive JZ (P:aeB)(w:World)(K:Frag)(mg:ι)(base:Heap)(CX:j9)(k:Nat)(m:Str)(E:XK)(t:TA)(σ:L2.St)(Q:VK)(x:V)(H1:Hp):Prop
|mk (a C dx fs ps sp:_)(_:x=.ref a)(_:H1 a=some (.ins C dx fs))(_:fs.lookup m=none)(_:uv P w K mg base CX k C m ps [.none] sp)(_:t σ H1 fun vs H2=>sp (x::vs++[.cg]) H2 Q E)
def UK (P:aeB)(w:World)(K:Frag)(mg:ι)(base:Heap)(CX:j9)(k:Nat)(m:Str)(E:XK)(ta:TE)(t:TA):TE:=fun σ H Q=>ta σ H fun x H1=>JZ P w K mg base CX k m E t σ Q x H1
theorem z_ {pl:Sem Bool}(he:PE X o ta)(hr:cx k X.A)(hx:Passes CX X E)(ha:PA X (e::es) t)
  (MQ:aeA (e::es) X.env=(false,aeM e X.env)::aeA es X.env:=by rfl) (vv:(afc pos (aeA es X.env)).any (·.1)=false:=by rfl)
  (ht:aeM (.Call (.Attribute o m apos) (e::es) [] pos) X.env=(do
   let ov <- aeM o X.env
   standAt apos.atName
   let (f,first) <- agp [ov] (getMethod ov m pl)
   callWith pos f first (afc pos (aeA (e::es) X.env)) (backToKw pos (agi [] X.env))):=by rfl):
  PE X (.Call (.Attribute o m apos) (e::es) [] pos) (UK X.prog X.w X.K X.mg X.base CX k m E ta t):=by
 intro pins s σ H Q I h
 refine PySem.W.methodCall_KW (pl:=pl) (cB (he pins s σ H _ I h) fun u s1 ⟨x,H1,I1,rx,a,C,dx,fs,ps,sp,ex,ea,l,M,q⟩=>?_) ht
 subst ex
 obtain rfl:u=Value.ref a:=rx
 obtain ⟨f,fd,c,hm,F,hb⟩:=M.ex
 refine jI I1 ea c hm l ?_
 refine af7 (first:=[.ref a]) (h₀:=X.base) I.ok.mod.OM hm.kp (cB (ha pos pins s1 σ H1 _ I1 q) fun us s2 ⟨vs,H2,I2,r,q2⟩=>⟨I2.jG,?_⟩) MQ vv
 exact tK (us:=.ref a::us) (vs:=.ref a::vs) (dvs:=[.cg]) F hr hb (.cons rfl .nil) hx I2 (.cons rfl r) q2
end
theorem pM {κ:Type}[DecidableEq κ]{k:κ}{v:V}:∀{kvs:List (κ×V)},bY kvs k=some v->(k,v)∈kvs
 | p::r,h=>by
  by_cases e:p.1=k
  ·rw [bT e] at h
   cases h
   subst e
   exact aas ..
  ·rw [bG e] at h
   exact aan _ (pM h)
theorem cb {κ:Type}[DecidableEq κ]{k:κ}:∀{kvs:List (κ×V)},k∉kvs.map (·.1)->bY kvs k=none
 | [],_=>rfl
 | p::r,h=>by
  rw [aaj,aaL,not_or] at h
  rw [bG (fun e=>h.1 e.symm)]
  exact cb h.2
theorem dS {κ:Type}[DecidableEq κ]{k:κ}:∀{kvs:List (κ×V)},k∈kvs.map (·.1)->∃v,bY kvs k=some v
 | p::r,h=>by
  by_cases e:p.1=k
  ·exact ⟨_,bT e⟩
  ·rw [bG e]
   rw [aaj,aaL] at h
   rcases h with h|h
   ·exact aet h.symm e
   ·exact dS h
theorem DE {κ:Type}[DecidableEq κ]{kvs:List (κ×V)}{k:κ}{v:V}(P:κ->Prop)(h:∀kv∈kvs,P kv.1)(hk:P k):∀kv∈putK kvs k v,P kv.1:=by
 unfold putK
 split
 ·intro kv m
  obtain ⟨a,ha,e⟩:=aai.mp m
  have:=h a ha
  by_cases z:a.1=k
  ·rw [aek z] at e;rw [<-e];exact this
  ·rw [aej z] at e;rw [<-e];exact this
 ·intro kv m
  rcases aau.mp m with m|m
  ·exact h kv m
  ·rw [aao] at m
   rw [m]
   exact hk
theorem yo {k n:Nat}(h:k<n):seqIndex? (k:Int) n=some k:=by
 unfold seqIndex?
 simp [h]
 omega
structure DF (K:Frag)(C:aef):Prop where
 cls:vK K C
 pl:fV K C "pin_places"
 wy:fV K C "pin_ways"
 br:fV K C "bar_ends"
abbrev frF (pP pW pB:aef):List (Str×V):=[("pin_places",.ref pP),("pin_ways",.ref pW),("bar_ends",.ref pB)]
abbrev Pt:=(Int×Int)×(Int×Int)
abbrev _root_.Ε:=List (Str×Pt)
abbrev eR (p:Pt):List Da:=[.t [.v (.int p.1.1),.v (.int p.1.2)],.t [.v (.int p.2.1),.v (.int p.2.2)]]
def bu (H H':Hp):Prop:=∀b xs,Rd H b (.tup xs)->Rd H' b (.tup xs)
theorem bu.of (s:au H H'):bu H H':=fun b xs e=>by
 rcases e with e|⟨o,e⟩
 ·exact .inl (s _ _ e)
 ·exact .inr ⟨o,s _ _ e⟩
theorem bu.trans (a:bu H H1)(b:bu H1 H2):bu H H2:=fun c xs e=>b c xs (a c xs e)
theorem bu.dict (e:H d=some (.dK kvs)):bu H (upd H d o):=fun b xs r=>by
 rcases r with r|⟨o,r⟩
 ·exact .inl (by rw [ao (fun z=>by rw [z,e] at r;cases r)];exact r)
 ·exact .inr ⟨o,by rw [ao (fun z=>by rw [z,e] at r;cases r)];exact r⟩
theorem bu.list (e:H d=some (.lst xs)):bu H (upd H d o):=fun b xs r=>by
 rcases r with r|⟨o,r⟩
 ·exact .inl (by rw [ao (fun z=>by rw [z,e] at r;cases r)];exact r)
 ·exact .inr ⟨o,by rw [ao (fun z=>by rw [z,e] at r;cases r)];exact r⟩
theorem bu.bI {K:Frag}(s:bu H H')(q:bJ K H p xs):bJ K H' p xs:=by
 rcases q with q|q
 ·exact .inl (s _ _ q)
 ·exact .inr q
theorem mT.aR {K:Frag}(h:mT K H v q)(s:bu H H'):mT K H' v q:=by
 obtain ⟨p,e,k⟩:=h
 exact ⟨p,e,s.bI k⟩
def Spot (K:Frag)(H:Hp)(v:V)(p:Pt):Prop:=∃a u1 u2,v=.ref a/\bJ K H a [u1,u2]/\mT K H u1 p.1/\mT K H u2 p.2
theorem Spot.aR {K:Frag}(h:Spot K H v p)(s:bu H H'):Spot K H' v p:=by
 obtain ⟨a,u1,u2,e,h1,h2,h3⟩:=h
 exact ⟨a,u1,u2,e,s.bI h1,h2.aR s,h3.aR s⟩
theorem oh {K:Frag}(h:mT K H v q):Is K H (.t [.v (.int q.1),.v (.int q.2)]) v:=by
 obtain ⟨p,rfl,e⟩:=h
 unfold Is
 refine ⟨p,_,rfl,e,?_⟩
 unfold iw
 refine ⟨by unfold Is;exact ⟨rfl,rfl⟩,?_⟩
 unfold iw
 refine ⟨by unfold Is;exact ⟨rfl,rfl⟩,?_⟩
 unfold iw
 trivial
theorem Spot.is {K:Frag}(h:Spot K H v p):Is K H (.t (eR p)) v:=by
 obtain ⟨a,u1,u2,rfl,h1,h2,h3⟩:=h
 unfold Is
 refine ⟨a,_,rfl,h1,?_⟩
 unfold iw
 refine ⟨oh h2,?_⟩
 unfold iw
 refine ⟨oh h3,?_⟩
 unfold iw
 trivial
theorem wA (p q:Pt):dD (eR p) (eR q)=decide (p=q):=by
 have e:dD (eR p) (eR q)=((p.1.1==q.1.1 && (p.1.2==q.1.2 && true)) && ((p.2.1==q.2.1 && (p.2.2==q.2.2 && true)) && true)):=by
  simp only [eR,dD,jk,kg]
 rw [e]
 obtain ⟨⟨a,b⟩,c,d⟩:=p
 obtain ⟨⟨a',b'⟩,c',d'⟩:=q
 by_cases h:a=a' <;> by_cases h1:b=b' <;> by_cases h2:c=c' <;> by_cases h3:d=d' <;> simp [h,h1,h2,h3,Prod.mk.injEq]
theorem mU (p q:Pt):d3 (eR p) (eR q)=true:=by simp [eR,d3,alike]
theorem sS (p:Pt):iQ (eR p)<=60:=by simp [eR,iQ,dep]
structure dP (K:Frag)(H:Hp)(C a dx pP pW pB:aef)(ps:Ε)(bs:ω)(kP kW kB:γ):Prop where
 obj:H a=some (.ins C dx (frF pP pW pB))
 pl:H pP=some (.dK kP)
 wy:H pW=some (.dK kW)
 br:H pB=some (.dK kB)
 ne1:pP≠pW
 ne2:pP≠pB
 ne3:pW≠pB
 rp:Paired (fun (p:Str×Pt) (kv:Key×V)=>kv.1=.inr p.1/\Spot K H kv.2 p.2) ps kP
 rb:Paired (fun (b:Str×Str×Str) (kv:Key×V)=>kv.1=.inr b.1/\∃p,kv.2=.ref p/\Rd H p (.tup [.str b.2.1,.str b.2.2])) bs kB
section
variable {K:Frag}{H H':Hp}{C a dx pP pW pB:aef}{ps:Ε}{bs:ω}{kP kW kB:γ}
theorem fw {R:(Str×α)->(Key×V)->Prop}:∀{l:List (Str×α)} {kvs:γ},Paired (fun b kv=>kv.1=.inr b.1/\R b kv) l kvs->kvs.map (·.1)=l.map (fun b=>(aaU b.1:Key))
 | _,_,.nil=>rfl
 | _,_,.cons h t=>by rw [aaj,aaj,h.1,fw t]
theorem d7 {l:ρ}:(aaU x:Key)∈l.map (fun b=>(aaU b:Key)) ↔ x∈l:=by
 constructor
 ·intro h
  obtain ⟨y,hy,e⟩:=aai.mp h
  exact aa4 e▸hy
 ·exact fun h=>aai.mpr ⟨x,h,rfl⟩
theorem dP.gJ (R:dP K H C a dx pP pW pB ps bs kP kW kB)(s:bu H H')(h1:H' a=H a)(h2:H' pP=H pP)(h3:H' pW=H pW)(h4:H' pB=H pB):dP K H' C a dx pP pW pB ps bs kP kW kB:=
 ⟨h1.trans R.obj,h2.trans R.pl,h3.trans R.wy,h4.trans R.br,R.ne1,R.ne2,R.ne3,Paired.bL R.rp fun _ _ h=>⟨h.1,h.2.aR s⟩,Paired.bL R.rb fun _ _ h=>⟨h.1,by obtain ⟨p,e,k⟩:=h.2;exact ⟨p,e,s _ _ k⟩⟩⟩
theorem dP.same (R:dP K H C a dx pP pW pB ps bs kP kW kB)(s:au H H'):dP K H' C a dx pP pW pB ps bs kP kW kB:=
 R.gJ (.of s) ((s _ _ R.obj).trans R.obj.symm) ((s _ _ R.pl).trans R.pl.symm) ((s _ _ R.wy).trans R.wy.symm) ((s _ _ R.br).trans R.br.symm)
theorem dP.kC (R:dP K H C a dx pP pW pB ps bs kP kW kB):kB.map (·.1)=(bs.map (·.1)).map (fun b=>(aaU b:Key)):=by
 rw [fw R.rb,aay]
 rfl
theorem dP.wB (R:dP K H C a dx pP pW pB ps bs kP kW kB):kP.map (·.1)=(ps.map (·.1)).map (fun b=>(aaU b:Key)):=by
 rw [fw R.rp,aay]
 rfl
theorem dP.bar (R:dP K H C a dx pP pW pB ps bs kP kW kB)(x:Str):(bY kB (.inr x)).isSome=decide (x∈bs.map (·.1)):=by
 by_cases h:x∈bs.map (·.1)
 ·obtain ⟨v,e⟩:=dS (kvs:=kB) (k:=.inr x) (by rw [R.kC];exact d7.mpr h)
  rw [e,aeD h]
  rfl
 ·rw [cb (by rw [R.kC];exact fun z=>h (d7.mp z)),aeR h]
  rfl
theorem dP.pin (R:dP K H C a dx pP pW pB ps bs kP kW kB)(x:Str):(bY kP (.inr x)).isSome=decide (x∈ps.map (·.1)):=by
 by_cases h:x∈ps.map (·.1)
 ·obtain ⟨v,e⟩:=dS (kvs:=kP) (k:=.inr x) (by rw [R.wB];exact d7.mpr h)
  rw [e,aeD h]
  rfl
 ·rw [cb (by rw [R.wB];exact fun z=>h (d7.mp z)),aeR h]
  rfl
theorem dP.ab (R:dP K H C a dx pP pW pB ps bs kP kW kB):a≠pP/\a≠pW/\a≠pB:=
 ⟨fun z=>(by have h:=R.obj;rw [z,R.pl] at h;cases h),fun z=>(by have h:=R.obj;rw [z,R.wy] at h;cases h),fun z=>(by have h:=R.obj;rw [z,R.br] at h;cases h)⟩
theorem dP.Rm (R:dP K H C a dx pP pW pB ps bs kP kW kB)(ht:Rd H t (.tup [.str one,.str other])):
  dP K (upd H pB (.dK (kB++[(.inr x,.ref t)]))) C a dx pP pW pB ps (bs++[(x,one,other)]) kP kW (kB++[(.inr x,.ref t)]):=by
 have s:bu H (upd H pB (.dK (kB++[(.inr x,.ref t)]))):=.dict R.br
 exact ⟨by rw [ao R.ab.2.2];exact R.obj,by rw [ao R.ne2];exact R.pl,by rw [ao R.ne3];exact R.wy,ak,R.ne1,R.ne2,R.ne3,Paired.bL R.rp fun _ _ h=>⟨h.1,h.2.aR s⟩,
  agj (Paired.bL R.rb fun _ _ h=>⟨h.1,by obtain ⟨p,e,k⟩:=h.2;exact ⟨p,e,s _ _ k⟩⟩) ⟨rfl,t,rfl,s _ _ ht⟩⟩
theorem gv {R:(Str×α)->(Key×V)->Prop}(x:Str):∀{l:List (Str×α)} {kvs:γ},Paired (fun b kv=>kv.1=.inr b.1/\R b kv) l kvs->Paired (fun b kv=>kv.1=.inr b.1/\R b kv) (l.filter fun b=>decide (b.1≠x)) (d5 kvs (.inr x))
 | _,_,.nil=>.nil
 | b::_,kv::_,.cons h t=>by
  unfold d5
  rw [abW,abW]
  have ih:=gv x t
  unfold d5 at ih
  by_cases e:b.1=x
  ·have e':kv.1=.inr x:=by rw [h.1,e]
   rw [aej (by simp [e]),aej (by simp [e'])]
   exact ih
  ·have e':¬ kv.1=.inr x:=fun z=>e (aa4 (h.1.symm.trans z))
   rw [aek (by simp [e]),aek (by simp [e'])]
   exact .cons h ih
theorem dP.Nv (R:dP K H C a dx pP pW pB ps bs kP kW kB)(x:Str):
  dP K (upd H pB (.dK (d5 kB (.inr x)))) C a dx pP pW pB ps (bs.filter fun b=>decide (b.1≠x)) kP kW (d5 kB (.inr x)):=by
 have s:bu H (upd H pB (.dK (d5 kB (.inr x)))):=.dict R.br
 exact ⟨by rw [ao R.ab.2.2];exact R.obj,by rw [ao R.ne2];exact R.pl,by rw [ao R.ne3];exact R.wy,ak,R.ne1,R.ne2,R.ne3,Paired.bL R.rp fun _ _ h=>⟨h.1,h.2.aR s⟩,
  gv x (Paired.bL R.rb fun _ _ h=>⟨h.1,by obtain ⟨p,e,k⟩:=h.2;exact ⟨p,e,s _ _ k⟩⟩)⟩
theorem bU :∀{l:List α} {m:List β},Paired R l m->Paired (fun b a=>R a b) m l
 | _,_,.nil=>.nil
 | _,_,.cons h t=>.cons h (bU t)
theorem dP.Rn (R:dP K H C a dx pP pW pB ps bs kP kW kB)(ht:Spot K H (.ref t) p):
  dP K (upd H pP (.dK (kP++[(.inr x,.ref t)]))) C a dx pP pW pB (ps++[(x,p)]) bs (kP++[(.inr x,.ref t)]) kW kB:=by
 have s:bu H (upd H pP (.dK (kP++[(.inr x,.ref t)]))):=.dict R.pl
 exact ⟨by rw [ao R.ab.1];exact R.obj,ak,by rw [ao (aaD R.ne1)];exact R.wy,by rw [ao (aaD R.ne2)];exact R.br,R.ne1,R.ne2,R.ne3,
  agj (Paired.bL R.rp fun _ _ h=>⟨h.1,h.2.aR s⟩) ⟨rfl,ht.aR s⟩,Paired.bL R.rb fun _ _ h=>⟨h.1,by obtain ⟨p,e,k⟩:=h.2;exact ⟨p,e,s _ _ k⟩⟩⟩
theorem dP.uw (R:dP K H C a dx pP pW pB ps bs kP kW kB)(lE :γ):dP K (upd H pW (.dK lE)) C a dx pP pW pB ps bs kP lE kB:=by
 have s:bu H (upd H pW (.dK lE)):=.dict R.wy
 exact ⟨by rw [ao R.ab.2.1];exact R.obj,by rw [ao R.ne1];exact R.pl,ak,by rw [ao (aaD R.ne3)];exact R.br,R.ne1,R.ne2,R.ne3,
  Paired.bL R.rp fun _ _ h=>⟨h.1,h.2.aR s⟩,Paired.bL R.rb fun _ _ h=>⟨h.1,by obtain ⟨p,e,k⟩:=h.2;exact ⟨p,e,s _ _ k⟩⟩⟩
theorem DG (xs:ρ):(xs.map V.str).all iN=true:=by
 rw [akj,List.all_eq_true]
 exact fun _ _=>rfl
theorem wC :∀(xs:ρ),M_ (.str x) (xs.map V.str)=decide (x∈xs)
 | []=>rfl
 | y::ys=>by
  have ih:=wC (x:=x) ys
  unfold M_ at ih ⊢
  rw [aaj,acH,ih]
  by_cases e:y=x
  ·subst e
   simp [kg]
  ·have e':¬ x=y:=fun z=>e z.symm
   simp [kg,e,e']
end
open Builtin.Int (intBits)
def qr (r:Rat):Int×Int:=(r.num,(r.den:Int))
theorem cD (r:Rat):0<(qr r).2:=by
 have:=r.den_pos
 show (0:Int)<(r.den:Int)
 omega
theorem jM (r:Rat):aaZ (qr r).1 (qr r).2=1:=by
 have:=r.reduced
 show aaZ r.num (r.den:Int)=1
 unfold aaZ
 simpa [Nat.Coprime] using this
theorem fB (r:Rat):vl (qr r)=r:=by
 show (r.num:Rat) / ((r.den:Int):Rat)=r
 rw [<-akn]
 exact aka r
theorem pO (h:0<q.2)(g:aaZ q.1 q.2=1):q=qr (vl q):=Q7 h (cD _) g (jM _) (fB _).symm
theorem f9 (h:b≠0):low t b=qr ((t:Rat) / (b:Rat)):=by
 rw [<-um h]
 exact pO (km h) (nY h)
theorem g7 (h:qr a=qr b):a=b:=by
 rw [<-fB a,<-fB b,h]
theorem pQ (i:Int):qr (i:Rat)=(i,1):=by
 have e:(i,(1:Int))=qr (vl (i,1)):=pO (by show (0:Int)<1;decide) (by show aaZ i 1=1;simp)
 have v:vl (i,(1:Int))=(i:Rat):=by
  unfold vl
  show (i:Rat) / ((1:Int):Rat)=i
  have:((1:Int):Rat)=1:=by rfl
  rw [this]
  grind
 rw [e,v]
theorem J_ (r:Rat):qr (-r)=(-(qr r).1,(qr r).2):=by
 have e:((-(qr r).1,(qr r).2):Int×Int)=qr (vl (-(qr r).1,(qr r).2)):=pO (cD r) (by
  have:=jM r
  show aaZ (-(qr r).1) (qr r).2=1
  rw [Int.neg_gcd]
  exact this)
 have v:vl (-(qr r).1,(qr r).2)= -r:=by
  have h:=fB r
  unfold vl at h ⊢
  push_cast
  rw [<-h]
  grind
 rw [e,v]
theorem uz :((qr r).2:Rat)≠0:=cR (aaY (cD r))
theorem Ro (a b:Rat):low ((qr a).1*(qr b).2+(qr b).1*(qr a).2) ((qr a).2*(qr b).2)=qr (a+b):=by
 have ha:=cD a
 have hb:=cD b
 rw [f9 (aaY (acm ha hb))]
 have e1:=fB a
 have e2:=fB b
 have z1:=uz (r:=a)
 have z2:=uz (r:=b)
 unfold vl at e1 e2
 congr 1
 push_cast
 grind
theorem J' (a b:Rat):low ((qr a).1*(qr b).2-(qr b).1*(qr a).2) ((qr a).2*(qr b).2)=qr (a-b):=by
 have ha:=cD a
 have hb:=cD b
 rw [f9 (aaY (acm ha hb))]
 have e1:=fB a
 have e2:=fB b
 have z1:=uz (r:=a)
 have z2:=uz (r:=b)
 unfold vl at e1 e2
 congr 1
 push_cast
 grind
theorem Rp (a b:Rat):low ((qr a).1*(qr b).1) ((qr a).2*(qr b).2)=qr (a*b):=by
 have ha:=cD a
 have hb:=cD b
 rw [f9 (aaY (acm ha hb))]
 have e1:=fB a
 have e2:=fB b
 have z1:=uz (r:=a)
 have z2:=uz (r:=b)
 unfold vl at e1 e2
 congr 1
 push_cast
 grind
structure Sz (k:Nat)(r:Rat):Prop where
 top:intBits (qr r).1<=k
 bot:intBits (qr r).2<=k
theorem Sz.up (h:Sz k r)(kl:k<=l):Sz l r:=⟨aak h.top kl,aak h.bot kl⟩
theorem DH (ha:intBits a<=k)(hb:intBits b<=k):intBits (a+b)<=k+1:=by
 rw [intBits_le_iff] at ha hb ⊢
 have:=acN a b
 rw [adk]
 omega
theorem DI (ha:intBits a<=k)(hb:intBits b<=k):intBits (a-b)<=k+1:=by
 rw [intBits_le_iff] at ha hb ⊢
 have:=Int.natAbs_sub_le a b
 rw [adk]
 omega
theorem yq (hb:b≠0)(h1:intBits t<=k)(h2:intBits b<=k):Sz k ((t:Rat) / (b:Rat)):=by
 rw [<-um hb]
 have e:=pO (km (t:=t) hb) (nY hb)
 exact ⟨by rw [<-e];exact intBits_le_of_natAbs (oO hb) h1,by rw [<-e];exact intBits_le_of_natAbs (oP hb) h2⟩
theorem Ka (hb:b≠0)(e:low t b=qr r)(h1:intBits t<=k)(h2:intBits b<=k):Sz k r:=by
 have z:=f9 (t:=t) hb
 rw [z] at e
 have:=g7 e
 rw [<-this]
 exact yq hb h1 h2
theorem Sz.add (ha:Sz k a)(hb:Sz l b):Sz (k+l+1) (a+b):=
 Ka (aaY (acm (cD a) (cD b))) (Ro a b) (DH (afe ha.top hb.bot) (by rw [ajS];exact afe hb.top ha.bot)) (ako (afe ha.bot hb.bot))
theorem Sz.sub (ha:Sz k a)(hb:Sz l b):Sz (k+l+1) (a-b):=
 Ka (aaY (acm (cD a) (cD b))) (J' a b) (DI (afe ha.top hb.bot) (by rw [ajS];exact afe hb.top ha.bot)) (ako (afe ha.bot hb.bot))
theorem Sz.mul (ha:Sz k a)(hb:Sz l b):Sz (k+l) (a*b):=
 Ka (aaY (acm (cD a) (cD b))) (Rp a b) (afe ha.top hb.top) (afe ha.bot hb.bot)
theorem Sz.neg (ha:Sz k a):Sz k (-a):=by
 refine ⟨?_,?_⟩
 ·rw [J_]
  have:=ha.top
  rw [intBits_le_iff] at this ⊢
  show (-(qr a).1).natAbs<2^k
  rw [aj0]
  exact this
 ·rw [J_]
  exact ha.bot
theorem g8 {i:Int}(h:i.natAbs<2^k)(hk:1<=k):Sz k (i:Rat):=by
 refine ⟨?_,?_⟩
 ·rw [pQ]
  exact intBits_le_iff.mpr h
 ·rw [pQ]
  refine intBits_le_iff.mpr ?_
  show 1<2^k
  exact Nat.one_lt_two_pow (by omega)
def fN (K:Frag)(H:Hp)(v:V)(r:Rat):Prop:=mT K H v (qr r)
def eG (K:Frag)(H:Hp)(v:V)(p:Rat×Rat):Prop:=∃a u1 u2,v=.ref a/\bJ K H a [u1,u2]/\fN K H u1 p.1/\fN K H u2 p.2
section
variable {K:Frag}{H H':Hp}{v:V}{r:Rat}{p:Rat×Rat}
theorem fN.aR (h:fN K H v r)(s:bu H H'):fN K H' v r:=mT.aR h s
theorem fN.same (h:fN K H v r)(s:au H H'):fN K H' v r:=mT.same h s
theorem eG.aR (h:eG K H v p)(s:bu H H'):eG K H' v p:=by
 obtain ⟨a,u1,u2,e,h1,h2,h3⟩:=h
 exact ⟨a,u1,u2,e,s.bI h1,h2.aR s,h3.aR s⟩
theorem eG.same (h:eG K H v p)(s:au H H'):eG K H' v p:=h.aR (.of s)
abbrev qX (p:Rat×Rat):Pt:=(qr p.1,qr p.2)
theorem eG.UL (h:eG K H v p):Spot K H v (qX p):=h
def iB (K:Frag)(H:Hp)(us:ε)(ps:υ):Prop:=Paired (eG K H) us ps
theorem iB.aR (h:iB K H us ps)(s:bu H H'):iB K H' us ps:=Paired.bL h fun _ _ z=>z.aR s
theorem iB.same (h:iB K H us ps)(s:au H H'):iB K H' us ps:=h.aR (.of s)
end
section
variable {X:Cx}
theorem AA {σ:L2.St}(I:Inv X pins σ H s)(h1:eG X.K H v p)(h2:eG X.K H v q):p=q:=by
 obtain ⟨a,u1,u2,rfl,t1,⟨b1,rfl,n1⟩,b2,rfl,n2⟩:=h1
 obtain ⟨a',w1,w2,e,t2,⟨c1,rfl,m1⟩,c2,rfl,m2⟩:=h2
 cases e
 cases I.gF t1 t2
 have e1:=I.gF n1 m1
 have e2:=I.gF n2 m2
 simp only [List.cons.injEq,V.int.injEq,and_true] at e1 e2
 exact acT (g7 (acT e1.1 e1.2)) (g7 (acT e2.1 e2.2))
def UM (K:Frag)(neg:Bool):R2:=fun x y H Q=>∃p l us ps,y=.ref l/\aV K H l us/\eG K H x p/\iB K H us ps/\Q (.bl (if neg then !decide (p∈ps) else decide (p∈ps))) H
theorem UN {σ:L2.St}{its:ο}(I:Inv X pins σ H s)(hu:A.units+60<afG)(hx:eG X.K H x p)(rx:RelV x v)(hp:iB X.K H us ps)(rv:Vals us its):
  ∃e:Value->Bool,(∀y,y∈its.toArray->SeqAt.EqAt A s y v (e y))/\its.toArray.any e=decide (p∈ps):=by
 have key:∀(j:Nat)(y:Value),its[j]?=some y->∃u q,us[j]?=some u/\ps[j]?=some q/\RelV u y/\eG X.K H u q:=fun j y ey=>by
  obtain ⟨u,eu,ru⟩:=aw (bU rv) ey
  obtain ⟨q,eq,hq⟩:=aw hp eu
  exact ⟨u,q,eu,eq,ru,hq⟩
 refine ⟨fun y=> @decide (∃u q,RelV u y/\eG X.K H u q/\q=p) (aa' _),fun y hy=>?_,?_⟩
 ·obtain ⟨j,hj,ey⟩:=aba.mp (by simpa using hy:y∈its)
  obtain ⟨u,q,eu,eq,ru,hq⟩:=key j y (by rw [gE hj,ey])
  have z:=zQ (A:=A) I (.t (eR (qX q))) (.t (eR (qX p))) u x y v hq.UL.is hx.UL.is (by unfold alike;exact mU _ _) ru rx (by have:=sS (qX q);unfold dep;simp only [eR,iQ,dep] at this ⊢;omega)
  have e:jk (.t (eR (qX q))) (.t (eR (qX p)))= @decide (∃u q,RelV u y/\eG X.K H u q/\q=p) (aa' _):=by
   unfold jk
   rw [wA]
   by_cases c:q=p
   ·subst c
    rw [aeD rfl]
    symm
    exact @aeD _ (aa' _) ⟨u,q,ru,hq,rfl⟩
   ·rw [aeR (fun z=>c (acT (g7 (aeE akl z)) (g7 (aeE akm z))))]
    symm
    refine @aeR _ (aa' _) fun ⟨u',q',ru',nq,e'⟩=>?_
    obtain ⟨a,_,_,rfl,_⟩:=id hq
    obtain ⟨a',_,_,rfl,_⟩:=id nq
    have r1:y=Value.ref a:=ru
    have r2:y=Value.ref a':=ru'
    rw [r1] at r2
    cases r2
    exact c ((AA I hq nq).trans e')
  rw [e] at z
  exact z
 ·rw [ab7,decide_eq_true_iff]
  simp only [List.any_toArray,acw]
  constructor
  ·rintro ⟨y,hy,ey⟩
   obtain ⟨j,hj,ej⟩:=aba.mp hy
   obtain ⟨u,q,eu,eq,ru,hq⟩:=key j y (by rw [gE hj,ej])
   obtain ⟨u',q',ru',nq,e'⟩:= @aeJ _ (aa' _) ey
   obtain ⟨a,_,_,rfl,_⟩:=id hq
   obtain ⟨a',_,_,rfl,_⟩:=id nq
   have r1:y=Value.ref a:=ru
   have r2:y=Value.ref a':=ru'
   rw [r1] at r2
   cases r2
   rw [<-e',<-AA I hq nq]
   exact Wp eq
  ·intro hm
   obtain ⟨j,hj,ej⟩:=aba.mp hm
   have lu:us.length=ps.length:=aer hp
   have li:us.length=its.length:=rv.length
   have UO :j<its.length:=by omega
   refine ⟨its[j],abX UO,?_⟩
   obtain ⟨u,q,eu,eq,ru,hq⟩:=key j its[j] (gE UO)
   rw [gE hj,ej] at eq
   cases eq
   exact @aeD _ (aa' _) ⟨u,p,ru,hq,rfl⟩
theorem Nw (hu:X.A.units+64<afG):i7 X (ae2 .In) (UM X.K false):=by
 intro pins s σ H x y v u Q I rx ry h
 obtain ⟨p,l,us,ps,rfl,hq,hx,hp,q⟩:=h
 cases ry
 obtain ⟨its,rv,pl,hz⟩:=I.list hq
 obtain ⟨e,he,ea⟩:=UN (A:=X.A.in1) I (by rw [in1_units];omega) hx rx hp rv
 refine SeqAt.in_listAt e pl.isList he ⟨.bl _,H,I,rfl,?_⟩
 rw [ea]
 exact q
end
theorem jN {R:(Str×α)->(Key×V)->Prop}:∀{l:List (Str×α)} {kvs:γ},Paired (fun b kv=>kv.1=.inr b.1/\R b kv) l kvs->(l.map (·.1)).Nodup->(x,y)∈l->∃v,bY kvs (.inr x)=some v/\R (x,y) (.inr x,v):=fun {l kvs} p nd m=>by
 induction p with
 | nil=>cases m
 | cons h t ih=>
  rw [aaj,aaR] at nd
  rcases aaL.mp m with e|m
  ·subst e
   refine ⟨_,bT h.1,?_⟩
   have h2:=h.2
   rw [<-h.1]
   exact h2
  ·obtain ⟨v,e,r⟩:=ih nd.2 m
   refine ⟨v,?_,r⟩
   rw [bG (fun z=>?_)]
   ·exact e
   ·rw [h.1] at z
    exact nd.1 (aa4 z▸aai.mpr ⟨_,m,rfl⟩)
def pR (K:Frag)(H:Hp)(pw:Η)(kW:γ):Prop:=
 Paired (fun (p:Str×List (Rat×Rat)) (kv:Key×V)=>kv.1=.inr p.1/\∃l us,kv.2=.ref l/\H l=some (.lst us)/\iB K H us p.2) pw kW
theorem pR.same {K:Frag}(h:pR K H pw kW)(s:au H H'):pR K H' pw kW:=
 Paired.bL h fun _ _ z=>⟨z.1,by obtain ⟨l,us,e1,e2,e3⟩:=z.2;exact ⟨l,us,e1,s _ _ e2,e3.same s⟩⟩
theorem pR.dict {K:Frag}(h:pR K H pw kW)(e:H d=some (.dK kvs)):pR K (upd H d o) pw kW:=
 Paired.bL h fun _ _ z=>⟨z.1,by
  obtain ⟨l,us,e1,e2,e3⟩:=z.2
  exact ⟨l,us,e1,by rw [ao (fun q=>by rw [q,e] at e2;cases e2)];exact e2,e3.aR (.dict e)⟩⟩
theorem pR.keys {K:Frag}(h:pR K H pw kW):kW.map (·.1)=(pw.map (·.1)).map (fun b=>(aaU b:Key)):=by
 rw [fw h,aay]
 rfl
theorem dP.ends {K:Frag}(R:dP K H C a dx pP pW pB ps bs kP kW kB)(nd:(bs.map (·.1)).Nodup)(m:(x,one,other)∈bs):
  ∃p,bY kB (.inr x)=some (.ref p)/\Rd H p (.tup [.str one,.str other]):=by
 obtain ⟨v,e,p,ep,r⟩:=jN R.rb nd m
 have rX :v=.ref p:=ep
 exact ⟨p,by rw [e,rX],r⟩
theorem dP.place {K:Frag}(R:dP K H C a dx pP pW pB ps bs kP kW kB)(nd:(ps.map (·.1)).Nodup)(m:(x,p)∈ps):
  ∃v,bY kP (.inr x)=some v/\Spot K H v p:=jN R.rp nd m
end Ty
namespace Ty
open PySem PySem.Spec PyProof.Rows L2
structure ay where
 nm:Str
 sp:Rat×Rat
 ws:List (Rat×Rat)
abbrev _root_.ν:=List ay
structure a_ where
 nm:Str
 one:ay
 other:ay
abbrev _root_.τ:=List a_
inductive vw (K:Frag)(H:Hp)(C a:aef)(pins:ν)(aj:τ):Prop
|mk (dx pP pW pB:aef)(kP kW kB:γ)(_:dP K H C a dx pP pW pB (pins.map fun p=>(p.nm,qX p.sp)) (aj.map fun b=>(b.nm,b.one.nm,b.other.nm)) kP kW kB)(_:pR K H (pins.map fun p=>(p.nm,p.ws)) kW)
theorem vw.ex {K:Frag}(h:vw K H C a pins aj):vw K H C a pins aj:=h
structure fG (pins:ν)(aj:τ):Prop where
 np:(pins.map (·.nm)).Nodup
 nb:(aj.map (·.nm)).Nodup
 ends:∀b∈aj,b.one∈pins/\b.other∈pins/\b.one.nm≠b.other.nm
 sz:∀p∈pins,Sz 44 p.sp.1/\Sz 44 p.sp.2/\∀w∈p.ws,Sz 22 w.1/\Sz 22 w.2
 lp:pins.length<=9
 lb:aj.length<=14
 lw:∀p∈pins,p.ws.length<=2
theorem vw.same {K:Frag}(h:vw K H C a pins aj)(s:au H H'):vw K H' C a pins aj:=by
 obtain ⟨dx,pP,pW,pB,kP,kW,kB,R,W⟩:=h.ex
 exact ⟨dx,pP,pW,pB,kP,kW,kB,R.same s,W.same s⟩
def Mf (K:Frag)(H:Hp)(kvs:γ)(F:θ):Prop:=
 ∀nm,(bY kvs (.inr nm)=none/\F nm=none)\/∃v p,bY kvs (.inr nm)=some v/\F nm=some p/\eG K H v p
section
variable {K:Frag}{H H':Hp}{kvs:γ}
theorem Mf.same (h:Mf K H kvs F)(s:au H H'):Mf K H' kvs F:=fun nm=>by
 rcases h nm with h|⟨v,q,h1,h2,h3⟩
 ·exact .inl h
 ·exact .inr ⟨v,q,h1,h2,h3.same s⟩
theorem Mf.UP (h:Mf K H kvs F)(n:eG K H v q):eG K H ((bY kvs (.inr x)).getD v) ((F x).getD q):=by
 rcases h x with ⟨h1,h2⟩|⟨u,q',h1,h2,h3⟩
 ·rw [h1,h2]
  exact n
 ·rw [h1,h2]
  exact h3
end
end Ty
namespace Ty
open PySem PySem.Spec PyProof.Rows L2
end Ty
namespace Ty
open PySem PySem.Spec PyProof.Rows L2
theorem Rq {α:Type}{nm:α->Str}{l:List α}(nd:(l.map nm).Nodup){b b':α}(h:b∈l)(h':b' ∈l)(e:nm b=nm b'):b=b':=by
 obtain ⟨i,hi,ei⟩:=aba.mp h
 obtain ⟨j,hj,ej⟩:=aba.mp h'
 have q1:(l.map nm)[i]?=some (nm b):=by rw [aag,gE hi,ei];rfl
 have q2:(l.map nm)[j]?=some (nm b):=by rw [aag,gE hj,ej,e];rfl
 have ij:=(adl (by rw [aah];exact hi) nd).mp (q1.trans q2.symm)
 subst ij
 rw [<-ei,<-ej]
theorem f_ {α:Type}{nm:α->Str}{l:List α}(nd:(l.map nm).Nodup){b b':α}(h:l[i]?=some b)(m:b' ∈l.take i):nm b'≠nm b:=fun e=>by
 have il:=(ir.mp h).1
 obtain ⟨j,hj,ej⟩:=aba.mp m
 rw [akp] at ej
 rw [aaJ] at hj
 have q1:(l.map nm)[j]?=some (nm b):=by rw [aag,gE (by omega),ej,<-e];rfl
 have q2:(l.map nm)[i]?=some (nm b):=by rw [aag,h];rfl
 have:=(adl (by rw [aah];omega) nd).mp (q1.trans q2.symm)
 omega
theorem take_snoc {α:Type}{l:List α}{b:α}(h:l[i]?=some b):l.take (i+1)=l.take i++[b]:=by rw [acn,h];rfl
end Ty
namespace Ty
open PySem PySem.Spec PyProof.Rows L2
theorem DJ {xs:ρ}(h:xs.Nodup):(xs.map fun x=>(aaU x:Key)).Nodup:=by
 unfold akb
 rw [adm]
 exact adn (fun h e=>h (aa4 e)) h
theorem ma (s:au H H')(n:H' p=none):H p=none:=by
 cases e:H p with
 | none=>rfl
 | some o=>rw [s _ _ e] at n;cases n
end Ty
namespace Ty
open PySem PySem.Spec PyProof.Rows L2
section
variable {X:Cx}
end
section
variable {D:aef}{te:TE}{cap:L2.St}{H1:Hp}{Q:VK}
end
abbrev f' (h:Heap)(z TI TO:aef)(f0:Value)(fb:Bool):Prop:=
 h.get? z=some {cls:=.type "zip",dict:=none,data:=.fields #[f0,.bool fb,.bool false,.ref TI,.ref TO],slots:= #[]}
section
variable {prog:aeB}{w:World}{A:aeI}{E:δ}{s:aep}
theorem wD (h:s.heap.get? a=some o)(q:Q (some o) s):aen (aes prog w) A (loadIfAlive a) Q E s:=fun Γ p _=>by
 show Sem.wp _ _ (.loadIfAlive a .pure) _ _ _ _
 rw [Sem.wp_loadIfAlive,h]
 exact q
theorem wG {z TI TO T:aef}(hz:f' s.heap z TI TO (afE T) fb)(hT:s.heap.get? T=some o)
  (hQ:∀h',f' h' z TI TO (afE T) true->agr z s.heap h' ->Q false {s with heap:=h'}):aen (aes prog w) A (ae7 (.ref z)) Q E s:=by
 unfold ae7
 refine aeg (afB hz rfl (x:=afE T) rfl ?_)
 show aen _ _ (loadIfAlive ((T:Int)).toNat >>=_) _ _ _
 refine aeg (wD (o:=o) (by simpa using hT) ?_)
 simp only [Option.isNone_some,ac0,if_false]
 refine aeg (afB hz rfl (x:=.bool fb) rfl ?_)
 cases fb with
 | true=>
  show aen _ _ (if (Value.bool true !=Value.bool true)=true then _ else _) _ _ _
  rw [aej (by decide)]
  exact aeo (hQ s.heap hz ⟨rfl,fun _ _=>rfl⟩)
 | false=>
  show aen _ _ (if (Value.bool false !=Value.bool true)=true then _ else _) _ _ _
  rw [aek (by decide)]
  refine aeg (wpAny_setField_rec hz (by simp) fun h' hz' Pf =>aeo (hQ h' hz' Pf))
theorem DK {z TI TO T i1 i2 l1 l2:aef}{xs ys:Κ}{Q:δ}(D:ZipApart z TI TO i1 i2 l1 l2)
  (hz:f' s.heap z TI TO (afE T) fb) (hT:s.heap.get? T=some o) (jL:IsPair s.heap TI (.ref i1) (.ref i2))
  (h1:s.heap.IsListIter i1 l1 k1) (h2:s.heap.IsListIter i2 l2 k2) (AB:s.heap.IsList l1 xs) (ya:s.heap.IsList l2 ys) (hx:xs[k1]?=some x) (hy:ys[k2]?=some y)
  (hQ:∀h',f' h' z TI TO (afE T) true->h'.IsListIter i1 l1 (k1+1)->h'.IsListIter i2 l2 (k2+1)->IsPair h' s.heap.objs.size x y->h'.objs.size=s.heap.objs.size+1->
   (∀c o,c≠z->c≠i1->c≠i2->s.heap.get? c=some o->h'.get? c=some o)->Q (.ref s.heap.objs.size) {s with heap:=h'}):
  aen (aes prog w) A (Builtin.«zip.__next__» ⟨[.ref z],[]⟩) (fun fin s'=>∃v,fin=.done (.ret v)/\Q v s') E s:=by
 show aen _ _ (field (.ref z) 2 >>=_) _ _ _
 refine aeg (afB hz rfl (x:=.bool false) rfl ?_)
 show aen _ _ (field (.ref z) 3 >>=_) _ _ _
 refine aeg (afB hz rfl (x:=.ref TI) rfl ?_)
 refine aeg (age jL rfl ?_)
 show aen _ _ (ae7 (.ref z) >>=_) _ _ _
 refine aeg (wG hz hT fun h₁ hz₁ yr=>?_)
 simp only [ac0,if_false]
 refine aeg ?_
 show aen _ _ (forIn [Value.ref i1,Value.ref i2].toArray _ _) _ _ _
 rw [akc]
 simp only [akI,aj1]
 refine aeg (aeg (ae5 ?_))
 show aen _ _ (afA (.ref i1) >>=_) _ _ _
 refine aeg (wpAny_nextOf_list_item (h1.extBut yr.extBut D.i1z) (AB.extBut yr.extBut D.l1z) hx fun h₂ h1₂ Kb=>aeo ?_)
 refine aeo ?_
 refine aeg (aeg (ae5 ?_))
 show aen _ _ (afA (.ref i2) >>=_) _ _ _
 refine aeg (wpAny_nextOf_list_item ((h2.extBut yr.extBut D.i2z).extBut Kb.extBut D.i12.symm) ((ya.extBut yr.extBut D.l2z).extBut Kb.extBut D.l2i1) hy fun h₄ h2₄ SY=>aeo ?_)
 refine aeo (aeo ?_)
 refine aeg (wpAny_newTuple (hsz:=(by show 2<=ael;decide)) ?_)
 have hsz:h₄.objs.size=s.heap.objs.size:=by rw [SY.1,Kb.1,yr.1]
 refine aeo ⟨_,rfl,?_⟩
 have hz₄:f' h₄ z TI TO (afE T) true:=SY.extBut _ _ D.i2z.symm (Kb.extBut _ _ D.i1z.symm hz₁)
 show Q (.ref h₄.objs.size) _
 rw [hsz]
 refine hQ _ (aeh _ hz₄) ((h1₂.extBut SY.extBut D.i12).at fun o e=>aeh _ e) (h2₄.at fun o e=>aeh _ e) ?_ (by rw [afC,hsz]) fun c o c1 c3 c4 e=>aeh _ (SY.extBut _ _ c4 (Kb.extBut _ _ c3 (yr.extBut _ _ c1 e)))
 show (h₄.push _).get? _=_
 rw [<-hsz]
 exact aez _ rfl
theorem Kc {z TI TO T i1 i2 l1 l2:aef}{xs ys:Κ}(hh:A.handled=none)(D:ZipApart z TI TO i1 i2 l1 l2)
  (hz:f' s.heap z TI TO (afE T) fb) (hT:s.heap.get? T=some o) (jL:IsPair s.heap TI (.ref i1) (.ref i2))
  (h1:s.heap.IsListIter i1 l1 k1) (h2:s.heap.IsListIter i2 l2 k2) (AB:s.heap.IsList l1 xs) (ya:s.heap.IsList l2 ys) (DL:xs[k1]?=none\/ys[k2]?=none)
  (hE:∀h' e,(∀c o,c≠z->c≠i1->c≠i2->s.heap.get? c=some o->h'.get? c=some o)->(∃o,h'.get? e=some o/\o.cls=.type "StopIteration")->E (.ref e) {s with heap:=h'}):
  aen (aes prog w) A (Builtin.«zip.__next__» ⟨[.ref z],[]⟩) Q E s:=by
 show aen _ _ (field (.ref z) 2 >>=_) _ _ _
 refine aeg (afB hz rfl (x:=.bool false) rfl ?_)
 show aen _ _ (field (.ref z) 3 >>=_) _ _ _
 refine aeg (afB hz rfl (x:=.ref TI) rfl ?_)
 refine aeg (age jL rfl ?_)
 show aen _ _ (ae7 (.ref z) >>=_) _ _ _
 refine aeg (wG hz hT fun h₁ hz₁ yr=>?_)
 simp only [ac0,if_false]
 refine aeg ?_
 show aen _ _ (forIn [Value.ref i1,Value.ref i2].toArray _ _) _ _ _
 rw [akc]
 simp only [akI,aj1]
 refine aeg (aeg (ae5 ?_))
 show aen _ _ (afA (.ref i1) >>=_) _ _ _
 cases hx:xs[k1]? with
 | none=>
  refine aeg (wpAny_nextOf_list_end hh (h1.extBut yr.extBut D.i1z) (AB.extBut yr.extBut D.l1z) hx fun h₂ e Kb he=>?_)
  exact hE h₂ e (fun c o c1 c3 _ x=>Kb _ _ c3 (yr.extBut _ _ c1 x)) he
 | some x=>
  have hy:ys[k2]?=none:=by rcases DL with h|h;rw [hx] at h;cases h;exact h
  refine aeg (wpAny_nextOf_list_item (h1.extBut yr.extBut D.i1z) (AB.extBut yr.extBut D.l1z) hx fun h₂ h1₂ Kb=>aeo ?_)
  refine aeo ?_
  refine aeg (aeg (ae5 ?_))
  show aen _ _ (afA (.ref i2) >>=_) _ _ _
  refine aeg (wpAny_nextOf_list_end hh ((h2.extBut yr.extBut D.i2z).extBut Kb.extBut D.i12.symm) ((ya.extBut yr.extBut D.l2z).extBut Kb.extBut D.l2i1) hy fun h₄ e SY he=>?_)
  exact hE h₄ e (fun c o c1 c3 c4 x=>SY _ _ c4 (Kb.extBut _ _ c3 (yr.extBut _ _ c1 x))) he
theorem yt {z TI TO T i1 i2 l1 l2:aef}{xs ys:Κ}{Q:Ρ}(D:ZipApart z TI TO i1 i2 l1 l2)
  (hz:f' s.heap z TI TO (afE T) fb) (hT:s.heap.get? T=some o) (jL:IsPair s.heap TI (.ref i1) (.ref i2))
  (h1:s.heap.IsListIter i1 l1 k1) (h2:s.heap.IsListIter i2 l2 k2) (AB:s.heap.IsList l1 xs) (ya:s.heap.IsList l2 ys) (hx:xs[k1]?=some x) (hy:ys[k2]?=some y)
  (hQ:∀h',f' h' z TI TO (afE T) true->h'.IsListIter i1 l1 (k1+1)->h'.IsListIter i2 l2 (k2+1)->IsPair h' s.heap.objs.size x y->h'.objs.size=s.heap.objs.size+1->
   (∀c o,c≠z->c≠i1->c≠i2->s.heap.get? c=some o->h'.get? c=some o)->Q (some (.ref s.heap.objs.size)) {s with heap:=h'}):
  aen (aes prog w) A (af2 (.ref z)) Q E s:=by
 have UQ :s.TypeIs (.ref z) "zip":=⟨_,hz,rfl⟩
 unfold af2
 exact aeg (wpAny_attempt (wpAny_callSpecial?_slot (name:=aeY "__next__") UQ agC
  (agn agC UQ F.entry_zip_next
   (DK D hz hT jL h1 h2 AB ya hx hy fun h' a1 a3 a4 a5 a6 a7=>aeo (hQ h' a1 a3 a4 a5 a6 a7)) (F.args_zip_next_1 _))))
theorem DM {z TI TO T i1 i2 l1 l2:aef}{xs ys:Κ}{Q:Ρ}(hh:A.handled=none)(D:ZipApart z TI TO i1 i2 l1 l2)
  (hz:f' s.heap z TI TO (afE T) fb) (hT:s.heap.get? T=some o) (jL:IsPair s.heap TI (.ref i1) (.ref i2))
  (h1:s.heap.IsListIter i1 l1 k1) (h2:s.heap.IsListIter i2 l2 k2) (AB:s.heap.IsList l1 xs) (ya:s.heap.IsList l2 ys) (DL:xs[k1]?=none\/ys[k2]?=none)
  (hQ:∀h',(∀c o,c≠z->c≠i1->c≠i2->s.heap.get? c=some o->h'.get? c=some o)->Q none {s with heap:=h'}):aen (aes prog w) A (af2 (.ref z)) Q E s:=by
 have UQ :s.TypeIs (.ref z) "zip":=⟨_,hz,rfl⟩
 unfold af2
 refine aeg (wpAny_attempt (wpAny_callSpecial?_slot (name:=aeY "__next__") UQ agC
  (agn agC UQ F.entry_zip_next (Kc hh D hz hT jL h1 h2 AB ya DL fun h' e hk he=>?_) (F.args_zip_next_1 _))))
 obtain ⟨o,ho,hc⟩:=he
 refine aeg (wpAny_isInstance (T:="StopIteration") (b:=true) ⟨o,ho,hc⟩ isSubtype_stop ?_)
 exact aeo (hQ _ hk)
end
def Mg (h:Heap)(z TI TO i1 i2 a b S:aef)(i:Nat):Prop:=(f' h z TI TO .none false\/∃(T:aef)(o:Obj)(fb:Bool),f' h z TI TO (afE T) fb/\h.get? T=some o/\T≠z/\T≠TO/\T≠i1/\T≠i2/\T≠S)/\IsPair h TI (.ref i1) (.ref i2)/\(∃x y,IsPair h TO x y)/\h.IsListIter i1 a i/\h.IsListIter i2 b i
section
variable {prog:aeB}{w:World}{A:aeI}{E:δ}{s:aep}{z TI TO i1 i2 a b S:aef}{i:Nat}
theorem Mg.frame (st:Mg h z TI TO i1 i2 a b S i)(k:∀c o,c≠S->h.get? c=some o->h'.get? c=some o)(nz:z≠S)(n1:TI≠S)(n2:TO≠S)(n3:i1≠S)(n4:i2≠S):Mg h' z TI TO i1 i2 a b S i:=by
 obtain ⟨hz,jL,⟨x,y,sE⟩,h1,h2⟩:=st
 refine ⟨?_,k _ _ n1 jL,⟨x,y,k _ _ n2 sE⟩,h1.at fun o e=>k _ o n3 e,h2.at fun o e=>k _ o n4 e⟩
 rcases hz with hz|⟨T,o,fb,hz,hT,t1,t2,t3,t4,t5⟩
 ·exact .inl (k _ _ nz hz)
 ·exact .inr ⟨T,o,fb,k _ _ nz hz,k _ _ t5 hT,t1,t2,t3,t4,t5⟩
theorem Mg.item {xs ys:Κ}{Q:Ρ}(D:ZipApart z TI TO i1 i2 a b)(st:Mg s.heap z TI TO i1 i2 a b S i)(hS:s.heap.get? S=some oS)
  (AB:s.heap.IsList a xs) (ya:s.heap.IsList b ys) (hx:xs[i]?=some x) (hy:ys[i]?=some y)
  (hQ:∀h',Mg h' z TI TO i1 i2 a b S (i+1)->IsPair h' s.heap.objs.size x y->(∀c o,c∉[z,TI,TO,i1,i2]->s.heap.get? c=some o->h'.get? c=some o)->Q (some (.ref s.heap.objs.size)) {s with heap:=h'}):
  aen (aes prog w) A (af2 (.ref z)) Q E s:=by
 obtain ⟨hz,jL,⟨x0,y0,sE⟩,h1,h2⟩:=st
 have lt:∀{c o},s.heap.get? c=some o->s.heap.objs.size≠c:=fun e=>acz (aew e)
 have e1:∃o,s.heap.get? i1=some o:=by obtain ⟨o,e,_⟩:=h1;exact ⟨o,e⟩
 have e2:∃o,s.heap.get? i2=some o:=by obtain ⟨o,e,_⟩:=h2;exact ⟨o,e⟩
 obtain ⟨o1,e1⟩:=e1
 obtain ⟨o2,e2⟩:=e2
 have UR:∀{c:aef},c∉[z,TI,TO,i1,i2]->c≠z/\c≠TI/\c≠TO/\c≠i1/\c≠i2:=fun h=>by simpa using h
 rcases hz with hz|⟨T,o,fb,hz,hT,t1,t2,t3,t4,t5⟩
 ·refine wpAny_pyNext_zip_item D hz jL sE h1 h2 AB ya hx hy fun h' a1 a2 a3 a4 a5 a6 a7=>?_
  refine hQ h' ⟨.inr ⟨_,_,false,a1,a5,lt hz,lt sE,lt e1,lt e2,lt hS⟩,a7 _ _ D.TIz D.TITO D.TIi1 D.TIi2 jL,⟨_,_,a2⟩,a3,a4⟩ a5 fun c o hc e=>?_
  obtain ⟨c1,c2,c3,c4,c5⟩:=UR hc
  exact a7 c o c1 c3 c4 c5 e
 ·refine yt D hz hT jL h1 h2 AB ya hx hy fun h' a1 a3 a4 a5 a6 a7=>?_
  refine hQ h' ⟨.inr ⟨T,o,true,a1,a7 _ _ t1 t3 t4 hT,t1,t2,t3,t4,t5⟩,a7 _ _ D.TIz D.TIi1 D.TIi2 jL,⟨_,_,a7 _ _ D.TOz D.TOi1 D.TOi2 sE⟩,a3,a4⟩ a5 fun c o hc e=>?_
  obtain ⟨c1,c2,c3,c4,c5⟩:=UR hc
  exact a7 c o c1 c4 c5 e
theorem Mg.fin {xs ys:Κ}{Q:Ρ}(hh:A.handled=none)(D:ZipApart z TI TO i1 i2 a b)(st:Mg s.heap z TI TO i1 i2 a b S i)
  (AB:s.heap.IsList a xs) (ya:s.heap.IsList b ys) (DL:xs[i]?=none\/ys[i]?=none)
  (hQ:∀h',(∀c o,c∉[z,TI,TO,i1,i2]->s.heap.get? c=some o->h'.get? c=some o)->Q none {s with heap:=h'}):aen (aes prog w) A (af2 (.ref z)) Q E s:=by
 obtain ⟨hz,jL,⟨x0,y0,sE⟩,h1,h2⟩:=st
 have UR:∀{c:aef},c∉[z,TI,TO,i1,i2]->c≠z/\c≠TI/\c≠TO/\c≠i1/\c≠i2:=fun h=>by simpa using h
 rcases hz with hz|⟨T,o,fb,hz,hT,t1,t2,t3,t4,t5⟩
 ·refine wpAny_pyNext_zip_end hh D hz jL sE h1 h2 AB ya DL fun h' kk=>hQ h' fun c o hc e=>?_
  obtain ⟨c1,c2,c3,c4,c5⟩:=UR hc
  exact kk c o c1 c3 c4 c5 e
 ·refine DM hh D hz hT jL h1 h2 AB ya DL fun h' kk=>hQ h' fun c o hc e=>?_
  obtain ⟨c1,c2,c3,c4,c5⟩:=UR hc
  exact kk c o c1 c4 c5 e
end
end Ty
namespace Ty
open PySem PySem.Spec PyProof.Rows L2
section
variable {X:Cx}{pins:ζ}{σ:L2.St}
theorem sT (h:H p=none)(o:HO):au H (upd H p o):=fun b u q=>by rw [ao (aq q h)];exact q
theorem boot_list:aeL "list"=some (.type "list"):=by decide+kernel
end
section
variable {X:Cx}
section
variable {k:Nat}{m:Str}{pos apos:Pos}{e o:Expr}{es:Δ}{ta:TE}{t:TA}
end
end
section
variable {P:aeB}{w:World}{K:Frag}{mg:ι}{base:Heap}
end
theorem Nz (l:aef)(its:Κ)(n:Nat)(b:aef)(d0:Κ)(n2:Nat)(d:Θ)(sl:Ν)(hs0:¬(!its.isEmpty && afh (its.size+d0.size))=true)(hs1:its.size<=ael)(H_:its.size+d0.size<=ael+1):
  Meets (Builtin.«list.extend» ⟨[.ref l,.ref b],[]⟩) (fun _ R s=>s.heap.get? l=some {cls:=.type "list",dict:=none,data:=.seq its n,slots:= #[]}/\s.heap.get? b=some {cls:=.type "tuple",dict:=d,data:=.seq d0 n2,slots:=sl}/\
   R (.ok (.ret Value.none)) {s with heap:=s.heap.update l (afy fun x=>x++d0),toks:=s.toks}):=
 .of_wp fun prog w A R s h=>by
  obtain ⟨hp,g,dd,tk,os⟩:=s
  obtain ⟨hl,hb,h⟩:=h
  have f1:=AutoSeq1.idx_int
  have f2:=AutoSeq1.sub_tuple_tuple
  have f3:=AutoSeq1.sub_list_list
  have f4:=AutoSeq1.sub_tuple_list
  have f5:=AutoSeq1.sub_list_tuple
  have hz':(its++d0).size<=ael+1:=by rw [Array.size_append];exact H_
  wp_walk using (agB hl rfl (hz:=hs1) (_hz':=hz')),wpAny_loadPart' hl,wpAny_loadPart' hb
  exact ⟨_,rfl,h⟩
section
variable {X:Cx}
def US (K:Frag):V->List V->Hp->VK->Prop:=fun x vs H Q=>∃l b xs zs,x=.ref l/\vs=[.ref b]/\H l=some (.lst xs)/\bJ K H b zs/\xs.length+zs.length<=1000/\Q .cg (upd H l (.lst (xs++zs)))
theorem NA:MtR X "list.extend" (US X.K):=by
 intro pins s σ H x vs v us Q I rx rv h
 obtain ⟨l,b,xs,zs,rfl,rfl,hH,hB,hz,q⟩:=h
 cases rx
 obtain ⟨u,rfl,ru⟩:=rv.one
 cases ru
 obtain ⟨z,its,n,r,hl,e⟩:=I.jK hH
 obtain ⟨d0,r2,tp,z2⟩:=I.tuple hB
 have ya:=r2.length
 have big:(1000:Nat)<=ael:=by decide
 have hsz:its.toArray.size+d0.toArray.size<=ael:=by rw [aaz,aaz];omega
 have IQ:¬ (!its.toArray.isEmpty && afh (its.toArray.size+d0.toArray.size))=true:=by
  rw [vR hsz,ad1]
  exact aaC
 obtain ⟨⟨c,d,dt,sl⟩,e2,hc,n2,hd⟩:=tp
 obtain rfl:c=Value.type "tuple":=hc
 obtain rfl:dt=_:=hd
 refine agd F.slot_list_extend ⟨_,e,rfl⟩ F.entry_list_extend (F.args_list_extend_2 _ _)
  (Nz l its.toArray n b d0.toArray n2 d sl IQ (by rw [aaz];omega) (by omega)) ⟨e,e2,?_⟩
 refine ⟨.cg,_,I.QQ (its':=its++d0) hH e (by simp) (r.append r2) ?_,rfl,q⟩
 rw [aat]
 omega
end
theorem uB:agx (.type "zip") "__getattr__"=pure none:=by rw [agD,afW];kernel_rfl
theorem DN:agx (.type "zip") "keys"=pure none:=by rw [agD,afW];kernel_rfl
theorem yu:entryFor table "zip.__getattribute__"=some Builtin.«object.__getattribute__»:=
 entryFor_alias (id':="object.__getattribute__") (by kernel_rfl) (by decide+kernel) (by decide+kernel) (by kernel_rfl)
theorem gw:entryFor table "dict.update.loop"=some Builtin.«dict.update.loop»:=entryFor_of_tree (by kernel_rfl)
theorem cS:plainId "dict.update.loop"=true:=by decide+kernel
theorem Kd (a:aef)(vs:Κ)(u:Tok):
  Meets (Builtin.«object.__getattribute__» ⟨[.ref a,.str "keys" u],[]⟩) (fun A R s=>s.heap.get? a=some {cls:=.type "zip",dict:=none,data:=.fields vs,slots:= #[]}/\raisesAttr (.ref a) "keys" A R s):=
 Meets.of_wp fun prog w A R s hs=>by
  obtain ⟨hp,g,d,tk,os⟩:=s
  obtain ⟨hx,hs⟩:=hs
  have hT:(⟨hp,g,d,tk,os⟩:aep).TypeIs (.ref a) "zip":=⟨_,hx,rfl⟩
  have hm:=DN
  unfold Builtin.«object.__getattribute__»
  repeat (any_goals (first|(assumption)|wp_step))
  exact wpAny_raiseAttrError hs.1 hs.2 (attrMsg_fits (by decide+kernel) (by decide+kernel))
section
variable {prog:aeB}{w:World}{A:aeI}{E:δ}{s:aep}
theorem wH {vs:Κ}{Q:Ρ}(hx:s.heap.get? z=some {cls:=.type "zip",dict:=none,data:=.fields vs,slots:= #[]})(hA:A.handled=none)
  (h:∀h' tk,(∀b o,s.heap.get? b=some o->h'.get? b=some o)->Q none {s with heap:=h',toks:=tk}):aen (aes prog w) A (getAttr? (.ref z) "keys") Q E s:=by
 obtain ⟨hp,g,d,tk,os⟩:=s
 have hT:∀UT,(⟨hp,g,d,UT,os⟩:aep).TypeIs (.ref z) "zip":=fun _=>⟨_,hx,rfl⟩
 have f1:=sub_AttributeError
 have f3:=F.slot_zip_getattribute.lookup
 have f4:=F.slot_zip_getattribute.bind (.ref z)
 have f5:=uB
 unfold getAttr? getAttrBy? getAttrBy
 repeat (any_goals (first|(assumption)|exact hT _|((with_reducible show aen _ _ (call (Value.builtin "zip.__getattribute__") _ _) _ _ _);refine agd F.slot_zip_getattribute (hT _) yu (F.args_zip_getattribute_2 _ _) (Kd z vs _) ⟨hx,hA,fun h' UT e xT =>?_⟩)|wp_step))
 obtain ⟨t',u',he⟩:=xT.there
 show aen _ _ (af8 _ _ _ _ _ _ _) _ _ _
 unfold af8
 repeat (any_goals (first|(assumption)|wp_step))
 exact h _ _ xT.keeps
theorem rl {z TI TO:aef}{Q:δ}(hA:A.in1.in1.handled=none)(hz:IsZip s.heap z TI TO f0)
  (hL:∀(h':Heap)(tk:Nat)(R:Μ),(∀b o,s.heap.get? b=some o->h'.get? b=some o)->h'.get? s.heap.objs.size=some {cls:=.type "dict",data:=.dict #[]}->
   (∀s',Q (.ref s.heap.objs.size) s' ->R (.ok (.ret .none)) s')->afd (aes prog w) A.in1 (.builtin "dict.update.loop" ⟨[.ref s.heap.objs.size,.ref z,afE 0,.none],[]⟩) R {s with heap:=h',toks:=tk}):
  aen (aes prog w) A (call (.type "dict") [.ref z]) Q E s:=by
 refine callType_codes (Q₁:=fun obj s₁=>obj=.ref s.heap.objs.size/\s₁={s with heap:=s.heap.push {cls:=.type "dict",data:=.dict #[]}}) F.kt_called_dict (F.kt_typeCall_dict_1 _) F.entry_dict_init (kt_code_dict_new _ ⟨rfl,rfl⟩) ?_
 rintro obj s₁ ⟨rfl,rfl⟩
 have hS:(s.heap.push {cls:=.type "dict",data:=.dict #[]}).get? s.heap.objs.size=some {cls:=.type "dict",data:=.dict #[]}:=aez _ rfl
 have k0:∀b o,s.heap.get? b=some o->(s.heap.push {cls:=.type "dict",data:=.dict #[]}).get? b=some o:=fun b o e=>aeh _ e
 generalize hN:s.heap.objs.size=S at hS hL ⊢
 generalize s.heap.push {cls:=.type "dict",data:=.dict #[]}=hp at hS k0 ⊢
 have Ke:hp.get? z=_:=k0 _ _ hz
 have UU:af4 {s with heap:=hp} (.ref S) "dict":=⟨_,hS,rfl⟩
 have hT:af4 {s with heap:=hp} (.ref z) "zip":=⟨_,Ke,rfl⟩
 refine ⟨UU,F.args_dict_init_2 _ _,?_⟩
 unfold Builtin.«dict.__init__»
 refine aeg ?_
 unfold Builtin.Dict.selfAndRest
 refine aeg (wpAny_notOrdered_dict UU ?_)
 refine aeo ?_
 show aen _ _ (afK "dict.__init__" S (.ref z) [] .none) _ _ _
 unfold afK
 refine aeg (afU hT ?_)
 rw [aek (by decide)]
 refine aeg (wH (s:={s with heap:=hp}) Ke hA fun h' tk k1=>?_)
 rw [aek (by rfl)]
 refine aeg (wpAny_rule ?_)
 have hz3:IsZip h' z TI TO f0:=k1 _ _ Ke
 refine aeg (wpAny_pyIter_zip (s:={s with heap:=h',toks:=tk}) hz3 ?_)
 exact aeo ⟨af3 cS _,hL _ _ _ (fun b o e=>k1 _ _ (k0 _ _ e)) (k1 _ _ hS) fun s' hq=>⟨rfl,hq⟩⟩
end
section
variable {X:Cx}{pins:ζ}{σ:L2.St}
theorem mV (kvs more:γ)(kv:Key×V):bN kvs (more++[kv])=putK (bN kvs more) kv.1 kv.2:=by
 unfold bN
 rw [List.foldl_append]
 rfl
theorem Rr {z TI TO i1 i2 a b S:aef}{R:Μ}{ks:List Key}(hh:A'.in1.handled=none)(D:ZipApart z TI TO i1 i2 a b)(na:a≠S)(nb:b≠S)(hk1:ks.length<=1000):
  ∀(k i:Nat)(s:aep)(H:Hp),min ks.length ys.length-i=k->i<=min ks.length ys.length->Inv X pins σ H s->(∀c∈[z,TI,TO,i1,i2],iL X pins H c)->Mg s.heap z TI TO i1 i2 a b S i->
  H a=some (.lst (ks.map kV))->H b=some (.lst ys)->H S=some (.dK (bN [] ((ks.zip ys).take i)))->bQ S H0 H->
  (∀s' H',Inv X pins σ H' s' ->bQ S H0 H' ->H' S=some (.dK (bN [] (ks.zip ys)))->R (.ok (.ret .none)) s')->
  afd (aes X.prog X.w) A' (.builtin "dict.update.loop" ⟨[.ref S,.ref z,afE (i:Int),.none],[]⟩) R s:=by
 have avs:(ks.zip ys).length=min ks.length ys.length:=List.length_zip
 intro k
 induction k with
 | zero=>
  intro i s H hk hi I hf st ha hb hS Rt hR
  refine agF gw ?_
  rw [af0 cS _]
  show aen _ A'.in1 (af2 (.ref z) >>=_) _ _ s
  obtain ⟨z1,its,n1,r1,l1,e1⟩:=I.jK ha
  obtain ⟨z2,SU,n2,r2,l2,e2⟩:=I.jK hb
  rw [aah] at l1
  refine aeg (st.fin hh D ⟨_,e1,rfl,_,rfl⟩ ⟨_,e2,rfl,_,rfl⟩ ?_ fun h' kk=>?_)
  ·by_cases c:ks.length<=i
   ·exact .inl (by simp;omega)
   ·exact .inr (by simp;omega)
  ·rw [abe (by omega)] at hS
   exact aeg (aeo (aeo (hR _ H (Inv.i8 (t':=s.toks) I kk hf) Rt hS)))
 | succ k ih=>
  intro i s H hk hi I hf st ha hb hS Rt hR
  refine agF gw ?_
  rw [af0 cS _]
  show aen _ A'.in1 (af2 (.ref z) >>=_) _ _ s
  obtain ⟨z1,its,n1,r1,l1,e1⟩:=I.jK ha
  obtain ⟨z2,SU,n2,r2,l2,e2⟩:=I.jK hb
  have lx:i<ks.length:=by omega
  have ly:i<ys.length:=by omega
  obtain ⟨u,hu,ru⟩:=r1.get (i:=i) (x:=kV ks[i]) (by rw [aag,gE lx];rfl)
  obtain ⟨v,hv,rv⟩:=r2.get (i:=i) (x:=ys[i]) (gE ly)
  obtain ⟨zS0,avt,vs0,avu,dd0⟩:=ku I.bO hS
  obtain ⟨oS,_,_,eS,_⟩:=id dd0
  refine aeg (st.item D eS ⟨_,e1,rfl,_,rfl⟩ ⟨_,e2,rfl,_,rfl⟩ (x:=u) (y:=v) (by simpa using hu) (by simpa using hv) fun h' xF ht kk=>?_)
  have S0:∀c∈[z,TI,TO,i1,i2],c≠S:=fun c hc e=>by
   have:=(hf c hc).1
   rw [e,hS] at this
   cases this
  have I2:Inv X pins σ H {s with heap:=h',toks:=s.toks}:=Inv.i8 (t':=s.toks) I kk hf
  obtain ⟨zS,hdS,vs,rel,dd⟩:=ku I2.bO hS
  have hT:af4 {s with heap:=h',toks:=s.toks} (.ref s.heap.objs.size) "tuple":=⟨_,ht,rfl⟩
  refine aeg (ae5 ?_)
  refine aeg (wpAny_tryCatch ?_)
  unfold Builtin.Dict.pairItems
  refine aeg (afU hT ?_)
  rw [aek (by decide)]
  refine aeg (age ht rfl (aeo ?_))
  show aen _ A'.in1 (agp [u,v] (dictSet S u v)) _ _ _
  refine ae5 ?_
  have hlen:vs.length<=ael:=by rw [<-rel.length];exact zS
  refine wpAny_dictSet_pairs (hsz:=hlen) (jw ru) dd fun h2 O3 sb=>?_
  have he:∃q,h2.get? S=some q:=let ⟨q,_,_,hq,_⟩:=O3;⟨q,hq⟩
  have etk:(ks.zip ys).take (i+1)=(ks.zip ys).take i++[(ks[i],ys[i])]:=by
   rw [acn]
   have:(ks.zip ys)[i]?=some (ks[i],ys[i]):=by rw [List.getElem?_zip_eq_some];exact ⟨gE lx,gE ly⟩
   rw [this]
   rfl
  have Kf:bN [] ((ks.zip ys).take (i+1))=putK (bN [] ((ks.zip ys).take i)) ks[i] ys[i]:=by rw [etk,mV]
  have hl:(putK (bN [] ((ks.zip ys).take i)) ks[i] ys[i]).length<=ael:=by
   rw [<-Kf]
   have h1:=fk ((ks.zip ys).take (i+1)) []
   rw [aaJ,acX] at h1
   exact aak (show (bN [] ((ks.zip ys).take (i+1))).length<=1000 by omega) (by decide)
  have I3:Inv X pins σ (upd H S (.dK (putK (bN [] ((ks.zip ys).take i)) ks[i] ys[i]))) {s with heap:=h2,toks:=s.toks+1}:=i_ (s:={s with heap:=h',toks:=s.toks}) (t':=s.toks+1) I2 (by rw [hS];exact True.intro) sb he (lX hl hdS (rel.put ks[i] rv) O3)
  have kS:∀c o,c≠S->h'.get? c=some o->h2.get? c=some o:=fun c o n e=>(sb.2 c n).trans e
  refine aeo ⟨af3 cS _,?_⟩
  have nn:∀{c:aef} {o:HO},H c=some o->c≠S->(upd H S (.dK (putK (bN [] ((ks.zip ys).take i)) ks[i] ys[i]))) c=some o:=fun {c o} e n=>by rw [ao n];exact e
  refine ih (i+1) _ _ (by omega) (by omega) I3 (fun c hc=>?_) (xF.frame kS (S0 z (by simp)) (S0 TI (by simp)) (S0 TO (by simp)) (S0 i1 (by simp)) (S0 i2 (by simp))) (nn ha na) (nn hb nb) (by rw [Kf,ak]) (fun c o n e=>nn (Rt c o n e) n) hR
  obtain ⟨f0,f1,f2,f3,f4,f5⟩:=hf c hc
  exact ⟨by rw [ao (S0 c hc)];exact f0,f1,f2,f3,f4,f5⟩
def Ru (ta:TA):TE:=fun σ H Q=>ta σ H fun vs H1=>∃(a b:aef)(ks:List Key)(ys:ε),vs=[.ref a,.ref b]/\H1 a=some (.lst (ks.map kV))/\H1 b=some (.lst ys)/\ks.length<=1000/\
 ∀(l:aef)(H':Hp),au H1 H' ->H1 l=none->H' l=some (.dK (bN [] (ks.zip ys)))->Q (.ref l) H'
theorem boot_dict:aeL "dict"=some (.type "dict"):=by decide+kernel
theorem Kg {p pos p' pos':Pos}(hc:X.calm=true)(hgl:Gl X "dict")(hml:X.mg "dict"=none)(hg:Gl X "zip")(hm:X.mg "zip"=none)(ha:PA X [e1,e2] ta)(hs:aeA [e1,e2] X.env=[(false,aeM e1 X.env),(false,aeM e2 X.env)]:=by rfl)(H_:aeA [e2] X.env=[(false,aeM e2 X.env)]:=by rfl)
  (hs3:aeA [(.Call (.Name "zip" p) [e1,e2] [] pos:Expr)] X.env=[(false,aeM (.Call (.Name "zip" p) [e1,e2] [] pos) X.env)]:=by rfl):
  PE X (.Call (.Name "dict" p') [.Call (.Name "zip" p) [e1,e2] [] pos] [] pos') (Ru ta):=by
 intro pins s σ H Q I h
 refine Call_ (gS I hgl hml boot_dict (aeZ ?_ hs3 rfl))
 rw [hs3]
 show aen _ _ (spliced ((false,aeM (.Call (.Name "zip" p) [e1,e2] [] pos) X.env)::[])) _ _ s
 refine afo ?_
 refine Call_ (gS I hg hm boot_zip (aeZ (cB (ha pos pins s σ H _ I h) fun us s1 ⟨vs,H1,I1,r1,q1⟩=>?_) (by rw [hs,H_]) (by rw [H_];rfl)))
 obtain ⟨a,b,ks,ys,e,hx,hy,hkl,q⟩:=q1
 subst e
 cases r1 with
 | cons r rr=>
  cases rr with
  | cons r' rr=>
   cases rr
   cases r
   cases r'
   obtain ⟨z1,its,n1,r1,l1,e1⟩:=I1.jK hx
   obtain ⟨z2,SU,n2,r2,l2,e2⟩:=I1.jK hy
   have lt1:a<s1.heap.objs.size:=aew e1
   have lt2:b<s1.heap.objs.size:=aew e2
   refine call_zip_2 ⟨_,e1,rfl,_,rfl⟩ ⟨_,e2,rfl,_,rfl⟩ fun h' hz jL sE Q6 Up hsz hk=>afR ?_
   have I2:Inv X pins σ H1 {s1 with heap:=h',toks:=s1.toks}:=I1.kept (t':=s1.toks) hk
   have hS:=I2.bO.fresh (aal h'.objs.size)
   refine rl (s:={s1 with heap:=h'}) (I1.ok.hd hc) hz fun h2 tk R k2 Pp hR=>?_
   have lt':aex<h'.objs.size:=(I2.mod.glob.keeps I2.bk).lt
   have ns:(h'.objs.size==ae6)=false:=beq_eq_false_iff_ne.mpr (aaD (aaM (adX (by decide) lt')))
   have I3:Inv X pins σ (upd H1 h'.objs.size (.dK [])) {s1 with heap:=h2,toks:=tk}:=I2.laid (t':=tk) k2 (aal _) ⟨aaS _,ns,[],.nil,_,_,_,Pp,⟨rfl,rfl,rfl⟩,rfl,fun _ he=>by simp at he,Pairs.nil,aj2⟩
   have st:Mg h2 (s1.heap.objs.size+4) (s1.heap.objs.size+2) (s1.heap.objs.size+3) s1.heap.objs.size (s1.heap.objs.size+1) a b h'.objs.size 0:=
    ⟨.inl (k2 _ _ hz),k2 _ _ jL,⟨_,_,k2 _ _ sE⟩,Q6.at fun o e=>k2 _ o e,Up.at fun o e=>k2 _ o e⟩
   have na:a≠h'.objs.size:=aq hx hS
   have nb:b≠h'.objs.size:=aq hy hS
   have wI:=sT hS (.dK [])
   refine Rr (A':=X.A.in1) (H0:=H1) (ks:=ks) (ys:=ys) (I1.ok.hd hc) ?_ na nb hkl (min ks.length ys.length) 0 _ _ (by omega) (aaS _) I3 (fun c' rZ =>?_) st (wI _ _ hx) (wI _ _ hy) ak (fun b' o n e=>wI _ _ e) fun s' H' I' ks' Nq =>hR s' ⟨.ref h'.objs.size,H',I',rfl,q _ H' (fun b' o e=>ks' b' o (aq e hS) e) hS Nq⟩
   ·constructor<;>(intro z;simp only [aef] at*;omega)
   ·have QK:c'=s1.heap.objs.size+4\/c'=s1.heap.objs.size+2\/c'=s1.heap.objs.size+3\/c'=s1.heap.objs.size\/c'=s1.heap.objs.size+1:=by simpa using rZ
    have hb:s1.heap.objs.size<=c':=by
     simp only [aef] at*
     omega
    have Pq:c'≠h'.objs.size:=by
     rw [hsz]
     simp only [aef] at*
     omega
    refine I1.lH hb ?_
    rw [ao Pq]
    exact I1.bO.fresh hb
end
theorem dA.snoc {K:Frag}(h:dA K H us qs)(n:mT K H v q):dA K H (us++[v]) (qs++[q]):=by
 refine ⟨by simp [h.1],fun i u q' e1 e2=>?_⟩
 have l:=h.1
 by_cases c:i<us.length
 ·rw [aar c] at e1
  rw [aar (by omega)] at e2
  exact h.2 i u q' e1 e2
 ·rw [aav (by omega)] at e1 e2
  by_cases z:i-us.length=0
  ·rw [z] at e1
   rw [show i-qs.length=0 by omega] at e2
   cases e1
   cases e2
   exact n
  ·rw [aam (by simp;omega)] at e1
   cases e1
theorem dA.aR {K:Frag}(h:dA K H us qs)(s:bu H H'):dA K H' us qs:=⟨h.1,fun i u q e1 e2=>(h.2 i u q e1 e2).aR s⟩
variable {X:Cx}
section
variable {X:Cx}{pins:ζ}{σ:L2.St}{H:Hp}{s:aep}
theorem Inv.laidIn (I:Inv X pins σ H s)(f:iL X pins H a)(new:cK X.prog X.w (upd H a o) s.heap a o):Inv X pins σ (upd H a o) s:=by
 obtain ⟨f0,f1,f2,f3,f4,f5⟩:=f
 have nx:∀b u,H b=some u->upd H a o b=some u:=fun b u q=>by rw [ao (fun z=>by rw [z,f0] at q;cases q)];exact q
 refine ⟨I.ok,I.os,I.bare,⟨I.base.keep,I.base.slot,fun b ob q z hx=>?_,I.base.there,fun b xs q=>nx b _ (I.base.q4 b xs q),fun b ob u' q=>nx b _ (I.base.oF b ob u' q),fun b ps q=>?_⟩,I.loc,I.cell,?_,fun x c q=>?_,fun p hp=>?_,?_,I.len⟩
 ·rw [ao (fun e=>?_)]
  ·exact I.base.free b ob q z hx
  ·rcases f3 with f3|f3
   ·exact hx (e▸f3)
   ·exact aet (aew q) (by rw [e];exact Nat.not_lt.mpr f3)
 ·obtain ⟨m,z⟩:=I.base.q5 b ps q
  exact ⟨m,nx b _ z⟩
 ·rw [ao (aaD f1)]
  exact I.free
 ·rw [ao (f4 x c q)]
  exact I.iu x c q
 ·obtain ⟨a1,a2,a3⟩:=I.pin p hp
  exact ⟨a1,by rw [ao (f5 p hp)];exact a2,a3⟩
 ·intro b u q
  by_cases hb:b=a
  ·subst hb
   rw [ak] at q
   cases q
   exact new
  ·rw [ao hb] at q
   exact (I.bO b u q).qZ (fun _ _ _ z=>z) (fun c z=>nx c _ z) fun c xs z=>nx c _ z
theorem sU:∀(as:χ)(kvs:γ)(H:Hp),Inv X pins σ H s->as.Pairwise (· < ·)->(∀a∈as,iL X pins H a)->as.length=kvs.length->
  (∀(j:Nat)(a:aef)(kv:Key×V),as[j]?=some a->kvs[j]?=some kv->∃its,Vals [kV kv.1,kv.2] its/\IsTup s.heap a its.toArray)->
  ∃H',Inv X pins σ H' s/\(∀b,b∉as->H' b=H b)/\∀(j:Nat)(a:aef)(kv:Key×V),as[j]?=some a->kvs[j]?=some kv->H' a=some (.tup [kV kv.1,kv.2])
 | [],kvs,H,I,_,_,_,_=>⟨H,I,fun _ _=>rfl,fun j a kv e=>by simp at e⟩
 | a::as,[],H,_,_,_,hl,_=>by simp at hl
 | a::as,kv::kvs,H,I,hr,hf,hl,hp=>by
  obtain ⟨r1,r2⟩:=akd.mp hr
  obtain ⟨its,v,t⟩:=hp 0 a kv rfl rfl
  have I2:=Inv.laidIn (o:=.tup [kV kv.1,kv.2]) I (hf a aas) ⟨by show 2<=ael;decide,its,v,t⟩
  obtain ⟨H',I',k',t'⟩:=sU as kvs _ I2 r2 (fun b hb=>by
   obtain ⟨f0,f1⟩:=hf b (aan _ hb)
   exact ⟨by rw [ao (acz (r1 b hb))];exact f0,f1⟩) (by simpa using hl) (fun j b S1 e1 e2=>hp (j+1) b S1 (by simpa using e1) (by simpa using e2))
  have na:a∉as:=fun z=>aa3 _ (r1 a z)
  refine ⟨H',I',fun b hb=>?_,fun j b S1 e1 e2=>?_⟩
  ·rw [k' b (fun z=>hb (aan _ z)),ao (fun z=>hb (by rw [z];exact aas))]
  ·cases j with
   | zero=>
    cases e1
    cases e2
    rw [k' a na,ak]
   | succ j=>exact t' j b S1 (by simpa using e1) (by simpa using e2)
inductive wJ (Q:VK)(x:V)(H1:Hp):Prop
|mk (d kvs:_)(_:x=.ref d)(_:H1 d=some (.dK kvs))(_:∀(l:aef)(us:ε)(H':Hp),au H1 H' ->H1 l=none->H' l=some (.lst us)->Paired (fun u (kv:Key×V)=>∃p,u=.ref p/\H' p=some (.tup [kV kv.1,kv.2])) us kvs->Q (.ref l) H')
def NC (te:TE):TE:=fun σ H Q=>te σ H fun x H1=>wJ Q x H1
theorem DO {apos dG p pos:Pos}(hc:X.calm=true)(hg:Gl X "list")(hm:X.mg "list"=none)(ho:PE X e te)(vP:afM e "items" X.env (aeM e X.env)=aeM e X.env:=by rfl)(vQ:(apos.endLine==dG.line)=true:=by rfl)
  (hs:aeA [(.Call (.Attribute e "items" apos) [] [] dG:Expr)] X.env=[(false,aeM (.Call (.Attribute e "items" apos) [] [] dG) X.env)]:=by rfl):
  PE X (.Call (.Name "list" p) [.Call (.Attribute e "items" apos) [] [] dG] [] pos) (NC te):=by
 intro pins s σ H Q I h
 refine Call_ (gS I hg hm boot_list (aeZ ?_ hs rfl))
 rw [hs]
 show aen _ _ (spliced ((false,aeM (.Call (.Attribute e "items" apos) [] [] dG) X.env)::[])) _ _ s
 refine afo ?_
 refine wpAny_Call_method0_late vP vQ (cB (ho pins s σ H _ I h) fun v s1 ⟨x,H1,I1,r1,q1⟩=>?_)
 obtain ⟨d,kvs,rfl,e,q⟩:=q1
 cases r1
 obtain ⟨h1,h2,hd⟩:=yi I1 (.inl ⟨kvs,.inl e⟩)
 obtain ⟨z,MJ,vs,rel,o,UB,ep,Md,hx,jn,hk,hp,hn⟩:=ku I1.bO e
 have da:s1.heap.DictAt (bF X.prog X.w) d vs ep:=⟨o,UB,Md,hx,jn,hk,hp,hn⟩
 have lv:=rel.length
 refine ⟨"dict","dict.items",F.plainAttrs_dict,agh,F.type_dict_items,h1,h2,afl rfl (PySem.evalArgs_none ?_)⟩
 refine agz agh h1 F.entry_dict_items (F.args_dict_items_1 _) (meets_dict_items (bF X.prog X.w) d hd) ⟨⟨vs,da.dictOf⟩,afR ?_⟩
 have da2:(s1.heap.push {cls:=.type "dict_items",data:=.fields #[.ref d]}).DictAt (bF X.prog X.w) d vs ep:=da.at' fun o e=>aeh _ e
 have I2:Inv X pins σ H1 {s1 with heap:=s1.heap.push {cls:=.type "dict_items",data:=.fields #[.ref d]},toks:=s1.toks}:=I1.kept (t':=s1.toks) fun b o e=>aeh _ e
 refine PySem.W.kdx_call (s:={s1 with heap:=s1.heap.push {cls:=.type "dict_items",data:=.fields #[.ref d]}}) (knd:=bF X.prog X.w) (r:=s1.heap.objs.size) (kvs:=vs) (ep:=ep) (I1.ok.hd hc) ⟨_,aez _ rfl,rfl,rfl⟩ da2 (by omega) fun h' tk acc c as kk hS hl hG rh=>?_
 generalize H_:(s1.heap.push {cls:=.type "dict_items",data:=.fields #[.ref d]})=O7 at*
 have Tu :=I2.bO.fresh (aal O7.objs.size)
 have sz:as.length<=ael:=by omega
 have I3:Inv X pins σ H1 {s1 with heap:=h',toks:=tk}:=I2.kept (t':=tk) kk
 have fp:∀{b:aef},O7.objs.size<=b->iL X pins H1 b:=fun {b} hb=>I2.lH hb (I2.bO.fresh hb)
 have I4:=Inv.laidIn (o:=.lst (as.map V.ref)) I3 (fp (aal _)) ⟨by rw [aah];exact sz,acc.toList,c,by
  rw [rh]
  exact cF (by simp) fun i a b e1 e2=>by
   rw [aag] at e1 e2
   obtain ⟨x,ex,rfl⟩:=aaw.mp e1
   rw [ex] at e2
   cases e2
   rfl,by simpa using hS⟩
 obtain ⟨H',I5,k5,t5⟩:=sU as kvs _ I4 hG.rise (fun a ha=>by
  obtain ⟨f0,f1⟩:=fp (aa1 (hG.above a ha))
  exact ⟨by rw [ao (acz (hG.above a ha))];exact f0,f1⟩) (by omega) (fun j a kv e1 e2=>by
  obtain ⟨key,k,x,g1,g2,g3⟩:=hG.pairs j a e1
  obtain ⟨q',eq,e3,e4⟩:=aw rel e2
  rw [eq] at g1
  cases g1
  exact ⟨[key,x],.cons (by rw [e3];exact oa g2) (.cons e4 .nil),⟨_,g3,rfl,_,rfl⟩⟩)
 have nS:O7.objs.size∉as:=fun z=>aa3 _ (hG.above _ z)
 refine ⟨.ref _,H',I5,rfl,q _ (as.map V.ref) H' (fun b o eb=>?_) Tu (by rw [k5 _ nS,ak]) (cF (by rw [aah];omega) fun i u kv e1 e2=>?_)⟩
 ·have nb:∀{b':aef},O7.objs.size<=b' ->b≠b':=fun {b'} hb z=>by rw [z,(fp hb).1] at eb;cases eb
  rw [k5 b (fun z=>nb (aa1 (hG.above b z)) rfl),ao (nb (aal _))]
  exact eb
 ·rw [aag] at e1
  obtain ⟨a,ea,rfl⟩:=aaw.mp e1
  exact ⟨a,rfl,t5 i a kv ea e2⟩
theorem yv {K:Frag}(h:X.K=K):i7 X (ae2 .In) (rIn K false):=by subst h;exact sf
end
section
variable {X:Cx}
end
section
variable {D:aef}{te:TE}{cap:L2.St}{H1:Hp}{Q:VK}
end
section
variable {X:Cx}{o e:Expr}{es:Δ}{to:TE}{t:TA}{name:Str}{apos dG:Pos}{T id:String}{r:Ω}
end
theorem bu.ks (h0:H D=some (.lst ys))(ks:bQ D H H'):bu H H':=fun b xs r=>by
 rcases r with r|⟨o',r⟩
 ·exact .inl (ks _ _ (fun e=>by rw [e,h0] at r;cases r) r)
 ·exact .inr ⟨o',ks _ _ (fun e=>by rw [e,h0] at r;cases r) r⟩
section
variable {X:Cx}{K:Frag}
inductive UW (K:Frag)(x:V)(y:V)(H:Hp)(Q:VK):Prop
|mk (p xs i v:_)(_:x=.ref p)(_:y=.int i)(_:aV K H p xs\/bJ K H p xs)(_:gh xs i=some v)(_:Q v H)
theorem AD:O4 X (UW X.K):=by
 intro value slice pins s σ H x y v u Q I rx ry h hs
 obtain ⟨p,xs,i,z,e1,e2,hq,he,q⟩:=h
 rcases hq with hq|hq
 ·exact aQ value slice pins s σ H x y v u Q I rx ry ⟨p,xs,i,z,e1,e2,hq,he,q⟩ hs
 ·exact jJ value slice pins s σ H x y v u Q I rx ry ⟨p,xs,i,z,e1,e2,hq,he,q⟩ hs
end
section
variable {D:aef}{te:TE}{cap:L2.St}{H1:Hp}{Q:VK}
theorem yw {K:Frag}(J:List V->Hp->Prop)(nD:H1 D=none)(hn:xs.length<ael)(hS:∀H,au H1 H->aV K H a xs)(h0:J [] (upd H1 D (.lst [])))
  (he:∀(i:Nat) x ys H (R:VK),xs[i]?=some x->ys.length=i->J ys H->au H1 H->H D=some (.lst ys)->(∀v H6,au H H6->J (ys++[v]) (upd H6 D (.lst (ys++[v])))->R v H6)->te (some x::cap) H R)
  (hd:∀ys H,ys.length=xs.length->J ys H->au H1 H->H D=some (.lst ys)->Q (.ref D) H):
  lS D (b9 0) jm te (MR K a) (none::cap) H1 Q:=by
 refine yf xs.length (fun i=>(xs[i]?).getD .cg) (fun i ys H=>ys.length=i/\J ys H/\au H1 H) ⟨rfl,h0,fun b o e=>by rw [ao (aq e nD)];exact e⟩ ?_ ?_ ?_ ?_
 ·rintro i ys H hi ⟨_,_,s⟩
  exact ⟨⟨xs,xs[i],hS H s,gE hi⟩,fun x H' y=>⟨y.1,by rw [y.2 xs (hS H s)];rfl⟩⟩
 ·rintro ys H ⟨_,_,s⟩
  exact ⟨xs,hS H s,aal _⟩
 ·rintro i ys H R hi ⟨l,j,s⟩ hD k
  have e:xs[i]?=some xs[i]:=gE hi
  have k':=he i _ ys H R e l j s hD fun v H6 s6 jv=>k v H6 (s6 _ _ hD) (by omega) ⟨by simp [l],jv,fun b o e=>by rw [ao (aq e nD)];exact s6 _ _ (s _ _ e)⟩
  rw [<-(show (xs[i]?).getD .cg=xs[i] by rw [e];rfl)] at k'
  exact k'
 ·rintro ys H ⟨l,j,s⟩ hD
  exact hd ys H l j s hD
end
end Ty
set_option maxHeartbeats 4000000
namespace Ty
theorem sV {α:Type}[DecidableEq α]:∀{l m:List α},l.Nodup->(∀x∈l,x∈m)->l.length<=m.length
 | [],_,_,_=>aaS _
 | x::l,m,h,k=>by
  obtain ⟨h1,h2⟩:=aaR.mp h
  have hx:=k x aas
  have:=sV (l:=l) (m:=m.erase x) h2 fun y hy=>(List.mem_erase_of_ne (fun z:y=x=>h1 (by rw [<-z];exact hy))).mpr (k y (aan _ hy))
  rw [List.length_erase_of_mem hx] at this
  have p:=List.length_pos_of_mem hx
  show l.length+1<=m.length
  omega
def box (B:Nat):Nat->List (List Int)
 | 0=>[[]]
 | n+1=>(box B n).flatMap fun y=>(abb (B+1)).map fun (a:Nat)=>(a:Int)::y
theorem AE {α:Type}(c:Nat):∀l:List α,(l.map fun _=>c).sum=l.length*c
 | []=>by simp
 | _::l=>by
  rw [aaj,aaP,AE c l,aaQ,abx]
  omega
theorem uC (B:Nat):∀n,(box B n).length=(B+1)^n
 | 0=>rfl
 | n+1=>by
  have ih:=uC B n
  unfold box
  rw [List.length_flatMap]
  have:((box B n).map fun y=>((abb (B+1)).map fun (a:Nat)=>(a:Int)::y).length)=(box B n).map fun _=>B+1:=aaO fun y _=>by rw [aah,akq]
  rw [this,AE,ih,adk]
theorem sW (B:Nat):∀n,(box B n).Nodup
 | 0=>by simp [box]
 | n+1=>by
  have ih:=sW B n
  unfold box
  unfold akb at ih ⊢
  rw [List.pairwise_flatMap]
  refine ⟨fun y _=>?_,ih.imp fun {y1 y2} ne x hx z hz e=>?_⟩
  ·rw [adm]
   exact List.nodup_range.imp fun {a b} ne e=>ne (by injection e with e _;exact Int.ofNat.inj e)
  ·obtain ⟨a,_,rfl⟩:=aai.mp hx
   obtain ⟨b,_,rfl⟩:=aai.mp hz
   injection e with _ e
   exact ne e
theorem jc :∀{n:Nat} {y:ξ},y∈box B n ↔ y.length=n/\∀a∈y,0<=a/\a<=(B:Int)
 | 0,y=>by
  unfold box
  rw [aao]
  constructor
  ·intro e
   rw [e]
   exact ⟨rfl,fun a h=>nomatch h⟩
  ·intro h
   exact ag_.mp h.1
 | n+1,y=>by
  unfold box
  rw [abY]
  constructor
  ·rintro ⟨z,hz,hy⟩
   obtain ⟨a,ha,rfl⟩:=aai.mp hy
   obtain ⟨h1,h2⟩:=(jc (n:=n)).mp hz
   have:=ab_.mp ha
   refine ⟨by simp [h1],fun b hb=>?_⟩
   rcases aaL.mp hb with e|e
   ·rw [e]
    omega
   ·exact h2 b e
  ·rintro ⟨h1,h2⟩
   match y,h1 with
   | a::z,h1=>
    have ha:=h2 a aas
    refine ⟨z,(jc (n:=n)).mpr ⟨by simpa using h1,fun b hb=>h2 b (aan _ hb)⟩,aai.mpr ⟨a.toNat,ab_.mpr (show a.toNat<B+1 by omega),?_⟩⟩
    rw [show ((a.toNat:Nat):Int)=a by omega]
def gK:List Int->List Int->Int
 | a::e,b::y=>a*b+gK e y
 | _,_=>0
theorem wK:∀(e:ξ) {y z:ξ},y.length=z.length->gK e (aa5 (fun a b=>a-b) y z)=gK e y-gK e z
 | [],y,z,h=>by simp [gK]
 | a::e,[],[],h=>by simp [gK]
 | a::e,b::y,c::z,h=>by
  have ih:=wK e (y:=y) (z:=z) (by simpa using h)
  rw [ajU]
  simp only [gK]
  rw [ih,Int.mul_sub]
  omega
theorem AF :∀{e y:ξ},(∀a∈e,a.natAbs<=A)->(∀b∈y,b.natAbs<=B)->(gK e y).natAbs<=e.length*(A*B)
 | [],y,_,_=>by simp [gK]
 | a::e,[],_,_=>by simp [gK]
 | a::e,b::y,h1,h2=>by
  have ih:=AF (e:=e) (y:=y) (fun x hx=>h1 x (aan _ hx)) fun x hx=>h2 x (aan _ hx)
  simp only [gK]
  have m:(a*b).natAbs<=A*B:=by
   rw [ab1]
   exact aa7 (h1 a aas) (h2 b aas)
  have t:=acN (a*b) (gK e y)
  rw [aaQ,abx,aj3]
  omega
theorem Kh {eqs:η}(hn:eqs.length<n)(hA:1<=A)(he:∀e∈eqs,e.length=n/\∀a∈e,a.natAbs<=A):∃z:List Int,z.length=n/\(∃a∈z,a≠0)/\(∀a∈z,a.natAbs<=(2*n*A)^eqs.length)/\∀e∈eqs,gK e z=0:=by
 generalize hC:2*n*A=C
 generalize hB:C^eqs.length=B
 have c1:1<=C:=by
  rw [<-hC]
  exact aa7 (show 1<=2*n by omega) hA
 generalize hM:n*(A*B)=M
 have key:¬ ∀y∈box B n,∀z∈box B n,(eqs.map fun e=>gK e y+(M:Int))=(eqs.map fun e=>gK e z+(M:Int))->y=z:=by
  intro inj
  have nd:((box B n).map fun y=>eqs.map fun e=>gK e y+(M:Int)).Nodup:=by
   unfold akb
   rw [adm]
   refine ae_ (fun {y z} hy hz ne e=>ne (inj y hy z hz e)) (sW B n)
  have le:=sV nd (m:=box (2*M) eqs.length) fun x hx=>by
   obtain ⟨y,hy,rfl⟩:=aai.mp hx
   obtain ⟨ly,by'⟩:=jc.mp hy
   refine jc.mpr ⟨by simp,fun a ha=>?_⟩
   obtain ⟨e,hee,rfl⟩:=aai.mp ha
   have b1:=AF (A:=A) (B:=B) (he e hee).2 (y:=y) fun b hb=>by
    have:=by' b hb
    omega
   rw [(he e hee).1,hM] at b1
   omega
  rw [aah,uC,uC] at le
  have e1:2*M+1<=C*(B+1):=by
   have e3:2*M=C*B:=by rw [<-hM,<-hC,<-Nat.mul_assoc,<-Nat.mul_assoc]
   rw [e3,Nat.mul_add]
   omega
  have e2:(2*M+1)^eqs.length<=B*(B+1)^eqs.length:=by
   have:=adS e1 eqs.length
   rw [Nat.mul_pow,hB] at this
   exact this
  have e4:(B+1)^(eqs.length+1)<=(B+1)^n:=aaI (by omega) hn
  have e5:B*(B+1)^eqs.length<(B+1)^(eqs.length+1):=by
   rw [adk,adW ((B+1)^eqs.length)]
   exact Nat.mul_lt_mul_of_pos_right (aaV B) (Nat.pow_pos (by omega))
  omega
 obtain ⟨y,k1⟩:=aj4.mp key
 obtain ⟨hy,k2⟩:=aeb.mp k1
 obtain ⟨z,k3⟩:=aj4.mp k2
 obtain ⟨hz,k4⟩:=aeb.mp k3
 obtain ⟨ee,ne⟩:=aeb.mp k4
 obtain ⟨ly,by'⟩:=jc.mp hy
 obtain ⟨lz,bz⟩:=jc.mp hz
 have hl:y.length=z.length:=by omega
 refine ⟨aa5 (fun a b=>a-b) y z,by rw [List.length_zipWith];omega,?_,?_,fun e hee=>?_⟩
 ·apply abC
  intro h
  refine ne (List.ext_getElem hl fun i h1 h2=>?_)
  have h':∀a∈aa5 (fun a b=>a-b) y z,a=0:=fun a ha=>abC fun q=>h ⟨a,ha,q⟩
  have m:y[i]-z[i]∈aa5 (fun a b=>a-b) y z:=by
   refine Wp (i:=i) ?_
   rw [aca,gE h1,gE h2]
  have:=h' _ m
  omega
 ·intro a ha
  obtain ⟨i,ei⟩:=aaq ha
  rw [aca] at ei
  have hi:i<y.length:=by
   apply abC
   intro q
   rw [aam (by omega)] at ei
   cases ei
  rw [gE hi,gE (show i<z.length by omega)] at ei
  have ea:y[i]-z[i]=a:=aaA ei
  have q1:=by' _ (abX hi)
  have q2:=bz _ (abX (show i<z.length by omega))
  omega
 ·rw [wK e hl]
  obtain ⟨i,ei⟩:=aaq hee
  have e1:=aeE (fun l:List Int=>l[i]?) ee
  simp only [aag,ei,acC,Option.some.injEq] at e1
  omega
def col (l:ξ)(j:Nat):Rat:=((l.getD j 0:Int):Rat)
inductive cT (A:η):(Nat->Rat)->Prop
 | zero:cT A (fun _=>0)
 | put {f:Nat->Rat} (c:Rat) {a:ξ} (h:a∈A) (hf:cT A f):cT A (fun j=>f j+c*col a j)
theorem cT.congr (h:cT A f)(e:∀j,f j=g j):cT A g:=(funext e:f=g)▸h
theorem cT.add (hf:cT A f)(hg:cT A g):cT A (fun j=>f j+g j):=by
 induction hg with
 | zero=>exact hf.congr fun j=>by grind
 | put c h _ ih=>exact (cT.put c h ih).congr fun j=>by grind
theorem cT.mul (k:Rat)(hf:cT A f):cT A (fun j=>k*f j):=by
 induction hf with
 | zero=>exact cT.zero.congr fun j=>by grind
 | put c h _ ih=>exact (cT.put (k*c) h ih).congr fun j=>by grind
theorem cT.mem (h:a∈A):cT A (col a):=(cT.put 1 h cT.zero).congr fun j=>by grind
theorem cT.trans (hf:cT A f)(h:∀a∈A,cT B (col a)):cT B f:=by
 induction hf with
 | zero=>exact cT.zero
 | put c ha _ ih=>exact ih.add ((h _ ha).mul c)
theorem cT.mono (hf:cT A f)(h:∀a∈A,a∈B):cT B f:=hf.trans fun a ha=>cT.mem (h a ha)
theorem cT.first {l:ξ}{A:η}(hf:cT (l::A) f):∃a:Rat,cT A (fun j=>f j-a*col l j):=by
 induction hf with
 | zero=>exact ⟨0,cT.zero.congr fun j=>by grind⟩
 | put c h _ ih=>
  obtain ⟨a,ha⟩:=ih
  rcases aaL.mp h with e|e
  ·subst e
   exact ⟨a+c,ha.congr fun j=>by grind⟩
  ·exact ⟨a,(cT.put c e ha).congr fun j=>by grind⟩
theorem cT.last (hf:cT (A++[l]) f):∃a:Rat,cT A (fun j=>f j-a*col l j):=cT.first (hf.mono fun a ha=>by
 rcases aau.mp ha with z|z
 ·exact aan _ z
 ·rw [aao.mp z]
  exact aas)
theorem cT.van (hf:cT A f)(h:∀a∈A,col a c=0):f c=0:=by
 induction hf with
 | zero=>rfl
 | put k ha _ ih=>
  dsimp only
  rw [ih,h _ ha]
  grind
structure GZ (nd:π):Prop where
 nn:(nd.map (·.1)).Nodup
 here:∀x∈nd,x.2.getD x.1 0≠0
 off:∀x∈nd,∀y∈nd,x.1≠y.1->x.2.getD y.1 0=0
theorem GZ.zero:∀{nd:π} {f:Nat->Rat},GZ nd->cT (nd.map (·.2)) f->(∀x∈nd,f x.1=0)->∀j,f j=0
 | [],f,_,hf,_=>fun j=>by
  have:∀{g:Nat->Rat},cT [] g->g j=0:=fun {g} h=>h.van fun a ha=>nomatch ha
  exact this hf
 | x::r,f,P,hf,hz=>by
  obtain ⟨a,ha⟩:=cT.first hf
  have nn:=aaR.mp P.nn
  have v:f x.1-a*col x.2 x.1=0:=ha.van (c:=x.1) fun b hb=>by
   obtain ⟨y,hy,rfl⟩:=aai.mp hb
   unfold col
   rw [P.off y (aan _ hy) x aas (fun z=>nn.1 (by show x.1∈_;rw [<-z];exact aai.mpr ⟨y,hy,rfl⟩))]
   rfl
  rw [hz x aas] at v
  have zX:col x.2 x.1≠0:=cR (P.here x aas)
  have a0:a=0:=by grind
  subst a0
  have P':GZ r:=⟨nn.2,fun y hy=>P.here y (aan _ hy),fun y hy z hz=>P.off y (aan _ hy) z (aan _ hz)⟩
  exact GZ.zero P' (ha.congr (g:=f) fun j=>by grind) fun y hy=>hz y (aan _ hy)
theorem GZ.one (P:GZ nd)(hf:cT (nd.map (·.2)) f)(hx:x∈nd)(hz:∀y∈nd,y.1≠x.1->f y.1=0):∃a:Rat,∀j,f j=a*col x.2 j:=by
 have zX:col x.2 x.1≠0:=cR (P.here x hx)
 refine ⟨f x.1 / col x.2 x.1,fun j=>?_⟩
 have g:cT (nd.map (·.2)) fun j=>f j+ -(f x.1 / col x.2 x.1)*col x.2 j:=cT.put _ (aai.mpr ⟨x,hx,rfl⟩) hf
 have:=P.zero g (fun y hy=>by
  by_cases c:y.1=x.1
  ·rw [c]
   grind
  ·rw [hz y hy c]
   have:col x.2 y.1=0:=by
    unfold col
    rw [P.off x hx y hy (aaD c)]
    rfl
   rw [this]
   grind) j
 grind
def jy:List Int->List (List Int)->Nat->Int
 | z::zs,a::A,j=>z*a.getD j 0+jy zs A j
 | _,_,_=>0
theorem kD:∀(zs:ξ)(A:η),cT A (fun j=>((jy zs A j:Int):Rat))
 | [],A=>cT.zero.congr fun j=>by simp [jy]
 | _::_,[]=>cT.zero.congr fun j=>by simp [jy]
 | z::zs,a::A=>by
  have ih:=(kD zs A).mono (B:=a::A) fun b hb=>aan _ hb
  refine (cT.put (z:Rat) (aas) ih).congr fun j=>?_
  simp only [jy,col]
  push_cast
  grind
theorem uD (c:Nat):∀(zs:ξ)(A:η),gK (A.map fun a=>a.getD c 0) zs=jy zs A c
 | [],A=>by cases A<;>simp [jy,gK]
 | _::_,[]=>by simp [jy,gK]
 | z::zs,a::A=>by
  simp only [aaj,gK,jy]
  rw [uD c zs A,ack]
theorem yx (j:Nat):∀{zs:ξ} {A:η},(∀z∈zs,z.natAbs<=Z)->(∀a∈A,(a.getD j 0).natAbs<=E)->(jy zs A j).natAbs<=A.length*(Z*E)
 | [],A,_,_=>by simp [jy]
 | _::_,[],_,_=>by simp [jy]
 | z::zs,a::A,h1,h2=>by
  have ih:=yx j (zs:=zs) (A:=A) (fun x hx=>h1 x (aan _ hx)) fun x hx=>h2 x (aan _ hx)
  simp only [jy]
  have m:(z*a.getD j 0).natAbs<=Z*E:=by
   rw [ab1]
   exact aa7 (h1 z aas) (h2 a aas)
  have t:=acN (z*a.getD j 0) (jy zs A j)
  rw [aaQ,abx,aj3]
  omega
theorem pS (j:Nat):∀{zs:ξ} {A:η} (z:Int) (a:ξ),zs.length=A.length->jy (zs++[z]) (A++[a]) j=jy zs A j+z*a.getD j 0
 | [],[],z,a,_=>by simp [jy]
 | y::zs,b::A,z,a,h=>by
  have ih:=pS j (zs:=zs) (A:=A) z a (by simpa using h)
  simp only [acR,jy]
  rw [ih]
  omega
def UX (l:ξ):Prop:=∀d:Int,(∀j,d ∣ l.getD j 0)->d.natAbs=1
theorem Ki (p:UX l){v:Nat->Int}(ha:a≠0)(h:∀j,((v j:Int):Rat)=a*col l j)(j:Nat):(l.getD j 0).natAbs<=(v j).natAbs:=by
 have e:∀j,v j*(a.den:Int)=a.num*l.getD j 0:=fun j=>by
  have h1:=h j
  have h2:a=(a.num:Rat) / ((a.den:Int):Rat):=by
   rw [<-akn]
   exact (aka a).symm
  have hd:((a.den:Int):Rat)≠0:=cR (by have:=a.den_pos;omega)
  rw [h2] at h1
  unfold col at h1
  have h3:((v j*(a.den:Int):Int):Rat)=((a.num*l.getD j 0:Int):Rat):=by
   rw [aa9,aa9]
   generalize ((a.den:Int):Rat)=D at hd h1
   grind
  exact acY.mp h3
 have dv:∀j,(a.den:Int) ∣ l.getD j 0:=fun j=>by
  have h1:a.den ∣ a.num.natAbs*(l.getD j 0).natAbs:=by
   rw [<-ab1,<-e j,ab1]
   exact ⟨(v j).natAbs,by rw [adW];rfl⟩
  have h2:=Nat.Coprime.dvd_of_dvd_mul_left (Nat.Coprime.symm a.reduced) h1
  exact acI.mp (by simpa using h2)
 have d1:a.den=1:=by simpa using p _ dv
 have ej:=e j
 rw [d1] at ej
 have n0:a.num≠0:=fun z=>ha (Rat.num_eq_zero.mp z)
 have:v j=a.num*l.getD j 0:=by simpa using ej
 rw [this,ab1]
 exact Nat.le_mul_of_pos_left _ (by omega)
theorem Kj (p:UX l):¬ ∀j,l.getD j 0=0:=fun h=>by
 have:=p 0 fun j=>by rw [h j];exact Int.dvd_refl 0
 simp at this
structure G_ (os:η)(nd:π)(lv ps qs:η):Prop where
 po:∀p∈ps,p∈os
 qo:∀q∈qs,q∈os
 lp:ps.length=nd.length
 lq:qs.length=lv.length
 s1:∀x∈nd,cT ps (col x.2)
 s2:∀p∈ps,cT (nd.map (·.2)) (col p)
 s3:∀(i:Nat)(l q:ξ),lv[i]?=some l->qs[i]?=some q->cT (ps++[q]) (col l)/\cT (nd.map (·.2)++[l]) (col q)
 ind:∀zs:List Int,zs.length=ps.length->(∀j,jy zs ps j=0)->∀a∈zs,a=0
theorem G_.start (os:η):G_ os [] os [] os:=by
 refine ⟨by simp,fun q hq=>hq,rfl,rfl,by simp,by simp,fun i l q e1 e2=>?_,fun zs h _ a ha=>?_⟩
 ·rw [e1] at e2
  cases e2
  exact ⟨cT.mem (by simp),cT.mem (by simp)⟩
 ·rw [ag_.mp h] at ha
  cases ha
theorem GZ.cols (P:GZ nd)(hl:cT (nd.map (·.2)) (col l))(hz:∀x∈nd,l.getD x.1 0=0):∀j,l.getD j 0=0:=fun j=>by
 have:=P.zero hl (fun x hx=>by unfold col;rw [hz x hx];rfl) j
 unfold col at this
 exact acY.mp (this.trans (by rfl))
theorem wL {A:η}(hA:∀a∈A,∀j,(a.getD j 0).natAbs<=2^b):(A.map fun a=>a.getD c 0).length=A.length/\∀x∈A.map (fun a=>a.getD c 0),x.natAbs<=2^b:=by
 refine ⟨by simp,fun x hx=>?_⟩
 obtain ⟨a,ha,rfl⟩:=aai.mp hx
 exact hA a ha c
theorem G_.left (O:G_ os nd lv ps qs)(P:GZ nd){i b:Nat}{l:ξ}(e:lv[i]?=some l)(hz:∀x∈nd,l.getD x.1 0=0)(hb:∀o∈os,∀j,(o.getD j 0).natAbs<=2^b)(pr:UX l)(j:Nat):(l.getD j 0).natAbs<=(nd.length+1)*((2*(nd.length+1)*2^b)^nd.length*2^b):=by
 have hi:i<qs.length:=by
  rw [O.lq]
  exact (ir.mp e).1
 obtain ⟨q,eq⟩:∃q,qs[i]?=some q:=⟨_,gE hi⟩
 obtain ⟨t1,t2⟩:=O.s3 i l q e eq
 have hA:∀a∈ps++[q],∀j,(a.getD j 0).natAbs<=2^b:=fun a ha=>by
  rcases aau.mp ha with z|z
  ·exact hb a (O.po a z)
  ·rw [aao.mp z]
   exact hb q (O.qo q (Wp eq))
 have lA:(ps++[q]).length=nd.length+1:=by simp [O.lp]
 obtain ⟨zs,lz,nz,bz,sz⟩:=Kh (n:=nd.length+1) (A:=2^b) (eqs:=nd.map fun x=>(ps++[q]).map fun a=>a.getD x.1 0) (by simp) (ac1) fun y hy=>by
  obtain ⟨x,hx,rfl⟩:=aai.mp hy
  rw [<-lA]
  exact wL hA
 rw [aah] at bz
 have v0:∀x∈nd,jy zs (ps++[q]) x.1=0:=fun x hx=>by
  rw [<-uD]
  exact sz _ (aai.mpr ⟨x,hx,rfl⟩)
 have hv:cT (nd.map (·.2)++[l]) fun j=>((jy zs (ps++[q]) j:Int):Rat):=(kD zs (ps++[q])).trans fun a ha=>by
  rcases aau.mp ha with z|z
  ·exact (O.s2 a z).mono fun y hy=>aaK _ hy
  ·rw [aao.mp z]
   exact t2
 obtain ⟨a,ha⟩:=cT.last hv
 have ez:=P.zero ha fun x hx=>by
  rw [v0 x hx]
  unfold col
  rw [hz x hx]
  show ((0:Int):Rat)-a*((0:Int):Rat)=0
  grind
 by_cases c:a=0
 ·exfalso
  subst c
  have vz:∀j,jy zs (ps++[q]) j=0:=fun j=>by
   have:=ez j
   have h:((jy zs (ps++[q]) j:Int):Rat)=((0:Int):Rat):=by grind
   exact acY.mp h
  obtain ⟨uE,z,rfl⟩:∃uE z,zs=uE ++[z]:=by
   rcases adx zs with h|⟨uE,z,h⟩
   ·rw [h] at lz
    simp at lz
   ·exact ⟨uE,z,by rw [h,ady]⟩
  have UY :uE.length=ps.length:=by
   rw [O.lp]
   simpa using lz
  have sp:∀j,jy uE ps j+z*q.getD j 0=0:=fun j=>by
   rw [<-pS j z q UY]
   exact vz j
  by_cases z0:z=0
  ·subst z0
   obtain ⟨x,hx,nx⟩:=nz
   have all:=O.ind uE UY fun j=>by simpa using sp j
   rcases aau.mp hx with h|h
   ·exact nx (all x h)
   ·exact nx (aao.mp h)
  ·have hq:cT ps (col q):=((kD uE ps).mul (-1 / (z:Rat))).congr fun j=>by
    have s':((jy uE ps j+z*q.getD j 0:Int):Rat)=((0:Int):Rat):=by rw [sp j]
    rw [acZ,aa9] at s'
    have zr:(z:Rat)≠0:=cR z0
    unfold col
    grind
   have hl:cT ps (col l):=t1.trans fun a ha=>by
    rcases aau.mp ha with h|h
    ·exact cT.mem h
    ·rw [aao.mp h]
     exact hq
   exact Kj pr (P.cols (hl.trans O.s2) hz)
 ·have le:=Ki pr c (v:=fun j=>jy zs (ps++[q]) j) (fun j=>by have:=ez j;grind) j
  refine aak le ?_
  have:=yx j (zs:=zs) (A:=ps++[q]) bz fun a ha=>hA a ha j
  rw [lA] at this
  exact this
theorem G_.need (O:G_ os nd lv ps qs)(P:GZ nd)(hx:x∈nd)(hb:∀o∈os,∀j,(o.getD j 0).natAbs<=2^b)(pr:UX x.2)(j:Nat):(x.2.getD j 0).natAbs<=(nd.length+1)*((2*(nd.length+1)*2^b)^nd.length*2^b):=by
 have hA:∀a∈ps,∀j,(a.getD j 0).natAbs<=2^b:=fun a ha=>hb a (O.po a ha)
 have lf:(nd.filter fun y=>decide (y.1≠x.1)).length<nd.length:=by
  have h1:(nd.filter fun y=>decide (y.1≠x.1)).length<=nd.length:=acK ..
  rcases Nat.lt_or_eq_of_le h1 with h|h
  ·exact h
  ·have:=List.length_filter_eq_length_iff.mp h x hx
   simp at this
 obtain ⟨zs,lz,nz,bz,sz⟩:=Kh (n:=nd.length) (A:=2^b) (eqs:=(nd.filter fun y=>decide (y.1≠x.1)).map fun y=>ps.map fun a=>a.getD y.1 0) (by rw [aah];exact lf) (ac1) fun y hy=>by
  obtain ⟨z,hz,rfl⟩:=aai.mp hy
  rw [<-O.lp]
  exact wL hA
 rw [aah] at bz
 have v0:∀y∈nd,y.1≠x.1->jy zs ps y.1=0:=fun y hy ne=>by
  rw [<-uD]
  exact sz _ (aai.mpr ⟨y,acW.mpr ⟨hy,by simpa using ne⟩,rfl⟩)
 have hv:cT (nd.map (·.2)) fun j=>((jy zs ps j:Int):Rat):=(kD zs ps).trans O.s2
 obtain ⟨a,ha⟩:=P.one hv hx fun y hy ne=>by
  rw [v0 y hy ne]
  rfl
 have c:a≠0:=fun z=>by
  subst z
  obtain ⟨y,hy,ny⟩:=nz
  refine ny (O.ind zs (by rw [lz,O.lp]) (fun j=>?_) y hy)
  have h:((jy zs ps j:Int):Rat)=((0:Int):Rat):=by
   rw [ha j]
   show 0*col x.2 j=0
   grind
  exact acY.mp h
 have le:=Ki pr c (v:=fun j=>jy zs ps j) ha j
 refine aak le ?_
 have:=yx j (zs:=zs) (A:=ps) bz fun a ha=>hA a ha j
 rw [O.lp] at this
 refine aak this (aa7 (by omega) (aa7 ?_ (aal _)))
 refine aak (adS (aaG _ (show 2*nd.length<=2*(nd.length+1) by omega)) _) ?_
 exact aaI (Nat.mul_pos (by omega) (akJ _)) (by omega)
theorem Rv (hs:s+1<=1024):(s+1)*((2*(s+1)*2^b)^s*2^b)<=2^((s+1)*(b+11)):=by
 have h1:2*(s+1)*2^b<=2^(b+11):=by
  have:2*(s+1)<=2^11:=by
   show 2*(s+1)<=2048
   omega
  rw [adP,adW (2^b)]
  exact aaG _ this
 have h2:(2*(s+1)*2^b)^s<=2^((b+11)*s):=by
  rw [Nat.pow_mul]
  exact adS h1 s
 have h3:s+1<=2^11:=by
  show s+1<=2048
  omega
 have e:(s+1)*(b+11)=11+((b+11)*s+b):=by
  rw [abx,aj3,adW s]
  omega
 rw [e,adP,adP]
 exact aa7 h3 (aaG _ h2)
theorem AG (k:qW line lead new c)(h1:cT B (col line))(h2:cT B (col lead)):cT B (col new):=by
 obtain ⟨s,t,u,hs,ht,e⟩:=k.Me
 have zs:=cR hs
 refine ((h1.mul ((t:Rat) / s)).add (h2.mul (-(u:Rat) / s))).congr fun j=>?_
 have ej:((s*new.getD j 0:Int):Rat)=((t*line.getD j 0-u*lead.getD j 0:Int):Rat):=by rw [e j]
 rw [aa9,akK,aa9,aa9] at ej
 unfold col
 grind
theorem AH (k:qW line lead new c)(h1:cT B (col new))(h2:cT B (col lead)):cT B (col line):=by
 obtain ⟨s,t,u,hs,ht,e⟩:=k.Me
 have zt:=cR ht
 refine ((h1.mul ((s:Rat) / t)).add (h2.mul ((u:Rat) / t))).congr fun j=>?_
 have ej:((s*new.getD j 0:Int):Rat)=((t*line.getD j 0-u*lead.getD j 0:Int):Rat):=by rw [e j]
 rw [aa9,akK,aa9,aa9] at ej
 unfold col
 grind
theorem G_.step {nd jo :π}{lv yy ps qs:η}{lead:ξ}{j c:Nat}(O:G_ os nd lv ps qs)(P:GZ nd)(ej:lv[j]?=some lead)(hz:∀x∈nd,lead.getD x.1 0=0)(hc:lead.getD c 0≠0)
  (lL:yy.length=(lv.eraseIdx j).length) (ML:∀(i:Nat)(x:ξ),(lv.eraseIdx j)[i]?=some x->∃y,yy[i]?=some y/\qW x lead y c) (lN:jo.length=nd.length) (MN:∀(i:Nat)(x:ξ),(nd.map (·.2))[i]?=some x->∃y,(jo.map (·.2))[i]?=some y/\qW x lead y c):∃ps' qs',G_ os (jo ++[(c,lead)]) yy ps' qs':=by
 have hj:j<lv.length:=(ir.mp ej).1
 obtain ⟨q,eq⟩:∃q,qs[j]?=some q:=⟨_,gE (by rw [O.lq];exact hj)⟩
 obtain ⟨t1,t2⟩:=O.s3 j lead q ej eq
 have ml:lead∈(jo ++[(c,lead)]).map (·.2):=by simp
 have old:∀x∈nd.map (·.2),cT ((jo ++[(c,lead)]).map (·.2)) (col x):=fun x hx=>by
  obtain ⟨i,ei⟩:=aaq hx
  obtain ⟨y,ey,k⟩:=MN i x ei
  refine AH k (cT.mem ?_) (cT.mem ml)
  rw [aax]
  exact aaK _ (Wp ey)
 have acb:∀y∈jo.map (·.2),∃x∈nd.map (·.2),qW x lead y c:=fun y hy=>by
  obtain ⟨i,ei⟩:=aaq hy
  have hi:=(ir.mp ei).1
  rw [aah] at hi
  obtain ⟨x,ex⟩:∃x,(nd.map (·.2))[i]?=some x:=⟨_,gE (by rw [aah];omega)⟩
  obtain ⟨y',Mh,k⟩:=MN i x ex
  rw [ei] at Mh
  cases Mh
  exact ⟨x,Wp ex,k⟩
 have up:∀{f:Nat->Rat},cT ps f->cT (ps++[q]) f:=fun h=>h.mono fun a ha=>aaK _ ha
 refine ⟨ps++[q],qs.eraseIdx j,fun p hp=>?_,fun p hp=>O.qo p (acu hp),by simp [O.lp,lN],?_,fun x hx=>?_,fun p hp=>?_,fun i l' q' e1 e2=>?_,fun zs lz hzs a ha=>?_⟩
 ·rcases aau.mp hp with z|z
  ·exact O.po p z
  ·rw [aao.mp z]
   exact O.qo q (Wp eq)
 ·rw [lL,ab4,ab4,O.lq]
 ·rcases aau.mp hx with z|z
  ·obtain ⟨y,hy,k⟩:=acb x.2 (aai.mpr ⟨x,z,rfl⟩)
   obtain ⟨x0,hx0,rfl⟩:=aai.mp hy
   exact AG k (up (O.s1 x0 hx0)) t1
  ·rw [aao.mp z]
   exact t1
 ·rcases aau.mp hp with z|z
  ·exact (O.s2 p z).trans old
  ·rw [aao.mp z]
   refine t2.trans fun a ha=>?_
   rcases aau.mp ha with h|h
   ·exact old a h
   ·rw [aao.mp h]
    exact cT.mem ml
 ·have hi:=(ir.mp e1).1
  obtain ⟨x,ex⟩:∃x,(lv.eraseIdx j)[i]?=some x:=⟨_,gE (by omega)⟩
  obtain ⟨y',Mh,k⟩:=ML i x ex
  rw [e1] at Mh
  cases Mh
  obtain ⟨i',f1,f2⟩:∃i',lv[i']?=some x/\qs[i']?=some q':=by
   rw [aa6] at ex e2
   by_cases h:i<j
   ·rw [aek h] at ex e2
    exact ⟨_,ex,e2⟩
   ·rw [aej h] at ex e2
    exact ⟨_,ex,e2⟩
  obtain ⟨u1,u2⟩:=O.s3 i' x q' f1 f2
  constructor
  ·refine AG k (u1.mono fun a ha=>?_) (t1.mono fun a ha=>aaK _ ha)
   rcases aau.mp ha with h|h
   ·exact aaK _ (aaK _ h)
   ·exact aaN _ h
  ·refine u2.trans fun a ha=>?_
   rcases aau.mp ha with h|h
   ·exact (old a h).mono fun b hb=>aaK _ hb
   ·rw [aao.mp h]
    exact AH k (cT.mem (by simp)) (cT.mem (aaK _ ml))
 ·obtain ⟨uE,z,rfl⟩:∃uE z,zs=uE ++[z]:=by
   rcases adx zs with h|⟨uE,z,h⟩
   ·rw [h] at lz
    simp at lz
   ·exact ⟨uE,z,by rw [h,ady]⟩
  have UY :uE.length=ps.length:=by simpa using lz
  have sp:∀j,jy uE ps j+z*q.getD j 0=0:=fun j=>by
   rw [<-pS j z q UY]
   exact hzs j
  have z0:z=0:=by
   apply abC
   intro z0
   have hq:cT ps (col q):=((kD uE ps).mul (-1 / (z:Rat))).congr fun j=>by
    have s':((jy uE ps j+z*q.getD j 0:Int):Rat)=((0:Int):Rat):=by rw [sp j]
    rw [acZ,aa9] at s'
    have zr:(z:Rat)≠0:=cR z0
    unfold col
    grind
   have hl:cT ps (col lead):=t1.trans fun a ha=>by
    rcases aau.mp ha with h|h
    ·exact cT.mem h
    ·rw [aao.mp h]
     exact hq
   exact hc (P.cols (hl.trans O.s2) hz c)
  rcases aau.mp ha with h|h
  ·exact O.ind uE UY (fun j=>by have:=sp j;rw [z0] at this;simpa using this) a h
  ·rw [aao.mp h]
   exact z0
end Ty
set_option maxHeartbeats 4000000
namespace Ty
open PySem PySem.Spec PyProof.Rows L2
section
variable {prog:aeB}{w:World}{A:aeI}{E:δ}{s:aep}
end
section
variable {X:Cx}
end
section
variable {prog:aeB}{w:World}{A:aeI}{E:δ}{s:aep}
end
section
variable {X:Cx}
theorem AI {K:Frag}(h:X.K=K):T3 X (QM K):=by subst h;exact tN
theorem Kk {lV:Pos}(hN:X.N.Nodup)(Nd:X.N[i]?=some y)(hx:Loc X.env.scope y)
  (hc:X.calm=true) (B:Q_ X scope yc fr caps) (hi:PI X target iter wi)
  (hg:∀C s H fp,PG (Q9 X (tn++fr) scope yc (bo X.env fr) C s H fp) target g) (ht:∀C s H fp,PF (Q9 X (tn++fr) scope yc (bo X.env fr) C s H fp) ifs tt) (he:∀C s H fp,PE (Q9 X (tn++fr) scope yc (bo X.env fr) C s H fp) elt te)
  (uf:afN (.ListComp elt [⟨target,iter,ifs,0⟩] scope pos) (some (.Name y py)) lV.line X.env=pure true:=by rfl)
  (hs:∀x,ae3 iter X.env x=pure x:=by intro _;rfl) (hf:X.fn y=true\/X.env.scope.names.lookup y=some .local:=by first|exact .inl rfl|exact .inr rfl|assumption):
  PS X (.Assign [.Name y py] (.ListComp elt [⟨target,iter,ifs,0⟩] scope pos) lV) (vG (kr tn.length caps wi g tt te) (b9 i)):=
 vY hN Nd hx hc B.g hi hg ht he uf hs hf
end
theorem wM {cap:L2.St}(p:Nat->Bool)(nD:H1 D=none)(hn:n<ael)
  (ht:∀i H (R:Bool->Hp->Prop),i<n->au H1 H->(∀H',au H H' ->R (p i) H')->tt (some (.int (i:Int))::cap) H R)
  (he:∀i H (R:VK),R (.int (i:Int)) H->te (some (.int (i:Int))::cap) H R)
  (hd:∀H,au H1 H->H D=some (.lst (((abb n).filter p).map fun i:Nat=>V.int (i:Int)))->Q (.ref D) H):
  lS D (b9 0) tt te (OT 0 n) (none::cap) H1 Q:=by
 refine ⟨fun i m σ ys H=>m=n-i/\i<=n/\(∃o,σ=o::cap)/\au H1 H/\H D=some (.lst ys)/\ys=((abb i).filter p).map fun i:Nat=>V.int (i:Int),⟨n,by simp,aaS _,⟨none,rfl⟩,fun b o e=>by rw [ao (aq e nD)];exact e,ak,rfl⟩,?_⟩
 rintro i m σ ys H ⟨rfl,hi,⟨o,rfl⟩,s,hD,ey⟩
 by_cases lj:i<n
 ·refine .inr ⟨lj,fun v H' y=>?_⟩
  obtain ⟨rfl,rfl⟩:=y
  rw [aaT]
  unfold b9
  refine ht i _ _ lj s fun H2 s2=>?_
  have yz:au H1 H2:=fun b o e=>s2 _ _ (s _ _ e)
  have ly:ys.length<=i:=by
   rw [ey,aah]
   have:=acK p (abb i)
   rw [akq] at this
   exact this
  by_cases c:p i=true
  ·rw [aek c]
   refine he i _ _ ⟨s2 _ _ hD,by omega,n-(i+1),by omega,rfl,by omega,⟨_,rfl⟩,?_,ak,?_⟩
   ·exact fun b o e=>by
     rw [ao (aq e nD)]
     exact yz _ _ e
   ·rw [ajY,ake,ac2 c,ey,aax]
    rfl
  ·rw [aej c]
   refine ⟨n-(i+1),by omega,rfl,by omega,⟨_,rfl⟩,yz,s2 _ _ hD,?_⟩
   rw [ajY,ake,ac9 c,ey,List.filter_nil,acB]
 ·have e:i=n:=by omega
  subst e
  rw [ey] at hD
  exact .inl ⟨aal _,hd H s hD⟩
theorem rm:agx (.type "list") "__getattr__"=pure none:=by rw [agD,afW];kernel_rfl
theorem yA:agx (.type "list") "keys"=pure none:=by rw [agD,afW];kernel_rfl
theorem wN:entryFor table "list.__getattribute__"=some Builtin.«object.__getattribute__»:=
 entryFor_alias (id':="object.__getattribute__") (by kernel_rfl) (by decide+kernel) (by decide+kernel) (by kernel_rfl)
theorem DP (a:aef)(its:Κ)(n:Nat)(u:Tok):
  Meets (Builtin.«object.__getattribute__» ⟨[.ref a,.str "keys" u],[]⟩) (fun A R s=>s.heap.get? a=some {cls:=.type "list",dict:=none,data:=.seq its n,slots:= #[]}/\raisesAttr (.ref a) "keys" A R s):=
 Meets.of_wp fun prog w A R s hs=>by
  obtain ⟨hp,g,d,tk,os⟩:=s
  obtain ⟨hx,hs⟩:=hs
  have hT:(⟨hp,g,d,tk,os⟩:aep).TypeIs (.ref a) "list":=⟨_,hx,rfl⟩
  have hm:=yA
  unfold Builtin.«object.__getattribute__»
  repeat (any_goals (first|(assumption)|wp_step))
  exact wpAny_raiseAttrError hs.1 hs.2 (attrMsg_fits (by decide+kernel) (by decide+kernel))
section
variable {prog:aeB}{w:World}{A:aeI}{E:δ}{s:aep}
theorem uF {its:Κ}{Q:Ρ}(hx:s.heap.get? z=some {cls:=.type "list",dict:=none,data:=.seq its n,slots:= #[]})(hA:A.handled=none)
  (h:∀h' tk,(∀b o,s.heap.get? b=some o->h'.get? b=some o)->Q none {s with heap:=h',toks:=tk}):aen (aes prog w) A (getAttr? (.ref z) "keys") Q E s:=by
 obtain ⟨hp,g,d,tk,os⟩:=s
 have hT:∀UT,(⟨hp,g,d,UT,os⟩:aep).TypeIs (.ref z) "list":=fun _=>⟨_,hx,rfl⟩
 have f1:=sub_AttributeError
 have f3:=F.slot_list_getattribute.lookup
 have f4:=F.slot_list_getattribute.bind (.ref z)
 have f5:=rm
 unfold getAttr? getAttrBy? getAttrBy
 repeat (any_goals (first|(assumption)|exact hT _|((with_reducible show aen _ _ (call (Value.builtin "list.__getattribute__") _ _) _ _ _);refine agd F.slot_list_getattribute (hT _) wN (F.args_list_getattribute_2 _ _) (DP z its n _) ⟨hx,hA,fun h' UT e xT =>?_⟩)|wp_step))
 obtain ⟨t',u',he⟩:=xT.there
 show aen _ _ (af8 _ _ _ _ _ _ _) _ _ _
 unfold af8
 repeat (any_goals (first|(assumption)|wp_step))
 exact h _ _ xT.keeps
theorem pT {its:Κ}{Q:δ}(hA:A.in1.in1.handled=none)(hz:s.heap.get? z=some {cls:=.type "list",dict:=none,data:=.seq its n,slots:= #[]})
  (hL:∀(h':Heap)(tk:Nat)(R:Μ),(∀b o,s.heap.get? b=some o->h'.get? b=some o)->h'.get? s.heap.objs.size=some {cls:=.type "dict",data:=.dict #[]}->
   (∀s',Q (.ref s.heap.objs.size) s' ->R (.ok (.ret .none)) s')->afd (aes prog w) A.in1 (.builtin "dict.update.loop" ⟨[.ref s.heap.objs.size,.ref h'.objs.size,afE 0,.none],[]⟩) R {s with heap:=h'.push {cls:=.type "list_iterator",data:=.fields #[.ref z,.int 0 0]},toks:=tk}):
  aen (aes prog w) A (call (.type "dict") [.ref z]) Q E s:=by
 refine callType_codes (Q₁:=fun obj s₁=>obj=.ref s.heap.objs.size/\s₁={s with heap:=s.heap.push {cls:=.type "dict",data:=.dict #[]}}) F.kt_called_dict (F.kt_typeCall_dict_1 _) F.entry_dict_init (kt_code_dict_new _ ⟨rfl,rfl⟩) ?_
 rintro obj s₁ ⟨rfl,rfl⟩
 have hS:(s.heap.push {cls:=.type "dict",data:=.dict #[]}).get? s.heap.objs.size=some {cls:=.type "dict",data:=.dict #[]}:=aez _ rfl
 have k0:∀b o,s.heap.get? b=some o->(s.heap.push {cls:=.type "dict",data:=.dict #[]}).get? b=some o:=fun b o e=>aeh _ e
 generalize hN:s.heap.objs.size=S at hS hL ⊢
 generalize s.heap.push {cls:=.type "dict",data:=.dict #[]}=hp at hS k0 ⊢
 have Ke:hp.get? z=_:=k0 _ _ hz
 have UU:af4 {s with heap:=hp} (.ref S) "dict":=⟨_,hS,rfl⟩
 have hT:af4 {s with heap:=hp} (.ref z) "list":=⟨_,Ke,rfl⟩
 refine ⟨UU,F.args_dict_init_2 _ _,?_⟩
 unfold Builtin.«dict.__init__»
 refine aeg ?_
 unfold Builtin.Dict.selfAndRest
 refine aeg (wpAny_notOrdered_dict UU ?_)
 refine aeo ?_
 show aen _ _ (afK "dict.__init__" S (.ref z) [] .none) _ _ _
 unfold afK
 refine aeg (afU hT ?_)
 rw [aek (by decide)]
 refine aeg (uF (s:={s with heap:=hp}) Ke hA fun h' tk k1=>?_)
 rw [aek (by rfl)]
 refine aeg (wpAny_rule ?_)
 have hz3:h'.IsList z its:=⟨_,k1 _ _ Ke,rfl,_,rfl⟩
 refine aeg (agf (s:={s with heap:=h',toks:=tk}) hz3 ?_)
 exact aeo ⟨af3 cS _,hL h' tk _ (fun b o e=>k1 _ _ (k0 _ _ e)) (k1 _ _ hS) fun s' hq=>⟨rfl,hq⟩⟩
end
section
variable {X:Cx}{pins:ζ}{σ:L2.St}
theorem Rw {R:Μ}(hh:A'.in1.handled=none)(na:a≠S)(nS:it≠S)(lu:us.length=kvs.length)(hk1:kvs.length<=1000):
  ∀(k i:Nat)(s:aep)(H:Hp),kvs.length-i=k->i<=kvs.length->L2.Inv X pins σ H s->(∀c∈[it],iL X pins H c)->s.heap.IsListIter it a i->
  H a=some (.lst us)->(∀(j:Nat)(u:V)(kv:Key×V),us[j]?=some u->kvs[j]?=some kv->∃p,u=.ref p/\H p=some (.tup [kV kv.1,kv.2]))->H S=some (.dK (bN [] (kvs.take i)))->bQ S H0 H->
  (∀s' H',L2.Inv X pins σ H' s' ->bQ S H0 H' ->H' S=some (.dK (bN [] kvs))->R (.ok (.ret .none)) s')->
  afd (aes X.prog X.w) A' (.builtin "dict.update.loop" ⟨[.ref S,.ref it,afE (i:Int),.none],[]⟩) R s:=by
 intro k
 induction k with
 | zero=>
  intro i s H hk hi I hf st ha hp hS Rt hR
  refine agF gw ?_
  rw [af0 cS _]
  show aen _ A'.in1 (af2 (.ref it) >>=_) _ _ s
  obtain ⟨z1,its,n1,r1,l1,e1⟩:=I.jK ha
  refine aeg (wpAny_pyNext_list_end hh st ⟨_,e1,rfl,_,rfl⟩ (by simp;omega) fun h' kk=>?_)
  rw [abe (by omega)] at hS
  exact aeg (aeo (aeo (hR _ H (Inv.i8 (t':=s.toks) I (fun b o hb e=>kk b o (by simpa using hb) e) hf) Rt hS)))
 | succ k ih=>
  intro i s H hk hi I hf st ha hp hS Rt hR
  refine agF gw ?_
  rw [af0 cS _]
  show aen _ A'.in1 (af2 (.ref it) >>=_) _ _ s
  obtain ⟨z1,its,n1,r1,l1,e1⟩:=I.jK ha
  have lx:i<kvs.length:=by omega
  have ly:i<us.length:=by omega
  obtain ⟨p,ep,hpp⟩:=hp i us[i] kvs[i] (gE ly) (gE lx)
  obtain ⟨u0,hu,ru⟩:=r1.get (i:=i) (x:=us[i]) (gE ly)
  rw [ep] at ru
  cases ru
  refine aeg (wpAny_pyNext_list_item st ⟨_,e1,rfl,_,rfl⟩ (x:=.ref p) (by simpa using hu) fun h' xF sb0=>?_)
  have I2:L2.Inv X pins σ H {s with heap:=h',toks:=s.toks}:=Inv.i8 (t':=s.toks) I (fun b o hb e=>(sb0.2 b (by simpa using hb)).trans e) hf
  obtain ⟨zS,hdS,vs,rel,dd⟩:=ku I2.bO hS
  obtain ⟨SU,rj,tp,zj⟩:=I2.tuple (bJ.of hpp)
  cases rj with
  | cons ru rr=>
  cases rr with
  | cons rv rr=>
  cases rr
  rename_i u v
  obtain ⟨o,eo,co,n,do'⟩:=tp
  have hT:af4 {s with heap:=h',toks:=s.toks} (.ref p) "tuple":=⟨_,eo,co⟩
  refine aeg (ae5 ?_)
  refine aeg (wpAny_tryCatch ?_)
  unfold Builtin.Dict.pairItems
  refine aeg (afU hT ?_)
  rw [aek (by decide)]
  refine aeg (age eo do' (aeo ?_))
  show aen _ A'.in1 (agp [u,v] (dictSet S u v)) _ _ _
  refine ae5 ?_
  have hlen:vs.length<=ael:=by rw [<-rel.length];exact zS
  refine wpAny_dictSet_pairs (hsz:=hlen) (jw ru) dd fun h2 O3 sb=>?_
  have he:∃q,h2.get? S=some q:=let ⟨q,_,_,hq,_⟩:=O3;⟨q,hq⟩
  have etk:kvs.take (i+1)=kvs.take i++[kvs[i]]:=by
   rw [acn,gE lx]
   rfl
  have Kf:bN [] (kvs.take (i+1))=putK (bN [] (kvs.take i)) kvs[i].1 kvs[i].2:=by rw [etk,mV]
  have hl:(putK (bN [] (kvs.take i)) kvs[i].1 kvs[i].2).length<=ael:=by
   rw [<-Kf]
   have h1:=fk (kvs.take (i+1)) []
   rw [aaJ,acX] at h1
   exact aak (show (bN [] (kvs.take (i+1))).length<=1000 by omega) (by decide)
  have I3:L2.Inv X pins σ (upd H S (.dK (putK (bN [] (kvs.take i)) kvs[i].1 kvs[i].2))) {s with heap:=h2,toks:=s.toks+1}:=i_ (s:={s with heap:=h',toks:=s.toks}) (t':=s.toks+1) I2 (by rw [hS];exact True.intro) sb he (lX hl hdS (rel.put kvs[i].1 rv) O3)
  refine aeo ⟨af3 cS _,?_⟩
  have nn:∀{c:aef} {o:HO},H c=some o->c≠S->(upd H S (.dK (putK (bN [] (kvs.take i)) kvs[i].1 kvs[i].2))) c=some o:=fun {c o} e n=>by rw [ao n];exact e
  obtain ⟨oi,ei,ci,di⟩:=xF
  refine ih (i+1) _ _ (by omega) (by omega) I3 (fun c hc=>?_) ⟨oi,(sb.2 it nS).trans ei,ci,di⟩ (nn ha na) (fun j u kv e1 e2=>?_) (by rw [Kf,ak]) (fun c o n e=>nn (Rt c o n e) n) hR
  ·obtain ⟨f0,f1,f2,f3,f4,f5⟩:=hf c hc
   have:c≠S:=fun z=>nS (by rw [<-z];exact (aao.mp hc).symm)
   exact ⟨by rw [ao this];exact f0,f1,f2,f3,f4,f5⟩
  ·obtain ⟨q,eq,hq⟩:=hp j u kv e1 e2
   exact ⟨q,eq,nn hq fun z=>by rw [z,hS] at hq;cases hq⟩
inductive Kl (xs:ε)(H:Hp)(Q:VK):Prop
|mk (a:aef)(us:ε)(kvs:γ)(_:xs=[.ref a])(_:H a=some (.lst us))(_:us.length=kvs.length)(_:kvs.length<=1000)(_:∀(j:Nat)(u:V)(kv:Key×V),us[j]?=some u->kvs[j]?=some kv->∃p,u=.ref p/\H p=some (.tup [kV kv.1,kv.2]))(_:∀(l:aef)(H':Hp),au H H' ->H l=none->H' l=some (.dK (bN [] kvs))->Q (.ref l) H')
theorem yB (hc:X.calm=true):ft X (.type "dict") Kl:=by
 intro pins s σ H vs us Q I r h
 obtain ⟨a,xs,kvs,rfl,hx,lu,hkl,hp,q⟩:=h
 obtain ⟨u,rfl⟩:∃u,us=[u]:=by cases r with|cons h t=>cases t;exact ⟨_,rfl⟩
 cases r with
 | cons h _=>
 cases h
 obtain ⟨z1,its,n1,r1,l1,e1⟩:=I.jK hx
 have hS:=I.bO.fresh (aal s.heap.objs.size)
 refine pT (s:=s) (I.ok.hd hc) e1 fun h' tk R k2 Pp hR=>?_
 have lt':aex<s.heap.objs.size:=(I.mod.glob.keeps I.bk).lt
 have ns:(s.heap.objs.size==ae6)=false:=beq_eq_false_iff_ne.mpr (aaD (aaM (adX (by decide) lt')))
 have ltS:s.heap.objs.size<h'.objs.size:=aew Pp
 have k3:∀b o,s.heap.get? b=some o->(h'.push {cls:=.type "list_iterator",data:=.fields #[.ref a,.int 0 0]}).get? b=some o:=fun b o e=>aeh _ (k2 b o e)
 have I3:L2.Inv X pins σ (upd H s.heap.objs.size (.dK [])) {s with heap:=h'.push {cls:=.type "list_iterator",data:=.fields #[.ref a,.int 0 0]},toks:=tk}:=I.laid (t':=tk) k3 (aal _) ⟨aaS _,ns,[],.nil,_,_,_,aeh _ Pp,⟨rfl,rfl,rfl⟩,rfl,fun _ he=>by simp at he,Pairs.nil,aj2⟩
 have wI:=sT hS (.dK [])
 have na:a≠s.heap.objs.size:=aq hx hS
 have nS:h'.objs.size≠s.heap.objs.size:=acz ltS
 refine Rw (A':=X.A.in1) (H0:=H) (us:=xs) (kvs:=kvs) (a:=a) (it:=h'.objs.size) (S:=s.heap.objs.size) (I.ok.hd hc) na nS lu hkl kvs.length 0 _ _ (by omega) (aaS _) I3 (fun c' rZ =>?_) ⟨_,aez _ rfl,rfl,rfl⟩ (wI _ _ hx) (fun j u kv e1 e2=>?_) ak (fun b' o n e=>wI _ _ e) fun s' H' I' ks' Nq =>hR s' ⟨.ref s.heap.objs.size,H',I',rfl,q _ H' (fun b' o e=>ks' b' o (aq e hS) e) hS Nq⟩
 ·have ec:c'=h'.objs.size:=aao.mp rZ
  have hb:s.heap.objs.size<=c':=by rw [ec];exact aa1 ltS
  refine I.lH hb ?_
  rw [ao (by rw [ec];exact nS)]
  exact I.bO.fresh hb
 ·obtain ⟨p,e,hq⟩:=hp j u kv e1 e2
  exact ⟨p,e,wI _ _ hq⟩
end
inductive Km (i j k:Nat)(D:Ends)(σ:L2.St)(vs:ε)(H1:Hp):Prop
|mk (u v w:_)(_:vs=[u,v,w])(_:D.nx (((σ.set i (some u)).set j (some v)).set k (some w)) H1)
def UZ (i j k:Nat)(ta:TA):TS:=fun D σ H=>ta σ H fun vs H1=>Km i j k D σ vs H1
theorem NF (hc:X.calm=true)(hN:X.N.Nodup)(hi:X.N[i]?=some x)(hj:X.N[j]?=some y)(hk:X.N[k]?=some z)(TK:i≠j/\i≠k/\j≠k)
  (hx:X.env.scope.names.lookup x=some .local) (hy:X.env.scope.names.lookup y=some .local) (hz:X.env.scope.names.lookup z=some .local) (ha:PA X [a,b,c] ta)
  (hw:swappedStores [.Tuple [.Name x px,.Name y py,.Name z pz] kt pt] (.Tuple [a,b,c] k2 QE) X.env=pure (some [x,y,z]))
  (hs:swapsWithSole [.Tuple [.Name x px,.Name y py,.Name z pz] kt pt] (.Tuple [a,b,c] k2 QE) pos.line X.env=pure false:=by rfl):
  PS X (.Assign [.Tuple [.Name x px,.Name y py,.Name z pz] kt pt] (.Tuple [a,b,c] k2 QE) pos) (UZ i j k ta):=by
 intro pins s σ H D I h
 rw [exec_Assign_arm]
 refine aeg (agm ?_)
 rw [hs]
 refine aeg (aeo ?_)
 rw [aej (by decide)]
 refine aeg (Tuple_ (cB (ha _ pins s σ H _ I h) fun us s1 ⟨vs,H1,I1,r1,q1⟩=>?_))
 obtain ⟨u,v,w,e1,q1⟩:=q1
 subst e1
 obtain ⟨u1,u2,u3,rfl,ru,rv,mL⟩:∃u1 u2 u3,us=[u1,u2,u3]/\RelV u u1/\RelV v u2/\RelV w u3:=by
  cases r1 with
  | cons p q=>
   cases q with
   | cons p' q'=>
    cases q' with
    | cons p'' q''=>
     cases q''
     exact ⟨_,_,_,rfl,p,p',p''⟩
 refine afi ?_ (by show 3<=ael;decide)
 have I2:Inv X pins σ H1 {s1 with heap:=s1.heap.push {cls:=.type "tuple",data:=.seq [u1,u2,u3].toArray}}:=I1.kept (t':=s1.toks) fun b o e=>aeh _ e
 rw [hw]
 refine aeg (aeo ?_)
 show aen (aes X.prog X.w) X.A (do rule "assign.swapped-stores";let items <- unpackItems (.ref s1.heap.objs.size) 3 none;agl [fun v=>afZ X.env z v,fun v=>afZ X.env y v,fun v=>afZ X.env x v] items.reverse;pure Flow.next) _ _ _
 refine aeg (wpAny_rule (aeg (unpackItems_tuple (items:= #[u1,u2,u3]) (I.ok.hd hc) (IsTup.new s1.heap _) fun h' xT =>?_)))
 have I3:=I2.kept (h':=h') (t':=s1.toks) fun b o e=>xT b o (aaM (aew e)) e
 show aen _ _ (agl [fun v=>afZ X.env z v,fun v=>afZ X.env y v,fun v=>afZ X.env x v] [u3,u2,u1] >>=fun _=>pure Flow.next) _ _ _
 refine aeg (afm (agb (fU I3 hN hk (.inl hz) mL (fun s2 I4=>?_) (.inr hz))))
 refine afm (agb (fU I4 hN hj (.inl hy) rv (fun s3 I5=>?_) (.inr hy)))
 refine afm (agb (fU I5 hN hi (.inl hx) ru (fun s4 I6=>assignInOrder_nil (aeo ?_)) (.inr hx)))
 have es:((σ.set k (some w)).set j (some v)).set i (some u)=((σ.set i (some u)).set j (some v)).set k (some w):=by
  rw [aec _ _ (aaD TK.1),aec _ _ (aaD TK.2.1),aec _ _ (aaD TK.2.2)]
 rw [es] at I6
 exact ⟨_,H1,I6,q1⟩
theorem Kn {K:Frag}(h:X.K=K):i7 X (ae9 .Add) (IG K):=by subst h;exact tQ
inductive Mi {A0 A1:Type}(p:A0->A1->Prop):Prop where
 | mk (a0:A0)(a1:A1)(h:p a0 a1):Mi p
inductive G' {A0 A1 A2:Type}(p:A0->A1->A2->Prop):Prop where
 | mk (a0:A0)(a1:A1)(a2:A2)(h:p a0 a1 a2):G' p
inductive HE {A0 A1 A2 A3:Type}(p:A0->A1->A2->A3->Prop):Prop where
 | mk (a0:A0)(a1:A1)(a2:A2)(a3:A3)(h:p a0 a1 a2 a3):HE p
inductive S2 {A0 A1 A2 A3 A4:Type}(p:A0->A1->A2->A3->A4->Prop):Prop where
 | mk (a0:A0)(a1:A1)(a2:A2)(a3:A3)(a4:A4)(h:p a0 a1 a2 a3 a4):S2 p
inductive Ex6 {A0 A1 A2 A3 A4 A5:Type}(p:A0->A1->A2->A3->A4->A5->Prop):Prop where
 | mk (a0:A0)(a1:A1)(a2:A2)(a3:A3)(a4:A4)(a5:A5)(h:p a0 a1 a2 a3 a4 a5):Ex6 p
inductive Ex8 {A0 A1 A2 A3 A4 A5 A6 A7:Type}(p:A0->A1->A2->A3->A4->A5->A6->A7->Prop):Prop where
 | mk (a0:A0)(a1:A1)(a2:A2)(a3:A3)(a4:A4)(a5:A5)(a6:A6)(a7:A7)(h:p a0 a1 a2 a3 a4 a5 a6 a7):Ex8 p
inductive Ex9 {A0 A1 A2 A3 A4 A5 A6 A7 A8:Type}(p:A0->A1->A2->A3->A4->A5->A6->A7->A8->Prop):Prop where
 | mk (a0:A0)(a1:A1)(a2:A2)(a3:A3)(a4:A4)(a5:A5)(a6:A6)(a7:A7)(a8:A8)(h:p a0 a1 a2 a3 a4 a5 a6 a7 a8):Ex9 p
inductive U0 {A0 A1 A2 A3 A4 A5 A6 A7 A8 A9:Type}(p:A0->A1->A2->A3->A4->A5->A6->A7->A8->A9->Prop):Prop where
 | mk (a0:A0)(a1:A1)(a2:A2)(a3:A3)(a4:A4)(a5:A5)(a6:A6)(a7:A7)(a8:A8)(a9:A9)(h:p a0 a1 a2 a3 a4 a5 a6 a7 a8 a9):U0 p
section
variable {P:aeB}{w:World}{K:Frag}{mg:ι}{base:Heap}{CX:j9}{N ps:ρ}{k:Nat}{sp:Sp}{st:Stmt}
theorem Def.oo (D:Def K mg x st ps)(S:aC N ps (ae st))
  (fW:∀{f:aef} {cp:Value} {A:aeI} {outer:List Env} {s:aep} {vs:ε} {Q:VK} {E:XK} (H:Hp),cx k (A.deeper (afO x (ae st) s.heap.objs.size f cp))->sp vs H Q E->
   ∃t,PSs (j_ CX P w K mg base N x (ae st) f cp A outer s H E).vt (av st) t/\t {nx:=fun _ H'=>Q .cg H',rt:=Q} (start N vs) H) (len:∀vs H Q E,sp vs H Q E->vs.length=ps.length:=by intro vs H Q E h;cases h;subst_vars;rfl):Fn P w K mg base CX (k+1) x ps sp:=D.ok S len fun _ _ _ _ _ H _ _ _ hr h=>fW H hr h
theorem Def.op (D:Def K mg x st ps)(S:aC N ps (ae st))
  (fW:∀(f:aef)(cp:Value)(A:aeI)(outer:List Env)(s:aep)(H:Hp)(vs:ε)(Q:VK)(E:XK),cx k (A.deeper (afO x (ae st) s.heap.objs.size f cp))->sp vs H Q E->
   ∃t,PSs (j_ CX P w K mg base N x (ae st) f cp A outer s H E).vt (av st) t/\t {nx:=fun _ H'=>Q .cg H',rt:=Q} (start N vs) H) (len:∀vs H Q E,sp vs H Q E->vs.length=ps.length:=by intro vs H Q E h;cases h;subst_vars;rfl):Fn P w K mg base CX (k+1) x ps sp:=D.ok S len fW
theorem fe (F:nG K name qual st f fd)(S:aC N ps (ae st))
  (fW:∀{cp:Value} {A:aeI} {outer:List Env} {s:aep} {vs:ε} {Q:VK} {E:XK} (H:Hp),cx k (A.deeper (afO qual (ae st) s.heap.objs.size f cp))->sp vs H Q E->
   ∃t,PSs (cxr P w K mg base N qual (ae st) f cp A outer s H E).vt (av st) t/\t {nx:=fun _ H'=>Q .cg H',rt:=Q} (start N vs) H) (len:∀vs H Q E,sp vs H Q E->vs.length=ps.length:=by intro vs H Q E h;cases h;subst_vars;rfl):cO P w K mg base (aY P w) (k+1) f fd ps sp:=z8 F S len fun _ _ _ _ H _ _ _ hr h=>fW H hr h
theorem wO (P:aeB)(w:World){X:Cx}:Passes (aY P w) X.vt E0:=oU aY.yd
end
section
variable {X:Cx}{i:Nat}{x y:Str}{a b c d e e1 e2 e3 e4 e5 elt target iter:Expr}{es ifs:Δ}{te ta tb t1 t2 t3 t4 t5:TE}{wi:TI}{g:TG}{tt:TT}{pos pos' py lV p:Pos}{scope:Scope}{tn fr:ρ}{caps:Χ}
theorem aK (hN:X.N.Nodup)(he:PE X e te)(hi:X.N[i]?=some x:=by rfl)(hx:Loc X.env.scope x:=by first|exact .inl rfl|exact .inr rfl)(hs:afN e (some (.Name x pos')) pos.line X.env=pure false:=by rfl)(hf:X.fn x=true\/X.env.scope.names.lookup x=some .local:=by first|exact .inl rfl|exact .inr rfl|assumption):
  PS X (.Assign [.Name x pos'] e pos) (vG te (b9 i)):=QC hN hi hx he hs hf
theorem bW (hN:X.N.Nodup)(hi:X.N[i]?=some x:=by rfl)(hx:Loc X.env.scope x:=by first|exact .inl rfl|exact .inr rfl)(hf:X.fn x=true\/X.env.scope.names.lookup x=some .local:=by first|exact .inl rfl|exact .inr rfl|assumption):PG X (.Name x pos) (b9 i):=fH hN hi hx hf
theorem bD (hr:O4 X r)(ha:PE X a ta)(hb:PE X b tb)(hs:zO b:=by exact fun _ _=>rfl):PE X (.Subscript a b pos) (MV r ta tb):=II hr ha hb hs
theorem bB (ho:i7 X (ae2 op) r)(ha:PE X a ta)(hb:PE X b tb)(hm:aft op b=false:=by exact gU _):PT X (.Compare a [op] [b] pos) (OY (MV r ta tb)):=nQ ho ha hb hm
theorem aS (h1:PE X e1 t1)(s1:isStar e1=false:=by rfl):PA X [e1] (mP t1 dJ):=iA h1 eZ s1
theorem aL (h1:PE X e1 t1)(h2:PE X e2 t2)(s1:isStar e1=false:=by rfl)(s2:isStar e2=false:=by rfl):PA X [e1,e2] (mP t1 (mP t2 dJ)):=iA h1 (aS h2 s2) s1
theorem bE (h1:PE X e1 t1)(h2:PE X e2 t2)(h3:PE X e3 t3)(s1:isStar e1=false:=by rfl)(s2:isStar e2=false:=by rfl)(s3:isStar e3=false:=by rfl):PA X [e1,e2,e3] (mP t1 (mP t2 (mP t3 dJ))):=iA h1 (aL h2 h3 s2 s3) s1
theorem AJ (h1:closureFor scope X.env=pure (bo X.env fr):=by exact rfl)(h2:∀y∈scope.names,y.2≠.cell:=by decide+kernel)(h3:scope.kind=.function:=by exact rfl)(h4:∀y∈scope.names,y.2=.local->scope.names.lookup y.1=some .local:=by decide+kernel)(h5:∀y∈scope.names,y.2=.free->y.1∈fr:=by decide+kernel)(h6:caps.map (fun i=>X.N[i]?)=fr.map some:=by exact rfl)
  (h7:fF X.env fr:=by repeat (first|exact trivial|refine ⟨by first|exact adg rfl|exact adZ rfl,?_⟩)) (h8:fF (compEnvC scope [] 0 X.env) fr:=by repeat (first|exact trivial|refine ⟨by first|exact adg rfl|exact adZ rfl,?_⟩)):ue X scope fr caps:=⟨h1,h2,h3,h4,h5,h6,h7,h8⟩
theorem Ko (hi:PI X target iter wi)(hg:∀C s H fp,PG (nZ X (tn++fr) scope (bo X.env fr) C s H fp) target g)(ht:∀C s H fp,PF (nZ X (tn++fr) scope (bo X.env fr) C s H fp) ifs tt)(he:∀{C s H fp},PE (nZ X (tn++fr) scope (bo X.env fr) C s H fp) elt te)
  (hc:X.calm=true:=by rfl) (B:ue X scope fr caps:=by exact AJ) (hs:∀x,ae3 iter X.env x=pure x:=by intro _;rfl):PE X (.ListComp elt [⟨target,iter,ifs,0⟩] scope pos) (kr tn.length caps wi g tt te):=zV hc B hi hg ht (fun _ _ _ _=>he) hs
theorem U1 (hN:(tn++fr).Nodup)(h0:(tn++fr)[0]?=some y)(hx:∀C s H fp,Loc (nZ X (tn++fr) scope (bo X.env fr) C s H fp).env.scope y)(hl:∀C s H fp,(nZ X (tn++fr) scope (bo X.env fr) C s H fp).fn y=true\/(nZ X (tn++fr) scope (bo X.env fr) C s H fp).env.scope.names.lookup y=some .local):∀C s H fp,PG (nZ X (tn++fr) scope (bo X.env fr) C s H fp) (.Name y py) (b9 0):=fun C s H fp=>fH hN h0 (hx C s H fp) (hl C s H fp)
theorem dr (hi:PI X (.Name y py) iter wi)(he:∀{C s H fp},PE (nZ X (tn++fr) scope (bo X.env fr) C s H fp) elt te)
  (hc:X.calm=true:=by rfl) (B:ue X scope fr caps:=by exact AJ) (hs:∀x,ae3 iter X.env x=pure x:=by intro _;rfl) (hN:(tn++fr).Nodup:=by decide+kernel) (h0:(tn++fr)[0]?=some y:=by rfl) (hx:∀C s H fp,Loc (nZ X (tn++fr) scope (bo X.env fr) C s H fp).env.scope y:=by exact fun _ _ _ _=>.inl rfl) (hl:∀C s H fp,(nZ X (tn++fr) scope (bo X.env fr) C s H fp).fn y=true\/(nZ X (tn++fr) scope (bo X.env fr) C s H fp).env.scope.names.lookup y=some .local:=by intro _ _ _ _;first|exact .inl rfl|exact .inr rfl):PE X (.ListComp elt [⟨.Name y py,iter,[],0⟩] scope pos) (kr tn.length caps wi (b9 0) jm te):=zV hc B hi (U1 hN h0 hx hl) (fun _ _ _ _=>oW) (fun _ _ _ _=>he) hs
theorem Rx (hN:X.N.Nodup)(hi:PI X target iter wi)(hg:∀C s H fp,PG (nZ X (tn++fr) scope (bo X.env fr) C s H fp) target g)(ht:∀C s H fp,PF (nZ X (tn++fr) scope (bo X.env fr) C s H fp) ifs tt)(he:∀{C s H fp},PE (nZ X (tn++fr) scope (bo X.env fr) C s H fp) elt te)
  (Nd:X.N[i]?=some x:=by rfl) (hx:Loc X.env.scope x:=by first|exact .inl rfl|exact .inr rfl) (hc:X.calm=true:=by rfl) (B:ue X scope fr caps:=by exact AJ) (uf:afN (.ListComp elt [⟨target,iter,ifs,0⟩] scope pos) (some (.Name x py)) lV.line X.env=pure true:=by rfl)
  (hs:∀x,ae3 iter X.env x=pure x:=by intro _;rfl) (hf:X.fn x=true\/X.env.scope.names.lookup x=some .local:=by first|exact .inl rfl|exact .inr rfl|assumption):
  PS X (.Assign [.Name x py] (.ListComp elt [⟨target,iter,ifs,0⟩] scope pos) lV) (vG (kr tn.length caps wi g tt te) (b9 i)):=zW hN Nd hx hc B hi hg ht (fun _ _ _ _=>he) uf hs hf
theorem me (hN:X.N.Nodup)(hi:PI X (.Name y yp) iter wi)(he:∀{C s H fp},PE (nZ X (tn++fr) scope (bo X.env fr) C s H fp) elt te)
  (Nd:X.N[i]?=some x:=by rfl) (hx:Loc X.env.scope x:=by first|exact .inl rfl|exact .inr rfl) (hc:X.calm=true:=by rfl) (B:ue X scope fr caps:=by exact AJ) (uf:afN (.ListComp elt [⟨.Name y yp,iter,[],0⟩] scope pos) (some (.Name x py)) lV.line X.env=pure true:=by rfl)
  (hs:∀x,ae3 iter X.env x=pure x:=by intro _;rfl) (hf:X.fn x=true\/X.env.scope.names.lookup x=some .local:=by first|exact .inl rfl|exact .inr rfl|assumption) (U2:(tn++fr).Nodup:=by decide+kernel) (h0:(tn++fr)[0]?=some y:=by rfl) (hx2:∀C s H fp,Loc (nZ X (tn++fr) scope (bo X.env fr) C s H fp).env.scope y:=by exact fun _ _ _ _=>.inl rfl) (hl:∀C s H fp,(nZ X (tn++fr) scope (bo X.env fr) C s H fp).fn y=true\/(nZ X (tn++fr) scope (bo X.env fr) C s H fp).env.scope.names.lookup y=some .local:=by intro _ _ _ _;first|exact .inl rfl|exact .inr rfl):
  PS X (.Assign [.Name x py] (.ListComp elt [⟨.Name y yp,iter,[],0⟩] scope pos) lV) (vG (kr tn.length caps wi (b9 0) jm te) (b9 i)):=zW hN Nd hx hc B hi (U1 U2 h0 hx2 hl) (fun _ _ _ _=>oW) (fun _ _ _ _=>he) uf hs hf
theorem aT {E:XK}(F:Fn X.prog X.w X.K X.mg X.base (aY P w) k x ps sp)(hr:cx l X.A)(ha:PA X (e::es) t)(hk:k<=l:=by decide)(hx:Passes (aY P w) X E:=by exact oU aY.yd)(hg:Gl X x:=by rfl)(vL:(x==("__debug__":Str))=false:=by decide)
  (he:aeA (e::es) X.env=(false,aeM e X.env)::aeA es X.env:=by rfl) (vv:(afc pos (aeA es X.env)).any (·.1)=false:=by rfl):PE X (.Call (.Name x p) (e::es) [] pos) (zH sp [] E t):=oV F (hr.mono hk) hx ha hg vL he vv
theorem mW {E:XK}(F:Fn X.prog X.w X.K X.mg X.base (aY P w) k x ps sp)(hr:cx l X.A)(ha:PA X (e::es) t)(hk:k<=l:=by decide)(hx:Passes (aY P w) X E:=by exact Uk aY.yd rfl)(hg:Gl X x:=by rfl)(vL:(x==("__debug__":Str))=false:=by decide)
  (he:aeA (e::es) X.env=(false,aeM e X.env)::aeA es X.env:=by rfl) (vv:(afc pos (aeA es X.env)).any (·.1)=false:=by rfl):PE X (.Call (.Name x p) (e::es) [] pos) (zH sp [] E t):=oV F (hr.mono hk) hx ha hg vL he vv
end
end Ty
set_option maxHeartbeats 4000000
namespace T_k33
open PySem PySem.Spec PyProof.Rows L2 Ty
open Builtin.Int (intBits)
theorem z0L:0<=ael:=by decide
theorem z1L:1<=ael:=by decide
theorem z2L:2<=ael:=by decide
theorem z3L:3<=ael:=by decide
theorem z4L:4<=ael:=by decide
theorem z10L:10<=ael:=by decide
seal L2.PE L2.PS L2.PSs L2.PA
abbrev zaa:List Str:=["_law_one","_law_other"]
abbrev zab:List Str:=["_law_cell","_law_prime","_law_many"]
abbrev zac:List Str:=["_law_frame_here","_law_pins_here","_law_bars_here","_law_out","_law_cell"]
abbrev zad:List Str:=["_law_pins_here","_law_bars_here","_law_pulls","_law_pushes"]
abbrev zae:List Str:=["_law_frame_here","_law_pins_here","_law_name_here","_law_spot_here","_law_ways_here"]
abbrev zaf:List Str:=["_law_pins_here","_law_bars_here","_law_pulls","_law_pushes","_law_load_here"]
abbrev zag:List Str:=["_law_frame_here","_law_script","_law_pins_here","_law_bars_here","_law_cell"]
abbrev zah:List Str:=["one","other"]
abbrev zai:List Str:=["_law_frame_here","_law_pins_here","_law_gone","_law_cell","_law_k"]
abbrev zaj:List Str:=["self"]
abbrev zak:List Str:=["self","name","one","other"]
abbrev zal:List Str:=["_law_pins_here","_law_motion"]
abbrev zam:List Str:=["_law_pins_here","_law_bars_here","_law_load_here","_law_told"]
abbrev zan:List Str:=["_law_pins_here","_law_bar","_law_axis"]
abbrev zao:List Str:=["_law_found","_law_k","_law_axis","_law_draw"]
abbrev zap:List Str:=["self","pin"]
abbrev zaq:List Str:=["_law_script","_law_pins_here","_law_bars_here"]
abbrev zar:List Str:=["F","one","other"]
abbrev zas:List Str:=["_law_top","_law_bottom"]
abbrev zat:List Str:=["self","name","x","y","hold"]
abbrev zau:List Str:=["_law_pins_here","_law_bar","_law_motion"]
abbrev zav:List Str:=["_law_script","_law_k"]
abbrev zaw:List Str:=["_law_load_here","_law_cell"]
abbrev zax:List Str:=["_law_pins_here","_law_bars_here"]
abbrev zay:List Str:=["lines","many"]
abbrev zaz:List Str:=["_law_script","_law_pins_here"]
abbrev zaA:List Str:=["_law_load_here","_law_motion"]
abbrev zaB:List Str:=["F","numbers"]
abbrev zaC:List Str:=["self","x","y"]
abbrev zaD:List Str:=["_law_bars_here","_law_at"]
abbrev zaE:List Str:=["_law_cell","_law_k"]
abbrev zaF:List Str:=["self","name"]
abbrev zaG:List Str:=["_law_cell","_law_kind"]
abbrev zaH:List Str:=["top","bottom"]
abbrev zaI:List Str:=["line","lead","column"]
abbrev zaJ:List Str:=["F","load"]
abbrev zaK:List Str:=["_law_one"]
abbrev zaL:List Str:=["_law_cell","_law_k","_law_style","_law_at"]
abbrev zaM:List Str:=["_law_script"]
abbrev zaN:List Str:=["rows","due","many"]
abbrev zaO:List Str:=["F","draws"]
abbrev zaP:List Str:=["lines","column"]
abbrev zaQ:List Str:=["_law_cell"]
abbrev zaR:List Str:=["whole","other","times","less"]
abbrev zaS:List Str:=["rows","many"]
abbrev zaT:List Str:=["_law_pin"]
abbrev zaU:List Str:=["_law_bar"]
abbrev zaV:List Str:=["self","bar"]
abbrev zaW:List Str:=["share","whole"]
abbrev zaX:List Str:=["_law_x"]
theorem sq {N P:ρ}{sc:Scope}(a:sc.kind=.function:=by exact rfl)(b:sc.isCoroutine=false:=by exact rfl)(c:sc.isGenerator=false:=by exact rfl)(d:N.Nodup:=by decide+kernel)(e:N.take P.length=P:=by exact rfl)(f:∀x∈P,sc.names.lookup x=some .local\/sc.names.lookup x=some .cell:=by decide+kernel)(g:∀y∈sc.names,y.2≠.free:=by decide+kernel):aC N P sc:=⟨a,b,c,d,e,f,g⟩
theorem pY (P:aeB)(w:World){X:Cx}:Passes (aY P w) X.vt E0:=oU aY.yd
theorem pX {X:Cx}:Passes (aY P w) X.vt E0:=oU aY.yd
theorem _root_.L2.cx.mo (r:L2.cx k A)(h:j<=k:=by decide):L2.cx j A:=r.mono h
theorem aF (h:PE X a ta):PE X (.Subscript a (.Constant (.int i) j p1) p2) (MV (IJ X.K) ta (tC (.int i))):=II jJ h ag (fun _ _=>rfl)
theorem mX (h:PE X a ta):PE X (.Subscript a (.Constant (.int i) j p1) p2) (MV (M9 X.K) ta (tC (.int i))):=II aQ h ag (fun _ _=>rfl)
theorem bl1{P:List Value->Prop}(h:∀a:Value,P [a]):∀us:List Value,us.length=1->P us|[_],_=>h _
theorem blS{P:List Value->Prop}{n:Nat}(h:∀a us,us.length=n->P (a::us)):∀us:List Value,us.length=n+1->P us|a::us,e=>h a us (Nat.succ.inj e)
theorem bl2{P:List Value->Prop}(h:∀a b:Value,P [a,b]):∀us:List Value,us.length=2->P us:=blS fun a=>bl1 (h a)
theorem bl3{P:List Value->Prop}(h:∀a b c:Value,P [a,b,c]):∀us:List Value,us.length=3->P us:=blS fun a=>bl2 (h a)
theorem bl4{P:List Value->Prop}(h:∀a b c d:Value,P [a,b,c,d]):∀us:List Value,us.length=4->P us:=blS fun a=>bl3 (h a)
theorem bl5{P:List Value->Prop}(h:∀a b c d e:Value,P [a,b,c,d,e]):∀us:List Value,us.length=5->P us:=blS fun a=>bl4 (h a)
theorem bl6{P:List Value->Prop}(h:∀a b c d e f:Value,P [a,b,c,d,e,f]):∀us:List Value,us.length=6->P us:=blS fun a=>bl5 (h a)
theorem bl7{P:List Value->Prop}(h:∀a b c d e f g:Value,P [a,b,c,d,e,f,g]):∀us:List Value,us.length=7->P us:=blS fun a=>bl6 (h a)
theorem _root_.L2.nG.yC {K:Frag}{st:Stmt}(F:L2.nG K x qual st f fd)
 (h:∀(kV doc pm:Value)(an:Θ)(cp ct:Value)(us:ο),us.length=ps.length->bindArgs (fnOf x qual (aA st) (av st) (ae st) .none kV doc pm an cp ct) ⟨us,[]⟩=pure (ps.zip us):=by first|exact fun _ _ _ _ _ _=>bl1 fun _=>rfl|exact fun _ _ _ _ _ _=>bl2 fun _ _=>rfl|exact fun _ _ _ _ _ _=>bl3 fun _ _ _=>rfl|exact fun _ _ _ _ _ _=>bl4 fun _ _ _ _=>rfl|exact fun _ _ _ _ _ _=>bl5 fun _ _ _ _ _=>rfl):Binds K fd ps []:=F.binds h
inductive HXx (K:Frag)(x:Str)(st:Stmt):Prop|mk{f:aef}{oc:Value}{od an:Θ}{qV:Ν}{kV doc pm cp ct:Value}(a:nsIn K aex x=some (some (.ref f)))(l:K.lookup f=some ⟨oc,od,.func (fnOf x x (aA st) (av st) (ae st) .none kV doc pm an cp ct),qV⟩)(c:codeIn K cp x=true)(k:keepIn K (.ref f)=true):HXx K x st
inductive HXy (K:Frag)(C:aef)(x q:Str)(st:Stmt):Prop|mk{f:aef}{oc:Value}{od an:Θ}{qV:Ν}{kV doc pm cp ct:Value}(a:aeF K (.ref C) x=some (some (.ref f)))(i:agv K (.ref f)=true)(l:K.lookup f=some ⟨oc,od,.func (fnOf x q (aA st) (av st) (ae st) .none kV doc pm an cp ct),qV⟩)(c:codeIn K cp q=true)(k:keepIn K (.ref f)=true):HXy K C x q st
theorem fE {K:Frag}{mg:ι}{st:Stmt}(X:K.In h)(G:h.Ns aex mg)(H:HXx K x st)
 (b:∀(kV doc pm:Value)(an:Θ)(cp ct:Value)(us:ο),us.length=ps.length->bindArgs (fnOf x x (aA st) (av st) (ae st) .none kV doc pm an cp ct) ⟨us,[]⟩=pure (ps.zip us):=by first|exact fun _ _ _ _ _ _=>bl1 fun _=>rfl|exact fun _ _ _ _ _ _=>bl2 fun _ _=>rfl|exact fun _ _ _ _ _ _=>bl3 fun _ _ _=>rfl|exact fun _ _ _ _ _ _=>bl4 fun _ _ _ _=>rfl|exact fun _ _ _ _ _ _=>bl5 fun _ _ _ _ _=>rfl|exact fun _ _ _ _ _ _=>bl6 fun _ _ _ _ _ _=>rfl|exact fun _ _ _ _ _ _=>bl7 fun _ _ _ _ _ _ _=>rfl):Def K mg x st ps:=have ⟨a,l,c,k⟩:=H;Def.of (dk l c k) ((dk l c k).binds b) (mg_of X G a)
def top (i:Nat):Stmt:=PySem.Challenge.pw_trussyard_k33_asked_behind_deeds.main.body.getD i (.Pass ⟨0,0,0,0⟩)
abbrev yD:Stmt:=top 14
abbrev wQ:Stmt:=top 15
abbrev DQ:Stmt:=top 16
abbrev DR:Stmt:=top 19
abbrev yE:Stmt:=top 20
abbrev DS:Stmt:=top 22
abbrev DT:Stmt:=top 23
abbrev DU:Stmt:=top 24
abbrev DV:Stmt:=top 25
abbrev DW:Stmt:=top 26
abbrev DX:Stmt:=top 27
abbrev DY:Stmt:=top 29
abbrev DZ:Stmt:=top 30
abbrev D_:Stmt:=top 31
abbrev D':Stmt:=top 32
abbrev EA:Stmt:=top 33
abbrev EB:Stmt:=top 34
abbrev EC:Stmt:=top 35
abbrev ED:Stmt:=top 36
abbrev EE:Stmt:=top 38
abbrev EF:Stmt:=top 48
abbrev EG:Stmt:=top 49
abbrev EH:Stmt:=top 50
abbrev EI:Stmt:=top 51
abbrev EJ:Stmt:=top 52
abbrev EK:Stmt:=top 53
abbrev yF:Stmt:=top 54
abbrev EL:Stmt:=top 55
abbrev EM:Stmt:=top 56
abbrev EN:Stmt:=top 57
abbrev EO:Stmt:=top 58
abbrev ER:Stmt:=top 59
abbrev ES:Stmt:=top 60
abbrev ET:Stmt:=top 61
abbrev EU:Stmt:=top 62
abbrev EV:Stmt:=top 63
abbrev EW:Stmt:=top 64
abbrev EX:Stmt:=top 65
abbrev EY:Stmt:=top 66
abbrev EZ:Stmt:=top 67
abbrev FA:Stmt:=top 68
abbrev FC:Stmt:=top 69
abbrev FD:Stmt:=top 70
abbrev s_by:Stmt:=top 71
abbrev bZ:Stmt:=top 72
abbrev dW:Stmt:=top 73
abbrev FE:Stmt:=top 74
abbrev cZ:Stmt:=top 75
abbrev c8:Stmt:=top 76
abbrev c9:Stmt:=top 77
abbrev dB:Stmt:=top 78
abbrev ff:Stmt:=top 79
abbrev kE:Stmt:=top 80
abbrev FF:Stmt:=inClass (top 42) 0
abbrev nH:Stmt:=inClass (top 42) 1
abbrev FG:Stmt:=inClass (top 42) 2
abbrev FH:Stmt:=inClass (top 42) 3
abbrev FI:Stmt:=inClass (top 42) 4
abbrev FJ:Stmt:=inClass (top 42) 5
abbrev cz:Stmt:=inClass (top 42) 6
abbrev FK:Stmt:=inClass (top 42) 7
abbrev FL:Stmt:=inClass (top 42) 8
abbrev FN:Stmt:=inClass (top 42) 9
abbrev FO:Stmt:=inClass (top 42) 10
abbrev FP:Stmt:=inClass (top 42) 11
abbrev NG:Stmt:=inClass (top 44) 0
abbrev FQ:Stmt:=inClass (top 45) 0
abbrev FR:Stmt:=inClass (top 45) 1
abbrev FT:Stmt:=inClass (top 46) 0
section
variable {P:aeB}{w:World}{K:Frag}{mg:ι}{base:Heap}{CX:j9}
def Nm (H:Hp)(v:V)(q:Int×Int):Prop:=∃p,v=.ref p/\H p=some (.tup [.int q.1,.int q.2])
structure U3 (k:Nat)(q:Int×Int):Prop where
 pos:0<q.2
 top:intBits q.1<=k
 bot:intBits q.2<=k
theorem aH (h:H p=none)(o:HO):au H (upd H p o):=fun b u q=>by rw [ao (aq q h)];exact q
theorem nw (n:H l=none)(e:upd H l o=H'):au H H'/\H' l=some o:=by subst e;exact ⟨aH n o,ak⟩
def gives (H:Hp)(Q:VK)(q:Int×Int):Prop:=∀(p:aef)(H':Hp),au H H' ->H' p=some (.tup [.int q.1,.int q.2])->Q (.ref p) H'
inductive gL (vs:ε)(H:Hp)(Q:VK)(E_:XK):Prop
|mk (a b:Int)(_:vs=[.int a,.int b])(_:Q (.int (gz a b)) H)
def subQ (x y:Int×Int):Int×Int:=low (x.1*y.2-y.1*x.2) (x.2*y.2)
theorem NH (hx:U3 k x)(hy:U3 l y):x.2*y.2≠0:=aaY (acm hx.pos hy.pos)
theorem iC {a b:V}:gh [a,b] 0=some a:=rfl
theorem iD {a b:V}:gh [a,b] 1=some b:=rfl
theorem Nm.kept (h:Nm H v q)(hD:H D=some (.lst ys))(k:bQ D H H'):Nm H' v q:=by
 obtain ⟨p,e,z⟩:=h
 exact ⟨p,e,k p _ (fun e=>by rw [e,hD] at z;cases z) z⟩
inductive Ln (H:Hp)(v:V)(l:ξ):Prop
|mk (p:_)(_:v=.ref p)(_:H p=some (.lst (l.map V.int)))
theorem Ln.same (h:Ln H v l)(s:au H H'):Ln H' v l:=by
 obtain ⟨p,e,k⟩:=h
 exact ⟨p,e,s _ _ k⟩
def qY (H:Hp)(us:ε)(ls:η):Prop:=us.length=ls.length/\∀(i:Nat)(u:V)(l:ξ),us[i]?=some u->ls[i]?=some l->Ln H u l
theorem qY.same (h:qY H us ls)(s:au H H'):qY H' us ls:=⟨h.1,fun i u l e1 e2=>(h.2 i u l e1 e2).same s⟩
theorem sX {l:ξ}(h:j<l.length):gh (l.map V.int) (j:Int)=some (.int (l.getD j 0)):=bP (by rw [aag,gE h,aaE,gE h];rfl)
theorem getD_mem {l:ξ}(e:l[j]?=some x):l.getD j 0=x:=by rw [aaE,e];rfl
def Bd (b:Nat)(l:ξ):Prop:=∀j,(l.getD j 0).natAbs<=2^b
theorem Bd.mem (h:Bd b l)(hx:x∈l):x.natAbs<=2^b:=by
 obtain ⟨i,hi⟩:=aaq hx
 rw [<-getD_mem hi]
 exact h i
theorem Bd.up (h:Bd b l)(hc:b<=c):Bd c l:=fun j=>ph (h j) hc
theorem AK:aC ["one","other","left"] zah (ae DQ):=sq
theorem U4 (D:Def K mg "greatest_shared" DQ zah)(sY:mg "abs"=none):Fn P w K mg base CX 1 "greatest_shared" zah gL:=by
 refine D.oo AK fun H hr h=>?_
 obtain ⟨a,b,rfl,q⟩:=h
 refine ⟨_,(aa (oH aev (bB gm (pv 1) ag) (aa (aK (i:=2) AK.nd (aJ gu (pv 0) (pv 1)))
   (aa (aK (i:=0) AK.nd (pv 1))
   (ah (aK (i:=1) AK.nd (pv 2))))))
  (ah (aE (aG vJ rfl sY O_ (aS (pv 0)))))),?_⟩
 refine vH (fun σ H'=>G' fun (x y:Int) (l:ψ)=>σ=[some (.int x),some (.int y),l]/\H'=H/\aaZ x y=aaZ a b) (fun σ _=>match σ with|[_,some (.int y),_]=>y.natAbs|_=>0) ⟨a,b,none,rfl,rfl,rfl⟩ ?_ ?_
 ·rintro σ H' ⟨x,y,l,rfl,rfl,g⟩
  refine ⟨_,rfl,rfl,_,rfl,?_⟩
  refine bg (fun c=>?_) (fun c=>?_)
  ·have hy:y≠0:=by
    intro z
    subst z
    simp at c
   exact ⟨_,rfl,_,rfl,_,_,rfl,rfl,hy,_,rfl,_,rfl,⟨_,_,_,rfl,rfl,by rw [vS];exact g⟩,sk hy⟩
  ·have hy:y=0:=by
    have:=ado.mpr c
    simp at this
    exact this
   subst hy
   refine ⟨_,rfl,x,rfl,?_⟩
   have e:(if x<0 then -x else x)=gz a b:=by
    rw [akf] at g
    unfold gz
    rw [<-g]
    split<;>omega
   rw [e]
   exact q
 ·rintro σ H' Q1 Q2 h ⟨v,e1,e2,k,ek,z⟩
  exact ⟨v,e1,e2,k,ek,h _ _ z⟩
inductive gM (vs:ε)(H:Hp)(Q:VK)(E_:XK):Prop
|mk (t b:Int)(_:vs=[.int t,.int b])(_:b≠0)(_:gives H Q (low t b))
theorem Kp:aC ["top","bottom","shared"] zaH (ae wQ):=sq
theorem U5 (ht:P.given.tree=none)(D:Def K mg "lowest_terms" wQ zaH)(yG:Fn P w K mg base (aY P w) 1 "greatest_shared" zah gL):Fn P w K mg base (aY P w) 33 "lowest_terms" zaH gM:=by
 refine D.op Kp fun f cp A outer s H vs Q E hr h=>?_
 obtain ⟨t,b,rfl,hb,q⟩:=h
 have U6:∃tt,PSs (j_ (aY P w) P w K mg base ["top","bottom","shared"] "lowest_terms" (ae wQ) f cp A outer s H E).vt ((av wQ).drop 2) tt/\∀g:Int,g=sg t b->tt {nx:=fun _ H'=>Q .cg H',rt:=Q} [some (.int t),some (.int b),some (.int g)] H:=by
  refine ⟨_,(ah (aE (aU (aL (aJ (f7 ht (Ty.cx.py hr (by decide)) rfl rfl rfl rfl rfl) (pv 0) (pv 2)) (aJ (f7 ht (Ty.cx.py hr (by decide)) rfl rfl rfl rfl rfl) (pv 1) (pv 2)))))),?_⟩
  rintro g rfl
  have c:=oN (t:=t) hb
  refine ⟨_,rfl,_,rfl,_,_,rfl,rfl,c,_,rfl,_,rfl,_,_,rfl,rfl,c,z2L,fun p hp=>?_⟩
  exact q p _ (aH hp _) ak
 obtain ⟨t2,p2,q2⟩:=U6
 refine ⟨_,(aa (aK (i:=2) Kp.nd (aT yG hr (aL (pv 0) (pv 1)))) (aa (bh (bB vI (pv 1) ag) (ah (aK (i:=2) Kp.nd (zD tI (pv 2)))) aI) p2)),_,rfl,_,rfl,t,b,rfl,_,rfl,_,_,rfl,rfl,_,rfl,?_⟩
 refine bg (fun c=>?_) (fun c=>?_)
 ·refine ⟨_,rfl,_,rfl,q2 _ ?_⟩
  have c':b<0:=aeJ c
  unfold sg
  rw [aek c']
 ·refine q2 _ ?_
  have c':¬ b<0:=of_decide_eq_false (ado.mpr c)
  unfold sg
  rw [aej c']
inductive Ry (K:Frag)(vs:ε)(H:Hp)(Q:VK)(E_:XK):Prop
|mk (a:aef)(qs:ς)(T B:Nat)(_:vs=[.ref a])(_:ab2 K H a qs)(_:(∀q∈qs,Sm T B q))(_:T<=20000)(_:B*qs.length<=100000)(_:B<=8000)(_:qs.length<=1000)(_:∀(p l:aef)(ts:ξ)(b:Int)(H':Hp),au H H' ->H l=none->H' p=some (.tup [.ref l,.int b])->H' l=some (.lst (ts.map V.int))->0<b->b.natAbs<=2^(B*qs.length)->mR ts qs b->(∀t∈ts,t.natAbs<=2^(T+B*qs.length))->Q (.ref p) H')
theorem AL:aC ["row","bottom","number"] ["row"] (ae D_):=sq
theorem U7 (D:Def K mg "whole_row" D_ ["row"])(yG:Fn P w K mg base (aY P w) 1 "greatest_shared" zah gL):Fn P w K mg base (aY P w) 2 "whole_row" ["row"] (Ry K):=by
 refine D.oo AL fun H hr h=>?_
 obtain ⟨a,qs,T,B,rfl,⟨us,hS,hN⟩,sm,hT,hB,hB1,hl,q⟩:=h
 refine ⟨_,(aa (aK (i:=1) AL.nd ag)
  (aa (bC aev rfl (bx (pv 0)) (bW (i:=2) AL.nd) (ah (aK (i:=1) AL.nd (aJ cV (aJ vV (pv 1) (aT yG hr (aL (pv 1) (aF (pv 2))))) (aF (pv 2))))))
  (ah (aE (aU (aL (dr (tn:=["number"]) (fr:=["bottom"]) (caps:=[1]) (bx (pv 0)) (aJ cV (bD (cX (K:=K) rfl) (pv 0) ag) (aJ vV (pv 1) (bD (cX (K:=K) rfl) (pv 0) ag)))) (pv 1))))))),?_⟩
 have hlu:=hN.1
 have qat:∀{i:Nat} {u:V},us[i]?=some u->∃q,qs[i]?=some q/\mT K H u q/\Sm T B q:=fun {i u} e=>by
  have hi:i<us.length:=(ir.mp e).1
  have e2:qs[i]?=some (qs[i]'(by omega)):=gE (by omega)
  exact ⟨_,e2,hN.2 i u _ e e2,sm _ (abX _)⟩
 refine ⟨_,rfl,a,rfl,⟨_,hS⟩,ck (K:=K) (a:=a) (xs:=us) (fun i σ H'=>Mi fun (b:Int) (o:ψ)=>σ=[some (.ref a),some (.int b),o]/\H'=H/\0<b/\b.natAbs<=2^(B*i)/\∀j,j<i->∀q,qs[j]?=some q->q.2 ∣ b) ⟨1,none,rfl,rfl,by decide,by simp,fun j h=>aet h (abj _)⟩ (fun i σ H' _ ⟨b,o,_,e,_⟩=>by rw [e];exact hS) ?_ ?_⟩
 ·rintro i u σ H' hu ⟨b,o,rfl,rfl,hb,hs,hd⟩
  obtain ⟨n,en,⟨p,rfl,hp⟩,sn⟩:=qat hu
  have hi:i<qs.length:=(ir.mp en).1
  have nb:n.2.natAbs<=2^B:=sn.bot
  obtain ⟨l1,l2,l3,l4⟩:=JH hb sn.pos
  have gp:=tX (t:=b) (b:=n.2) (by have:=sn.pos;omega)
  have gl:=T_ (t:=b) (b:=n.2) (by have:=sn.pos;omega)
  have sz:(b.fdiv (gz b n.2)*n.2).natAbs<=2^(B*(i+1)):=by
   refine aak l4 ?_
   rw [Nat.mul_succ,adP]
   exact aa7 hs nb
  have bi:B*i<=100000:=aak (Nat.mul_le_mul_left B (by omega)) hB
  have g1:gz b n.2 ∣ b:=acv ..
  refine ⟨_,rfl,_,rfl,_,rfl,p,_,_,_,rfl,rfl,hp,iD,b,n.2,rfl,_,_,rfl,rfl,⟨by omega,aak (i9 (aak gl nb) (aaV B)) (by omega)⟩,_,rfl,p,_,_,_,rfl,rfl,hp,iD,_,_,rfl,rfl,n_ (aak (gG (by omega) g1) hs) nb (by omega) (by omega),_,_,rfl,rfl,l1,sz,fun j hj q' e'=>?_⟩
  rcases aa8.mp hj with z|z
  ·exact Int.dvd_trans (hd j z q' e') l2
  ·subst z
   rw [en] at e'
   cases e'
   exact l3
 ·rintro σ H' ⟨b,o,rfl,rfl,hb,hs,hd⟩
  rw [hlu] at hs hd
  refine ⟨_,rfl,a,rfl,⟨_,hS⟩,fun D nD=>?_⟩
  refine cy (cap:=[some (.int b)]) (K:=K) (a:=a) (xs:=us) (fun i v _=>∃q,qs[i]?=some q/\v=.int (q.1*b.fdiv q.2)) nD (by rw [hlu];exact aap hl (by decide)) (fun H2 s2=>s2.seq hS) (fun _ _ _ _ _ _ _ h=>h) ?_ ?_
  ·intro i u H2 R hu s2 k
   obtain ⟨n,en,⟨p,rfl,hp⟩,sn⟩:=qat hu
   have Us:=Ty.au.bI s2 hp
   have dv:=hd i (ir.mp en).1 n en
   have n0:n.2≠0:=by have:=sn.pos;omega
   exact ⟨_,rfl,p,_,_,_,rfl,rfl,Us,iC,_,rfl,_,rfl,p,_,_,_,rfl,rfl,Us,iD,_,_,rfl,rfl,⟨n0,aak (i9 sn.bot (aaV B)) (by omega)⟩,_,_,rfl,rfl,n_ sn.top (aak (gG n0 dv) hs) (by omega) (by omega),k _ _ (au.refl _) ⟨n,en,rfl⟩⟩
  ·intro ys H2 hy gc s2 hD
   have ey:ys=(qs.map fun n=>n.1*b.fdiv n.2).map V.int:=by
    refine aa0 fun i=>?_
    by_cases hi:i<ys.length
    ·have e1:ys[i]?=some ys[i]:=gE hi
     obtain ⟨n,en,ev⟩:=gc i _ e1
     rw [e1,ev,aag,aag,en]
     rfl
    ·rw [aam (by omega),aam (by simp;omega)]
   refine ⟨_,rfl,z2L,fun p np=>?_⟩
   have s3:=aH np (.tup [.ref D,.int b])
   refine q p D (qs.map fun n=>n.1*b.fdiv n.2) b _ (s2.trans s3) nD ak (s3 _ _ (by rw [hD,ey])) hb hs ⟨by simp,fun i t n e1 e2=>?_⟩ (fun t ht=>?_)
   ·rw [aag,e2] at e1
    have CP :n.1*b.fdiv n.2=t:=aaA e1
    rw [<-CP]
    exact CU (sm n (Wp e2)).pos (hd i (ir.mp e2).1 n e2)
   ·obtain ⟨n,hn,rfl⟩:=aai.mp ht
    obtain ⟨i,hi⟩:=aaq hn
    have n0:n.2≠0:=by have:=(sm n hn).pos;omega
    exact uo (sm n hn).top (aak (gG n0 (hd i (ir.mp hi).1 n hi)) hs)
structure Dv (l l':ξ):Prop where
 len:l'.length=l.length
 fac:∃g:Int,g≠0/\∀j,g*l'.getD j 0=l.getD j 0
def Rz (l:ξ):Prop:=UX l\/∀j,l.getD j 0=0
theorem wU {l:ξ}(h:∀j,d ∣ l.getD j 0){i:Nat}(e:l[i]?=some x):d ∣ x:=by
 rw [<-getD_mem e]
 exact h i
inductive mf (vs:ε)(H:Hp)(Q:VK)(E_:XK):Prop
|mk (v:V)(l:ξ)(_:vs=[v])(_:Ln H v l)(_:l.length<=1000)(_:∀v' l' H',au H H' ->Ln H' v' l' ->Dv l l' ->Rz l' ->(v'=v\/∃p,v'=.ref p/\H p=none)->Q v' H')
theorem NI (l:ξ):Dv l l:=⟨rfl,1,by decide,fun j=>Int.one_mul _⟩
theorem AM:aC ["line","shared","whole"] ["line"] (ae ED):=sq
theorem U8 (ht:P.given.tree=none)(D:Def K mg "divided" ED ["line"])(yG:Fn P w K mg base (aY P w) 1 "greatest_shared" zah gL):Fn P w K mg base (aY P w) 33 "divided" ["line"] mf:=by
 refine D.op AM fun f cp A outer s H vs Q E hr h=>?_
 obtain ⟨v,l,rfl,⟨a,rfl,ha⟩,hn,q⟩:=h
 have same:Rz l->Q (.ref a) H:=fun pz=>q _ l H (au.refl H) ⟨a,rfl,ha⟩ (NI l) pz (.inl rfl)
 refine ⟨_,(aa (aK (i:=1) AM.nd ag)
  (aa (bC aev rfl (bx (pv 0)) (bW (i:=2) AM.nd) (aa (aK (i:=1) AM.nd (aT yG hr (aL (pv 2) (pv 1))))
   (ah (bh (bB dq (pv 1) ag) (ah (aE (pv 0))) aI))))
  (ah (aE (vD (bB mM (pv 1) ag) (dr (tn:=["whole"]) (fr:=["shared"]) (caps:=[1]) (bx (pv 0)) (aJ (f7 ht (Ty.cx.py hr (by decide)) rfl rfl rfl rfl rfl) (pv 0) (pv 1))) (pv 0)))))),?_⟩
 refine ⟨_,rfl,a,rfl,⟨_,aV.of ha⟩,ck (K:=K) (a:=a) (xs:=l.map V.int) (fun i σ H'=>Mi fun (g:Int) (o:ψ)=>σ=[some (.ref a),some (.int g),o]/\H'=H/\0<=g/\(∀j,j<i->∀x,l[j]?=some x->g ∣ x)/\(∀d:Int,(∀j,j<i->∀x,l[j]?=some x->d ∣ x)->d ∣ g)/\(0<i->g≠1)) ⟨0,none,rfl,rfl,by decide,(fun j h=>aet h (abj _)),(fun d _=>Int.dvd_zero d),fun h=>aet h (aa3 _)⟩ (fun i σ H' _ ⟨g,o,_,e,_⟩=>by rw [e];exact aV.of ha) ?_ ?_⟩
 ·rintro i u σ H' hu ⟨g,o,rfl,rfl,g0,hg,hd,_⟩
  rw [aag] at hu
  obtain ⟨x,ex,rfl⟩:=aaw.mp hu
  have d1:gz x g ∣ x:=acv ..
  have d2:gz x g ∣ g:=acj ..
  have p0:0<=gz x g:=Int.natCast_nonneg _
  refine ⟨_,rfl,_,rfl,x,g,rfl,_,rfl,rfl,_,rfl,?_⟩
  refine bg (fun z=>⟨_,rfl,same (.inl fun d MJ =>?_)⟩) (fun z=>?_)
  ·have z':gz x g=1:=by simpa using aeJ z
   have h1:d ∣ gz x g:=akL (wU MJ ex) (hd d fun j _ y ey=>wU MJ ey)
   rw [z'] at h1
   have:=acI.mpr h1
   simpa using this
  refine ⟨_,_,rfl,rfl,p0,fun j hj y ey=>?_,fun d h=>?_,fun _ e=>z (by rw [e];rfl)⟩
  ·rcases aa8.mp hj with z|z
   ·exact Int.dvd_trans d2 (hg j z y ey)
   ·subst z
    rw [ex] at ey
    cases ey
    exact d1
  ·exact akL (h i (aaV _) x ex) (hd d fun j hj y ey=>h j (acO hj) y ey)
 ·rintro σ H' ⟨g,o,rfl,rfl,g0,hg,hd,hg1⟩
  rw [aah] at hg hd hg1
  refine ⟨_,rfl,_,_,rfl,rfl,_,rfl,bg (fun c=>?_) (fun c=>⟨_,rfl,same (.inr fun j=>?_)⟩)⟩
  rotate_left
  ·have c':¬ (1:Int)<g:=fun z=>c (aeD z)
   by_cases hj:j<l.length
   ·have gz:g=0:=by
     have:=hg1 (by omega)
     omega
    have ej:l[j]?=some l[j]:=gE hj
    have:=hg j hj _ ej
    rw [gz] at this
    rw [getD_mem ej]
    exact Int.zero_dvd.mp this
   ·rw [aaE,aam (by omega)]
    rfl
  have g1:(1:Int)<g:=aeJ c
  have gn:g≠0:=by omega
  refine ⟨_,rfl,a,rfl,⟨_,aV.of ha⟩,fun D nD=>?_⟩
  refine cy (cap:=[some (.int g)]) (K:=K) (a:=a) (xs:=l.map V.int) (fun i v _=>∃x,l[i]?=some x/\v=.int (x.fdiv g)) nD (by rw [aah];exact aap hn (by decide)) (fun H2 s2=>aV.of (s2 _ _ ha)) (fun _ _ _ _ _ _ _ h=>h) ?_ ?_
  ·intro i u H2 R hu s2 k
   rw [aag] at hu
   obtain ⟨x,ex,rfl⟩:=aaw.mp hu
   exact ⟨_,rfl,_,rfl,_,_,rfl,rfl,gn,k _ _ (au.refl _) ⟨x,ex,rfl⟩⟩
  ·intro ys H2 hy gc s2 hD
   rw [aah] at hy
   have ey:ys=(l.map fun x=>x.fdiv g).map V.int:=by
    refine aa0 fun i=>?_
    by_cases hi:i<ys.length
    ·have e1:ys[i]?=some ys[i]:=gE hi
     obtain ⟨x,ex,ev⟩:=gc i _ e1
     rw [e1,ev,aag,aag,ex]
     rfl
    ·rw [aam (by omega),aam (by simp;omega)]
   have fac:∀j,g*(l.map fun x=>x.fdiv g).getD j 0=l.getD j 0:=fun j=>by
    by_cases hj:j<l.length
    ·have ej:l[j]?=some l[j]:=gE hj
     rw [getD_mem (l:=l.map fun x=>x.fdiv g) (x:=l[j].fdiv g) (by rw [aag,ej];rfl),getD_mem ej]
     exact (cG gn (hg j hj _ ej)).symm
    ·rw [aaE,aaE,aam (by simp;omega),aam (by omega)]
     simp
   refine q _ (l.map fun x=>x.fdiv g) H2 s2 ⟨D,rfl,by rw [hD,ey]⟩ ⟨by simp,g,gn,fac⟩ (.inl fun d MJ =>?_) (.inr ⟨D,rfl,nD⟩)
   have h1:d*g ∣ g:=hd (d*g) fun j hj x ex=>by
    rw [<-getD_mem ex,<-fac j,ack]
    exact Int.mul_dvd_mul_left g (MJ j)
   obtain ⟨k,hk⟩:=h1
   have h2:g*(d*k)=g*1:=by
    rw [Int.mul_one]
    rw [<-adO,ack g d]
    exact hk.symm
   have h3:=Int.eq_of_mul_eq_mul_left gn h2
   have h4:d ∣ 1:=⟨k,h3.symm⟩
   simpa using acI.mpr h4
inductive mh (vs:ε)(H:Hp)(Q:VK)(E_:XK):Prop
|mk (u v:V)(l m:ξ)(c b1 b2:Nat)(_:vs=[u,v,.int (c:Int)])(_:Ln H u l)(_:Ln H v m)(_:m.length=l.length)(_:c<l.length)(_:l.length<=1000)(_:m.getD c 0≠0)(_:Bd b1 l)(_:Bd b2 m)(_:b1<=29000000)(_:b2<=29000000)(_:∀v' l' H',au H H' ->Ln H' v' l' ->qW l m l' c->Bd (b1+b2+1) l' ->(l'=l\/Rz l')->(v'=u\/∃p,v'=.ref p/\H p=none)->Q v' H')
theorem NJ (ha:a≠0):a=gz a b*a.fdiv (gz a b)/\b=gz a b*b.fdiv (gz a b)/\gz a b≠0/\a.fdiv (gz a b)≠0/\(a.fdiv (gz a b)).natAbs<=a.natAbs/\(b.fdiv (gz a b)).natAbs<=b.natAbs:=by
 have gn:gz a b≠0:=by
  intro z
  have z':((aaZ a b:Nat):Int)=0:=z
  have:aaZ a b=0:=by omega
  exact ha (Int.gcd_eq_zero_iff.mp this).1
 have d1:gz a b ∣ a:=acv ..
 have d2:gz a b ∣ b:=acj ..
 have e1:=cG gn d1
 refine ⟨e1,cG gn d2,gn,fun z=>?_,gG gn d1,gG gn d2⟩
 rw [z,adi] at e1
 exact ha e1
theorem NK {l m:ξ}{ys:ε}(hl:m.length=l.length)(hy:ys.length=l.length)(h:∀(i:Nat)(v:V),ys[i]?=some v->∃x y,l[i]?=some x/\m[i]?=some y/\v=.int (t*x-u*y)):ys=(aa5 (fun x y=>t*x-u*y) l m).map V.int:=by
 refine aa0 fun i=>?_
 by_cases hi:i<ys.length
 ·have e1:ys[i]?=some ys[i]:=gE hi
  obtain ⟨x,y,ex,ey,ev⟩:=h i _ e1
  rw [e1,ev,aag,aca,ex,ey]
  rfl
 ·rw [aam (by omega),aam (by simp;omega)]
theorem Kq {l m:ξ}(hl:m.length=l.length)(j:Nat):(aa5 (fun x y=>t*x-u*y) l m).getD j 0=t*l.getD j 0-u*m.getD j 0:=by
 by_cases hj:j<l.length
 ·have e1:l[j]?=some l[j]:=gE hj
  have e2:m[j]?=some (m[j]'(by omega)):=gE (by omega)
  rw [getD_mem e1,getD_mem e2]
  exact getD_mem (by rw [aca,e1,e2])
 ·rw [aaE,aaE,aaE,aam (by simp;omega),aam (by omega),aam (by omega)]
  simp
theorem AN:aC ["line","lead","column","shared","times","less"] zaI (ae EC):=sq
theorem U9 (ht:P.given.tree=none)(D:Def K mg "cleared" EC zaI)(jz:mg "zip"=none)(yG:Fn P w K mg base (aY P w) 1 "greatest_shared" zah gL)(acd:Fn P w K mg base (aY P w) 33 "divided" ["line"] mf):Fn P w K mg base (aY P w) 34 "cleared" zaI mh:=by
 refine D.oo AN fun H hr h=>?_
 obtain ⟨u,v,l,m,c,b1,b2,rfl,⟨a,rfl,ha⟩,⟨a',rfl,ha'⟩,hl,hc,hn,hm,B1,B2,Pu,Pq,q⟩:=h
 refine ⟨_,(aa (bh (bB dq (bD aQ (pv 0) (pv 2)) ag) (ah (aE (pv 0))) aI)
  (aa (aK (i:=3) AN.nd (aT yG hr (aL (bD aQ (pv 1) (pv 2)) (bD aQ (pv 0) (pv 2)))))
  (aa (aK (i:=4) AN.nd (aJ (f7 ht (Ty.cx.py hr (by decide)) rfl rfl rfl rfl rfl) (bD aQ (pv 1) (pv 2)) (pv 3)))
  (aa (aK (i:=5) AN.nd (aJ (f7 ht (Ty.cx.py hr (by decide)) rfl rfl rfl rfl rfl) (bD aQ (pv 0) (pv 2)) (pv 3)))
  (ah (aE (aT acd hr (aS (Ko (tn:=["whole","other"]) (fr:=["times","less"]) (caps:=[4,5]) (yg rfl jz (aL (pv 0) (pv 1))) (fun _ _ _ _=>(uk (K:=K) (n:=2) rfl rfl (aZ (fH (i:=0) (show (zaR:List Str).Nodup from by decide+kernel) rfl (adg rfl)) (aZ (fH (i:=1) (show (zaR:List Str).Nodup from by decide+kernel) rfl (adg rfl)) cU)))) (fun _ _ _ _=>oW) (aJ dj (aJ cV (pv 2) (pv 0)) (aJ cV (pv 3) (pv 1)))))))))))),?_⟩
 have ea:=sX (l:=l) hc
 have em:=sX (l:=m) (j:=c) (by omega)
 refine ⟨_,rfl,_,rfl,a,_,_,_,rfl,rfl,aV.of ha,ea,rfl,_,rfl,?_⟩
 refine bg (fun z=>?_) (fun z=>?_)
 ·have z':l.getD c 0=0:=by simpa using aeJ z
  exact ⟨_,rfl,q _ l H (au.refl H) ⟨a,rfl,ha⟩ ⟨rfl,z',1,1,0,by decide,by decide,fun j=>by omega⟩ (B1.up (by omega)) (.inl rfl) (.inl rfl)⟩
 ·obtain ⟨f1,f2,f3,f4,f5,f6⟩:=NJ (a:=m.getD c 0) (b:=l.getD c 0) hm
  refine ⟨_,rfl,_,rfl,a',_,_,_,rfl,rfl,aV.of ha',em,_,rfl,_,rfl,a,_,_,_,rfl,rfl,aV.of ha,ea,_,_,rfl,_,rfl,_,rfl,a',_,_,_,rfl,rfl,aV.of ha',em,_,rfl,_,_,rfl,rfl,f3,_,rfl,_,rfl,a,_,_,_,rfl,rfl,aV.of ha,ea,_,rfl,_,_,rfl,rfl,f3,_,rfl,_,rfl,a,a',rfl,⟨_,aV.of ha⟩,⟨_,aV.of ha'⟩,fun D1 n1=>?_⟩
  have st:((m.getD c 0).fdiv (gz (m.getD c 0) (l.getD c 0))).natAbs<=2^b2:=aak f5 (B2 c)
  have su:((l.getD c 0).fdiv (gz (m.getD c 0) (l.getD c 0))).natAbs<=2^b1:=aak f6 (B1 c)
  refine v7 (cap:=[some (.int ((m.getD c 0).fdiv (gz (m.getD c 0) (l.getD c 0)))),some (.int ((l.getD c 0).fdiv (gz (m.getD c 0) (l.getD c 0))))]) (K:=K) (xs:=l.map V.int) (ys:=m.map V.int) (fun i v _=>∃x y,l[i]?=some x/\m[i]?=some y/\v=.int ((m.getD c 0).fdiv (gz (m.getD c 0) (l.getD c 0))*x-(l.getD c 0).fdiv (gz (m.getD c 0) (l.getD c 0))*y)) n1 (by rw [aah];exact aap hn (by decide)) (by simpa using hl) (fun H2 s2=>aV.of (s2 _ _ ha)) (fun H2 s2=>aV.of (s2 _ _ ha')) (fun _ _ _ _ _ _ _ h=>h) ?_ ?_
  ·intro i x y H2 R ex ey s2 k
   rw [aag] at ex ey
   obtain ⟨x',Tr,rfl⟩:=aaw.mp ex
   obtain ⟨y',Mh,rfl⟩:=aaw.mp ey
   exact ⟨_,rfl,_,rfl,_,_,rfl,rfl,n_ st (B1.mem (Wp Tr)) (by omega) (by omega),_,rfl,_,rfl,_,_,rfl,rfl,n_ su (B2.mem (Wp Mh)) (by omega) (by omega),_,_,rfl,rfl,k _ _ (au.refl _) ⟨x',y',Tr,Mh,rfl⟩⟩
  ·intro ys H2 hy gc s2 hD
   rw [aah] at hy
   have ey:=NK hl hy gc
   refine ⟨_,_,rfl,⟨D1,rfl,by rw [hD,ey]⟩,by simp;omega,fun v' l' H3 s3 L3 dv pz fr=>?_⟩
   obtain ⟨g,gn,hg⟩:=dv.fac
   have Me:∀j,g*l'.getD j 0=(m.getD c 0).fdiv (gz (m.getD c 0) (l.getD c 0))*l.getD j 0-(l.getD c 0).fdiv (gz (m.getD c 0) (l.getD c 0))*m.getD j 0:=fun j=>by rw [hg j,Kq hl]
   refine q v' l' H3 (s2.trans s3) L3 ⟨by rw [dv.len];simp [hl],?_,g,_,_,gn,f4,Me⟩ (fun j=>?_) (.inr pz) ?_
   ·have e:=Me c
    have z2:(m.getD c 0).fdiv (gz (m.getD c 0) (l.getD c 0))*l.getD c 0-(l.getD c 0).fdiv (gz (m.getD c 0) (l.getD c 0))*m.getD c 0=0:=by
     generalize gz (m.getD c 0) (l.getD c 0)=G at*
     generalize (m.getD c 0).fdiv G=t at*
     generalize (l.getD c 0).fdiv G=u at*
     rw [f1,f2]
     grind
    rw [z2] at e
    rcases ajX.mp e with y|y
    ·exact aet y gn
    ·exact y
   ·have b:(g*l'.getD j 0).natAbs<=2^(b1+b2+1):=by
     rw [Me j,Int.sub_eq_add_neg]
     refine Q8 (ph (uo st (B1 j)) (by omega)) ?_
     rw [aj0]
     exact uo su (B2 j)
    exact aak (dH gn) b
   ·rcases fr with z|⟨p,e,n⟩
    ·exact .inr ⟨D1,z,n1⟩
    ·exact .inr ⟨p,e,s2.free n⟩
inductive uG (K:Frag)(vs:ε)(H:Hp)(Q:VK)(E_:XK):Prop
|mk (a:aef)(us:ε)(ls:List (List Int:_))(c:Nat)(_:vs=[.ref a,.int (c:Int)])(_:aV K H a us)(_:qY H us ls)(_:(∀l∈ls,c<l.length))(_:(∀(i:Nat)(l:ξ)(H':Hp),au H H' ->ls[i]?=some l->l.getD c 0≠0->Q (.int (i:Int)) H'))(_:((∀l∈ls,l.getD c 0=0)->∀H',au H H' ->Q .cg H'))
theorem qY.at (h:qY H us ls){i:Nat}(e:us[i]?=some u):∃l,ls[i]?=some l/\Ln H u l:=by
 have hi:i<us.length:=(ir.mp e).1
 have hl:=h.1
 have e2:ls[i]?=some (ls[i]'(by omega)):=gE (by omega)
 exact ⟨_,e2,h.2 i u _ e e2⟩
theorem qY.at' (h:qY H us ls){i:Nat}{l:ξ}(e:ls[i]?=some l):∃u,us[i]?=some u/\Ln H u l:=by
 have hi:i<ls.length:=(ir.mp e).1
 have hl:=h.1
 have e2:us[i]?=some (us[i]'(by omega)):=gE (by omega)
 exact ⟨_,e2,h.2 i _ l e2 e⟩
theorem Kr:aC ["lines","column","at","line"] zaP (ae EB):=sq
theorem U_ (D:Def K mg "first_not_nought" EB zaP)(dX:mg "enumerate"=none):Fn P w K mg base (aY P w) 1 "first_not_nought" zaP (uG K):=by
 refine D.oo Kr fun H hr h=>?_
 obtain ⟨a,us,ls,c,rfl,hS,L,hc,q1,q2⟩:=h
 have lu:=L.1
 refine ⟨_,(aa (bC aev rfl (z6 rfl dX (aS (pv 0))) (eY rfl (aZ (bW (i:=2) Kr.nd) (aZ (bW (i:=3) Kr.nd) cU))) (ah (bh (bB gm (bD aQ (pv 3) (pv 1)) ag) (ah (aE (pv 2))) aI)))
  (ah (aE jH))),?_⟩
 refine ⟨_,rfl,a,rfl,⟨_,hS⟩,wu (K:=K) (a:=a) (xs:=us) (fun i σ H'=>∃o1 o2:Option V,σ=[some (.ref a),some (.int (c:Int)),o1,o2]/\au H H'/\∀j,j<i->∀l,ls[j]?=some l->l.getD c 0=0) ⟨none,none,rfl,au.refl H,fun j h=>aet h (abj _)⟩ (fun i σ H' _ ⟨o1,o2,_,s1,_⟩=>s1.seq hS) ?_ ?_⟩
 ·rintro i u σ H' p hu ⟨o1,o2,rfl,s1,z⟩ np
  obtain ⟨l,el,b,rfl,hb⟩:=L.at hu
  have s2:=s1.trans (aH np (.tup [.int (i:Int),.ref b]))
  have hcl:=hc l (Wp el)
  refine ⟨p,_,rfl,bJ.of ak,rfl,_,_,rfl,_,_,rfl,rfl,_,rfl,_,rfl,b,_,_,_,rfl,rfl,aV.of (s2 _ _ hb),sX hcl,rfl,_,rfl,?_⟩
  refine bg (fun y=>?_) (fun y=>?_)
  ·have y':l.getD c 0≠0:=by simpa using y
   exact ⟨_,rfl,q1 i l _ s2 el y'⟩
  ·have y':l.getD c 0=0:=by simpa using y
   refine ⟨_,_,rfl,s2,fun j hj l' e'=>?_⟩
   rcases aa8.mp hj with w|w
   ·exact z j w l' e'
   ·subst w
    rw [el] at e'
    cases e'
    exact y'
 ·rintro σ H' ⟨o1,o2,rfl,s1,z⟩
  refine q2 (fun l hl=>?_) H' s1
  obtain ⟨j,hj⟩:=aaq hl
  exact z j (by have:=(ir.mp hj).1;omega) l hj
structure Red (os:η)(L c b:Nat)(nd:π)(lv:η):Prop where
 rn:∀x∈nd,x.2.length=L
 jO:∀l∈lv,l.length=L
 cols:∀x∈nd,x.1<c
 asc:(nd.map (·.1)).Pairwise (· < ·)
 here:∀x∈nd,x.2.getD x.1 0≠0
 off:∀x∈nd,∀y∈nd,x.1≠y.1->x.2.getD y.1 0=0
 low:∀x∈nd,∀j,j<x.1->x.2.getD j 0=0
 zero:∀l∈lv,∀j,j<c->l.getD j 0=0
 wV:∀x∈nd,l_ os x.2
 kF:∀l∈lv,l_ os l
 sol:∀z,((∀x∈nd,ev x.2 z=0)/\(∀l∈lv,ev l z=0)) ↔ ∀o∈os,ev o z=0
 Mj:∀x∈nd,Bd b x.2
 Ks:∀l∈lv,Bd b l
 cnt:nd.length+lv.length=os.length
theorem Red.start {os:η}(hL:∀o∈os,o.length=L)(hb:∀o∈os,Bd b o):Red os L 0 b [] os where
 rn:=by simp
 jO:=hL
 cols:=by simp
 asc:=by simp
 here:=by simp
 off:=by simp
 low:=by simp
 zero:=fun _ _ j h=>aet h (abj _)
 wV:=by simp
 kF:=fun l h=>wo h
 sol:=fun z=>by simp
 Mj:=by simp
 Ks:=hb
 cnt:=by simp
theorem Red.skip {os:η}(h:Red os L c b nd lv)(hz:∀l∈lv,l.getD c 0=0):Red os L (c+1) b nd lv where
 rn:=h.rn
 jO:=h.jO
 cols:=fun x hx=>acO (h.cols x hx)
 asc:=h.asc
 here:=h.here
 off:=h.off
 low:=h.low
 zero:=fun l hl j hj=>by
  rcases aa8.mp hj with z|z
  ·exact h.zero l hl j z
  ·subst z
   exact hz l hl
 wV:=h.wV
 kF:=h.kF
 sol:=h.sol
 Mj:=h.Mj
 Ks:=h.Ks
 cnt:=h.cnt
structure Made (os:η)(lead:ξ)(c b:Nat)(xs ys:η):Prop where
 len:ys.length=xs.length
 to:∀(i:Nat)(x:ξ),xs[i]?=some x->∃y,ys[i]?=some y/\qW x lead y c/\Bd b y
theorem Made.ex {os:η}(h:Made os lead c b xs ys){y:ξ}(hy:y∈ys):∃x∈xs,qW x lead y c/\Bd b y:=by
 obtain ⟨i,hi⟩:=aaq hy
 have hl:=h.len
 have lj:i<ys.length:=(ir.mp hi).1
 have e:xs[i]?=some (xs[i]'(by omega)):=gE (by omega)
 obtain ⟨y',e',r⟩:=h.to i _ e
 rw [hi] at e'
 cases e'
 exact ⟨_,Wp e,r⟩
theorem Made.all {os:η}(h:Made os lead c b xs ys){x:ξ}(hx:x∈xs):∃y∈ys,qW x lead y c/\Bd b y:=by
 obtain ⟨i,hi⟩:=aaq hx
 obtain ⟨y,e,r⟩:=h.to i x hi
 exact ⟨y,Wp e,r⟩
theorem Red.step {os:η}{lv yy rest:η}{lead:ξ}(h:Red os L c b nd lv)(gd:lead∈lv)(wW:∀l∈rest,l∈lv)(IS:∀l∈lv,l=lead\/l∈rest)(hlen:rest.length+1=lv.length)
  (hc:lead.getD c 0≠0) (ML:Made os lead c (2*b+1) rest yy) (hk:jo.map (·.1)=nd.map (·.1)) (MN:Made os lead c (2*b+1) (nd.map (·.2)) (jo.map (·.2))):Red os L (c+1) (2*b+1) (jo ++[(c,lead)]) yy :=by
 have ll:=h.jO lead gd
 have lz:=h.zero lead gd
 have hl':jo.length=nd.length:=by simpa using aeE acf hk
 have pairs:∀x' ∈jo,∃x∈nd,x.1=x'.1/\qW x.2 lead x'.2 c/\Bd (2*b+1) x'.2:=by
  intro x' xT
  obtain ⟨i,hi⟩:=aaq xT
  have lj:i<jo.length:=(ir.mp hi).1
  have e:nd[i]?=some (nd[i]'(by omega)):=gE (by omega)
  have e1:(jo.map (·.1))[i]?=(nd.map (·.1))[i]? :=by rw [hk]
  rw [aag,aag,hi,e] at e1
  obtain ⟨y,e2,r⟩:=MN.to i (nd[i]'(by omega)).2 (by rw [aag,e];rfl)
  rw [aag,hi] at e2
  simp at e1 e2
  subst e2
  exact ⟨_,Wp e,e1.symm,r⟩
 have back:∀x∈nd,∃x' ∈jo,x'.1=x.1/\qW x.2 lead x'.2 c:=by
  intro x hx
  obtain ⟨i,hi⟩:=aaq hx
  have lj:i<nd.length:=(ir.mp hi).1
  have e:jo[i]?=some (jo[i]'(by omega)):=gE (by omega)
  have e1:(jo.map (·.1))[i]?=(nd.map (·.1))[i]? :=by rw [hk]
  rw [aag,aag,hi,e] at e1
  obtain ⟨y,e2,r⟩:=MN.to i x.2 (by rw [aag,hi];rfl)
  rw [aag,e] at e2
  simp at e1 e2
  exact ⟨_,Wp e,e1,by rw [e2];exact r.1⟩
 have NL:∀x∈jo ++[(c,lead)],x∈jo \/x=(c,lead):=fun x hx=>by simpa using hx
 exact {
  rn:=fun x hx=>by
   rcases NL x hx with z|z
   ·obtain ⟨y,hy,_,k,_⟩:=pairs x z
    rw [k.len]
    exact h.rn y hy
   ·subst z
    exact ll
  jO:=fun l hl=>by
   obtain ⟨x,hx,k,_⟩:=ML.ex hl
   rw [k.len]
   exact h.jO x (wW x hx)
  cols:=fun x hx=>by
   rcases NL x hx with z|z
   ·obtain ⟨y,hy,e,_⟩:=pairs x z
    rw [<-e]
    exact acO (h.cols y hy)
   ·subst z
    exact aaV _
  asc:=by
   rw [aax,hk,List.pairwise_append]
   refine ⟨h.asc,by simp,fun a ha b' iH =>?_⟩
   obtain ⟨x,hx,rfl⟩:=aai.mp ha
   have:b'=c:=by simpa using iH
   subst this
   exact h.cols x hx
  here:=fun x hx=>by
   rcases NL x hx with z|z
   ·obtain ⟨y,hy,e,k,_⟩:=pairs x z
    rw [<-e]
    exact k.at (lz _ (h.cols y hy)) (h.here y hy)
   ·subst z
    exact hc
  off:=fun x hx y hy ne=>by
   rcases NL x hx with z|z<;>rcases NL y hy with u|u
   ·obtain ⟨x0,hx0,e0,k0,_⟩:=pairs x z
    obtain ⟨y0,FU,e1,_⟩:=pairs y u
    rw [<-e1]
    exact k0.zero (h.off x0 hx0 y0 FU (by rw [e0,e1];exact ne)) (lz _ (h.cols y0 FU))
   ·subst u
    obtain ⟨x0,hx0,e0,k0,_⟩:=pairs x z
    exact k0.JR
   ·subst z
    obtain ⟨y0,FU,e1,_⟩:=pairs y u
    rw [<-e1]
    exact lz _ (h.cols y0 FU)
   ·subst z
    subst u
    exact aet rfl ne
  low:=fun x hx j hj=>by
   rcases NL x hx with z|z
   ·obtain ⟨y,hy,e,k,_⟩:=pairs x z
    rw [<-e] at hj
    exact k.zero (h.low y hy j hj) (lz j (adX hj (h.cols y hy)))
   ·subst z
    exact lz j hj
  zero:=fun l hl j hj=>by
   obtain ⟨x,hx,k,_⟩:=ML.ex hl
   rcases aa8.mp hj with z|z
   ·exact k.zero (h.zero x (wW x hx) j z) (lz j z)
   ·subst z
    exact k.JR
  wV:=fun x hx=>by
   rcases NL x hx with z|z
   ·obtain ⟨y,hy,_,k,_⟩:=pairs x z
    exact k.comb (h.wV y hy) (h.kF lead gd)
   ·subst z
    exact h.kF lead gd
  kF:=fun l hl=>by
   obtain ⟨x,hx,k,_⟩:=ML.ex hl
   exact k.comb (h.kF x (wW x hx)) (h.kF lead gd)
  sol:=fun z=>by
   rw [<-h.sol z]
   constructor
   ·rintro ⟨a1,a2⟩
    have az:ev lead z=0:=a1 (c,lead) (by simp)
    refine ⟨fun x hx=>?_,fun l hl=>?_⟩
    ·obtain ⟨x',xT,_,k⟩:=back x hx
     exact (k.ev (by rw [ll,h.rn x hx]) az).mp (a1 x' (by simp [xT]))
    ·rcases IS l hl with u|u
     ·rw [u]
      exact az
     ·obtain ⟨y,hy,k,_⟩:=ML.all u
      exact (k.ev (by rw [ll,h.jO l hl]) az).mp (a2 y hy)
   ·rintro ⟨a1,a2⟩
    have az:=a2 lead gd
    refine ⟨fun x hx=>?_,fun l hl=>?_⟩
    ·rcases NL x hx with u|u
     ·obtain ⟨y,hy,_,k,_⟩:=pairs x u
      exact (k.ev (by rw [ll,h.rn y hy]) az).mpr (a1 y hy)
     ·subst u
      exact az
    ·obtain ⟨x,hx,k,_⟩:=ML.ex hl
     exact (k.ev (by rw [ll,h.jO x (wW x hx)]) az).mpr (a2 x (wW x hx))
  Mj:=fun x hx=>by
   rcases NL x hx with z|z
   ·obtain ⟨y,hy,_,_,k⟩:=pairs x z
    exact k
   ·subst z
    exact (h.Ks lead gd).up (by omega)
  Ks:=fun l hl=>by
   obtain ⟨x,hx,_,k⟩:=ML.ex hl
   exact k
  cnt:=by
   have a:=ML.len
   have b:=h.cnt
   rw [aat,hl']
   simp
   omega}
def sZ (H:Hp)(kvs:γ)(nd:π):Prop:=kvs.length=nd.length/\∀(i:Nat)(kv:Key×V)(x:Nat×List Int),kvs[i]?=some kv->nd[i]?=some x->kv.1=.inl (x.1:Int)/\Ln H kv.2 x.2
theorem sZ.same (h:sZ H kvs nd)(s:au H H'):sZ H' kvs nd:=⟨h.1,fun i kv x e1 e2=>⟨(h.2 i kv x e1 e2).1,(h.2 i kv x e1 e2).2.same s⟩⟩
theorem Ln.put (h:Ln H v l)(e:H d=some (.dK kvs)):Ln (upd H d o) v l:=by
 obtain ⟨p,e1,k⟩:=h
 exact ⟨p,e1,by rw [ao (fun z=>by rw [z,e] at k;cases k)];exact k⟩
theorem qY.put (h:qY H us ls)(e:H d=some (.dK kvs)):qY (upd H d o) us ls:=⟨h.1,fun i u l e1 e2=>(h.2 i u l e1 e2).put e⟩
theorem sZ.put (h:sZ H kvs nd)(e:H d=some (.dK kv2)):sZ (upd H d o) kvs nd:=⟨h.1,fun i kv x e1 e2=>⟨(h.2 i kv x e1 e2).1,(h.2 i kv x e1 e2).2.put e⟩⟩
theorem kG (s:au H H')(n:H d=none):au H (upd H' d o):=fun b o' e=>by
 rw [ao (fun z=>by rw [z,n] at e;cases e)]
 exact s _ _ e
theorem sZ.at (h:sZ H kvs nd){i:Nat}(e:nd[i]?=some x):∃v,kvs[i]?=some (.inl (x.1:Int),v)/\Ln H v x.2:=by
 have hi:i<nd.length:=(ir.mp e).1
 have hl:=h.1
 have e2:kvs[i]?=some (kvs[i]'(by omega)):=gE (by omega)
 obtain ⟨a,b⟩:=h.2 i _ x e2 e
 exact ⟨(kvs[i]'(by omega)).2,by rw [e2,<-a],b⟩
theorem sZ.keys (h:sZ H kvs nd):kvs.map (·.1)=nd.map (fun x=>(ad_ (x.1:Int):Key)):=by
 refine aa0 fun i=>?_
 have hl:=h.1
 rw [aag,aag]
 by_cases hi:i<nd.length
 ·have e:nd[i]?=some nd[i]:=gE hi
  obtain ⟨v,e2,_⟩:=h.at e
  rw [e,e2]
  rfl
 ·rw [aam (by omega),aam (by omega)]
  rfl
theorem jd :∀{kvs:γ} {i:Nat},(kvs.map (·.1)).Nodup->kvs[i]?=some (k,v)->bY kvs k=some v
 | [],_,_,e=>by simp at e
 | p::r,0,_,e=>by
  cases e
  exact bT (p:=(k,v)) rfl
 | p::r,i+1,n,e=>by
  rw [aaj,aaR] at n
  have e':r[i]?=some (k,v):=by simpa using e
  have ne:¬ p.1=k:=fun z=>n.1 (by rw [z];exact aai.mpr ⟨(k,v),Wp e',rfl⟩)
  rw [bG ne]
  exact jd n.2 e'
theorem AO :∀{kvs:γ},k∉kvs.map (·.1)->bY kvs k=none
 | [],_=>rfl
 | p::r,h=>by
  have h':k≠p.1/\k∉r.map (·.1):=by simpa using h
  rw [bG (fun z=>h'.1 z.symm)]
  exact AO h'.2
theorem map_put :∀{kvs:γ} {i:Nat},(kvs.map (·.1)).Nodup->kvs[i]?=some (k,v)->kvs.map (fun kv=>if kv.1=k then (kv.1,v') else kv)=kvs.set i (k,v')
 | [],_,_,e=>by simp at e
 | p::r,0,n,e=>by
  rw [aaj,aaR] at n
  cases e
  have hr:r.map (fun kv=>if kv.1=k then (kv.1,v') else kv)=r:=by
   refine (aaO (fun q hq=>?_)).trans (List.map_id r)
   have ne:¬ q.1=k:=fun z=>n.1 (by show k∈_;rw [<-z];exact aai.mpr ⟨q,hq,rfl⟩)
   rw [aej ne]
   rfl
  rw [aaj,hr,aek rfl,List.set_cons_zero]
 | p::r,i+1,n,e=>by
  rw [aaj,aaR] at n
  have e':r[i]?=some (k,v):=by simpa using e
  have ne:¬ p.1=k:=fun z=>n.1 (by rw [z];exact aai.mpr ⟨(k,v),Wp e',rfl⟩)
  rw [aaj,aej ne,map_put n.2 e',List.set_cons_succ]
theorem NM {kvs:γ}(n:(kvs.map (·.1)).Nodup)(e:kvs[i]?=some (k,v)):putK kvs k v'=kvs.set i (k,v'):=by
 unfold putK
 rw [fY,jd n e]
 exact map_put n e
theorem sZ.set (h:sZ H kvs nd){i c:Nat}(hv:Ln H v l):sZ H (kvs.set i (.inl (c:Int),v)) (nd.set i (c,l)):=by
 have hl:=h.1
 refine ⟨by simp [hl],fun j kv x e1 e2=>?_⟩
 rw [abc] at e1 e2
 by_cases z:i=j
 ·subst z
  rw [aek rfl] at e1 e2
  by_cases hi:i<kvs.length
  ·rw [aek hi] at e1
   rw [aek (by omega)] at e2
   cases e1
   cases e2
   exact ⟨rfl,hv⟩
  ·rw [aej hi] at e1
   cases e1
 ·rw [aej z] at e1 e2
  exact h.2 j kv x e1 e2
theorem sZ.snoc (h:sZ H kvs nd){c:Nat}(hv:Ln H v l):sZ H (kvs++[(.inl (c:Int),v)]) (nd++[(c,l)]):=by
 have hl:=h.1
 refine ⟨by simp [hl],fun j kv x e1 e2=>?_⟩
 by_cases z:j<kvs.length
 ·rw [aar z] at e1
  rw [aar (by omega)] at e2
  exact h.2 j kv x e1 e2
 ·rw [aav (by omega)] at e1 e2
  rw [<-hl] at e2
  by_cases y:j-kvs.length=0
  ·rw [y] at e1 e2
   cases e1
   cases e2
   exact ⟨rfl,hv⟩
  ·rw [aam (by simp;omega)] at e1
   cases e1
theorem keys_nodup:∀{nd:π},(nd.map (·.1)).Pairwise (· < ·)->(nd.map (fun x=>(ad_ (x.1:Int):Key))).Nodup
 | [],_=>by simp
 | x::r,h=>by
  rw [aaj,akd] at h
  rw [aaj,aaR]
  refine ⟨fun z=>?_,keys_nodup h.2⟩
  obtain ⟨y,hy,e⟩:=aai.mp z
  have e':(y.1:Int)=x.1:=akD e
  have:=h.1 y.1 (aai.mpr ⟨y,hy,rfl⟩)
  omega
def bb (b k:Nat):Nat:=(k+1)*(b+11)
theorem uH (b:Nat)(h:k<=m):bb b k<=bb b m:=aaG _ (by omega)
theorem uI (b k:Nat):b<=bb b k:=by
 unfold bb
 rw [abx,aj3]
 omega
theorem Red.piv {os:η}(R:Red os L c b nd lv):GZ nd:=⟨R.asc.imp fun h e=>by omega,R.here,R.off⟩
def Pr (os:η)(l:ξ):Prop:=l∈os\/Rz l
theorem Red.small {os:η}(R:Red os L c b nd lv)(O:G_ os nd lv ps qs)(hb:∀o∈os,Bd b0 o)(hk:nd.length<=k)(Kt:k<=1000)(pN:∀x∈nd,Pr os x.2)(pL:∀l∈lv,Pr os l):Red os L c (bb b0 k) nd lv:=by
 have le:∀{n:Nat},n<=(nd.length+1)*((2*(nd.length+1)*2^b0)^nd.length*2^b0)->n<=2^bb b0 k:=fun {n} h=>aak h (aak (Rv (by omega)) (aaI (by decide) (aaG _ (by omega))))
 have z:∀{n:Nat},n=0->n<=2^bb b0 k:=fun {n} h=>by rw [h];exact aaS _
 refine {R with Mj:=fun x hx j=>?_,Ks:=fun l hl j=>?_}
 ·rcases pN x hx with h|h|h
  ·exact aak (hb _ h j) (aaI (by decide) (uI _ _))
  ·exact le (O.need R.piv hx hb h j)
  ·exact z (by rw [h j];rfl)
 ·rcases pL l hl with h|h|h
  ·exact aak (hb _ h j) (aaI (by decide) (uI _ _))
  ·obtain ⟨i,ei⟩:=aaq hl
   exact le (O.left R.piv ei (fun x hx=>R.zero l hl x.1 (R.cols x hx)) hb h j)
  ·exact z (by rw [h j];rfl)
theorem oj {i:Nat}(h:i<=xs.length):fK xs none (some (i:Int))=xs.take i:=by
 unfold fK
 rw [HT.nV,HT.vO,adQ h]
 rfl
theorem s_ {i:Nat}(h:i<=xs.length):fK xs (some (i:Int)) none=xs.drop i:=by
 unfold fK
 rw [HT.nV,HT.vO,adQ h]
 exact abe (by simp)
theorem Red.up {os:η}(h:Red os L c b nd lv)(hb:b<=b'):Red os L c b' nd lv:={h with Mj:=fun x hx=>(h.Mj x hx).up hb,Ks:=fun x hx=>(h.Ks x hx).up hb}
theorem qY.erase (h:qY H us ls)(j:Nat):qY H (us.eraseIdx j) (ls.eraseIdx j):=by
 have hl:=h.1
 refine ⟨by rw [ab4,ab4,hl],fun i u l e1 e2=>?_⟩
 rw [aa6] at e1 e2
 by_cases z:i<j
 ·rw [aek z] at e1 e2
  exact h.2 _ _ _ e1 e2
 ·rw [aej z] at e1 e2
  exact h.2 _ _ _ e1 e2
theorem mi {α β:Type}{P:Nat->α->β->Prop}:∀(xs:List α),(∀i x,xs[i]?=some x->∃y,P i x y)->∃ys:List β,ys.length=xs.length/\∀i x y,xs[i]?=some x->ys[i]?=some y->P i x y
 | [],_=>⟨[],rfl,fun i x y e=>by simp at e⟩
 | x::xs,h=>by
  obtain ⟨y,hy⟩:=h 0 x rfl
  obtain ⟨ys,hl,hp⟩:=mi (P:=fun i=>P (i+1)) xs (fun i x e=>h (i+1) x (by simpa using e))
  refine ⟨y::ys,by simp [hl],fun i x' y' e1 e2=>?_⟩
  cases i with
  | zero=>
   cases e1
   cases e2
   exact hy
  | succ i=>exact hp i x' y' (by simpa using e1) (by simpa using e2)
inductive mj (K:Frag)(vs:ε)(H:Hp)(Q:VK)(E_:XK):Prop
|mk (a:aef)(us:ε)(os:List (List Int:_))(L m b:Nat)(_:vs=[.ref a,.int (m:Int)])(_:aV K H a us)(_:qY H us os)(_:(∀o∈os,o.length=L))(_:m<=L)(_:L<=1000)(_:os.length<=1000)(_:(∀o∈os,Bd b o))(_:bb b (min m os.length)<=29000000)(_:∀(p d a':aef)(kvs:γ)(eK :ε)(nd:π)(lv:η)(H':Hp),au H H' ->H d=none->H p=none->H' p=some (.tup [.ref d,.ref a'])->H' d=some (.dK kvs)->aV K H' a' eK ->sZ H' kvs nd->qY H' eK lv->Red os L m (bb b (min m os.length)) nd lv->Q (.ref p) H')
theorem mY:aC ["lines","many","needed","left","column","at","lead","place"] zay (ae EA):=sq
theorem Va (D:Def K mg "reduced" EA zay)(bf:mg "range"=none)(b7:mg "list"=none)(acg:Fn P w K mg base (aY P w) 1 "first_not_nought" zaP (uG K))(Vb:Fn P w K mg base (aY P w) 34 "cleared" zaI mh):Fn P w K mg base (aY P w) 35 "reduced" zay (mj K):=by
 refine D.oo mY fun H hr h=>?_
 obtain ⟨a,us,os,L,m,b,rfl,hS,hL,hlen,hm,RA,ho,hB,hb,q⟩:=h
 refine ⟨_,(aa (aK (i:=2) mY.nd fZ)
  (aa (aK (i:=3) mY.nd (pv 0))
  (aa (bC aev rfl (bK rfl bf (aS (pv 1))) (bW (i:=4) mY.nd) (aa (aK (i:=5) mY.nd (aT acg hr (aL (pv 3) (pv 4))))
   (aa (bh (bB HW (pv 5) jH) (ah vE) aI)
   (aa (aK (i:=6) mY.nd (bD aQ (pv 3) (pv 5)))
   (aa (me (i:=3) (tn:=["line"]) (fr:=["lead","column"]) (caps:=[6,4]) mY.nd (bx (aJ iP (cP gX (pv 3) fj (cM (pv 5))) (cP gX (pv 3) (cM (aJ cf (pv 5) ag)) fj))) (mW Vb hr (bE (pv 0) (pv 1) (pv 2))))
   (aa (bC aev rfl (bx (b_ (e_ rfl) rfl b7 gY (aS (pv 2)))) (bW (i:=7) mY.nd) (ah (fM (b6 hr) (pv 2) (pv 7) (aT Vb hr (bE (cv (b6 hr) (pv 2) (pv 7) (fun _ _=>rfl)) (pv 6) (pv 4))) rfl)))
   (ah (fM (b6 hr) (pv 2) (pv 4) (pv 6) rfl))))))))
  (ah (aE (aU (aL (pv 2) (pv 3)))))))),?_⟩
 refine fun d S3=>?_
 have s0:au H (upd H d (.dK [])):=aH S3 _
 refine ⟨_,rfl,_,rfl,_,rfl,by omega,by omega,?_⟩
 refine bX (lo:=0) (n:=m) (fun i σ H'=>Ex9 fun (al:aef) (pU:ε) (kvs:γ) (nd:π) (lv:η) (o4 o5 o6 o7:ψ)=>σ=[some (.ref a),some (.int (m:Int)),some (.ref d),some (.ref al),o4,o5,o6,o7]/\au H H'/\H' d=some (.dK kvs)/\aV K H' al pU/\qY H' pU lv/\sZ H' kvs nd/\nd.length<=i/\Red os L i (bb b (min m os.length)) nd lv/\(∃ps qs,G_ os nd lv ps qs)/\(∀x∈nd,Pr os x.2)/\∀l∈lv,Pr os l)
  ⟨a,us,[],[],os,none,none,none,none,rfl,s0,ak,s0.seq hS,hL.same s0,⟨rfl,by simp⟩,aal _,(Red.start hlen hB).up (uI _ _),⟨[],os,G_.start os⟩,(by simp),fun l hl=>.inl hl⟩ ?_ ?_
 ·rintro i σ H1 hi ⟨al,pU,kvs,nd,lv,o4,o5,o6,o7,rfl,s1,hd,Pw,FV,hN,hni,R,⟨ps,qs,O⟩,pN,pL⟩
  refine ⟨_,rfl,_,rfl,al,pU,lv,i,by rw [aaT];rfl,Pw,FV,fun l hl=>by rw [R.jO l hl];omega,fun j lead H2 s2 ej hj=>?_,fun hz H2 s2=>?_⟩
  ·have hjl:j<lv.length:=(ir.mp ej).1
   have hul:=FV.1
   have cnt:=R.cnt
   have hbk:=hb
   have hd2:=s2 _ _ hd
   have Pp:=s2.seq Pw
   have Px:=FV.same s2
   have U2:=hN.same s2
   obtain ⟨u,eu,hu⟩:=Px.at' ej
   have gd:lead∈lv:=Wp ej
   refine ⟨_,rfl,rfl,_,rfl,bg (fun z=>by simp at z) (fun _=>?_)⟩
   refine ⟨_,rfl,_,rfl,al,_,_,_,rfl,rfl,Pp,bP eu,_,rfl,_,rfl,_,rfl,al,pU,rfl,Pp,fun p1 n1=>?_⟩
   have t1:=aH n1 (.lst (fK pU none (some (j:Int))))
   refine ⟨_,rfl,_,rfl,_,_,rfl,rfl,_,rfl,al,pU,rfl,t1.seq Pp,fun p2 n2=>?_⟩
   have t2:=aH n2 (.lst (fK pU (some ((j:Int)+1)) none))
   have Vc:fK pU none (some (j:Int))++fK pU (some ((j:Int)+1)) none=pU.eraseIdx j:=by
    rw [oj (by omega),show ((j:Int)+1)=((j+1:Nat):Int) from by omega,s_ (by omega),List.eraseIdx_eq_take_drop_succ]
   have ach:(fK pU none (some (j:Int))).length+(fK pU (some ((j:Int)+1)) none).length<=ael:=by
    rw [<-aat,Vc]
    exact aak (aak (ac_ ..) (show pU.length<=1000 by omega)) (by decide)
   refine ⟨p1,p2,_,_,rfl,rfl,t2 _ _ ak,ak,ach,fun p3 n3=>?_⟩
   have t3:=aH n3 (.lst (fK pU none (some (j:Int))++fK pU (some ((j:Int)+1)) none))
   refine ⟨p3,rfl,⟨_,aV.of ak⟩,fun D nD=>?_⟩
   have tt:=(t1.trans t2).trans t3
   have hE:=(Px.same tt).erase j
   have hu3:=hu.same tt
   have er:(pU.eraseIdx j).length<=1000:=aak (ac_ ..) (show pU.length<=1000 by omega)
   refine pj (cap:=[some u,some (.int ((0:Int)+i))]) (K:=K) (a:=p3) (xs:=pU.eraseIdx j) (fun k v H=>∃x y p,(lv.eraseIdx j)[k]?=some x/\v=.ref p/\p≠D/\H p=some (.lst (y.map V.int))/\qW x lead y i/\Bd (2*bb b (min m os.length)+1) y/\(y=x\/Rz y)) nD (aap er (by decide)) (fun H3 s3=>aV.of (s3 _ _ (by rw [ak,Vc]))) ?_ ?_ ?_
   ·rintro k v H3 H4 ys hD3 ks ⟨x,y,p,e1,e2,e3,e4,e5⟩
    exact ⟨x,y,p,e1,e2,e3,ks _ _ e3 e4,e5⟩
   ·rintro k x H3 RR ex s3 ⟨ys0,aci⟩ kk
    obtain ⟨l,el,hl⟩:=hE.at ex
    have C_:l∈lv:=acu (Wp el)
    have hll:=R.jO l C_
    have hld:=R.jO lead gd
    refine ⟨_,rfl,_,rfl,_,rfl,x,u,l,lead,i,bb b (min m os.length),bb b (min m os.length),by rw [aaT];rfl,hl.same s3,hu3.same s3,by rw [hll,hld],by omega,by omega,hj,R.Ks l C_,R.Ks lead gd,hbk,hbk,fun v' l' H4 s4 L4 cl bd pz fr=>?_⟩
    obtain ⟨p,e1,e2⟩:=L4
    refine kk v' H4 s4 ⟨l,l',p,el,e1,?_,e2,cl,by rw [Nat.two_mul];exact bd,pz⟩
    rcases fr with z|⟨p',z,n⟩
    ·obtain ⟨Py,z1,z2⟩:=hl
     rw [z1,e1] at z
     cases z
     exact aq z2 nD
    ·rw [e1] at z
     cases z
     exact fun y=>by rw [y,aci] at n;cases n
   ·intro ys H3 hy gc s3 hD
    obtain ⟨yy,hl',hp⟩:=mi (P:=fun k v y=>∃x p,(lv.eraseIdx j)[k]?=some x/\v=.ref p/\p≠D/\H3 p=some (.lst (y.map V.int))/\qW x lead y i/\Bd (2*bb b (min m os.length)+1) y/\(y=x\/Rz y)) ys (fun k v e=>by
     obtain ⟨x,y,p,r⟩:=gc k v e
     exact ⟨y,x,p,r⟩)
    have hLn:qY H3 ys yy :=⟨hl'.symm,fun k v y e1 e2=>by
     obtain ⟨x,p,_,e,_,r,_⟩:=hp k v y e1 e2
     exact ⟨p,e,r⟩⟩
    have les:(pU.eraseIdx j).length=(lv.eraseIdx j).length:=hE.1
    have ML:Made os lead i (2*bb b (min m os.length)+1) (lv.eraseIdx j) yy :=⟨by omega,fun k x e=>by
     have hk:k<(lv.eraseIdx j).length:=(ir.mp e).1
     have e1:ys[k]?=some (ys[k]'(by omega)):=gE (by omega)
     have e2:yy[k]?=some (yy[k]'(by omega)):=gE (by omega)
     obtain ⟨x',p,r1,_,_,_,r2,r3,_⟩:=hp k _ _ e1 e2
     rw [e] at r1
     cases r1
     exact ⟨_,e2,r2,r3⟩⟩
    have PL:∀l∈yy,Pr os l:=fun l hl=>by
     obtain ⟨k,ek⟩:=aaq hl
     have hk:k<yy.length:=(ir.mp ek).1
     have e1:ys[k]?=some (ys[k]'(by omega)):=gE (by omega)
     obtain ⟨x',p,r1,_,_,_,_,_,r4⟩:=hp k _ _ e1 ek
     rcases r4 with z|z
     ·rw [z]
      exact pL x' (acu (Wp r1))
     ·exact .inr z
    have wI:=tt.trans s3
    have hd3:=wI _ _ hd2
    have hN3:=U2.same wI
    have hu4:=hu3.same s3
    refine ⟨_,rfl,d,kvs,rfl,Rd.of hd3,fun l3 n3=>?_⟩
    have t4:=aH n3 (.lst (kvs.map fun kv=>kV kv.1))
    refine ⟨l3,rfl,⟨_,aV.of ak⟩,?_⟩
    have dl:d≠l3:=aq hd3 n3
    refine ck (K:=K) (a:=l3) (xs:=kvs.map fun kv=>kV kv.1) (fun t σ H'=>G' fun (o7:ψ) (iE :γ) (jo :π)=>σ=[some (.ref a),some (.int (m:Int)),some (.ref d),some (.ref D),some (.int ((0:Int)+i)),some (.int (j:Int)),some u,o7]/\au H H'/\H' d=some (.dK iE)/\H' l3=some (.lst (kvs.map fun kv=>kV kv.1))/\H' D=some (.lst ys)/\qY H' ys yy /\Ln H' u lead/\sZ H' iE jo /\jo.map (·.1)=nd.map (·.1)/\
      ∀(k:Nat)(x:Nat×List Int),nd[k]?=some x->∃y,jo[k]?=some (x.1,y)/\(t<=k->y=x.2)/\(k<t->(qW x.2 lead y i/\Bd (2*bb b (min m os.length)+1) y)/\(y=x.2\/Rz y)))
     ⟨_,kvs,nd,rfl,((s1.trans s2).trans wI).trans t4,t4 _ _ hd3,ak,t4 _ _ hD,hLn.same t4,hu4.same t4,hN3.same t4,rfl,fun k x e=>⟨x.2,e,fun _=>rfl,fun z=>aet z (abj _)⟩⟩ (fun t σ H' _ h=>by
      obtain ⟨_,_,_,_,_,_,h,_⟩:=h
      exact aV.of h) ?_ ?_
    ·rintro t u7 σ H4 hu7 ⟨o7,iE,jo,rfl,s4,xG,hl4,Vd,hL4,hu5,Ml,RB,S4⟩
     rw [aag] at hu7
     obtain ⟨kv,yH,rfl⟩:=aaw.mp hu7
     have htl:t<kvs.length:=(ir.mp yH).1
     have hnl:=hN.1
     have ex:nd[t]?=some (nd[t]'(by omega)):=gE (by omega)
     obtain ⟨x,hx⟩:∃x,nd[t]?=some x:=⟨_,ex⟩
     obtain ⟨kx,hxm⟩:kv.1=.inl (x.1:Int)/\x∈nd:=⟨(hN3.2 t kv x yH hx).1,Wp hx⟩
     obtain ⟨y,ey,y1,_⟩:=S4 t x hx
     have y2:=y1 (aal _)
     subst y2
     obtain ⟨v,ev,hv⟩:=Ml.at ey
     have nk:(iE.map (·.1)).Nodup:=by
      rw [Ml.keys]
      exact keys_nodup (by rw [RB];exact R.asc)
     have vat:=jd nk ev
     have hxl:=R.rn x hxm
     have hld:=R.jO lead gd
     have dg:dm H4 d (kV kv.1) (some v):=by
      rw [kx,<-vat]
      exact dm.k xG
     refine ⟨_,rfl,_,rfl,d,v,rfl,dg,_,rfl,_,rfl,v,u,x.2,lead,i,bb b (min m os.length),bb b (min m os.length),by rw [aaT];rfl,hv,hu5,by rw [hxl,hld],by omega,by omega,hj,R.Mj x hxm,R.Ks lead gd,hbk,hbk,fun v' l' H5 s5 L5 cl bd pz fr=>?_⟩
     have RC:=s5 _ _ xG
     have l4':=Ml.1
     have l5':jo.length=nd.length:=by simpa using aeE acf RB
     refine ⟨_,rfl,_,rfl,d,_,rfl,kz.k RC (aap (show iE.length<=1000 by omega) (by decide)),?_⟩
     rw [kx,NM nk ev]
     have dn:d≠D:=fun z=>by rw [z,Vd] at xG;cases xG
     refine ⟨_,iE.set t (.inl (x.1:Int),v'),jo.set t (x.1,l'),rfl,kG (s4.trans s5) S3,ak,by rw [ao (aaD dl)];exact s5 _ _ hl4,by rw [ao (aaD dn)];exact s5 _ _ Vd,(hL4.same s5).put RC,(hu5.same s5).put RC,((Ml.same s5).set L5).put RC,?_,fun k x' ek=>?_⟩
     ·rw [List.map_set,RB]
      refine aa0 fun k=>?_
      rw [abc]
      by_cases z:t=k
      ·subst z
       rw [aek rfl,aek (by simp;omega),aag,hx]
       rfl
      ·rw [aej z]
     ·obtain ⟨y',Mh,a1,a2⟩:=S4 k x' ek
      by_cases z:t=k
      ·subst z
       rw [hx] at ek
       cases ek
       refine ⟨l',by rw [abc,aek rfl,aek (by omega)],fun w=>by omega,fun _=>⟨⟨cl,by rw [Nat.two_mul];exact bd⟩,pz⟩⟩
      ·exact ⟨y',by rw [abc,aej z];exact Mh,fun w=>a1 (by omega),fun w=>a2 (by omega)⟩
    ·rintro σ H4 ⟨o7,iE,jo,rfl,s4,xG,hl4,Vd,hL4,hu5,Ml,RB,S4⟩
     have l4':=Ml.1
     have l5':jo.length=nd.length:=by simpa using aeE acf RB
     have hnl:=hN.1
     rw [aah] at S4
     have MN:Made os lead i (2*bb b (min m os.length)+1) (nd.map (·.2)) (jo.map (·.2)):=⟨by simp [l5'],fun k x e=>by
      rw [aag] at e
      obtain ⟨x0,e0,rfl⟩:=aaw.mp e
      have hk:k<nd.length:=(ir.mp e0).1
      obtain ⟨y,ey,_,a2⟩:=S4 k x0 e0
      exact ⟨y,by rw [aag,ey];rfl,(a2 (by omega)).1⟩⟩
     have hno:bY iE (.inl ((0:Int)+i))=none:=AO (fun z=>by
      rw [Ml.keys] at z
      obtain ⟨x',xT,e⟩:=aai.mp z
      have e1:(x'.1:Int)=0+i:=akD e
      have:x'.1∈nd.map (·.1):=by rw [<-RB];exact aai.mpr ⟨x',xT,rfl⟩
      obtain ⟨x,hx,e2⟩:=aai.mp this
      have:=R.cols x hx
      omega)
     refine ⟨_,rfl,_,rfl,_,rfl,d,_,rfl,kz.k (k:=.inl ((0:Int)+i)) xG (aap (show iE.length<=1000 by omega) (by decide)),?_⟩
     rw [dI u hno]
     have dn:d≠D:=fun z=>by rw [z,Vd] at xG;cases xG
     have aco:∀l∈lv.eraseIdx j,l∈lv:=fun l h=>acu h
     have acp:∀l∈lv,l=lead\/l∈lv.eraseIdx j:=fun l h=>by
      obtain ⟨k,ek⟩:=aaq h
      rcases Nat.lt_trichotomy k j with z|z|z
      ·exact .inr (Wp (i:=k) (by rw [aa6,aek z];exact ek))
      ·subst z
       rw [ej] at ek
       cases ek
       exact .inl rfl
      ·exact .inr (Wp (i:=k-1) (by rw [aa6,aej (by omega),show k-1+1=k by omega];exact ek))
     have acq:(lv.eraseIdx j).length+1=lv.length:=by rw [ab4,aek hjl];omega
     have R2:=R.step gd aco acp acq hj ML RB MN
     obtain ⟨ps',qs',O2⟩:=O.step R.piv ej (fun x hx=>R.zero lead gd x.1 (R.cols x hx)) hj ML.len (fun k x e=>by
      obtain ⟨y,ey,k1,_⟩:=ML.to k x e
      exact ⟨y,ey,k1⟩) l5' fun k x e=>by
      obtain ⟨y,ey,k1,_⟩:=MN.to k x e
      exact ⟨y,ey,k1⟩
     have PN:∀x∈jo ++[(i,lead)],Pr os x.2:=fun x hx=>by
      rcases aau.mp hx with z|z
      ·obtain ⟨k,ek⟩:=aaq z
       have hk:k<jo.length:=(ir.mp ek).1
       obtain ⟨x0,e0⟩:∃x0,nd[k]?=some x0:=⟨_,gE (by omega)⟩
       obtain ⟨y,ey,_,a2⟩:=S4 k x0 e0
       rw [ek] at ey
       cases ey
       rcases (a2 (by omega)).2 with u|u
       ·show Pr os y
        rw [u]
        exact pN x0 (Wp e0)
       ·exact .inr u
      ·rw [aao.mp z]
       exact pL lead gd
     have Ve:=R2.cnt
     have R3:=R2.small O2 hB (k:=min m os.length) (by rw [aat] at Ve ⊢;simp at Ve ⊢;omega) (by omega) PN PL
     refine ⟨D,ys,_,jo ++[(i,lead)],yy,_,_,_,_,rfl,kG s4 S3,ak,aV.of (by rw [ao (aaD dn)];exact Vd),hL4.put xG,(by rw [aaT];exact (Ml.snoc hu5).put xG),by simp;omega,R3,⟨ps',qs',O2⟩,PN,PL⟩
  ·refine ⟨_,rfl,rfl,_,rfl,bg (fun _=>?_) (fun z=>by simp at z)⟩
   exact ⟨al,pU,kvs,nd,lv,_,_,_,_,rfl,s1.trans s2,s2 _ _ hd,s2.seq Pw,FV.same s2,hN.same s2,by omega,R.skip hz,⟨ps,qs,O⟩,pN,pL⟩
 ·rintro σ H1 ⟨al,pU,kvs,nd,lv,o4,o5,o6,o7,rfl,s1,hd,Pw,FV,hN,hni,R,⟨ps,qs,O⟩,pN,pL⟩
  refine ⟨_,rfl,_,rfl,z2L,fun p np=>?_⟩
  have sp:=aH np (.tup [.ref d,.ref al])
  have cnt:=R.cnt
  exact q p d al kvs pU nd lv _ (s1.trans sp) S3 (s1.free np) ak (sp _ _ hd) (sp.seq Pw) (hN.same sp) (FV.same sp) R
theorem AQ (hb:b≠0)(h1:t.natAbs<=2^T)(h2:b.natAbs<=2^B):Sm T B (low t b):=⟨km hb,nY hb,aak (oO hb) h1,aak (oP hb) h2⟩
theorem kH {l:ξ}(h:l.length<=j):l.getD j 0=0:=by
 rw [aaE,aam h]
 rfl
def wX (m t:Nat)(nd:π)(qs:ς):Prop:=qs.length=m/\(∀i,i<t->∀x,nd[i]?=some x->qs[x.1]?=some (low (x.2.getD m 0) (x.2.getD x.1 0)))/\∀j,j<m->(∀i,i<t->∀x,nd[i]?=some x->x.1≠j)->qs[j]?=some (0,1)
theorem wX.sm {os:η}(R:Red os (m+1) m b nd lv)(F:wX m nd.length nd qs):∀q∈qs,Sm b b q:=by
 intro q hq
 obtain ⟨j,hj⟩:=aaq hq
 have hjm:j<m:=by have:=(ir.mp hj).1;rw [<-F.1];exact this
 by_cases c:∃(i:Nat)(x:Nat×List Int),nd[i]?=some x/\x.1=j
 ·obtain ⟨i,x,e,rfl⟩:=c
  have hi:i<nd.length:=(ir.mp e).1
  have h1:=F.2.1 i hi x e
  rw [hj] at h1
  cases h1
  have hm:=Wp e
  exact AQ (R.here x hm) (R.Mj x hm m) (R.Mj x hm x.1)
 ·have h1:=F.2.2 j hjm (fun i _ x e z=>c ⟨i,x,e,z⟩)
  rw [hj] at h1
  cases h1
  exact ⟨by decide,by decide,aaS _,ac1⟩
theorem wX.sol {os:η}(R:Red os (m+1) m b nd lv)(F:wX m nd.length nd qs)(hz:∀l∈lv,l.getD m 0=0):∀o∈os,ev o (mS (qs.map vl))=0:=by
 have ql:=F.1
 have zl:∀j q,qs[j]?=some q->mS (qs.map vl) j=vl q:=fun j q e=>by
  have hj:j<qs.length:=(ir.mp e).1
  unfold mS
  rw [aek (by rw [aah];exact hj),aaE,aag,e]
  rfl
 have zm:mS (qs.map vl) m= -1:=by
  unfold mS
  rw [aej (by rw [aah];omega)]
 refine (R.sol _).mp ⟨fun x hx=>?_,fun l hl=>?_⟩
 ·obtain ⟨i,e⟩:=aaq hx
  have hi:i<nd.length:=(ir.mp e).1
  have hc:=R.cols x hx
  have hh:=R.here x hx
  have h1:=F.2.1 i hi x e
  have zc:=zl _ _ h1
  rw [um hh] at zc
  have other:∀j,j≠x.1->j≠m->((x.2.getD j 0:Int):Rat)*mS (qs.map vl) j=0:=by
   intro j n1 n2
   by_cases hj:j<m
   ·by_cases c:∃(i:Nat)(x:Nat×List Int),nd[i]?=some x/\x.1=j
    ·obtain ⟨i',y,e',rfl⟩:=c
     rw [R.off x hx y (Wp e') (aaD n1)]
     simp
    ·have h2:=F.2.2 j hj (fun i _ x e z=>c ⟨i,x,e,z⟩)
     rw [zl _ _ h2]
     unfold vl
     simp
     grind
   ·rw [kH (by rw [R.rn x hx];omega)]
    simp
  have sp:mS (qs.map vl)=fun i=>(if i=m then 0 else mS (qs.map vl) i)+(if i=m then -1 else 0):=by
   funext i
   by_cases z:i=m
   ·rw [aek z,aek z,z,zm]
    grind
   ·rw [aej z,aej z]
    grind
  rw [sp,JO]
  have a1:=uu x.2 (fun i=>if i=m then 0 else mS (qs.map vl) i) x.1 (fun j hj=>by
   by_cases z:j=m
   ·simp [z]
   ·rw [aej z]
    exact other j hj z)
  have a2:=uu x.2 (fun i=>if i=m then (-1:Rat) else 0) m (fun j hj=>by rw [aej hj];simp)
  rw [a1,a2]
  rw [aej (by omega),aek rfl,zc]
  have hh':=cR hh
  grind
 ·refine ur l _ (fun j=>?_)
  have:l.getD j 0=0:=by
   by_cases h1:j<m
   ·exact R.zero l hl j h1
   ·by_cases h2:j=m
    ·rw [h2]
     exact hz l hl
    ·exact kH (by rw [R.jO l hl];omega)
  rw [this]
  simp
theorem wX.put {os:η}(R:Red os (m+1) m b nd lv)(F:wX m t nd qs)(e:nd[t]?=some x):wX m (t+1) nd (qs.set x.1 (low (x.2.getD m 0) (x.2.getD x.1 0))):=by
 have ql:=F.1
 have hx:=R.cols x (Wp e)
 have dis:∀i y,i<t->nd[i]?=some y->y.1≠x.1:=fun i y hi ey=>by
  have a:=List.pairwise_iff_getElem.mp R.asc i t (by rw [aah];exact (ir.mp ey).1) (by rw [aah];exact (ir.mp e).1) hi
  simp only [List.getElem_map] at a
  have e1:=(ir.mp ey).2
  have e2:=(ir.mp e).2
  rw [e1,e2] at a
  omega
 refine ⟨by simp [ql],fun i hi y ey=>?_,fun j hj h=>?_⟩
 ·rcases aa8.mp hi with z|z
  ·rw [abc,aej (aaD (dis i y z ey))]
   exact F.2.1 i z y ey
  ·subst z
   rw [e] at ey
   cases ey
   rw [abc,aek rfl,aek (by omega)]
 ·rw [abc,aej (h t (aaV _) x e)]
  exact F.2.2 j hj (fun i hi y ey=>h i (acO hi) y ey)
theorem Ku (h:j<n):CI n (j:Int)=some j:=by
 unfold CI
 simp
 omega
theorem bJ.putL (h:bJ K H a xs)(e:H d=some (.lst ys)):bJ K (upd H d o) a xs:=by
 rcases h with (h|⟨o',h⟩)|h
 ·exact .inl (.inl (by rw [ao (fun z=>by rw [z,e] at h;cases h)];exact h))
 ·exact .inl (.inr ⟨o',by rw [ao (fun z=>by rw [z,e] at h;cases h)];exact h⟩)
 ·exact .inr h
inductive jP (K:Frag)(vs:ε)(H:Hp)(Q:VK)(E_:XK):Prop
|mk (a:aef)(us:ε)(os:List (List Int:_))(m b:Nat)(_:vs=[.ref a,.int (m:Int)])(_:aV K H a us)(_:qY H us os)(_:(∀o∈os,o.length=m+1))(_:m<=900)(_:os.length<=900)(_:(∀o∈os,Bd b o))(_:bb b (min m os.length)<=29000000)(_:(∀(l:ξ)(H':Hp),au H H' ->l.length=m+1->l_ os l->(∀j,j<m->l.getD j 0=0)->l.getD m 0≠0->Q .cg H'))(_:(∀(x:aef)(eK :ε)(qs:ς)(H':Hp),au H H' ->H x=none->H' x=some (.lst eK)->dA K H' eK qs->qs.length=m->(∀q∈qs,Sm (bb b (min m os.length)) (bb b (min m os.length)) q)->(∀o∈os,ev o (mS (qs.map vl))=0)->Q (.ref x) H'))
theorem wY:aC ["lines","many","told","x","column","line"] zay (ae D'):=sq
theorem Vf (hN:∀H:Hp,bJ K H aN [.int 0,.int 1])(FW:mg "NOUGHT"=some (.ref aN))(D:Def K mg "solution_of" D' zay)(tf:mg "any"=none)(acr:Fn P w K mg base (aY P w) 35 "reduced" zay (mj K))(Kv:Fn P w K mg base (aY P w) 33 "lowest_terms" zaH gM):Fn P w K mg base (aY P w) 36 "solution_of" zay (jP K):=by
 refine D.oo wY fun H hr h=>?_
 obtain ⟨a,us,os,m,b,rfl,hS,hL,hlen,hm,ho,hB,hb,q1,q2⟩:=h
 refine ⟨_,(aa (aK (i:=2) wY.nd (aT acr hr (aL (pv 0) (pv 1))))
  (aa (bh (cC (aG (sM rfl) rfl tf Pm (aS (dr (tn:=["line"]) (fr:=["many"]) (caps:=[1]) (bx (aF (pv 2))) (fJ gm (bD (o_ (K:=K) rfl) (pv 0) (pv 1)) ag (gU _)))))) (ah (aE jH)) aI)
  (aa (aK (i:=3) wY.nd (aJ IP (bV (aS (i6 (v:=.ref aN) rfl FW rfl))) (pv 1)))
  (aa (bC aev rfl (kA (aF (pv 2))) (eY rfl (aZ (bW (i:=4) wY.nd) (aZ (bW (i:=5) wY.nd) cU))) (ah (tH (aT Kv hr (aL (bD aQ (pv 5) (pv 1)) (bD aQ (pv 5) (pv 4)))) (xS (pv 3) (pv 4) set_list))))
  (ah (aE (pv 3))))))),?_⟩
 refine ⟨_,rfl,_,rfl,a,us,os,m+1,m,b,rfl,hS,hL,hlen,by omega,by omega,by omega,hB,hb,fun p d a' kvs eK nd lv H1 s1 S3 np hp hd Pw hN1 RA R=>?_⟩
 have lu:=RA.1
 have cnt:=R.cnt
 refine ⟨_,rfl,p,_,_,_,rfl,rfl,bJ.of hp,iD,a',rfl,⟨_,Pw⟩,fun D1 n1=>?_⟩
 refine cy (cap:=[some (.int (m:Int))]) (K:=K) (a:=a') (xs:=eK) (fun k v _=>∃l,lv[k]?=some l/\v=.bl (decide (l.getD m 0≠0))) n1 (aap (show eK.length<=1000 by omega) (by decide)) (fun H2 s2=>s2.seq Pw) (fun _ _ _ _ _ _ _ h=>h) ?_ ?_
 ·intro k x H2 RR ex s2 kk
  obtain ⟨l,el,b',rfl,iH⟩:=RA.at ex
  have hll:=R.jO l (Wp el)
  refine ⟨_,rfl,_,rfl,b',_,_,_,rfl,rfl,aV.of (s2 _ _ iH),sX (by omega),rfl,kk _ _ (au.refl _) ⟨l,el,?_⟩⟩
  simp
 ·intro ys H2 hy gc s2 hD
  have ey:ys=(lv.map fun l=>decide (l.getD m 0≠0)).map V.bl:=by
   refine aa0 fun i=>?_
   by_cases hi:i<ys.length
   ·have e1:ys[i]?=some ys[i]:=gE hi
    obtain ⟨l,el,e⟩:=gc i _ e1
    rw [e1,e,aag,aag,el]
    rfl
   ·rw [aam (by omega),aam (by simp;omega)]
  subst ey
  refine ⟨D1,_,rfl,aV.of hD,_,rfl,?_⟩
  have yz:=s1.trans s2
  refine bg (fun c=>?_) (fun c=>?_)
  ·obtain ⟨b',iH,Pu⟩:=acw.mp c
   obtain ⟨l,hl,rfl⟩:=aai.mp iH
   have hn:l.getD m 0≠0:=aeJ Pu
   exact q1 l H2 yz (R.jO l hl) (R.kF l hl) (R.zero l hl) hn
  ·have hz:∀l∈lv,l.getD m 0=0:=fun l hl=>by
    by_cases z:l.getD m 0=0
    ·exact z
    ·exact aet (acw.mpr ⟨true,aai.mpr ⟨l,hl,aeD z⟩,rfl⟩) c
   refine ⟨z1L,fun p3 n3=>?_⟩
   have s3:=aH n3 (.lst [V.ref aN])
   refine ⟨_,rfl,p3,_,_,rfl,rfl,ak,by omega,by omega,aak (show 1*(m:Int).toNat<=1000 by omega) (by decide),fun x n4=>?_⟩
   have s4:=aH n4 (.lst (aaF (m:Int).toNat [V.ref aN]).flatten)
   have Pz:=(yz.trans s3).trans s4
   have nx:H x=none:=(yz.trans s3).free n4
   have er:(aaF (m:Int).toNat [V.ref aN]).flatten=aaF m (V.ref aN):=by simp
   have hp4:=s4 _ _ (s3 _ _ (s2 _ _ hp))
   have xG:=s4 _ _ (s3 _ _ (s2 _ _ hd))
   have Ml:=((hN1.same s2).same s3).same s4
   have dx:d≠x:=aq (s3 _ _ (s2 _ _ hd)) n4
   refine ⟨_,rfl,p,_,_,_,rfl,rfl,bJ.of hp4,iC,d,kvs,rfl,xG,fun o=>?_⟩
   refine ja (d:=d) (o:=o) (kvs:=kvs) (fun t σ H'=>HE fun (o4 o5:ψ) (Kw:ε) (qs:ς)=>σ=[some (.ref a),some (.int (m:Int)),some (.ref p),some (.ref x),o4,o5]/\au H H'/\H' d=some (.gi o (.dK kvs))/\H' x=some (.lst Kw)/\dA K H' Kw qs/\sZ H' kvs nd/\wX m t nd qs)
    ⟨none,none,aaF m (V.ref aN),aaF m (0,1),rfl,kG Pz S3,ak,by rw [ao (aaD dx),ak,er],⟨by simp,fun i u q' e1 e2=>?_⟩,Ml.put xG,⟨by simp,fun i hi=>aet hi (abj _),fun j hj _=>by rw [aa_,aek hj]⟩⟩ (fun t σ H' _ h=>by
     obtain ⟨_,_,_,_,_,_,h,_⟩:=h
     exact h) ?_ ?_
   ·rw [aa_] at e1 e2
    by_cases z:i<m
    ·rw [aek z] at e1 e2
     cases e1
     cases e2
     exact ⟨aN,rfl,hN _⟩
    ·rw [aej z] at e1
     cases e1
   ·rintro t k v σ H5 p7 yH ⟨o4,o5,Kw,qs,rfl,s5,RC,hx5,NO,Vg,F⟩ n7
    have ht:t<kvs.length:=(ir.mp yH).1
    have hl5:=Vg.1
    obtain ⟨c,ec⟩:∃c,nd[t]?=some c:=⟨_,gE (by omega)⟩
    obtain ⟨k1,k2⟩:=Vg.2 t _ c yH ec
    have k1':k=.inl (c.1:Int):=k1
    subst k1'
    obtain ⟨b',eb,iH⟩:=k2
    have vx :v=.ref b':=eb
    subst vx
    have hcm:=Wp ec
    have hcl:=R.rn c hcm
    have hcc:=R.cols c hcm
    have s7:=aH n7 (.tup [kV (.inl (c.1:Int)),.ref b'])
    have Vh:=s7 _ _ iH
    refine ⟨p7,_,rfl,bJ.of ak,rfl,_,_,rfl,_,_,rfl,rfl,_,rfl,_,rfl,b',_,_,_,rfl,rfl,aV.of Vh,sX (by omega),_,rfl,_,rfl,b',_,_,_,rfl,rfl,aV.of Vh,sX (by omega),_,_,rfl,R.here c hcm,fun p8 H8 s8 e8=>?_⟩
    have NP:=s7.trans s8
    have hx8:=NP _ _ hx5
    have l2:=NO.1
    have xn:∀{b0:aef} {o0:HO},H b0=some o0->b0≠x:=fun e=>aq e nx
    have dx8:=NP _ _ RC
    refine ⟨_,rfl,_,rfl,x,Kw,_,c.1,rfl,rfl,hx8,Ku (by rw [l2,F.1];exact hcc),?_⟩
    refine ⟨_,_,Kw.set c.1 (.ref p8),qs.set c.1 (low (c.2.getD m 0) (c.2.getD c.1 0)),rfl,kG (s5.trans NP) nx,by rw [ao dx];exact dx8,ak,?_,?_,F.put R ec⟩
    ·have base:dA K H8 (Kw.set c.1 (.ref p8)) (qs.set c.1 (low (c.2.getD m 0) (c.2.getD c.1 0))):=(NO.same NP).set ⟨p8,rfl,bJ.of e8⟩
     refine ⟨base.1,fun i u q' e1 e2=>?_⟩
     obtain ⟨p9,e9,h9⟩:=base.2 i u q' e1 e2
     exact ⟨p9,e9,bJ.putL h9 hx8⟩
    ·have base:=Vg.same NP
     refine ⟨base.1,fun i kv y e1 e2=>⟨(base.2 i kv y e1 e2).1,?_⟩⟩
     obtain ⟨p9,e9,h9⟩:=hN1.2 i kv y e1 e2 |>.2
     refine ⟨p9,e9,?_⟩
     have px9:p9≠x:=fun z=>by
      have:=(s3 _ _ (s2 _ _ h9))
      rw [z,n4] at this
      cases this
     rw [ao px9]
     obtain ⟨p10,e10,h10⟩:=(base.2 i kv y e1 e2).2
     rw [e9] at e10
     cases e10
     exact h10
   ·rintro σ H5 ⟨o4,o5,Kw,qs,rfl,s5,RC,hx5,NO,Vg,F⟩
    have hl5:=Vg.1
    rw [hl5] at F
    exact ⟨_,rfl,q2 x Kw qs H5 s5 nx hx5 NO F.1 (F.sm R) (F.sol R hz)⟩
def kI (H:Hp)(r:aef)(ls:χ)(cL:Ζ):Prop:=H r=some (.lst (ls.map V.ref))/\ls.length=cL.length/\∀(i:Nat)(l:aef)(vs:ε),ls[i]?=some l->cL[i]?=some vs->H l=some (.lst vs)
theorem kI.same (h:kI H r ls cL)(s:au H H'):kI H' r ls cL:=⟨s _ _ h.1,h.2.1,fun i l vs e1 e2=>s _ _ (h.2.2 i l vs e1 e2)⟩
def Shape (T B m:Nat)(gj:Λ):Prop:=∀qs∈gj,qs.length=m/\∀q∈qs,Sm T B q
def jQ (K:Frag)(H:Hp)(cL:Ζ)(gj:Λ):Prop:=cL.length=gj.length/\∀(i:Nat)(vs:ε)(qs:ς),cL[i]?=some vs->gj[i]?=some qs->dA K H vs qs
theorem jQ.same (h:jQ K H cL gj)(s:au H H'):jQ K H' cL gj:=⟨h.1,fun i vs qs e1 e2=>(h.2 i vs qs e1 e2).same s⟩
theorem Kx {α:Type}{xs:List α}{x y:α}(e:(xs++[x])[j]?=some y):(j<xs.length/\xs[j]?=some y)\/(j=xs.length/\x=y):=by
 by_cases c:j<xs.length
 ·rw [aar c] at e
  exact .inl ⟨c,e⟩
 ·rw [aav (by omega)] at e
  by_cases z:j-xs.length=0
  ·rw [z] at e
   exact .inr ⟨by omega,aaA e⟩
  ·rw [aam (by simp;omega)] at e
   cases e
theorem kI.snoc (h:kI H r ls cL)(nr:r∉ls)(hD:H D=some (.lst us))(nD:D≠r):kI (upd H r (.lst (ls.map V.ref++[.ref D]))) r (ls++[D]) (cL++[us]):=by
 obtain ⟨m1,m2,m3⟩:=h
 refine ⟨by rw [ak,aax];rfl,by simp [m2],fun j l vs e1 e2=>?_⟩
 rcases Kx e1 with ⟨c1,d1⟩|⟨c1,d1⟩<;>rcases Kx e2 with ⟨c2,d2⟩|⟨c2,d2⟩
 ·have ne:l≠r:=fun z=>nr (by rw [<-z];exact Wp d1)
  rw [ao ne]
  exact m3 j l vs d1 d2
 ·omega
 ·omega
 ·subst d1 d2
  rw [ao nD]
  exact hD
theorem kI.row (h:kI H r ls cL){i:Nat}{vs:ε}(e:cL[i]?=some vs):∃l,ls[i]?=some l/\H l=some (.lst vs):=by
 have hi:i<cL.length:=(ir.mp e).1
 have l1:=h.2.1
 have e1:ls[i]?=some (ls[i]'(by omega)):=gE (by omega)
 exact ⟨_,e1,h.2.2 i _ _ e1 e⟩
def FX (cL:Ζ)(j:Nat):List V:=cL.map fun vs=>vs.getD j .cg
def kJ (cL:Ζ)(m:Nat):List (List V):=(abb m).map fun j=>FX cL j
inductive pV (vs:ε)(H:Hp)(Q:VK)(E_:XK):Prop
|mk (r:aef)(ls:χ)(cL:List (List V:_))(m:Int)(_:vs=[.ref r,.int m])(_:kI H r ls cL)(_:0<=m)(_:m<=1000)(_:ls.length<=1000)(_:(∀vs∈cL,m<=(vs.length:Int)))(_:∀c cs H',au H H' ->kI H' c cs (kJ cL m.toNat)->Q (.ref c) H')
theorem Ky:aC ["rows","many","columns","column"] zaS (ae DZ):=sq
theorem Vi (D:Def K mg "turned" DZ zaS)(bf:mg "range"=none):Fn P w K mg base (aY P w) 1 "turned" zaS pV:=by
 refine D.op Ky fun f cp A outer s H vs Q E hr h=>?_
 obtain ⟨r,ls,cL,m,rfl,M,m0,m1,hn,hv,q⟩:=h
 refine ⟨_,(aa (aK (i:=2) Ky.nd (bV eZ))
  (aa (bC aev rfl (bK rfl bf (aS (pv 1))) (bW (i:=3) Ky.nd) (ah (bq (gs aeH aeN aeP cQ (pv 2) (aS (dr (tn:=["row"]) (fr:=["column"]) (caps:=[3]) (bx (pv 0)) (bD (o_ (K:=K) rfl) (pv 0) (pv 1))))))))
  (ah (aE (pv 2))))),?_⟩
 have l1:=M.2.1
 refine ⟨z0L,fun c nc=>?_⟩
 refine ⟨_,rfl,_,rfl,by omega,by omega,?_⟩
 refine bX (lo:=0) (n:=m.toNat) (fun i σ H'=>Mi fun (o:ψ) (cs:χ)=>σ=[some (.ref r),some (.int m),some (.ref c),o]/\au H H'/\kI H' c cs (kJ cL i)/\c∉cs) ⟨none,[],rfl,aH nc _,⟨ak,rfl,fun i l vs e=>by simp at e⟩,by simp⟩ ?_ ?_
 ·rintro i σ H' hi ⟨o,cs,rfl,s1,C,ncs⟩
  have M':=M.same s1
  refine ⟨_,rfl,.inl ⟨rfl,_,aV.of C.1⟩,_,rfl,r,rfl,⟨_,aV.of M'.1⟩,fun D nD=>?_⟩
  refine cy (cap:=[some (.int ((0:Int)+i))]) (K:=K) (a:=r) (xs:=ls.map V.ref) (fun k v _=>∃vs,cL[k]?=some vs/\v=vs.getD i .cg) nD (by rw [aah];exact aap hn (by decide)) (fun H2 s2=>aV.of (s2 _ _ M'.1)) (fun _ _ _ _ _ _ _ h=>h) ?_ ?_
  ·intro k u H2 R hu s2 kk
   rw [aag] at hu
   obtain ⟨l,el,rfl⟩:=aaw.mp hu
   have hk:k<ls.length:=(ir.mp el).1
   have ev:cL[k]?=some (cL[k]'(by omega)):=gE (by omega)
   have hl:=M'.2.2 k l _ el ev
   have UE :i<(cL[k]'(by omega)).length:=by
    have:=hv _ (Wp ev)
    omega
   have ea:gh (cL[k]'(by omega)) ((0:Int)+(i:Int))=some ((cL[k]'(by omega)).getD i .cg):=by
    rw [aaT]
    exact bP (by rw [gE UE,aaE,gE UE];rfl)
   exact ⟨_,rfl,_,rfl,l,_,_,_,rfl,rfl,aV.of (s2 _ _ hl),ea,kk _ _ (au.refl _) ⟨_,ev,rfl⟩⟩
  ·intro ys H2 hy gc s2 hD
   rw [aah] at hy
   have ey:ys=FX cL i:=by
    refine aa0 fun k=>?_
    unfold FX
    by_cases hk:k<ys.length
    ·have e1:ys[k]?=some ys[k]:=gE hk
     obtain ⟨vs,ev,e2⟩:=gc k _ e1
     rw [e1,e2,aag,ev]
     rfl
    ·rw [aam (by omega),aam (by simp;omega)]
   subst ey
   have lc:cs.length=i:=by have:=C.2.1;simpa [kJ] using this
   have nDc:D≠c:=fun z=>by rw [z,C.1] at nD;cases nD
   have fc:∀b o,H b=some o->b≠c:=fun b o e=>aq e nc
   refine ⟨c,_,_,rfl,rfl,s2 _ _ C.1,by rw [aah,lc];exact aap (show i<=1000 by omega) (by decide),?_⟩
   refine ⟨_,cs++[D],rfl,fun b o e=>?_,?_,fun z=>?_⟩
   ·rw [ao (fc b o e)]
    exact s2 _ _ (s1 _ _ e)
   ·have e:kJ cL (i+1)=kJ cL i++[FX cL i]:=by simp [kJ,ajY]
    rw [e]
    exact (C.same s2).snoc ncs hD nDc
   ·rcases aau.mp z with y|y
    ·exact ncs y
    ·exact nDc (aao.mp y).symm
 ·rintro σ H' ⟨o,cs,rfl,s1,C,ncs⟩
  exact ⟨_,rfl,q c cs H' s1 C⟩
def Kz (gj:Λ)(j:Nat):List (Int×Int):=gj.map fun qs=>qs.getD j (0,1)
theorem Bd.of (h:∀t∈l,t.natAbs<=2^b):Bd b l:=fun j=>by
 by_cases hj:j<l.length
 ·have e:l[j]?=some l[j]:=gE hj
  rw [getD_mem e]
  exact h _ (abX hj)
 ·rw [kH (by omega)]
  exact aaS _
abbrev Wl:=List Int×Int×aef×aef
def WlP (T B m:Nat)(qs:ς)(d:Int×Int)(w:Wl):Prop:=mR w.1 (qs++[d]) w.2.1/\0<w.2.1/\w.2.1.natAbs<=2^(B*(m+1))/\∀t∈w.1,t.natAbs<=2^(T+B*(m+1))
theorem KA {HF:η}(h:∀l∈HF,l.length=n)(hj:j<n):FX (HF.map fun l=>l.map V.int) j=(HF.map fun l=>l.getD j 0).map V.int:=by
 unfold FX
 rw [aay,aay]
 refine aaO fun l hl=>?_
 have hlen:=h l hl
 have e:l[j]?=some (l[j]'(by omega)):=gE (by omega)
 show (l.map V.int).getD j .cg=.int (l.getD j 0)
 rw [getD_mem e,aaE,aag,e]
 rfl
theorem pZ (j:Nat):∀{ws:List Wl} {ss ys:ς} {cs:ς},ss.length=ws.length->ys.length=ws.length->cs.length=ws.length->
  (∀(i:Nat)(w:Wl)(s y:Int×Int),ws[i]?=some w->ss[i]?=some s->ys[i]?=some y->vl y=vl s*w.2.1)->(∀(i:Nat)(w:Wl)(c:Int×Int),ws[i]?=some w->cs[i]?=some c->((w.1.getD j 0:Int):Rat)=vl c*w.2.1)->gZ ys cs=d6 (ss.map vl) (ws.map (·.1)) j
 | [],[],[],[],_,_,_,_,_=>by simp [gZ,d6]
 | w::ws,s::ss,y::ys,c::cs,h1,h2,h3,h4,h5=>by
  have ih:=pZ j (ws:=ws) (ss:=ss) (ys:=ys) (cs:=cs) (by simpa using h1) (by simpa using h2) (by simpa using h3) (fun i w s y e1 e2 e3=>h4 (i+1) w s y (by simpa using e1) (by simpa using e2) (by simpa using e3)) (fun i w c e1 e2=>h5 (i+1) w c (by simpa using e1) (by simpa using e2))
  have a:=h4 0 w s y rfl rfl rfl
  have b:=h5 0 w c rfl rfl
  have ed:gZ (y::ys) (c::cs)=vl y*vl c+gZ ys cs:=by simp [gZ]
  simp only [aaj,d6]
  rw [ed,ih,a,b]
  grind
 | [],_::_,_,_,h,_,_,_,_=>by simp at h
 | [],[],_::_,_,_,h,_,_,_=>by simp at h
 | [],[],[],_::_,_,_,h,_,_=>by simp at h
 | _::_,[],_,_,h,_,_,_,_=>by simp at h
 | _::_,_::_,[],_,_,h,_,_,_=>by simp at h
 | _::_,_::_,_::_,[],_,_,h,_,_=>by simp at h
def xH (m:Nat)(HF:η):List (List Int):=(abb m).map (fun j=>(HF.map fun l=>l.getD j 0)++[0])++[(HF.map fun l=>l.getD m 0)++[1]]
theorem uJ {o:ξ}(h:o∈xH m HF):∃k,k<m+1/\o=(HF.map fun l=>l.getD k 0)++[if k=m then 1 else 0]/\True:=by
 unfold xH at h
 rcases aau.mp h with z|z
 ·obtain ⟨j,hj,rfl⟩:=aai.mp z
  have UO :j<m:=ab_.mp hj
  exact ⟨j,by omega,by rw [aej (by omega)],trivial⟩
 ·exact ⟨m,by omega,by rw [aek rfl];exact aao.mp z,trivial⟩
theorem RD (h:k<m+1):(HF.map fun l=>l.getD k 0)++[if k=m then 1 else 0]∈xH m HF:=by
 unfold xH
 by_cases z:k=m
 ·subst z
  rw [aek rfl]
  simp
 ·rw [aej z]
  exact aau.mpr (.inl (aai.mpr ⟨k,ab_.mpr (by omega),rfl⟩))
theorem yI {ws:List Wl}(hlen:∀l∈ws.map (·.1),l.length=m+1)(hn:ws.length=n)(c0:l_ (ws.map (·.1)) l0)(h0:∀j,j<m->l0.getD j 0=0)(h0m:l0.getD m 0≠0)(c1:l_ (xH m (ws.map (·.1))) l1)(l1l:l1.length=n+1)(h1:∀j,j<n->l1.getD j 0=0)(hp:∀o∈xH m (ws.map (·.1)),o.length=n+1):l1.getD n 0=0:=by
 obtain ⟨y0,ly,ey⟩:=c0
 have avU :=cR h0m
 have ly':(y0.map fun a=>a*(1 / ((l0.getD m 0:Int):Rat))).length=(ws.map (·.1)).length:=by simp [ly]
 have all:∀o∈xH m (ws.map (·.1)),ev o (mS (y0.map fun a=>a*(1 / ((l0.getD m 0:Int):Rat))))=0:=by
  intro o ho
  obtain ⟨k,hk,rfl,_⟩:=uJ ho
  rw [ym k _ (ws.map (·.1)) _ ly',pJ,<-ey k]
  by_cases z:k=m
  ·subst z
   rw [aek rfl]
   have e':((1:Int):Rat)=1:=by simp
   rw [e']
   grind
  ·rw [aej z,h0 k (by omega)]
   simp
   grind
 have e:=Nr (n:=n+1) c1 (by omega) (fun o ho=>by rw [hp o ho];exact aal _) all
 rw [uu l1 _ n (fun j hj=>by
  by_cases z:j<n
  ·rw [h1 j z]
   simp
  ·rw [kH (by omega)]
   simp)] at e
 have zn:mS (y0.map fun a=>a*(1 / ((l0.getD m 0:Int):Rat))) n= -1:=by
  unfold mS
  rw [aej (by rw [ly',aah];omega)]
 rw [zn] at e
 have:((l1.getD n 0:Int):Rat)=0:=by grind
 exact_mod_cast this
theorem FY {d:Int×Int}(h:mR ts (qs++[d]) b)(hj:j<qs.length):((ts.getD j 0:Int):Rat)=vl (qs.getD j (0,1))*b:=by
 have l:=h.1
 rw [aat] at l
 simp at l
 have e1:ts[j]?=some (ts[j]'(by omega)):=gE (by omega)
 have e2:qs[j]?=some qs[j]:=gE hj
 have:=h.2 j _ _ e1 (by rw [aar hj];exact e2)
 rw [getD_mem e1,aaE,e2]
 exact this
theorem yJ {d:Int×Int}(h:mR ts (qs++[d]) b)(hm:qs.length=m):((ts.getD m 0:Int):Rat)=vl d*b:=by
 have l:=h.1
 rw [aat] at l
 simp at l
 have e1:ts[m]?=some (ts[m]'(by omega)):=gE (by omega)
 have:=h.2 m _ d e1 (by rw [aav (by omega),hm];simp)
 rw [getD_mem e1]
 exact this
inductive uK (K:Frag)(vs:ε)(H:Hp)(Q:VK)(E_:XK):Prop
|mk (r dl:aef)(m:Nat)(ls:χ)(cL:List (List V:_))(gj:Λ)(dus:ε)(ds:ς)(T B Z:Nat)(_:vs=[.ref r,.ref dl,.int (m:Int)])(_:kI H r ls cL)(_:jQ K H cL gj)(_:H dl=some (.lst dus))(_:dA K H dus ds)(_:ds.length=gj.length)(_:Shape T B m gj)(_:(∀d∈ds,Sm T B d))(_:m<=100)(_:gj.length<=100)(_:T<=20000)(_:B*(m+1)<=100000)(_:B<=8000)(_:bb (T+B*(m+1)) (min (m+1) gj.length)<=Z)(_:Z<=29000000)(_:(∀(p x:aef)(us:ε)(xs:ς)(H':Hp),au H H' ->H' p=some (.tup [.str "solved",.ref x])->H' x=some (.lst us)->dA K H' us xs->xs.length=m->(∀q∈xs,Sm Z Z q)->(∀(i:Nat)(qs:ς)(d:Int×Int),gj[i]?=some qs->ds[i]?=some d->gZ qs xs=vl d)->Q (.ref p) H'))(_:(∀(p y:aef)(us:ε)(ys:ς)(H':Hp),au H H' ->H' p=some (.tup [.str "paper",.ref y])->H' y=some (.lst us)->dA K H' us ys->ys.length=gj.length->(∀q∈ys,Sm (Z+B*(m+1)) Z q)->(∀j,j<m->gZ ys (Kz gj j)=0)->gZ ys ds=1->Q (.ref p) H'))
theorem p_:aC ["rows","due","many","wholes","lines","x","columns","papers","shares"] zaN (ae DY):=sq
theorem Vj (D:Def K mg "solve_rows" DY zaN)(jz:mg "zip"=none)(aX:mg "len"=none)(acx:Fn P w K mg base (aY P w) 2 "whole_row" ["row"] (Ry K))(Vk:Fn P w K mg base (aY P w) 36 "solution_of" zay (jP K))(acy:Fn P w K mg base (aY P w) 1 "turned" zaS pV)(Kv:Fn P w K mg base (aY P w) 33 "lowest_terms" zaH gM):
  Fn P w K mg base (aY P w) 37 "solve_rows" zaN (uK K):=by
 refine D.op p_ fun f cp A outer s H vs Q E hr h=>?_
 obtain ⟨r,dl,m,ls,cL,gj,dus,ds,T,B,Z,rfl,M,NN,hdl,ND,T1,sh,sd,hm,hn,hT,hB,hB1,hZ,hZ1,q1,q2⟩:=h
 refine ⟨_,(aa (Rx (i:=3) (tn:=["row","number"]) (fr:=[]) (caps:=[]) p_.nd (yg rfl jz (aL (pv 0) (pv 1))) (fun _ _ _ _=>(uk (K:=K) (n:=2) rfl rfl (aZ (fH (i:=0) (show (["row","number"]:List Str).Nodup from by decide+kernel) rfl (adg rfl)) (aZ (fH (i:=1) (show (["row","number"]:List Str).Nodup from by decide+kernel) rfl (adg rfl)) cU)))) (fun _ _ _ _=>oW) (mW acx hr (aS (aJ iP (pv 0) (bV (aS (pv 1)))))))
  (aa (me (i:=4) (tn:=["whole"]) (fr:=[]) (caps:=[]) p_.nd (bx (pv 3)) (bD (cX (K:=K) rfl) (pv 0) ag))
  (aa (aK (i:=5) p_.nd (aT Vk hr (aL (pv 4) (pv 2))))
  (aa (bh (bB MY (pv 5) jH) (ah (aE (aU (aL dY (pv 5))))) aI)
  (aa (aK (i:=6) p_.nd (aT acy hr (aL (pv 4) (aJ cf (pv 2) ag))))
  (aa (aK (i:=7) p_.nd (aJ iP (dr (tn:=["column"]) (fr:=[]) (caps:=[]) (bx (cP gX (pv 6) fj (cM (pv 2)))) (aJ iP (pv 0) (bV (aS ag)))) (bV (aS (aJ iP (bD aQ (pv 6) (pv 2)) (bV (aS ag)))))))
  (aa (aK (i:=8) p_.nd (aT Vk hr (aL (pv 7) (aG aD rfl aX bS (aS (pv 4))))))
  (ah (aE (aU (aL dY (Ko (tn:=zaW) (fr:=[]) (caps:=[]) (yg rfl jz (aL (pv 8) (pv 3))) (fun _ _ _ _=>(uk (K:=K) (n:=2) rfl rfl (aZ (fH (i:=0) (show (zaW:List Str).Nodup from by decide+kernel) rfl (adg rfl)) (aZ (fH (i:=1) (show (zaW:List Str).Nodup from by decide+kernel) rfl (adg rfl)) cU)))) (fun _ _ _ _=>oW) (mW Kv hr (aL (aJ jb (bD (cX (K:=K) rfl) (pv 0) ag) (bD (cX (K:=K) rfl) (pv 1) ag)) (bD (cX (K:=K) rfl) (pv 0) ag))))))))))))))),?_⟩
 have l1:=M.2.1
 have l2:=NN.1
 have l3:=ND.1
 refine ⟨_,rfl,_,rfl,r,dl,rfl,⟨_,aV.of M.1⟩,⟨_,aV.of hdl⟩,fun D1 n1=>?_⟩
 refine DB (cap:=[]) (K:=K) (xs:=ls.map V.ref) (ys:=dus) (fun i v H=>∃w:Wl,v=.ref w.2.2.2/\w.2.2.1≠D1/\H w.2.2.2=some (.tup [.ref w.2.2.1,.int w.2.1])/\H w.2.2.1=some (.lst (w.1.map V.int))/\∀qs d,gj[i]?=some qs->ds[i]?=some d->WlP T B m qs d w) n1 (by rw [aah];exact aap (show ls.length<=1000 by omega) (by decide)) (by rw [aah];omega) (fun H2 s2=>aV.of (s2 _ _ M.1)) (fun H2 s2=>aV.of (s2 _ _ hdl)) ?_ ?_ ?_
 ·rintro i v H2 H3 ys hD ks ⟨w,e1,e2,e3,e4,e5⟩
  exact ⟨w,e1,e2,ks _ _ (fun z=>by rw [z,hD] at e3;cases e3) e3,ks _ _ e2 e4,e5⟩
 ·rintro i x y H2 RR ex ey s2 ⟨ys0,hD0⟩ kk
  rw [aag] at ex
  obtain ⟨l,el,rfl⟩:=aaw.mp ex
  have hi:i<ls.length:=(ir.mp el).1
  obtain ⟨qs,eq⟩:∃qs,gj[i]?=some qs:=⟨_,gE (by omega)⟩
  obtain ⟨vs,ev⟩:∃vs,cL[i]?=some vs:=⟨_,gE (by omega)⟩
  have hl:=M.2.2 i l vs el ev
  have hq:=NN.2 i vs qs ev eq
  obtain ⟨d,ed,nd⟩:=ND.at ey
  obtain ⟨lq,sq⟩:=sh qs (Wp eq)
  have lvs:=hq.1
  refine ⟨_,rfl,_,rfl,z1L,fun p1 np1=>?_⟩
  have t1:=aH np1 (.lst [y])
  refine ⟨l,p1,vs,_,rfl,rfl,t1 _ _ (s2 _ _ hl),ak,aak (show vs.length+1<=1000 by omega) (by decide),fun p2 np2=>?_⟩
  have t2:=aH np2 (.lst (vs++[y]))
  have t12:=t1.trans t2
  refine ⟨p2,qs++[d],T,B,rfl,⟨_,aV.of ak,(dA.snoc ((hq.same s2).same t12) ((nd.same s2).same t12))⟩,fun q' nq =>?_,hT,by rw [aat,lq];exact hB,hB1,by rw [aat,lq];show m+1<=1000;omega,fun p3 l3' ts b H3 s3 nl hp3 hl3 hb hbs wh hts=>?_⟩
  ·rcases aau.mp nq with z|z
   ·exact sq q' z
   ·rw [aao.mp z]
    exact sd d (Wp ed)
  ·refine kk _ _ (t12.trans s3) ⟨(ts,b,l3',p3),rfl,fun z=>?_,hp3,hl3,fun qs' d' e1 e2=>?_⟩
   ·have:=t12 _ _ hD0
    rw [show l3'=D1 from z,this] at nl
    cases nl
   ·rw [eq] at e1
    rw [ed] at e2
    cases e1
    cases e2
    rw [aat,lq] at hbs hts
    exact ⟨wh,hb,hbs,hts⟩
 ·intro zs H2 hz gc s2 hD1
  rw [aah] at hz
  obtain ⟨ws,lw,hw⟩:=mi (P:=fun i v (w:Wl)=>v=.ref w.2.2.2/\w.2.2.1≠D1/\H2 w.2.2.2=some (.tup [.ref w.2.2.1,.int w.2.1])/\H2 w.2.2.1=some (.lst (w.1.map V.int))/\∀qs d,gj[i]?=some qs->ds[i]?=some d->WlP T B m qs d w) zs gc
  have ez:zs=ws.map (fun w=>V.ref w.2.2.2):=by
   refine aa0 fun i=>?_
   rw [aag]
   by_cases hi:i<zs.length
   ·have e1:zs[i]?=some zs[i]:=gE hi
    have e2:ws[i]?=some (ws[i]'(by omega)):=gE (by omega)
    have h:=(hw i _ _ e1 e2).1
    rw [e1,e2,h]
    rfl
   ·rw [aam (by omega),aam (by omega)]
    rfl
  subst ez
  have NQ:ws.length=gj.length:=by omega
  have S5:∀(i:Nat)(w:Wl),ws[i]?=some w->H2 w.2.2.2=some (.tup [.ref w.2.2.1,.int w.2.1])/\H2 w.2.2.1=some (.lst (w.1.map V.int))/\∀qs d,gj[i]?=some qs->ds[i]?=some d->WlP T B m qs d w:=fun i w e=>(hw i _ w (by rw [aag,e];rfl) e).2.2
  have wp:∀(i:Nat)(w:Wl),ws[i]?=some w->∃qs d,gj[i]?=some qs/\ds[i]?=some d/\WlP T B m qs d w:=fun i w e=>by
   have hi:i<ws.length:=(ir.mp e).1
   obtain ⟨qs,eq⟩:∃qs,gj[i]?=some qs:=⟨_,gE (by omega)⟩
   obtain ⟨d,ed⟩:∃d,ds[i]?=some d:=⟨_,gE (by omega)⟩
   exact ⟨qs,d,eq,ed,(S5 i w e).2.2 qs d eq ed⟩
  have NR:∀l∈ws.map (·.1),l.length=m+1:=fun l hl=>by
   obtain ⟨w,Vl,rfl⟩:=aai.mp hl
   obtain ⟨i,e⟩:=aaq Vl
   obtain ⟨qs,d,eq,_,wh,_⟩:=wp i w e
   have:=wh.1
   rw [aat,(sh qs (Wp eq)).1] at this
   exact this
  have wbd:∀l∈ws.map (·.1),Bd (T+B*(m+1)) l:=fun l hl=>by
   obtain ⟨w,Vl,rfl⟩:=aai.mp hl
   obtain ⟨i,e⟩:=aaq Vl
   obtain ⟨qs,d,eq,_,_,_,_,h⟩:=wp i w e
   exact Bd.of h
  have hlm:(ws.map (·.1)).length=gj.length:=by rw [aah];exact NQ
  refine ⟨_,rfl,D1,rfl,⟨_,aV.of hD1⟩,fun D2 n2=>?_⟩
  refine cy (cap:=[]) (K:=K) (a:=D1) (xs:=ws.map (fun w=>V.ref w.2.2.2)) (fun k v _=>∃w,ws[k]?=some w/\v=.ref w.2.2.1) n2 (by rw [aah];exact aap (show ws.length<=1000 by omega) (by decide)) (fun H3 s3=>aV.of (s3 _ _ hD1)) (fun _ _ _ _ _ _ _ h=>h) ?_ ?_
  ·intro k x H3 RR ex s3 kk
   rw [aag] at ex
   obtain ⟨w,ew,rfl⟩:=aaw.mp ex
   exact ⟨_,rfl,w.2.2.2,_,_,_,rfl,rfl,bJ.of (s3 _ _ (S5 k w ew).1),iC,kk _ _ (au.refl _) ⟨w,ew,rfl⟩⟩
  intro ys H3 hy Vm s3 hD2
  have ey:ys=(ws.map (fun w=>w.2.2.1)).map V.ref:=by
   refine aa0 fun i=>?_
   rw [aah] at hy
   by_cases hi:i<ys.length
   ·have e1:ys[i]?=some ys[i]:=gE hi
    obtain ⟨w,e2,e3⟩:=Vm i _ e1
    rw [e1,e3,aag,aag,e2]
    rfl
   ·rw [aam (by omega),aam (by simp;omega)]
  subst ey
  have hLl:qY H3 ((ws.map (fun w=>w.2.2.1)).map V.ref) (ws.map (·.1)):=⟨by simp,fun i u l e1 e2=>by
   rw [aag,aag] at e1
   rw [aag] at e2
   cases e:ws[i]? with
   | none=>rw [e] at e2;cases e2
   | some w=>
    rw [e] at e1 e2
    cases e1
    cases e2
    exact ⟨w.2.2.1,rfl,s3 _ _ (S5 i w e).2.1⟩⟩
  have hMm:kI H3 D2 (ws.map (fun w=>w.2.2.1)) ((ws.map (·.1)).map fun l=>l.map V.int):=⟨hD2,by simp,fun i l vs e1 e2=>by
   rw [aag] at e1
   rw [aag,aag] at e2
   cases e:ws[i]? with
   | none=>rw [e] at e2;cases e2
   | some w=>
    rw [e] at e1 e2
    cases e1
    cases e2
    exact s3 _ _ (S5 i w e).2.1⟩
  have mn:bb (T+B*(m+1)) (min m (ws.map (·.1)).length)<=Z:=aak (uH _ (by rw [hlm];omega)) hZ
  have s23:=s2.trans s3
  refine ⟨_,rfl,_,rfl,D2,_,ws.map (·.1),m,T+B*(m+1),rfl,aV.of hD2,hLl,NR,by omega,by omega,wbd,aak mn hZ1,fun l0 H4 s4 l0l cm l00 l0m=>?_,fun x eK xs H4 s4 nx hx nxs lxs sxs sol=>?_⟩
  ·refine ⟨_,rfl,rfl,_,rfl,bg (fun z=>by simp at z) (fun _=>?_)⟩
   have M4:=hMm.same s4
   refine ⟨_,rfl,_,rfl,_,_,rfl,rfl,D2,ws.map (fun w=>w.2.2.1),_,(m:Int)+1,rfl,M4,by omega,by omega,by rw [aah];omega,fun vs hvs=>?_,fun c cs H5 s5 M5=>?_⟩
   ·obtain ⟨l,hl,rfl⟩:=aai.mp hvs
    rw [aah,NR l hl]
    omega
   have lcs:cs.length=m+1:=by
    have:=M5.2.1
    unfold kJ at this
    simp at this
    omega
   have col:∀k,k<m+1->∃l,cs[k]?=some l/\H5 l=some (.lst (((ws.map (·.1)).map fun l=>l.getD k 0).map V.int)):=fun k hk=>by
    have e:(kJ ((ws.map (·.1)).map fun l=>l.map V.int) ((m:Int)+1).toNat)[k]?=some (((ws.map (·.1)).map fun l=>l.getD k 0).map V.int):=by
     rw [<-KA NR hk]
     unfold kJ
     rw [aag,aj6 (by omega)]
     rfl
    exact M5.row e
   refine ⟨_,rfl,_,rfl,_,rfl,c,_,rfl,aV.of M5.1,fun p6 n6=>?_⟩
   have t6:=aH n6 (.lst (fK (cs.map V.ref) none (some (m:Int))))
   refine ⟨p6,rfl,⟨_,aV.of ak⟩,fun D6 nD6=>?_⟩
   have lcl:((ws.map (·.1)).map fun l=>l.getD 0 0).length<=100:=by simp;omega
   refine pj (cap:=[]) (K:=K) (a:=p6) (xs:=(cs.map V.ref).take m) (fun k v H=>∃p,v=.ref p/\p≠D6/\H p=some (.lst ((List.map (fun l:List Int=>l.getD k 0) (ws.map (fun w:Wl=>w.1))++[(0:Int)]).map V.int))) nD6 (aap (show ((cs.map V.ref).take m).length<=1000 by simp;omega) (by decide)) (fun H7 s7=>aV.of (s7 _ _ (by rw [ak,oj (by simp;omega)]))) ?_ ?_ ?_
   ·rintro k v H7 H8 ys hD ks ⟨p,e1,e2,e3⟩
    exact ⟨p,e1,e2,ks _ _ e2 e3⟩
   ·rintro k x H7 RR ex s7 ⟨ys0,FU⟩ kk
    have hk:k<m:=by have:=(ir.mp ex).1;simp at this;omega
    obtain ⟨l,el,hl⟩:=col k (by omega)
    rw [List.getElem?_take,aek hk,aag,el] at ex
    cases ex
    refine ⟨_,rfl,z1L,fun pz nz=>?_⟩
    have tz:=aH nz (.lst [.int 0])
    refine ⟨l,pz,_,_,rfl,rfl,tz _ _ (s7 _ _ (t6 _ _ hl)),ak,aak (show _<=1000 by simp;omega) (by decide),fun pn nn=>?_⟩
    have tn:=aH nn (.lst (((ws.map (·.1)).map fun l=>l.getD k 0).map V.int++[.int 0]))
    refine kk _ _ (tz.trans tn) ⟨pn,rfl,fun z=>?_,by rw [ak,aax];rfl⟩
    have:=tz _ _ FU
    rw [z,this] at nn
    cases nn
   intro Mm H7 hy6 Vn s7 hD6
   have ly6:Mm.length=m:=by rw [hy6];simp;omega
   have t67:=t6.trans s7
   obtain ⟨lm,elm,acE⟩:=col m (by omega)
   refine ⟨_,rfl,_,rfl,c,_,_,_,rfl,rfl,aV.of (t67 _ _ M5.1),bP (by rw [aag,elm];rfl),z1L,fun pz nz=>?_⟩
   have tz:=aH nz (.lst [.int 1])
   refine ⟨lm,pz,_,_,rfl,rfl,tz _ _ (t67 _ _ acE),ak,aak (show _<=1000 by simp;omega) (by decide),fun pn nn=>?_⟩
   have tn:=aH nn (.lst (((ws.map (·.1)).map fun l=>l.getD m 0).map V.int++[.int 1]))
   refine ⟨z1L,fun pL nL=>?_⟩
   have tL:=aH nL (.lst [V.ref pn])
   have tzL:=(tz.trans tn).trans tL
   refine ⟨D6,pL,Mm,_,rfl,rfl,tzL _ _ hD6,ak,aak (show Mm.length+1<=1000 by omega) (by decide),fun pP nP=>?_⟩
   have tP:=aH nP (.lst (Mm++[V.ref pn]))
   have s7P:=tzL.trans tP
   have hpn:=tP _ _ (tL _ _ (ak (H:=upd H7 pz (.lst [.int 1])) (a:=pn) (o:=.lst (((ws.map (·.1)).map fun l=>l.getD m 0).map V.int++[.int 1]))))
   have eP:upd (upd (upd (upd H7 pz (.lst [.int 1])) pn (.lst (((ws.map (·.1)).map fun l=>l.getD m 0).map V.int++[.int 1]))) pL (.lst [V.ref pn])) pP (.lst (Mm++[V.ref pn])) pP=some (.lst (Mm++[V.ref pn])):=ak
   have acF:∀(k:Nat)(v:V),Mm[k]?=some v->Ln H7 v (((ws.map (·.1)).map fun l=>l.getD k 0)++[0]):=fun k v e=>by
    obtain ⟨p,e1,_,e3⟩:=Vn k v e
    exact ⟨p,e1,e3⟩
   have s5P:=t67.trans s7P
   generalize upd (upd (upd (upd H7 pz (.lst [.int 1])) pn (.lst (((ws.map (·.1)).map fun l=>l.getD m 0).map V.int++[.int 1]))) pL (.lst [V.ref pn])) pP (.lst (Mm++[V.ref pn]))=H9 at*
   have acG:qY H9 (Mm++[V.ref pn]) (xH m (ws.map (·.1))):=by
    refine ⟨by simp [xH,ly6],fun k u l e1 e2=>?_⟩
    unfold xH at e2
    by_cases hk:k<m
    ·rw [aar (by omega)] at e1
     rw [aar (by simpa using hk),aag,aj6 hk] at e2
     cases e2
     exact (acF k u e1).same s7P
    ·rw [aav (by omega)] at e1
     rw [aav (by simp;omega)] at e2
     by_cases hkm:k=m
     ·subst hkm
      rw [show k-Mm.length=0 by omega] at e1
      rw [show k-((abb k).map fun j=>((ws.map (·.1)).map fun l=>l.getD j 0)++[0]).length=0 by simp] at e2
      cases e1
      cases e2
      exact ⟨pn,rfl,by rw [hpn,aax];rfl⟩
     ·rw [aam (by simp;omega)] at e1
      cases e1
   have ppl:∀o∈xH m (ws.map (·.1)),o.length=gj.length+1:=fun o ho=>by
    rcases uJ ho with ⟨k,hk,e⟩
    rw [e.1]
    simp [NQ]
   have ppb:∀o∈xH m (ws.map (·.1)),Bd (T+B*(m+1)) o:=fun o ho=>by
    rcases uJ ho with ⟨k,hk,e,hc⟩
    rw [e]
    refine Bd.of fun t ht=>?_
    rcases aau.mp ht with z|z
    ·obtain ⟨l,hl,rfl⟩:=aai.mp z
     exact wbd l hl k
    ·rw [aao.mp z]
     refine aak ?_ (ac1 (n:=T+B*(m+1)))
     split<;>decide
   have lpp:(xH m (ws.map (·.1))).length=m+1:=by simp [xH]
   have mn2:bb (T+B*(m+1)) (min gj.length (xH m (ws.map (·.1))).length)<=Z:=aak (uH _ (by rw [lpp];omega)) hZ
   have s39:=(s4.trans s5).trans s5P
   refine ⟨_,rfl,_,rfl,D2,_,rfl,.inl (aV.of (s39 _ _ hD2)),pP,_,xH m (ws.map (·.1)),gj.length,T+B*(m+1),by simp [NQ],aV.of eP,acG,ppl,by omega,by omega,ppb,aak mn2 hZ1,fun l1 Pe ye l1l cm1 l10 l1m=>?_,fun x2 Kw ss Pe ye nx2 hx2 nss lss sss acJ=>?_⟩
   ·exact aet (yI NR NQ cm l00 l0m cm1 l1l l10 ppl) l1m
   have csm:∀k,k<m+1->d6 (ss.map vl) (ws.map (·.1)) k=if k=m then 1 else 0:=fun k hk=>by
    have e:=acJ _ (RD hk)
    rw [ym k _ (ws.map (·.1)) (ss.map vl) (by simp [NQ,lss])] at e
    by_cases z:k=m
    ·rw [aek z] at e ⊢
     have e':((1:Int):Rat)=1:=by simp
     rw [e'] at e
     grind
    ·rw [aej z] at e ⊢
     have e':((0:Int):Rat)=0:=by simp
     rw [e'] at e
     grind
   have RE:=s39.trans ye
   have Vo:=RE _ _ (s3 _ _ hD1)
   have awk:=nss.1
   refine ⟨_,rfl,_,rfl,x2,D1,rfl,⟨_,aV.of hx2⟩,⟨_,aV.of Vo⟩,fun D9 n9=>?_⟩
   refine v7 (cap:=[]) (K:=K) (xs:=Kw) (ys:=ws.map (fun w=>V.ref w.2.2.2)) (fun k v H=>∃w q,ws[k]?=some w/\ss[k]?=some q/\Nm H v (low (q.1*w.2.1) q.2)) n9 (aap (show Kw.length<=1000 by omega) (by decide)) (by rw [aah];omega) (fun SR JC=>aV.of (JC _ _ hx2)) (fun SR JC=>aV.of (JC _ _ Vo)) ?_ ?_ ?_
   ·rintro k v SR H12 ys hD ks ⟨w,q,e1,e2,e3⟩
    exact ⟨w,q,e1,e2,e3.kept hD ks⟩
   ·intro k x y SR RR ex ey JC kk
    obtain ⟨q,RF,ps,rfl,hps⟩:=nss.at ex
    rw [aag] at ey
    obtain ⟨w,ew,rfl⟩:=aaw.mp ey
    obtain ⟨qs,d,eqs,Vp,wh,wb,wbs,_⟩:=wp k w ew
    have sq:=sss q (Wp RF)
    have hw1:=JC _ _ (RE _ _ (s3 _ _ (S5 k w ew).1))
    have Vq:=Ty.au.bI JC hps
    exact ⟨_,rfl,ps,_,_,_,rfl,rfl,Vq,iC,_,rfl,w.2.2.2,_,_,_,rfl,rfl,bJ.of hw1,iD,_,_,rfl,rfl,gI (ph sq.top mn2) wbs (by omega),_,rfl,ps,_,_,_,rfl,rfl,Vq,iD,_,_,rfl,by have:=sq.pos;omega,fun p8 H8 s8 e8=>kk _ _ s8 ⟨w,q,ew,RF,p8,rfl,e8⟩⟩
   intro us9 SR h9 Vr JC hD9
   refine ⟨z2L,fun p12 S6=>?_⟩
   have yz:=aH S6 (.tup [.str "paper",.ref D9])
   have yat:∀(k:Nat)(w:Wl)(q:Int×Int),ws[k]?=some w->ss[k]?=some q->(aa5 (fun (w:Wl) (q:Int×Int)=>low (q.1*w.2.1) q.2) ws ss)[k]?=some (low (q.1*w.2.1) q.2):=fun k w q e1 e2=>by rw [aca,e1,e2]
   have KC:(aa5 (fun (w:Wl) (q:Int×Int)=>low (q.1*w.2.1) q.2) ws ss).length=gj.length:=by simp [NQ,lss]
   have vly:∀(k:Nat)(w:Wl)(q y:Int×Int),ws[k]?=some w->ss[k]?=some q->(aa5 (fun (w:Wl) (q:Int×Int)=>low (q.1*w.2.1) q.2) ws ss)[k]?=some y->vl y=vl q*w.2.1:=fun k w q y e1 e2 e3=>by
    rw [yat k w q e1 e2] at e3
    cases e3
    have sq:=sss q (Wp e2)
    rw [um (by have:=sq.pos;omega)]
    unfold vl
    push_cast
    grind
   refine q2 p12 D9 us9 (aa5 (fun (w:Wl) (q:Int×Int)=>low (q.1*w.2.1) q.2) ws ss) _ (((s23.trans RE).trans JC).trans yz) ak (yz _ _ hD9) ⟨by rw [h9,KC];omega,fun k u y e1 e2=>?_⟩ KC (fun y hy=>?_) (fun j hj=>?_) ?_
   ·obtain ⟨w,q,ew,RF,p,e,hp⟩:=Vr k u e1
    rw [yat k w q ew RF] at e2
    cases e2
    exact ⟨p,e,bJ.of (yz _ _ hp)⟩
   ·obtain ⟨k,hk⟩:=aaq hy
    have hkl:k<gj.length:=by rw [<-KC];exact (ir.mp hk).1
    obtain ⟨w,ew⟩:∃w,ws[k]?=some w:=⟨_,gE (by omega)⟩
    obtain ⟨q,RF⟩:∃q,ss[k]?=some q:=⟨_,gE (by omega)⟩
    rw [yat k w q ew RF] at hk
    cases hk
    obtain ⟨qs,d,eqs,Vp,wh,wb,wbs,_⟩:=wp k w ew
    have sq:=sss q (Wp RF)
    exact AQ (by have:=sq.pos;omega) (uo (ph sq.top mn2) wbs) (ph sq.bot mn2)
   ·rw [pZ j (ws:=ws) (ss:=ss) (by omega) (by rw [KC,NQ]) (by simp [Kz,NQ]) vly ?_,csm j (by omega),aej (by omega)]
    intro k w cq ew ec
    obtain ⟨qs,d,eqs,Vp,wh,_⟩:=wp k w ew
    unfold Kz at ec
    rw [aag,eqs] at ec
    cases ec
    exact FY wh (by rw [(sh qs (Wp eqs)).1];exact hj)
   ·rw [pZ m (ws:=ws) (ss:=ss) (by omega) (by rw [KC,NQ]) (by omega) vly ?_,csm m (by omega),aek rfl]
    intro k w cq ew ec
    obtain ⟨qs,d,eqs,Vp,wh,_⟩:=wp k w ew
    rw [ec] at Vp
    cases Vp
    exact yJ wh (sh qs (Wp eqs)).1
  ·refine ⟨_,rfl,rfl,_,rfl,bg (fun _=>?_) (fun z=>by simp at z)⟩
   refine ⟨_,rfl,z2L,fun p5 n5=>?_⟩
   have s5:=aH n5 (.tup [.str "solved",.ref x])
   refine q1 p5 x eK xs _ ((s23.trans s4).trans s5) ak (s5 _ _ hx) (nxs.same s5) lxs (fun q hq=>(sxs q hq).up mn mn) (fun i qs d eq ed=>?_)
   have hi:i<gj.length:=(ir.mp eq).1
   obtain ⟨w,ew⟩:∃w,ws[i]?=some w:=⟨_,gE (by omega)⟩
   obtain ⟨wh,wb,_⟩:=(S5 i w ew).2.2 qs d eq ed
   have e0:=sol w.1 (aai.mpr ⟨w,Wp ew,rfl⟩)
   rw [wz wh (by rw [lxs,(sh qs (Wp eq)).1])] at e0
   have wb':=cR (b:=w.2.1) (by omega)
   grind
inductive yK (K:Frag)(f:Int×Int->Int×Int->Int×Int)(vs:ε)(H:Hp)(Q:VK)(E_:XK):Prop
|mk (u v:V)(x y:Int×Int)(_:vs=[u,v])(_:mT K H u x)(_:mT K H v y)(_:U3 100000 x)(_:U3 100000 y)(_:gives H Q (f x y))
theorem Vs:aC zah zah (ae yD):=sq
theorem Vt (hM:vX CX)(D:Def K mg "difference_of" yD zah)(Kv:Fn P w K mg base CX 33 "lowest_terms" zaH gM):Fn P w K mg base CX 34 "difference_of" zah (yK K subQ):=by
 refine D.op Vs fun f cp A outer s H vs Q E hr h=>?_
 obtain ⟨u,v,x,y,rfl,⟨p1,rfl,h1⟩,⟨p2,rfl,h2⟩,k1,k2,q⟩:=h
 have px:=oU (X:=j_ CX P w K mg base zah "difference_of" (ae yD) f cp A outer s H E) hM
 refine ⟨_,(ah (aE (oV Kv hr.mo px (aL (aJ dj (aJ cV (aF (pv 0)) (aF (pv 1))) (aJ cV (aF (pv 1)) (aF (pv 0)))) (aJ cV (aF (pv 0)) (aF (pv 1))))))),?_⟩
 have b1:=k1.top
 have b2:=k1.bot
 have b3:=k2.top
 have b4:=k2.bot
 have c:∀{i j:Int},intBits i<=100000->intBits j<=100000->vU i j:=fun a b=>⟨aak a (by decide),aak b (by decide)⟩
 exact ⟨_,rfl,p1,_,_,_,rfl,rfl,h1,iC,_,rfl,p2,_,_,_,rfl,rfl,h2,iD,_,_,rfl,rfl,c b1 b4,_,rfl,p2,_,_,_,rfl,rfl,h2,iC,_,rfl,p1,_,_,_,rfl,rfl,h1,iD,_,_,rfl,rfl,c b3 b2,_,_,rfl,rfl,_,rfl,p1,_,_,_,rfl,rfl,h1,iD,_,rfl,p2,_,_,_,rfl,rfl,h2,iD,_,_,rfl,rfl,c b2 b4,_,_,rfl,NH k1 k2,q⟩
inductive yL (K:Frag)(f:Rat->Rat->Rat)(vs:ε)(H:Hp)(Q:VK)(E_:XK):Prop
|mk (u v:V)(x y:Rat)(_:vs=[u,v])(_:fN K H u x)(_:fN K H v y)(_:Sz 100000 x)(_:Sz 100000 y)(_:gives H Q (qr (f x y)))
theorem KD (h:Sz k r):U3 k (qr r):=⟨cD r,h.top,h.bot⟩
theorem RG (F:Fn P w K mg base CX k x ps (yK K subQ)):Fn P w K mg base CX k x ps (yL K fun a b=>a-b):=by
 obtain ⟨f,fd,G,r⟩:=F.ex
 refine ⟨f,fd,G.imp fun vs H Q E h=>?_,r⟩
 obtain ⟨u,v,a,b,e,h1,h2,k1,k2,q⟩:=h
 refine ⟨u,v,qr a,qr b,e,h1,h2,KD k1,KD k2,?_⟩
 unfold subQ
 rw [J']
 exact q
def KG (K:Frag)(H:Hp)(Q:VK)(p:Rat×Rat):Prop:=∀(v:V)(H':Hp),au H H' ->eG K H' v p->Q v H'
inductive yM (K:Frag)(f:Rat->Rat->Rat)(vs:ε)(H:Hp)(Q:VK)(E_:XK):Prop
|mk (u v:V)(x y:Rat×Rat)(_:vs=[u,v])(_:eG K H u x)(_:eG K H v y)(_:Sz 100000 x.1)(_:Sz 100000 x.2)(_:Sz 100000 y.1)(_:Sz 100000 y.2)(_:KG K H Q (f x.1 y.1,f x.2 y.2))
theorem Vu:aC zah zah (ae yE):=sq
theorem Vv (hM:vX CX)(D:Def K mg "pair_difference" yE zah)(Vw:Fn P w K mg base CX 34 "difference_of" zah (yL K fun a b=>a-b)):Fn P w K mg base CX 35 "pair_difference" zah (yM K fun a b=>a-b):=by
 refine D.op Vu fun f cp A outer s H vs Q E hr h=>?_
 obtain ⟨u,v,x,y,rfl,⟨p1,a1,a2,rfl,h1,n1,n2⟩,⟨p2,b1,b2,rfl,h2,m1,m2⟩,k1,k2,l1,l2,q⟩:=h
 have px:=oU (X:=(j_ (aY P w) P w K mg base zah "pair_difference" (ae yE) f cp A outer s H E)) hM
 refine ⟨_,(ah (aE (aU (aL (oV Vw hr.mo px (aL (aF (pv 0)) (aF (pv 1)))) (oV Vw hr.mo px (aL (aF (pv 0)) (aF (pv 1)))))))),_,rfl,p1,_,_,_,rfl,rfl,h1,iC,_,rfl,p2,_,_,_,rfl,rfl,h2,iC,a1,b1,_,_,rfl,n1,m1,k1,l1,fun c1 H1 s1 e1=>?_⟩
 refine ⟨_,rfl,p1,_,_,_,rfl,rfl,Ty.au.bI s1 h1,iD,_,rfl,p2,_,_,_,rfl,rfl,Ty.au.bI s1 h2,iD,a2,b2,_,_,rfl,n2.same s1,m2.same s1,k2,l2,fun c2 H2 s2 e2=>?_⟩
 refine ⟨z2L,fun c3 n3=>?_⟩
 have s3:=aH n3 (.tup [.ref c1,.ref c2])
 exact q (.ref c3) _ (fun b o z=>s3 _ _ (s2 _ _ (s1 _ _ z))) ⟨c3,_,_,rfl,bJ.of ak,⟨c1,rfl,bJ.of (s3 _ _ (s2 _ _ e1))⟩,⟨c2,rfl,bJ.of (s3 _ _ e2)⟩⟩
inductive uL (K:Frag)(C:aef)(vs:ε)(H:Hp)(Q:VK)(E_:XK):Prop
|mk (a dx:aef)(_:vs=[.ref a])(_:H a=some (.ins C dx []))(_:∀(pP pW pB:aef)(H':Hp),bQ a H H' ->H pP=none->H pW=none->H pB=none->dP K H' C a dx pP pW pB [] [] [] [] []->Q .cg H')
theorem NS :dZ "pin_places" x []=([("pin_places",x)]:List (Str×V)):=rfl
theorem NT :dZ "pin_ways" y [("pin_places",x)]=([("pin_places",x),("pin_ways",y)]:List (Str×V)):=by
 simp only [dZ]
 rw [aej (by decide)]
theorem NU :dZ "bar_ends" z [("pin_places",x),("pin_ways",y)]=([("pin_places",x),("pin_ways",y),("bar_ends",z)]:List (Str×V)):=by
 simp only [dZ]
 rw [aej (by decide),aej (by decide)]
theorem Vx:aC zaj zaj (ae FF):=sq
theorem Vy (F:nG K "__init__" "Frame.__init__" FF f fd)(fc:DF K C):cO P w K mg base (aY P w) 1 f fd zaj (uL K C):=by
 refine fe F Vx fun H hr h=>?_
 obtain ⟨a,dx,rfl,ha,q⟩:=h
 refine ⟨_,(aa (tJ (pv 0) fZ rfl)
  (aa (tJ (pv 0) fZ rfl)
  (ah (tJ (pv 0) fZ rfl)))),?_⟩
 intro pP nP
 have aP:a≠pP:=aq ha nP
 refine ⟨_,rfl,a,C,dx,_,rfl,(by rw [ao aP];exact ha),fc.cls,fc.pl,(by show 0<1000;decide),?_⟩
 rw [NS]
 generalize e1:upd (upd H pP (.dK [])) a (.ins C dx [("pin_places",.ref pP)])=H1
 have o1:H1 a=some (.ins C dx [("pin_places",.ref pP)]):=by rw [<-e1,ak]
 have p1:H1 pP=some (.dK []):=by rw [<-e1,ao (aaD aP),ak]
 have k1:∀b o,b≠a->H b=some o->H1 b=some o:=fun b o n e=>by rw [<-e1,ao n,ao (aq e nP)];exact e
 intro pW nW
 have aW:a≠pW:=aq o1 nW
 refine ⟨_,rfl,a,C,dx,_,rfl,(by rw [ao aW];exact o1),fc.cls,fc.wy,(by show 1<1000;decide),?_⟩
 rw [NT]
 generalize e2:upd (upd H1 pW (.dK [])) a (.ins C dx [("pin_places",.ref pP),("pin_ways",.ref pW)])=H2
 have PW:pP≠pW:=aq p1 nW
 have o2:H2 a=some (.ins C dx [("pin_places",.ref pP),("pin_ways",.ref pW)]):=by rw [<-e2,ak]
 have w2:H2 pW=some (.dK []):=by rw [<-e2,ao (aaD aW),ak]
 have k2:∀b o,b≠a->H1 b=some o->H2 b=some o:=fun b o n e=>by rw [<-e2,ao n,ao (aq e nW)];exact e
 intro pB nB
 have aB:a≠pB:=aq o2 nB
 have p2:=k2 _ _ (aaD aP) p1
 refine ⟨_,rfl,a,C,dx,_,rfl,(by rw [ao aB];exact o2),fc.cls,fc.br,(by show 2<1000;decide),?_⟩
 rw [NU]
 have PB:pP≠pB:=aq p2 nB
 have WB:pW≠pB:=aq w2 nB
 have k3:∀b o,b≠a->H2 b=some o->(upd (upd H2 pB (.dK [])) a (.ins C dx [("pin_places",.ref pP),("pin_ways",.ref pW),("bar_ends",.ref pB)])) b=some o:=fun b o n e=>by rw [ao n,ao (aq e nB)];exact e
 have f1:∀b,b≠a->H1 b=none->H b=none:=fun b n e=>by
  cases z:H b with
  | none=>rfl
  | some o=>rw [k1 b o n z] at e;cases e
 have f2:∀b,b≠a->H2 b=none->H b=none:=fun b n e=>by
  cases z:H b with
  | none=>rfl
  | some o=>rw [k2 b o n (k1 b o n z)] at e;cases e
 refine q pP pW pB _ (fun b o n e=>k3 b o n (k2 b o n (k1 b o n e))) nP (f1 _ (aaD aW) nW) (f2 _ (aaD aB) nB) ⟨ak,k3 _ _ (aaD aP) p2,k3 _ _ (aaD aW) w2,?_,PW,PB,WB,.nil,.nil⟩
 rw [ao (aaD aB),ak]
inductive qa (K:Frag)(C:aef)(vs:ε)(H:Hp)(Q:VK)(E_:XK):Prop
|mk (a dx pP pW pB:aef)(ps:Ε)(bs:ω)(kP kW kB:γ)(_:vs=[.ref a])(_:dP K H C a dx pP pW pB ps bs kP kW kB)(_:∀(l:aef)(H':Hp),au H H' ->H l=none->H' l=some (.lst ((bs.map (·.1)).map V.str))->Q (.ref l) H')
theorem Vz:aC zaj zaj (ae FL):=sq
theorem VA (F:nG K "bars" "Frame.bars" FL f fd)(fc:DF K C)(b7:mg "list"=none):cO P w K mg base (aY P w) 1 f fd zaj (qa K C):=by
 refine fe F Vz fun H hr h=>?_
 obtain ⟨a,dx,pP,pW,pB,ps,bs,kP,kW,kB,rfl,R,q⟩:=h
 refine ⟨_,(ah (aE (b_ (e_ rfl) rfl b7 gY (aS (cJ (pv 0) rfl))))),_,rfl,a,C,dx,_,_,rfl,R.obj,fc.cls,fc.br,rfl,pB,kB,rfl,.inl R.br,fun l nl=>?_⟩
 refine q l _ (aH nl _) nl ?_
 rw [ak]
 have e:kB.map (fun kv=>kV kv.1)=(bs.map (·.1)).map V.str:=by
  have z:kB.map (fun kv=>kV kv.1)=(kB.map (·.1)).map kV:=by rw [aay];rfl
  rw [z,R.kC,aay]
  rfl
 rw [e]
inductive g9 (K:Frag)(C:aef)(vs:ε)(H:Hp)(Q:VK)(E_:XK):Prop
|mk (a dx pP pW pB:aef)(ps:Ε)(bs:ω)(kP kW kB:γ)(_:vs=[.ref a])(_:dP K H C a dx pP pW pB ps bs kP kW kB)(_:∀(l:aef)(H':Hp),au H H' ->H l=none->H' l=some (.lst ((ps.map (·.1)).map V.str))->Q (.ref l) H')
theorem VB:aC zaj zaj (ae FK):=sq
theorem VC (F:nG K "pins" "Frame.pins" FK f fd)(fc:DF K C)(b7:mg "list"=none):cO P w K mg base (aY P w) 1 f fd zaj (g9 K C):=by
 refine fe F VB fun H hr h=>?_
 obtain ⟨a,dx,pP,pW,pB,ps,bs,kP,kW,kB,rfl,R,q⟩:=h
 refine ⟨_,(ah (aE (b_ (e_ rfl) rfl b7 gY (aS (cJ (pv 0) rfl))))),_,rfl,a,C,dx,_,_,rfl,R.obj,fc.cls,fc.pl,rfl,pP,kP,rfl,.inl R.pl,fun l nl=>?_⟩
 refine q l _ (aH nl _) nl ?_
 rw [ak]
 have e:kP.map (fun kv=>kV kv.1)=(ps.map (·.1)).map V.str:=by
  have z:kP.map (fun kv=>kV kv.1)=(kP.map (·.1)).map kV:=by rw [aay];rfl
  rw [z,R.wB,aay]
  rfl
 rw [e]
inductive dQ (K:Frag)(C:aef)(vs:ε)(H:Hp)(Q:VK)(E_:XK):Prop
|mk (a dx pP pW pB:aef)(ps:Ε)(bs:ω)(kP kW kB:γ)(x:Str)(_:vs=[.ref a,.str x])(_:dP K H C a dx pP pW pB ps bs kP kW kB)(_:x∈ps.map (·.1))(_:Q .cg H)
theorem VD:aC zap zap (ae FI):=sq
theorem VE (F:nG K "check_pin" "Frame.check_pin" FI f fd)(fc:DF K C):cO P w K mg base (aY P w) 1 f fd zap (dQ K C):=by
 refine fe F VD fun H hr h=>?_
 obtain ⟨a,dx,pP,pW,pB,ps,bs,kP,kW,kB,x,rfl,R,hx,q⟩:=h
 refine ⟨_,(ah (bh (lG (lY (b6 hr) (pv 1) (cJ (pv 0) rfl))) (ah (cY)) aI)),_,rfl,_,rfl,a,C,dx,_,_,rfl,R.obj,fc.cls,fc.pl,rfl,pP,_,rfl,dm.k (k:=.inr x) R.pl,_,rfl,?_⟩
 rw [R.pin x,aeD hx]
 exact q
inductive om (K:Frag)(C:aef)(vs:ε)(H:Hp)(Q:VK)(E_:XK):Prop
|mk (a dx pP pW pB:aef)(ps:Ε)(bs:ω)(kP kW kB:γ)(x:Str)(p:Pt)(_:vs=[.ref a,.str x])(_:dP K H C a dx pP pW pB ps bs kP kW kB)(_:(ps.map (·.1)).Nodup)(_:(x,p)∈ps)(_:∀v,Spot K H v p->Q v H)
theorem VF:aC zap zap (ae FN):=sq
theorem VG (F:nG K "place" "Frame.place" FN f fd)(fc:DF K C)(MC:bH P w K mg base (aY P w) 1 C "check_pin" zap (dQ K C)):cO P w K mg base (aY P w) 2 f fd zap (om K C):=by
 refine fe F VF fun H hr h=>?_
 obtain ⟨a,dx,pP,pW,pB,ps,bs,kP,kW,kB,x,p,rfl,R,nd,hx,q⟩:=h
 refine ⟨_,(aa (bq (cW (k:=1) (pv 0) hr.mo (wO P w) (aS (pv 1))))
  (ah (aE (cv (b6 hr) (cJ (pv 0) rfl) (pv 1) (fun _ _=>rfl))))),?_⟩
 refine ⟨_,rfl,a,C,dx,_,_,_,rfl,R.obj,rfl,MC,_,rfl,a,dx,pP,pW,pB,ps,bs,kP,kW,kB,x,rfl,R,aai.mpr ⟨_,hx,rfl⟩,?_⟩
 obtain ⟨v,ev,hv⟩:=R.place nd hx
 exact ⟨_,rfl,a,C,dx,_,_,rfl,R.obj,fc.cls,fc.pl,rfl,_,rfl,pP,v,rfl,(by rw [<-ev];exact dm.k (k:=.inr x) R.pl),q v hv⟩
inductive uM (K:Frag)(C:aef)(vs:ε)(H:Hp)(Q:VK)(E_:XK):Prop
|mk (a dx pP pW pB:aef)(ps:Ε)(bs:ω)(kP kW kB:γ)(x one other:Str)(_:vs=[.ref a,.str x])(_:dP K H C a dx pP pW pB ps bs kP kW kB)(_:(bs.map (·.1)).Nodup)(_:(x,one,other)∈bs)(_:∀p,Rd H p (.tup [.str one,.str other])->Q (.ref p) H)
theorem VH:aC zaV zaV (ae FP):=sq
theorem VI (F:nG K "ends" "Frame.ends" FP f fd)(fc:DF K C):cO P w K mg base (aY P w) 1 f fd zaV (uM K C):=by
 refine fe F VH fun H hr h=>?_
 obtain ⟨a,dx,pP,pW,pB,ps,bs,kP,kW,kB,x,one,other,rfl,R,nd,hx,q⟩:=h
 refine ⟨_,(aa (bh (lG (lY (b6 hr) (pv 1) (cJ (pv 0) rfl))) (ah (cY)) aI)
  (ah (aE (cv (b6 hr) (cJ (pv 0) rfl) (pv 1) (fun _ _=>rfl))))),?_⟩
 have hm:x∈bs.map (·.1):=aai.mpr ⟨_,hx,rfl⟩
 refine ⟨_,rfl,_,rfl,a,C,dx,_,_,rfl,R.obj,fc.cls,fc.br,rfl,pB,_,rfl,dm.k (k:=.inr x) R.br,_,rfl,?_⟩
 rw [R.bar x,aeD hm]
 obtain ⟨p,ev,hv⟩:=R.ends nd hx
 exact ⟨_,rfl,a,C,dx,_,_,rfl,R.obj,fc.cls,fc.br,rfl,_,rfl,pB,.ref p,rfl,(by rw [<-ev];exact dm.k (k:=.inr x) R.br),q p hv⟩
inductive qb (K:Frag)(C:aef)(vs:ε)(H:Hp)(Q:VK)(E_:XK):Prop
|mk (a dx pP pW pB:aef)(ps:Ε)(bs:ω)(kP kW kB:γ)(pw:Η)(x:Str)(ws:υ)(_:vs=[.ref a,.str x])(_:dP K H C a dx pP pW pB ps bs kP kW kB)(_:pR K H pw kW)(_:(pw.map (·.1)).Nodup)(_:(x,ws)∈pw)(_:x∈ps.map (·.1))(_:∀(l:aef)(us:ε)(H':Hp),au H H' ->H l=none->H' l=some (.lst us)->iB K H' us ws->Q (.ref l) H')
theorem VJ:aC zap zap (ae FO):=sq
theorem VL (F:nG K "ways" "Frame.ways" FO f fd)(fc:DF K C)(b7:mg "list"=none)(MC:bH P w K mg base (aY P w) 1 C "check_pin" zap (dQ K C)):cO P w K mg base (aY P w) 2 f fd zap (qb K C):=by
 refine fe F VJ fun H hr h=>?_
 obtain ⟨a,dx,pP,pW,pB,ps,bs,kP,kW,kB,pw,x,ws,rfl,R,W,nd,hx,hp,q⟩:=h
 refine ⟨_,(aa (bq (cW (k:=1) (pv 0) hr.mo (wO P w) (aS (pv 1))))
  (ah (aE (b_ oZ rfl b7 gY (aS (cv (b6 hr) (cJ (pv 0) rfl) (pv 1) (fun _ _=>rfl))))))),?_⟩
 refine ⟨_,rfl,a,C,dx,_,_,_,rfl,R.obj,rfl,MC,_,rfl,a,dx,pP,pW,pB,ps,bs,kP,kW,kB,x,rfl,R,hp,?_⟩
 obtain ⟨v,ev,l,us,el,hl,pt⟩:=jN W nd hx
 have el':v=.ref l:=el
 subst el'
 exact ⟨_,rfl,a,C,dx,_,_,rfl,R.obj,fc.cls,fc.wy,rfl,_,rfl,pW,.ref l,rfl,(by rw [<-ev];exact dm.k (k:=.inr x) R.wy),l,us,rfl,aV.of hl,fun l2 n2=>q l2 us _ (aH n2 _) n2 ak (pt.same (aH n2 _))⟩
def RH (K:Frag)(H:Hp)(Q:VK)(ws:υ):Prop:=∀(l:aef)(us:ε)(H':Hp),au H H' ->H l=none->H' l=some (.lst us)->iB K H' us ws->Q (.ref l) H'
theorem uN (h:(qr x).1=0):x=0:=by
 have:=fB x
 unfold vl at this
 rw [h] at this
 have z:=uz (r:=x)
 have e:((0:Int):Rat)=0:=by rfl
 rw [e] at this
 grind
inductive oq (K:Frag)(C:aef)(vs:ε)(H:Hp)(Q:VK)(E_:XK):Prop
|mk (a dx:aef)(ux uy:V)(x y:Rat)(_:vs=[.ref a,ux,uy])(_:H a=some (.ins C dx []))(_:fN K H ux x)(_:fN K H uy y)(_:¬ (x=0/\y=0))(_:∀p,H p=none->Q .cg (upd (upd H p (.tup [ux,uy])) a (.ins C dx [("way",.ref p)])))
theorem VM:aC zaC zaC (ae FQ):=sq
theorem VN (F:nG K "__init__" "Roller.__init__" FQ f fd)(cl:vK K C)(nw:fV K C "way"):cO P w K mg base (aY P w) 1 f fd zaC (oq K C):=by
 refine fe F VM fun H hr h=>?_
 obtain ⟨a,dx,ux,uy,x,y,rfl,ha,⟨p1,rfl,h1⟩,⟨p2,rfl,h2⟩,nz,q⟩:=h
 have sz:(2:Nat)<=ael:=by decide
 refine ⟨_,(aa (bh (PW.pt (oG (bB dq (aF (pv 1)) ag) (j7 (bB dq (aF (pv 2)) ag)))) (ah (cY)) aI)
  (ah (tJ (pv 0) (aU (aL (pv 1) (pv 2))) rfl))),?_⟩
 refine ⟨_,rfl,p1,_,_,_,rfl,rfl,h1,iC,rfl,_,rfl,?_⟩
 refine bg (fun c1=>?_) (fun c1=>?_)
 ·have e1:(qr x).1=0:=by simpa using aeJ c1
  refine ⟨_,rfl,p2,_,_,_,rfl,rfl,h2,iC,rfl,_,rfl,?_⟩
  refine bg (fun c2=>?_) (fun c2=>?_)
  ·have e2:(qr y).1=0:=by simpa using aeJ c2
   exact aet ⟨uN e1,uN e2⟩ nz
  ·exact ⟨_,rfl,_,rfl,sz,fun p hp=>⟨_,rfl,a,C,dx,[],rfl,(by rw [ao (aq ha hp)];exact ha),cl,nw,(by show 0<1000;decide),q p hp⟩⟩
 ·refine QT ?_
  exact ⟨_,rfl,_,rfl,sz,fun p hp=>⟨_,rfl,a,C,dx,[],rfl,(by rw [ao (aq ha hp)];exact ha),cl,nw,(by show 0<1000;decide),q p hp⟩⟩
inductive g_ (K:Frag)(C:aef)(vs:ε)(H:Hp)(Q:VK)(E_:XK):Prop
|mk (a dx p:aef)(w:Rat×Rat)(_:vs=[.ref a])(_:H a=some (.ins C dx [("way",.ref p)]))(_:eG K H (.ref p) w)(_:RH K H Q [w])
theorem VO:aC zaj zaj (ae FR):=sq
theorem VP (F:nG K "ways" "Roller.ways" FR f fd)(cl:vK K C)(nw:fV K C "way"):cO P w K mg base (aY P w) 1 f fd zaj (g_ K C):=by
 refine fe F VO fun H hr h=>?_
 obtain ⟨a,dx,p,w,rfl,ha,hw,q⟩:=h
 refine ⟨_,(ah (aE (bV (aS (cJ (pv 0) rfl))))),_,rfl,a,C,dx,_,.ref p,rfl,ha,cl,nw,(by simp),z1L,fun l hl=>?_⟩
 exact q l [.ref p] _ (aH hl _) hl ak (.cons (hw.same (aH hl _)) .nil)
inductive hV (K:Frag)(vs:ε)(H:Hp)(Q:VK)(E_:XK):Prop
|mk (a:aef)(_:vs=[.ref a])(_:RH K H Q [(1,0),(0,1)])
theorem uO:qr 1=(1,1):=by
 have:=pQ 1
 simpa using this
theorem c_:qr 0=(0,1):=by
 have:=pQ 0
 simpa using this
theorem wZ (ea:qr a=x)(eb:qr b=y)(h:H p=some (.tup [.ref p1,.ref p2]))(h1:H p1=some (.tup [.int x.1,.int x.2]))(h2:H p2=some (.tup [.int y.1,.int y.2])):eG K H (.ref p) (a,b):=
 ⟨p,.ref p1,.ref p2,rfl,bJ.of h,⟨p1,rfl,by rw [ea];exact bJ.of h1⟩,⟨p2,rfl,by rw [eb];exact bJ.of h2⟩⟩
theorem VQ:aC zaj zaj (ae FT):=sq
theorem VR (F:nG K "ways" "Fixed.ways" FT f fd):cO P w K mg base (aY P w) 1 f fd zaj (hV K):=by
 refine fe F VQ fun H hr h=>?_
 obtain ⟨a,rfl,q⟩:=h
 have sz:(2:Nat)<=ael:=by decide
 refine ⟨_,(ah (aE (bV (aL (aU (aL (aU (aL ag ag)) (aU (aL ag ag)))) (aU (aL (aU (aL ag ag)) (aU (aL ag ag)))))))),sz,fun p1 n1=>?_⟩
 have s1:=aH n1 (.tup [.int 1,.int 1])
 have e1:upd H p1 (.tup [.int 1,.int 1]) p1=some (.tup [.int 1,.int 1]):=ak
 generalize upd H p1 (.tup [.int 1,.int 1])=H1 at s1 e1 ⊢
 refine ⟨sz,fun p2 n2=>?_⟩
 have s2:=aH n2 (.tup [.int 0,.int 1])
 have e2:upd H1 p2 (.tup [.int 0,.int 1]) p2=some (.tup [.int 0,.int 1]):=ak
 generalize upd H1 p2 (.tup [.int 0,.int 1])=H2 at s2 e2 ⊢
 refine ⟨sz,fun p3 n3=>?_⟩
 have s3:=aH n3 (.tup [.ref p1,.ref p2])
 have e3:upd H2 p3 (.tup [.ref p1,.ref p2]) p3=some (.tup [.ref p1,.ref p2]):=ak
 generalize upd H2 p3 (.tup [.ref p1,.ref p2])=H3 at s3 e3 ⊢
 refine ⟨sz,fun p4 n4=>?_⟩
 have s4:=aH n4 (.tup [.int 0,.int 1])
 have e4:upd H3 p4 (.tup [.int 0,.int 1]) p4=some (.tup [.int 0,.int 1]):=ak
 generalize upd H3 p4 (.tup [.int 0,.int 1])=H4 at s4 e4 ⊢
 refine ⟨sz,fun p5 n5=>?_⟩
 have s5:=aH n5 (.tup [.int 1,.int 1])
 have e5:upd H4 p5 (.tup [.int 1,.int 1]) p5=some (.tup [.int 1,.int 1]):=ak
 generalize upd H4 p5 (.tup [.int 1,.int 1])=H5 at s5 e5 ⊢
 refine ⟨sz,fun p6 n6=>?_⟩
 have s6:=aH n6 (.tup [.ref p4,.ref p5])
 have e6:upd H5 p6 (.tup [.ref p4,.ref p5]) p6=some (.tup [.ref p4,.ref p5]):=ak
 generalize upd H5 p6 (.tup [.ref p4,.ref p5])=H6 at s6 e6 ⊢
 refine ⟨sz,fun l nl=>?_⟩
 have s7:=aH nl (.lst [.ref p3,.ref p6])
 have e7:upd H6 l (.lst [.ref p3,.ref p6]) l=some (.lst [.ref p3,.ref p6]):=ak
 generalize upd H6 l (.lst [.ref p3,.ref p6])=H7 at s7 e7 ⊢
 have s16:=s1.trans (s2.trans (s3.trans (s4.trans (s5.trans s6))))
 have w1:eG K H7 (.ref p3) (1,0):=wZ uO c_ (s7 _ _ (s6 _ _ (s5 _ _ (s4 _ _ e3)))) (s7 _ _ (s6 _ _ (s5 _ _ (s4 _ _ (s3 _ _ (s2 _ _ e1)))))) (s7 _ _ (s6 _ _ (s5 _ _ (s4 _ _ (s3 _ _ e2)))))
 have w2:eG K H7 (.ref p6) (0,1):=wZ c_ uO (s7 _ _ e6) (s7 _ _ (s6 _ _ (s5 _ _ e4))) (s7 _ _ (s6 _ _ e5))
 exact q l [.ref p3,.ref p6] H7 (s16.trans s7) (s16.free nl) e7 (.cons w1 (.cons w2 .nil))
def KH (P:aeB)(w:World)(K:Frag)(mg:ι)(base:Heap)(H:Hp)(hv:V)(ws:υ):Prop:=(hv=.cg/\ws=[])\/∃(h Ch VS:aef)(S7:List (Str×V))(psh:ρ)(sph:Sp),hv=.ref h/\H h=some (.ins Ch VS S7)/\S7.lookup ("ways":Str)=none/\bH P w K mg base (aY P w) 2 Ch "ways" psh sph/\(∀H1,H1 h=some (.ins Ch VS S7)->bu H H1->∀Q',RH K H1 Q' ws->sph [.ref h] H1 Q' E0)
inductive dc (P:aeB)(w:World)(K:Frag)(mg:ι)(base:Heap)(C:aef)(vs:ε)(H:Hp)(Q:VK)(E_:XK):Prop
|mk (a dx pP pW pB:aef)(ps:Ε)(bs:ω)(kP kW kB:γ)(pw:Η)(x:Str)(u v hv:V)(p:Pt)(ws:υ)(_:vs=[.ref a,.str x,u,v,hv])(_:dP K H C a dx pP pW pB ps bs kP kW kB)(_:pR K H pw kW)(_:pw.map (·.1)=ps.map (·.1))(_:mT K H u p.1)(_:mT K H v p.2)(_:x∉ps.map (·.1))(_:(∀z∈ps,z.2≠p))(_:ps.length<24)(_:KH P w K mg base H hv ws)(_:∀(H':Hp)(w4 lE :γ),(∀b o,b≠pP->b≠pW->H b=some o->H' b=some o)->dP K H' C a dx pP pW pB (ps++[(x,p)]) bs w4 lE kB->pR K H' (pw++[(x,ws)]) lE ->(∃l,lE =kW++[(.inr x,.ref l)]/\H l=none)->Q .cg H')
theorem KI:aC ["self","name","x","y","hold","pin","spot"] zat (ae nH):=sq
theorem VT (F:Rl K "put_pin" "Frame.put_pin" nH f fd)(fc:DF K C)(RI:mg "MOST_PINS"=some (.int 24 tkP))(aX:mg "len"=none)(b7:mg "list"=none):cO P w K mg base (aY P w) 3 f fd zat (dc P w K mg base C):=by
 refine JY F KI (fun vs H Q E h=>?_) (fun cp A outer s H vs Q E hr h=>?_)
 ·obtain ⟨a,dx,pP,pW,pB,ps,bs,kP,kW,kB,pw,x,u,v,hv,p,ws,rfl,_⟩:=h
  rfl
 obtain ⟨a,dx,pP,pW,pB,ps,bs,kP,kW,kB,pw,x,u,v,hvv,p,ws,rfl,R,W,ew,hu,hv,hx,hs,hl,hH,q⟩:=h
 refine ⟨_,(aa (bh (lG (JM (b6 hr) (pv 1) (cJ (pv 0) rfl))) (ah (cY)) aI)
  (aa (og (bC aev rfl (kA (cJ (pv 0) rfl)) (eY rfl (aZ (bW (i:=5) KI.nd) (aZ (bW (i:=6) KI.nd) cU))) (ah (bh (bB (t_ hr.units) (pv 6) (aU (aL (pv 2) (pv 3)))) (ah (cY)) aI))))
  (aa (bh (bB OX (aG sR rfl aX bS (aS (cJ (pv 0) rfl))) (i6 (v:=.int 24) rfl RI ⟨_,rfl⟩)) (ah (cY)) aI)
  (aa (fM (b6 hr) (cJ (pv 0) rfl) (pv 1) (aU (aL (pv 2) (pv 3))) rfl)
  (ah (fM (b6 hr) (cJ (pv 0) rfl) (pv 1) (vD (bB HW (pv 4) jH) (bV eZ) (b_ oZ rfl b7 gY (aS (fL (k:=2) (pv 4) hr.mo (pY P w))))) rfl)))))),?_⟩
 refine ⟨_,rfl,_,rfl,a,C,dx,_,_,rfl,R.obj,fc.cls,fc.pl,rfl,pP,_,rfl,dm.k (k:=.inr x) R.pl,_,rfl,?_⟩
 rw [R.pin x,aeR hx]
 have lk:kP.length=ps.length:=(aer R.rp).symm
 refine ⟨_,rfl,a,C,dx,_,_,rfl,R.obj,fc.cls,fc.pl,rfl,pP,kP,rfl,R.pl,fun o=>?_⟩
 have k0:bQ pP H (upd H pP (.gi o (.dK kP))):=fun b o' n e=>by rw [ao n];exact e
 refine ja (d:=pP) (o:=o) (kvs:=kP) (fun t σ H'=>Mi fun (o2 o3:ψ)=>σ=[some (.ref a),some (.str x),some u,some v,some hvv,o2,o3]/\bQ pP H H'/\H' pP=some (.gi o (.dK kP))) ⟨none,none,rfl,k0,ak⟩ (fun t σ H' _ h=>by
   obtain ⟨_,_,_,_,h⟩:=h
   exact h) ?_ ?_
 ·rintro t k y σ H6 p7 yH ⟨o2,o3,rfl,k6,NV⟩ n7
  obtain ⟨z,ez,hz1,Ke⟩:=aw (bU R.rp) yH
  have RJ :k=.inr z.1:=hz1
  subst RJ
  have s6:bu H H6:=fun b xs r=>by
   rcases r with r|⟨o',r⟩
   ·exact .inl (k6 _ _ (fun e=>by rw [e,R.pl] at r;cases r) r)
   ·exact .inr ⟨o',k6 _ _ (fun e=>by rw [e,R.pl] at r;cases r) r⟩
  have s7:=aH n7 (.tup [kV (.inr z.1),y])
  have s67:bu H (upd H6 p7 (.tup [kV (.inr z.1),y])):=s6.trans (.of s7)
  refine ⟨p7,_,rfl,bJ.of ak,rfl,_,_,rfl,_,_,rfl,rfl,_,rfl,_,rfl,_,rfl,z2L,fun t8 n8=>?_⟩
  have s8:=aH n8 (.tup [u,v])
  have NP:bu H (upd (upd H6 p7 (.tup [kV (.inr z.1),y])) t8 (.tup [u,v])):=s67.trans (.of s8)
  refine ⟨eR z.2,eR p,.inl ⟨(Spot.aR Ke NP).is,(Spot.is (p:=p) ⟨t8,u,v,rfl,bJ.of ak,hu.aR NP,hv.aR NP⟩)⟩,mU _ _,sS _,?_⟩
  rw [wA]
  refine ⟨_,rfl,bg (fun c=>aet (aeJ c) (hs z (Wp ez))) (fun _=>?_)⟩
  exact ⟨_,_,rfl,fun b o' n e=>s8 _ _ (s7 _ _ (k6 b o' n e)),s8 _ _ (s7 _ _ NV)⟩
 ·rintro σ H1 ⟨o2,o3,rfl,k1,Mn⟩
  refine ⟨pP,o,kP,Mn,fun o' u' z=>(by have z':H pP=some (.gi o' u'):=z;rw [R.pl] at z';cases z'),?_⟩
  have s2:au H (upd H1 pP (.dK kP)):=fun b o' e=>by
   by_cases n:b=pP
   ·subst n
    rw [R.pl] at e
    rw [ak]
    exact e
   ·rw [ao n]
    exact k1 b o' n e
  generalize upd H1 pP (.dK kP)=H2 at s2 ⊢
  have R2:=R.same s2
  refine ⟨_,rfl,a,C,dx,_,_,rfl,R2.obj,fc.cls,fc.pl,rfl,pP,kP,rfl,.inl R2.pl,_,_,rfl,rfl,_,rfl,?_⟩
  refine bg (fun c=>?_) (fun _=>?_)
  ·have c':(24:Int)<=(kP.length:Int):=aeJ c
   omega
  refine ⟨_,rfl,_,rfl,z2L,fun t nt=>?_⟩
  have s3:=aH nt (.tup [u,v])
  have R3:=R2.same s3
  have hu3:=(hu.same s2).same s3
  have hv3:=(hv.same s2).same s3
  refine ⟨_,rfl,a,C,dx,_,_,rfl,R3.obj,fc.cls,fc.pl,rfl,_,rfl,pP,_,rfl,kz.k (k:=.inr x) R3.pl (aap (show kP.length<=1000 by omega) (by decide)),?_⟩
  have e:putK kP (.inr x) (.ref t)=kP++[(.inr x,.ref t)]:=dI _ (cb (by rw [R.wB];exact fun z=>hx (d7.mp z)))
  rw [e]
  have R4:=R3.Rn (x:=x) (p:=p) (t:=t) ⟨t,u,v,rfl,bJ.of ak,hu3,hv3⟩
  have k4:∀b o,b≠pP->H b=some o->(upd (upd H2 t (.tup [u,v])) pP (.dK (kP++[(.inr x,.ref t)]))) b=some o:=fun b o n e=>by rw [ao n];exact s3 _ _ (s2 _ _ e)
  generalize upd (upd H2 t (.tup [u,v])) pP (.dK (kP++[(.inr x,.ref t)]))=H4 at R4 k4 ⊢
  have lw:kW.length=ps.length:=by
   have e1:kW.length=pw.length:=(aer W).symm
   have e2:=aeE acf ew
   rw [aah,aah] at e2
   omega
  have t4:bu H H4:=fun b xs r=>by
   rcases r with r|⟨o',r⟩
   ·exact .inl (k4 _ _ (fun e=>by rw [e,R.pl] at r;cases r) r)
   ·exact .inr ⟨o',k4 _ _ (fun e=>by rw [e,R.pl] at r;cases r) r⟩
  have W4:pR K H4 pw kW:=Paired.bL W fun _ _ z=>⟨z.1,by
   obtain ⟨l,us,e1,e2,e3⟩:=z.2
   exact ⟨l,us,e1,k4 _ _ (fun e=>by rw [e,R.pl] at e2;cases e2) e2,e3.aR t4⟩⟩
  have nb:∀l2,H4 l2=none->H l2=none:=fun l2 n=>by
   cases hq:H l2 with
   | none=>rfl
   | some o=>
    have:=k4 l2 o (fun z=>by have h:=R4.pl;rw [<-z,n] at h;cases h) hq
    rw [n] at this
    cases this
  refine ⟨_,rfl,rfl,_,rfl,?_⟩
  rcases hH with ⟨rfl,rfl⟩|⟨h,Ch,VS,S7,psh,sph,rfl,hh,hlk,MH,nA⟩
  ·refine bg (fun _=>?_) (fun c=>aet (by decide) c)
   refine ⟨by show 0<=ael;decide,fun l2 n6=>?_⟩
   have s6:=aH n6 (.lst [])
   have R6:=R4.same s6
   have W6:=W4.same s6
   refine ⟨_,rfl,a,C,dx,_,_,rfl,R6.obj,fc.cls,fc.wy,rfl,_,rfl,pW,_,rfl,kz.k (k:=.inr x) R6.wy (aap (show kW.length<=1000 by omega) (by decide)),?_⟩
   have ek:putK kW (.inr x) (.ref l2)=kW++[(.inr x,.ref l2)]:=dI _ (cb (by rw [W.keys,ew];exact fun z=>hx (d7.mp z)))
   rw [ek]
   have ne6:l2≠pW:=fun z=>by have h:=R6.wy;rw [<-z,ak] at h;cases h
   exact q _ _ _ (fun b o n1 n2 e=>by rw [ao n2];exact s6 _ _ (k4 b o n1 e)) (R6.uw _) (agj (W6.dict R6.wy) ⟨rfl,l2,[],rfl,by rw [ao ne6,ak],.nil⟩) ⟨l2,rfl,nb l2 n6⟩
  have h4:H4 h=some (.ins Ch VS S7):=k4 _ _ (fun e=>by rw [e,R.pl] at hh;cases hh) hh
  refine bg (fun c=>aet (aeJ c) (fun z=>nomatch z)) (fun _=>?_)
  refine ⟨_,rfl,h,Ch,VS,S7,psh,sph,rfl,h4,hlk,MH,nA H4 h4 t4 _ fun l1 us H5 s5 n5 e5 p5=>?_⟩
  refine ⟨l1,us,rfl,aV.of e5,fun l2 n6=>?_⟩
  have s6:=aH n6 (.lst us)
  have R6:=(R4.same s5).same s6
  have W6:=(W4.same s5).same s6
  refine ⟨_,rfl,a,C,dx,_,_,rfl,R6.obj,fc.cls,fc.wy,rfl,_,rfl,pW,_,rfl,kz.k (k:=.inr x) R6.wy (aap (show kW.length<=1000 by omega) (by decide)),?_⟩
  have ek:putK kW (.inr x) (.ref l2)=kW++[(.inr x,.ref l2)]:=dI _ (cb (by rw [W.keys,ew];exact fun z=>hx (d7.mp z)))
  rw [ek]
  have KJ:au H4 (upd H5 l2 (.lst us)):=fun b o z=>s6 _ _ (s5 _ _ z)
  refine q _ _ _ (fun b o n1 n2 e=>by rw [ao n2];exact KJ _ _ (k4 b o n1 e)) (R6.uw _) ?_ ⟨l2,rfl,nb l2 (s5.free n6)⟩
  have ne6:l2≠pW:=fun z=>by have h:=R6.wy;rw [<-z,ak] at h;cases h
  exact agj (W6.dict R6.wy) ⟨rfl,l2,us,rfl,by rw [ao ne6,ak],(p5.same s6).aR (.dict R6.wy)⟩
inductive hW (K:Frag)(C:aef)(vs:ε)(H:Hp)(Q:VK)(E_:XK):Prop
|mk (a dx pP pW pB:aef)(ps:Ε)(bs:ω)(kP kW kB:γ)(x one other:Str)(_:vs=[.ref a,.str x,.str one,.str other])(_:dP K H C a dx pP pW pB ps bs kP kW kB)(_:x∉bs.map (·.1))(_:one∈ps.map (·.1))(_:other∈ps.map (·.1))(_:one≠other)(_:bs.length<60)(_:Q .cg H)
theorem VU:aC zak zak (ae FH):=sq
theorem VW (F:nG K "check_bar" "Frame.check_bar" FH f fd)(fc:DF K C)(RK:mg "MOST_BARS"=some (.int 60 tkB))(aX:mg "len"=none)
  (MC:bH P w K mg base (aY P w) 1 C "check_pin" zap (dQ K C)):cO P w K mg base (aY P w) 2 f fd zak (hW K C):=by
 refine fe F VU fun H hr h=>?_
 obtain ⟨a,dx,pP,pW,pB,ps,bs,kP,kW,kB,x,one,other,rfl,R,hx,h1,h2,ne,hl,q⟩:=h
 refine ⟨_,(aa (bh (lG (JM (b6 hr) (pv 1) (cJ (pv 0) rfl))) (ah (cY)) aI)
  (aa (bq (cW (k:=1) (pv 0) hr.mo (wO P w) (aS (pv 2))))
  (aa (bq (cW (k:=1) (pv 0) hr.mo (wO P w) (aS (pv 3))))
  (aa (bh (bB dq (pv 2) (pv 3)) (ah (cY)) aI)
  (ah (bh (bB OX (aG sR rfl aX bS (aS (cJ (pv 0) rfl))) (i6 (v:=.int 60) rfl RK ⟨_,rfl⟩)) (ah (cY)) aI)))))),?_⟩
 refine ⟨_,rfl,_,rfl,a,C,dx,_,_,rfl,R.obj,fc.cls,fc.br,rfl,pB,_,rfl,dm.k (k:=.inr x) R.br,_,rfl,?_⟩
 rw [R.bar x,aeR hx]
 refine ⟨_,rfl,a,C,dx,_,_,_,rfl,R.obj,rfl,MC,_,rfl,a,dx,pP,pW,pB,ps,bs,kP,kW,kB,one,rfl,R,h1,_,rfl,a,C,dx,_,_,_,rfl,R.obj,rfl,MC,_,rfl,a,dx,pP,pW,pB,ps,bs,kP,kW,kB,other,rfl,R,h2,_,rfl,_,rfl,rfl,_,rfl,bg (fun c=>aet (by simpa [kg] using c) ne) (fun _=>?_)⟩
 have lk:kB.length=bs.length:=(aer R.rb).symm
 refine ⟨_,rfl,a,C,dx,_,_,rfl,R.obj,fc.cls,fc.br,rfl,pB,kB,rfl,.inl R.br,_,_,rfl,rfl,_,rfl,bg (fun c=>?_) (fun _=>q)⟩
 have c':(60:Int)<=(kB.length:Int):=aeJ c
 omega
inductive iV (K:Frag)(C:aef)(vs:ε)(H:Hp)(Q:VK)(E_:XK):Prop
|mk (a dx pP pW pB:aef)(ps:Ε)(bs:ω)(kP kW kB:γ)(x one other:Str)(_:vs=[.ref a,.str x,.str one,.str other])(_:dP K H C a dx pP pW pB ps bs kP kW kB)(_:x∉bs.map (·.1))(_:one∈ps.map (·.1))(_:other∈ps.map (·.1))(_:one≠other)(_:bs.length<60)(_:∀(H':Hp)(KN :γ),bQ pB H H' ->dP K H' C a dx pP pW pB ps (bs++[(x,one,other)]) kP kW KN ->Q .cg H')
theorem VX:aC zak zak (ae FG):=sq
theorem VY (F:nG K "put_bar" "Frame.put_bar" FG f fd)(fc:DF K C)
  (MC:bH P w K mg base (aY P w) 2 C "check_bar" zak (hW K C)):cO P w K mg base (aY P w) 3 f fd zak (iV K C):=by
 refine z8 F VX (fun vs H Q E h=>?_) (fun cp A outer s H vs Q E hr h=>?_)
 ·obtain ⟨a,dx,pP,pW,pB,ps,bs,kP,kW,kB,x,one,other,rfl,_⟩:=h
  rfl
 obtain ⟨a,dx,pP,pW,pB,ps,bs,kP,kW,kB,x,one,other,rfl,R,hx,h1,h2,ne,hl,q⟩:=h
 refine ⟨_,(aa (bq (cW (k:=2) (pv 0) hr.mo (pY P w) (bE (pv 1) (pv 2) (pv 3))))
  (ah (fM (b6 hr) (cJ (pv 0) rfl) (pv 1) (aU (aL (pv 2) (pv 3))) rfl))),?_⟩
 refine ⟨_,rfl,a,C,dx,_,_,_,rfl,R.obj,rfl,MC,_,rfl,_,rfl,_,rfl,a,dx,pP,pW,pB,ps,bs,kP,kW,kB,x,one,other,rfl,R,hx,h1,h2,ne,hl,_,rfl,_,rfl,z2L,fun t nt=>?_⟩
 have s:=aH nt (.tup [.str one,.str other])
 have R':=R.same s
 have lk:kB.length=bs.length:=(aer R.rb).symm
 refine ⟨_,rfl,a,C,dx,_,_,rfl,R'.obj,fc.cls,fc.br,rfl,_,rfl,pB,_,rfl,kz.k (k:=.inr x) R'.br (aap (show kB.length<=1000 by omega) (by decide)),?_⟩
 have e:putK kB (.inr x) (.ref t)=kB++[(.inr x,.ref t)]:=dI _ (cb (by rw [R.kC];exact fun z=>hx (d7.mp z)))
 rw [e]
 refine q _ _ (fun b o n z=>?_) (R'.Rm (.inl ak))
 rw [ao n]
 exact s _ _ z
inductive je (K:Frag)(C:aef)(vs:ε)(H:Hp)(Q:VK)(E_:XK):Prop
|mk (a dx pP pW pB:aef)(ps:Ε)(bs:ω)(kP kW kB:γ)(x:Str)(_:vs=[.ref a,.str x])(_:dP K H C a dx pP pW pB ps bs kP kW kB)(_:x∈bs.map (·.1))(_:∀(H':Hp)(KN :γ),bQ pB H H' ->dP K H' C a dx pP pW pB ps (bs.filter fun b=>decide (b.1≠x)) kP kW KN ->Q .cg H')
theorem VZ:aC zaF zaF (ae FJ):=sq
theorem V0 (F:nG K "take_bar" "Frame.take_bar" FJ f fd)(fc:DF K C):cO P w K mg base (aY P w) 1 f fd zaF (je K C):=by
 refine fe F VZ fun H hr h=>?_
 obtain ⟨a,dx,pP,pW,pB,ps,bs,kP,kW,kB,x,rfl,R,hx,q⟩:=h
 refine ⟨_,(aa (bh (lG (lY (b6 hr) (pv 1) (cJ (pv 0) rfl))) (ah (cY)) aI)
  (ah (bq (pF (cJ (pv 0) rfl) (pv 1) ⟨rfl,rfl,rfl,rfl⟩)))),?_⟩
 refine ⟨_,rfl,_,rfl,a,C,dx,_,_,rfl,R.obj,fc.cls,fc.br,rfl,pB,_,rfl,dm.k (k:=.inr x) R.br,_,rfl,?_⟩
 rw [R.bar x,aeD hx]
 obtain ⟨v,ev⟩:=dS (kvs:=kB) (k:=.inr x) (by rw [R.kC];exact d7.mpr hx)
 exact ⟨_,rfl,a,C,dx,_,_,rfl,R.obj,fc.cls,fc.br,rfl,pB,rfl,.inl ⟨_,.inl R.br⟩,_,rfl,kB,.inr x,v,R.br,rfl,ev,q _ _ (fun b o n z=>by rw [ao n];exact z) (R.Nv x)⟩
theorem FZ (R:dP K H C a dx pP pW pB ps bs kP kW kB)(x:Str):
  dP K (upd H pP (.dK (d5 kP (.inr x)))) C a dx pP pW pB (ps.filter fun b=>decide (b.1≠x)) bs (d5 kP (.inr x)) kW kB:=by
 have s:bu H (upd H pP (.dK (d5 kP (.inr x)))):=.dict R.pl
 exact ⟨by rw [ao R.ab.1];exact R.obj,ak,by rw [ao (aaD R.ne1)];exact R.wy,by rw [ao (aaD R.ne2)];exact R.br,R.ne1,R.ne2,R.ne3,gv x (Paired.bL R.rp fun _ _ h=>⟨h.1,h.2.aR s⟩),
  Paired.bL R.rb fun _ _ h=>⟨h.1,by obtain ⟨p,e,k⟩:=h.2;exact ⟨p,e,s _ _ k⟩⟩⟩
inductive h_ (K:Frag)(C:aef)(vs:ε)(H:Hp)(Q:VK)(E:XK):Prop
|mk (a dx pP pW pB:aef)(ps:Ε)(bs:ω)(kP kW kB:γ)(pw:Η)(x:Str)(_:vs=[.ref a,.str x])(_:dP K H C a dx pP pW pB ps bs kP kW kB)(_:pR K H pw kW)(_:pw.map (·.1)=ps.map (·.1))(_:x∈ps.map (·.1))(_:(∀b∈bs,x≠b.2.1/\x≠b.2.2))(_:∀(H':Hp)(w4 lE :γ),(∀b o,b≠pP->b≠pW->H b=some o->H' b=some o)->dP K H' C a dx pP pW pB (ps.filter fun b=>decide (b.1≠x)) bs w4 lE kB->pR K H' (pw.filter fun b=>decide (b.1≠x)) lE ->(∀kv∈lE,kv∈kW)->Q .cg H')
theorem d9:aC ["self","name","bar","two"] zaF (ae cz):=sq
theorem kK (F:nG K "take_pin" "Frame.take_pin" cz f fd)(fc:DF K C)(MC:bH P w K mg base (aY P w) 1 C "check_pin" zap (dQ K C)):cO P w K mg base (aY P w) 2 f fd zaF (h_ K C):=by
 refine fe F d9 fun H hr h=>?_
 obtain ⟨a,dx,pP,pW,pB,ps,bs,kP,kW,kB,pw,x,rfl,R,W,ew,hx,hb,q⟩:=h
 refine ⟨_,(aa (bq (cW (k:=1) (pv 0) hr.mo (wO P w) (aS (pv 1))))
  (aa (og (bC aev rfl (kA (cJ (pv 0) rfl)) (eY rfl (aZ (bW (i:=2) d9.nd) (aZ (bW (i:=3) d9.nd) cU))) (ah (bh (nQ sf (pv 1) (pv 3) rfl) (ah (cY)) aI))))
  (aa (bq (pF (cJ (pv 0) rfl) (pv 1) ⟨rfl,rfl,rfl,rfl⟩))
  (ah (bq (pF (cJ (pv 0) rfl) (pv 1) ⟨rfl,rfl,rfl,rfl⟩)))))),?_⟩
 refine ⟨_,rfl,a,C,dx,_,_,_,rfl,R.obj,rfl,MC,_,rfl,a,dx,pP,pW,pB,ps,bs,kP,kW,kB,x,rfl,R,hx,?_⟩
 have lk:kB.length=bs.length:=(aer R.rb).symm
 refine ⟨_,rfl,a,C,dx,_,_,rfl,R.obj,fc.cls,fc.br,rfl,pB,kB,rfl,R.br,fun o=>?_⟩
 have k0:bQ pB H (upd H pB (.gi o (.dK kB))):=fun b o' n e=>by rw [ao n];exact e
 refine ja (d:=pB) (o:=o) (kvs:=kB) (fun t σ H'=>Mi fun (o2 o3:ψ)=>σ=[some (.ref a),some (.str x),o2,o3]/\bQ pB H H'/\H' pB=some (.gi o (.dK kB))) ⟨none,none,rfl,k0,ak⟩ (fun t σ H' _ h=>by
   obtain ⟨_,_,_,_,h⟩:=h
   exact h) ?_ ?_
 ·rintro t k y σ H6 p7 yH ⟨o2,o3,rfl,k6,NV⟩ n7
  obtain ⟨z,ez,hz1,p,ep,Ke⟩:=aw (bU R.rb) yH
  have RJ :k=.inr z.1:=hz1
  subst RJ
  have rX :y=.ref p:=ep
  subst rX
  have s6:bu H H6:=fun b xs r=>by
   rcases r with r|⟨o',r⟩
   ·exact .inl (k6 _ _ (fun e=>by rw [e,R.br] at r;cases r) r)
   ·exact .inr ⟨o',k6 _ _ (fun e=>by rw [e,R.br] at r;cases r) r⟩
  have s7:=aH n7 (.tup [kV (.inr z.1),.ref p])
  have s67:bu H (upd H6 p7 (.tup [kV (.inr z.1),.ref p])):=s6.trans (.of s7)
  obtain ⟨n1,n2⟩:=hb z (Wp ez)
  refine ⟨p7,_,rfl,bJ.of ak,rfl,_,_,rfl,_,_,rfl,rfl,_,rfl,_,rfl,p,[.str z.2.1,.str z.2.2],rfl,.inr (s67.bI (.inl Ke)),rfl,rfl,_,rfl,bg (fun c=>?_) (fun _=>⟨_,_,rfl,fun b o' n e=>s7 _ _ (k6 b o' n e),s7 _ _ NV⟩)⟩
  exfalso
  have c':M_ (.str x) [.str z.2.1,.str z.2.2]=true:=c
  simp [M_,kg] at c'
  rcases c' with c'|c'
  ·exact n1 c'.symm
  ·exact n2 c'.symm
 ·rintro σ H1 ⟨o2,o3,rfl,k1,Mn⟩
  refine ⟨pB,o,kB,Mn,fun o' u' z=>(by have z':H pB=some (.gi o' u'):=z;rw [R.br] at z';cases z'),?_⟩
  have s2:au H (upd H1 pB (.dK kB)):=fun b o' e=>by
   by_cases n:b=pB
   ·subst n
    rw [R.br] at e
    rw [ak]
    exact e
   ·rw [ao n]
    exact k1 b o' n e
  generalize upd H1 pB (.dK kB)=H2 at s2 ⊢
  have R2:=R.same s2
  obtain ⟨v,ev⟩:=dS (kvs:=kP) (k:=.inr x) (by rw [R.wB];exact d7.mpr hx)
  have kk:kW.map (·.1)=(ps.map (·.1)).map (fun b=>(aaU b:Key)):=by rw [fw W,<-ew,aay];rfl
  obtain ⟨v2,ev2⟩:=dS (kvs:=kW) (k:=.inr x) (by rw [kk];exact d7.mpr hx)
  refine ⟨_,rfl,a,C,dx,_,_,rfl,R2.obj,fc.cls,fc.pl,rfl,pP,rfl,.inl ⟨_,.inl R2.pl⟩,_,rfl,kP,.inr x,v,R2.pl,rfl,ev,?_⟩
  have R3:=FZ R2 x
  have k3:∀b o,b≠pP->H b=some o->(upd H2 pP (.dK (d5 kP (.inr x)))) b=some o:=fun b o n e=>by rw [ao n];exact s2 _ _ e
  have k2:bQ pP H2 (upd H2 pP (.dK (d5 kP (.inr x)))):=fun b o n e=>by rw [ao n];exact e
  generalize upd H2 pP (.dK (d5 kP (.inr x)))=H3 at R3 k3 k2 ⊢
  refine ⟨_,rfl,a,C,dx,_,_,rfl,R3.obj,fc.cls,fc.wy,rfl,pW,rfl,.inl ⟨_,.inl R3.wy⟩,_,rfl,kW,.inr x,v2,R3.wy,rfl,ev2,?_⟩
  have t3:bu H2 H3:=fun b xs r=>by
   rcases r with r|⟨o',r⟩
   ·exact .inl (k2 _ _ (fun e=>by rw [e,R2.pl] at r;cases r) r)
   ·exact .inr ⟨o',k2 _ _ (fun e=>by rw [e,R2.pl] at r;cases r) r⟩
  have t4:bu H3 (upd H3 pW (.dK (d5 kW (.inr x)))):=.dict R3.wy
  refine q _ _ _ (fun b o n1 n2 e=>by rw [ao n2];exact k3 b o n1 e) (R3.uw _) (gv x (Paired.bL (W.same s2) fun _ _ z=>⟨z.1,?_⟩)) (fun kv h=>by unfold d5 at h;exact (acW.mp h).1)
  obtain ⟨l,us,z1,z2,z3⟩:=z.2
  exact ⟨l,us,z1,by rw [ao (fun e=>by rw [e,R2.wy] at z2;cases z2)];exact k2 _ _ (fun e=>by rw [e,R2.pl] at z2;cases z2) z2,(z3.aR t3).aR t4⟩
def iW (p q:ay):Rat×Rat:=(q.sp.1-p.sp.1,q.sp.2-p.sp.2)
inductive KP (K:Frag)(C:aef)(vs:ε)(H:Hp)(Q:VK)(E_:XK):Prop
|mk (a:aef)(pins:ν)(aj:τ)(p q:ay)(_:vs=[.ref a,.str p.nm,.str q.nm])(_:vw K H C a pins aj)(_:fG pins aj)(_:p∈pins)(_:q∈pins)(_:KG K H Q (iW p q))
theorem PD {pins:ν}(h:(pins.map (·.nm)).Nodup):((pins.map fun p=>(p.nm,qX p.sp)).map (·.1)).Nodup:=by
 rw [aay]
 exact h
theorem PH {pins:ν}(h:(pins.map (·.nm)).Nodup):((pins.map fun p=>(p.nm,p.ws)).map (·.1)).Nodup:=by
 rw [aay]
 exact h
theorem V1 {aj:τ}(h:(aj.map (·.nm)).Nodup):((aj.map fun b=>(b.nm,b.one.nm,b.other.nm)).map (·.1)).Nodup:=by
 rw [aay]
 exact h
theorem V2:aC zar zar (ae DR):=sq
theorem V3 (D:Def K mg "arm_between" DR zar)(MP:bH P w K mg base (aY P w) 2 C "place" zap (om K C))(acU:Fn P w K mg base (aY P w) 35 "pair_difference" zah (yM K fun a b=>a-b)):Fn P w K mg base (aY P w) 36 "arm_between" zar (KP K C):=by
 refine D.oo V2 fun H hr h=>?_
 obtain ⟨a,pins,aj,p,q,rfl,R,g,hp,hq,k⟩:=h
 obtain ⟨dx,pP,pW,pB,kP,kW,kB,R,W⟩:=R.ex
 refine ⟨_,(ah (aE (aT acU hr (aL (cW (k:=2) (pv 0) hr.mo (wO P w) (aS (pv 2))) (cW (k:=2) (pv 0) hr.mo (wO P w) (aS (pv 1))))))),_,rfl,a,C,dx,_,_,_,rfl,R.obj,rfl,MP,_,rfl,a,dx,pP,pW,pB,_,_,kP,kW,kB,q.nm,qX q.sp,rfl,R,PD g.np,aai.mpr ⟨q,hq,rfl⟩,fun v1 h1=>?_⟩
 refine ⟨_,rfl,a,C,dx,_,_,_,rfl,R.obj,rfl,MP,_,rfl,a,dx,pP,pW,pB,_,_,kP,kW,kB,p.nm,qX p.sp,rfl,R,PD g.np,aai.mpr ⟨p,hp,rfl⟩,fun v2 h2=>?_⟩
 have z1:=g.sz q hq
 have z2:=g.sz p hp
 exact ⟨v1,v2,q.sp,p.sp,rfl,h1,h2,z1.1.up (by decide),z1.2.1.up (by decide),z2.1.up (by decide),z2.2.1.up (by decide),k⟩
def mv (M:θ)(x:Str):Rat×Rat:=(M x).getD (0,0)
def dE (F:θ)(pins:ν):List (Int×Int):=pins.flatMap fun p=>[qr (mv F p.nm).1,qr (mv F p.nm).2]
theorem iX (F:θ):∀pins:List ay,(dE F pins).length=2*pins.length
 | []=>rfl
 | p::ps=>by
  have:=iX F ps
  unfold dE at this ⊢
  rw [aaH,aat,this]
  simp
  omega
theorem F_ (F:θ)(ps:ν)(p:ay):dE F (ps++[p])=dE F ps++[qr (mv F p.nm).1,qr (mv F p.nm).2]:=by
 unfold dE
 rw [abg]
 simp
def gk (x:Str)(w:Rat×Rat):Str->Option (Rat×Rat):=fun y=>if y=x then some w else none
def dR (b:a_):Str->Option (Rat×Rat):=fun y=>if y=b.one.nm then some (iW b.one b.other) else if y=b.other.nm then some (iW b.other b.one) else none
def qc (pins:ν)(p:ay):List (List (Int×Int)):=p.ws.map fun w=>dE (gk p.nm w) pins
def eV (pins:ν)(aj:τ):List (List (Int×Int)):=(pins.flatMap fun p=>qc pins p)++aj.map fun b=>dE (dR b) pins
structure ix (K:Frag)(H:Hp)(r:aef)(ls:χ)(cL:Ζ)(gj:Λ):Prop where
 mZ:kI H r ls cL
 num:jQ K H cL gj
 nr:r∉ls
theorem ix.same (h:ix K H r ls cL gj)(s:au H H'):ix K H' r ls cL gj:=⟨h.mZ.same s,h.num.same s,h.nr⟩
theorem qd (h:jQ K H cL gj)(n:dA K H us qs):jQ K H (cL++[us]) (gj++[qs]):=by
 refine ⟨by simp [h.1],fun i u q' e1 e2=>?_⟩
 have l:=h.1
 by_cases c:i<cL.length
 ·rw [aar c] at e1
  rw [aar (by omega)] at e2
  exact h.2 i u q' e1 e2
 ·rw [aav (by omega)] at e1 e2
  by_cases z:i-cL.length=0
  ·rw [z] at e1
   rw [show i-gj.length=0 by omega] at e2
   cases e1
   cases e2
   exact n
  ·rw [aam (by simp;omega)] at e1
   cases e1
theorem AR {H:Hp}{ls:χ}{cL:Ζ}(hl:ls.length=cL.length)(h:∀(i:Nat)(l:aef)(vs:ε),ls[i]?=some l->cL[i]?=some vs->H l=some (.lst vs))(e:H l=some (.lst us)):
  ∀(i:Nat)(l':aef)(vs:ε),(ls++[l])[i]?=some l' ->(cL++[us])[i]?=some vs->H l'=some (.lst vs):=fun i l' vs e1 e2=>by
 by_cases c:i<ls.length
 ·rw [aar c] at e1
  rw [aar (by omega)] at e2
  exact h i l' vs e1 e2
 ·rw [aav (by omega)] at e1 e2
  by_cases z:i-ls.length=0
  ·rw [z] at e1
   rw [show i-cL.length=0 by omega] at e2
   cases e1
   cases e2
   exact e
  ·rw [aam (by simp;omega)] at e1
   cases e1
theorem ix.push (h:ix K H r ls cL gj)(e:H l=some (.lst us))(ne:l≠r)(n:dA K H us qs):
  ix K (upd H r (.lst (ls.map V.ref++[.ref l]))) r (ls++[l]) (cL++[us]) (gj++[qs]):=by
 have st:bu H (upd H r (.lst (ls.map V.ref++[.ref l]))):=.list h.mZ.1
 have hm:∀(i:Nat)(l':aef)(vs:ε),ls[i]?=some l' ->cL[i]?=some vs->(upd H r (.lst (ls.map V.ref++[.ref l]))) l'=some (.lst vs):=fun i l' vs e1 e2=>by
  rw [ao (fun z:l'=r=>h.nr (by rw [<-z];exact Wp e1))]
  exact h.mZ.2.2 i l' vs e1 e2
 refine ⟨⟨by rw [ak,aax];rfl,by simp [h.mZ.2.1],AR h.mZ.2.1 hm (by rw [ao ne];exact e)⟩,?_,?_⟩
 ·exact qd ⟨h.num.1,fun i vs qs e1 e2=>(h.num.2 i vs qs e1 e2).aR st⟩ (n.aR st)
 ·intro z
  rcases aau.mp z with z|z
  ·exact h.nr z
  ·exact ne (aao.mp z).symm
inductive gN (K:Frag)(C:aef)(vs:ε)(H:Hp)(Q:VK)(E_:XK):Prop
|mk (a d:aef)(pins:ν)(aj:τ)(kvs:γ)(F:θ)(_:vs=[.ref a,.ref d])(_:vw K H C a pins aj)(_:pins.length<=100)(_:H d=some (.dK kvs))(_:Mf K H kvs F)(_:∀(l:aef)(us:ε)(H':Hp),au H H' ->H l=none->H' l=some (.lst us)->dA K H' us (dE F pins)->Q (.ref l) H')
theorem gx (pins:ν):((pins.map fun p=>(p.nm,qX p.sp)).map (·.1))=pins.map (·.nm):=by rw [aay];rfl
theorem KQ:aC ["F","draws","row","pin"] zaO (ae DS):=sq
theorem V4 (hM:∀H:Hp,eG K H (.ref aM) (0,0))(RL:mg "NO_MOVE"=some (.ref aM))(D:Def K mg "pair_row" DS zaO)(MP:bH P w K mg base (aY P w) 1 C "pins" zaj (g9 K C)):Fn P w K mg base (aY P w) 2 "pair_row" zaO (gN K C):=by
 refine D.oo KQ fun H hr h=>?_
 obtain ⟨a,d,pins,aj,kvs,F,rfl,R,lp,hd,hP,q⟩:=h
 refine ⟨_,(aa (aK (i:=2) KQ.nd (bV eZ))
  (aa (bC aev rfl (bx (fL (k:=1) (pv 0) hr.mo (wO P w))) (bW (i:=3) KQ.nd) (ah (bq (gs aeH PySem.F.slot_list_extend PySem.F.type_list_extend NA (pv 2) (aS (wg (b6 hr) (pv 1) (pv 3) (i6 (v:=.ref aM) rfl RL rfl) ⟨rfl,rfl,rfl,rfl⟩))))))
  (ah (aE (pv 2))))),?_⟩
 refine ⟨z0L,?_⟩
 intro l nl;generalize eX:upd _ l _=H1;have ⟨s1,el⟩:=nw nl eX
 have R1:=R.same s1
 obtain ⟨dx,pP,pW,pB,kP,kW,kB,F1,W1⟩:=R1.ex
 refine ⟨_,rfl,a,C,dx,_,_,_,rfl,F1.obj,rfl,MP,a,dx,pP,pW,pB,_,_,kP,kW,kB,rfl,F1,fun lp H2 s2 yN vy=>?_⟩
 rw [gx] at vy
 have qe:=s1.trans s2
 have Mo:lp≠l:=fun z=>by rw [z,el] at yN;cases yN
 refine ⟨lp,rfl,⟨_,aV.of vy⟩,ck (K:=K) (a:=lp) (xs:=(pins.map (·.nm)).map V.str) (fun i σ H'=>Mi fun (o3:ψ) (us:ε)=>σ=[some (.ref a),some (.ref d),some (.ref l),o3]/\au H H'/\H' lp=some (.lst ((pins.map (·.nm)).map V.str))/\H' l=some (.lst us)/\dA K H' us (dE F (pins.take i))) ⟨none,[],rfl,qe,vy,s2 _ _ el,⟨rfl,fun i u q e=>by simp at e⟩⟩ (fun i σ H' _ h=>by
   obtain ⟨_,_,_,_,h,_⟩:=h
   exact aV.of h) ?_ ?_⟩
 ·rintro i z σ H4 hi ⟨o3,us,rfl,s4,l4,e4,n4⟩
  rw [aag,aag] at hi
  obtain ⟨x,hx,rfl⟩:=aaw.mp hi
  obtain ⟨p,hp,rfl⟩:=aaw.mp hx
  have il:i<pins.length:=(ir.mp hp).1
  have d4:=s4 _ _ hd
  have g1:eG K H4 ((bY kvs (.inr p.nm)).getD (.ref aM)) (mv F p.nm):=(hP.same s4).UP (hM H4)
  obtain ⟨b,u1,u2,eb,hb,h1,h2⟩:=g1
  have lu:us.length<=200:=by
   have:=n4.1
   rw [iX,aaJ] at this
   omega
  refine ⟨_,rfl,.inl ⟨rfl,_,aV.of e4⟩,_,rfl,d,rfl,.inl ⟨_,.inl d4⟩,_,rfl,_,dm.k (k:=.inr p.nm) d4,l,b,us,[u1,u2],rfl,by rw [eb],e4,hb,by simp;omega,?_⟩
  have st:bu H4 (upd H4 l (.lst (us++[u1,u2]))):=.list e4
  refine ⟨_,us++[u1,u2],rfl,fun c o z=>?_,?_,ak,?_⟩
  ·rw [ao (aq z nl)]
   exact s4 _ _ z
  ·rw [ao Mo]
   exact l4
  ·rw [take_snoc hp,F_]
   have a1:=dA.snoc (K:=K) (n4.aR st) (fN.aR h1 st)
   have a2:=dA.snoc (K:=K) a1 (fN.aR h2 st)
   simpa using a2
 ·rintro σ H4 ⟨o3,us,rfl,s4,l4,e4,n4⟩
  rw [aah,aah,aaW] at n4
  exact ⟨_,rfl,q l us H4 s4 nl e4 n4⟩
inductive mq (K:Frag)(C:aef)(vs:ε)(H:Hp)(Q:VK)(E_:XK):Prop
|mk (a d:aef)(pins:ν)(aj:τ)(kvs:γ)(F:θ)(_:vs=[.ref a,.ref d])(_:vw K H C a pins aj)(_:pins.length<=100)(_:H d=some (.dK kvs))(_:Mf K H kvs F)(_:(∀kv∈kvs,∃x∈pins.map (·.nm),kv.1=.inr x))(_:∀(l:aef)(us:ε)(H':Hp),au H H' ->H l=none->H' l=some (.lst us)->dA K H' us (dE F pins)->Q (.ref l) H')
theorem KR:aC ["F","load","pins","pin"] zaJ (ae DT):=sq
theorem V5 (D:Def K mg "load_row" DT zaJ)(MP:bH P w K mg base (aY P w) 1 C "pins" zaj (g9 K C))(KS:Fn P w K mg base (aY P w) 2 "pair_row" zaO (gN K C)):Fn P w K mg base (aY P w) 3 "load_row" zaJ (mq K C):=by
 refine D.oo KR fun H hr h=>?_
 obtain ⟨a,d,pins,aj,kvs,F,rfl,R,lp,hd,hP,hk,q⟩:=h
 refine ⟨_,(aa (aK (i:=2) KR.nd (fL (k:=1) (pv 0) hr.mo (wO P w)))
  (aa (og (bC aev rfl (Nt (pv 1)) (bW (i:=3) KR.nd) (ah (bh (nQ tV (pv 3) (pv 2) rfl) (ah (cY)) aI))))
  (ah (aE (aT KS hr (aL (pv 0) (pv 1))))))),?_⟩
 obtain ⟨dx,pP,pW,pB,kP,kW,kB,F1,W1⟩:=R.ex
 refine ⟨_,rfl,a,C,dx,_,_,_,rfl,F1.obj,rfl,MP,a,dx,pP,pW,pB,_,_,kP,kW,kB,rfl,F1,fun l H1 s1 nl el=>?_⟩
 rw [gx] at el
 have Mn:=s1 _ _ hd
 refine ⟨_,rfl,d,kvs,rfl,Mn,fun o=>?_⟩
 have ld:l≠d:=fun z=>by rw [z,Mn] at el;cases el
 refine JW (d:=d) (o:=o) (kvs:=kvs) (fun t σ H'=>∃(o2:ψ),σ=[some (.ref a),some (.ref d),some (.ref l),o2]/\H'=upd H1 d (.gi o (.dK kvs))) ⟨none,rfl,rfl⟩ (fun t σ H' _ h=>by
   obtain ⟨_,_,rfl⟩:=h
   exact ak) ?_ ?_
 ·rintro t k y σ H6 yH ⟨o2,rfl,rfl⟩
  obtain ⟨x,hx,ex⟩:=hk _ (Wp yH)
  have Tr :k=.inr x:=ex
  subst Tr
  refine ⟨_,rfl,_,rfl,l,_,rfl,.inl (aV.of (by rw [ao ld];exact el)),rfl,DG _,_,rfl,bg (fun c=>?_) (fun _=>⟨_,rfl,rfl⟩)⟩
  have c':(!M_ (.str x) ((pins.map (·.nm)).map V.str))=true:=c
  rw [wC,aeD hx] at c'
  cases c'
 ·rintro σ H6 ⟨o2,rfl,rfl⟩
  refine ⟨d,o,kvs,ak,fun o' u' z=>(by have z':H d=some (.gi o' u'):=z;rw [hd] at z';cases z'),?_⟩
  have s2:au H (upd (upd H1 d (.gi o (.dK kvs))) d (.dK kvs)):=fun b o' e=>by
   by_cases n:b=d
   ·subst n
    rw [hd] at e
    rw [ak]
    exact e
   ·rw [ao n,ao n]
    exact s1 _ _ e
  generalize upd (upd H1 d (.gi o (.dK kvs))) d (.dK kvs)=H2 at s2 ⊢
  refine ⟨_,rfl,_,rfl,a,d,pins,aj,kvs,F,rfl,R.same s2,lp,s2 _ _ hd,hP.same s2,fun l' us H3 s3 n3 e3 nm=>?_⟩
  exact q l' us H3 (s2.trans s3) (s2.free n3) e3 nm
inductive qg (K:Frag)(C:aef)(vs:ε)(H:Hp)(Q:VK)(E_:XK):Prop
|mk (a:aef)(pins:ν)(aj:τ)(b:a_)(_:vs=[.ref a,.str b.one.nm,.str b.other.nm])(_:vw K H C a pins aj)(_:fG pins aj)(_:b.one∈pins)(_:b.other∈pins)(_:b.one.nm≠b.other.nm)(_:∀(l:aef)(us:ε)(H':Hp),au H H' ->H l=none->H' l=some (.lst us)->dA K H' us (dE (dR b) pins)->Q (.ref l) H')
theorem RM (k:Key)(v:V):bN [] [(k,v)]=[(k,v)]:=rfl
theorem RO (v u:V)(h:k≠j):bN [] [(k,v),(j,u)]=[(k,v),(j,u)]:=by
 show putK [(k,v)] j u=_
 rw [dI]
 ·rfl
 ·rw [bG h]
  rfl
theorem V6:aC zar zar (ae DU):=sq
theorem V7 (D:Def K mg "bar_row" DU zar)(V8:Fn P w K mg base (aY P w) 36 "arm_between" zar (KP K C))(KS:Fn P w K mg base (aY P w) 2 "pair_row" zaO (gN K C)):Fn P w K mg base (aY P w) 37 "bar_row" zar (qg K C):=by
 refine D.oo V6 fun H hr h=>?_
 obtain ⟨a,pins,aj,b,rfl,R,g,m1,m2,ne,q⟩:=h
 refine ⟨_,(ah (aE (aT KS hr (aL (pv 0) (zZ (pD (pv 1) (aT V8 hr (bE (pv 0) (pv 1) (pv 2))) (pD (pv 2) (aT V8 hr (bE (pv 0) (pv 2) (pv 1))) zY)) rfl rfl (adD _ _) (by decide)))))),_,rfl,fun d nd=>?_⟩
 have s1:=aH nd (.dK [])
 have e1:(upd H d (.dK [])) d=some (.dK []):=ak
 generalize upd H d (.dK [])=H1 at s1 e1 ⊢
 refine ⟨_,rfl,_,rfl,_,rfl,_,rfl,a,pins,aj,b.one,b.other,rfl,R.same s1,g,m1,m2,fun v1 H2 s2 h2=>?_⟩
 refine ⟨_,rfl,_,rfl,_,rfl,_,rfl,a,pins,aj,b.other,b.one,rfl,(R.same s1).same s2,g,m2,m1,fun v2 H3 s3 h3=>?_⟩
 have e3:=s3 _ _ (s2 _ _ e1)
 refine ⟨e3,[(.inr b.one.nm,v1),(.inr b.other.nm,v2)],rfl,(by show 2<=15;decide),?_⟩
 rw [RO _ _ (fun z=>ne (aa4 z))]
 have st:bu H3 (upd H3 d (.dK [(.inr b.one.nm,v1),(.inr b.other.nm,v2)])):=.dict e3
 have e4:(upd H3 d (.dK [(.inr b.one.nm,v1),(.inr b.other.nm,v2)])) d=some (.dK [(.inr b.one.nm,v1),(.inr b.other.nm,v2)]):=ak
 have s4:au H (upd H3 d (.dK [(.inr b.one.nm,v1),(.inr b.other.nm,v2)])):=fun c o z=>by
  rw [ao (aq z nd)]
  exact s3 _ _ (s2 _ _ (s1 _ _ z))
 generalize upd H3 d (.dK [(.inr b.one.nm,v1),(.inr b.other.nm,v2)])=H4 at st e4 s4 ⊢
 refine ⟨a,d,pins,aj,_,dR b,rfl,R.same s4,aak g.lp (by decide),e4,fun x=>?_,fun l us H5 s5 n5 e5 nm=>q l us H5 (s4.trans s5) (s4.free n5) e5 nm⟩
 by_cases c1:x=b.one.nm
 ·subst c1
  exact .inr ⟨v1,iW b.one b.other,bT rfl,by unfold dR;rw [aek rfl],(h2.same s3).aR st⟩
 ·by_cases c2:x=b.other.nm
  ·subst c2
   exact .inr ⟨v2,iW b.other b.one,by rw [bG (fun z=>c1 (aa4 z).symm),bT rfl],by unfold dR;rw [aej c1,aek rfl],h3.aR st⟩
  ·exact .inl ⟨by rw [bG (fun z=>c1 (aa4 z).symm),bG (fun z=>c2 (aa4 z).symm)];rfl,by unfold dR;rw [aej c1,aej c2]⟩
inductive jR (K:Frag)(C:aef)(vs:ε)(H:Hp)(Q:VK)(E_:XK):Prop
|mk (a:aef)(pins:ν)(aj:τ)(_:vs=[.ref a])(_:vw K H C a pins aj)(_:fG pins aj)(_:∀(r:aef)(ls:χ)(cL:Ζ)(H':Hp),au H H' ->H r=none->ix K H' r ls cL (eV pins aj)->Q (.ref r) H')
theorem AS (aj:τ):((aj.map fun b=>(b.nm,b.one.nm,b.other.nm)).map (·.1))=aj.map (·.nm):=by rw [aay];rfl
theorem qh (pins:ν)(h:∀p∈pins,p.ws.length<=2):(pins.flatMap fun p=>p.ws).length<=2*pins.length:=by
 induction pins with
 | nil=>simp
 | cons p ps ih=>
  have h1:=h p aas
  have h2:=ih fun q hq=>h q (aan _ hq)
  rw [aaH,aat,aaQ]
  omega
theorem qi (all pins:ν):(pins.flatMap fun p=>qc all p).length=(pins.flatMap fun p=>p.ws).length:=by
 induction pins with
 | nil=>rfl
 | cons p ps ih=>
  rw [aaH,aaH,aat,aat,ih]
  unfold qc
  rw [aah]
theorem F' (pins:ν)(aj:τ):(eV pins aj).length=(pins.flatMap fun p=>p.ws).length+aj.length:=by
 unfold eV
 rw [aat,qi,aah]
theorem tj:aC ["F","rows","pin","way","bar","two"] ["F"] (ae DV):=sq
theorem V9 (D:Def K mg "draw_rows" DV ["F"])(MP:bH P w K mg base (aY P w) 1 C "pins" zaj (g9 K C))(MW:bH P w K mg base (aY P w) 2 C "ways" zap (qb K C))(MB:bH P w K mg base (aY P w) 1 C "bars" zaj (qa K C))(ME:bH P w K mg base (aY P w) 1 C "ends" zaV (uM K C))
  (KS:Fn P w K mg base (aY P w) 2 "pair_row" zaO (gN K C)) (acV:Fn P w K mg base (aY P w) 37 "bar_row" zar (qg K C)):Fn P w K mg base (aY P w) 38 "draw_rows" ["F"] (jR K C):=by
 refine D.op tj fun f cp A outer s H vs Q E hr h=>?_
 obtain ⟨a,pins,aj,rfl,R,g,q⟩:=h
 refine ⟨_,(aa (aK (i:=1) tj.nd (bV eZ))
  (aa (bC aev rfl (bx (fL (k:=1) (pv 0) hr.mo (pY P w))) (bW (i:=2) tj.nd) (ah (bC aev rfl (bx (cW (k:=2) (pv 0) hr.mo (pY P w) (aS (pv 2)))) (bW (i:=3) tj.nd) (ah (bq (gs aeH aeN aeP cQ (pv 1) (aS (aT KS hr (aL (pv 0) (zZ (pD (pv 2) (pv 3) zY) rfl rfl (adD _ _) (by decide)))))))))))
  (aa (bC aev rfl (bx (fL (k:=1) (pv 0) hr.mo (pY P w))) (bW (i:=4) tj.nd) (aa (aK (i:=5) tj.nd (cW (k:=1) (pv 0) hr.mo (pY P w) (aS (pv 4))))
   (ah (bq (gs aeH aeN aeP cQ (pv 1) (aS (aT acV hr (bE (pv 0) (aF (pv 5)) (aF (pv 5))))))))))
  (ah (aE (pv 1)))))),?_⟩
 refine ⟨z0L,?_⟩
 intro r nr;generalize eX:upd _ r _=H1;have ⟨s1,er⟩:=nw nr eX
 have big:(40:Nat)<=ael:=by decide
 have wl:=qh pins g.lw
 have gl:=g.lp
 have R0:ix K H1 r [] [] []:=⟨⟨er,rfl,fun i l vs e=>by simp at e⟩,⟨rfl,fun i vs qs e=>by simp at e⟩,by simp⟩
 have R1:=R.same s1
 obtain ⟨dx,pP,pW,pB,kP,kW,kB,F1,W1⟩:=R1.ex
 refine ⟨_,rfl,a,C,dx,_,_,_,rfl,F1.obj,rfl,MP,a,dx,pP,pW,pB,_,_,kP,kW,kB,rfl,F1,fun lp H2 s2 yN vy=>?_⟩
 rw [gx] at vy
 have qe:=s1.trans s2
 have Mo:lp≠r:=fun z=>by rw [z,er] at yN;cases yN
 refine ⟨lp,rfl,⟨_,aV.of vy⟩,ck (K:=K) (a:=lp) (xs:=(pins.map (·.nm)).map V.str) (fun i σ H'=>HE fun (o2 o3:ψ) (ls:χ) (cL:Ζ)=>σ=[some (.ref a),some (.ref r),o2,o3,none,none]/\au H H'/\H' lp=some (.lst ((pins.map (·.nm)).map V.str))/\ix K H' r ls cL ((pins.take i).flatMap fun p=>qc pins p)) ⟨none,none,[],[],rfl,qe,vy,R0.same s2⟩ (fun i σ H' _ h=>by
   obtain ⟨_,_,_,_,_,_,h,_⟩:=h
   exact aV.of h) ?_ ?_⟩
 ·rintro i z σ H4 hi ⟨o2,o3,ls,cL,rfl,s4,l4,RR⟩
  rw [aag,aag] at hi
  obtain ⟨x,hx,rfl⟩:=aaw.mp hi
  obtain ⟨p,hp,rfl⟩:=aaw.mp hx
  have mp:p∈pins:=Wp hp
  have R4:=R.same s4
  obtain ⟨dx,pP,pW,pB,kP,kW,kB,F4,W4⟩:=R4.ex
  have mpn:p.nm∈(pins.map fun p=>(p.nm,qX p.sp)).map (·.1):=by rw [gx];exact aai.mpr ⟨p,mp,rfl⟩
  refine ⟨_,rfl,a,C,dx,_,_,_,rfl,F4.obj,rfl,MW,_,rfl,a,dx,pP,pW,pB,_,_,kP,kW,kB,_,p.nm,p.ws,rfl,F4,W4,PH g.np,aai.mpr ⟨p,mp,rfl⟩,mpn,fun m us H5 s5 n5 e5 p5=>?_⟩
  have lu:us.length=p.ws.length:=aer p5
  have w8:=s4.trans s5
  have mr:m≠r:=fun z=>by rw [z,RR.mZ.1] at n5;cases n5
  refine ⟨m,rfl,⟨_,aV.of e5⟩,ck (K:=K) (a:=m) (xs:=us) (fun j σ H'=>G' fun (o3:ψ) (ls:χ) (cL:Ζ)=>σ=[some (.ref a),some (.ref r),some (.str p.nm),o3,none,none]/\au H H'/\H' lp=some (.lst ((pins.map (·.nm)).map V.str))/\H' m=some (.lst us)/\iB K H' us p.ws/\ix K H' r ls cL (((pins.take i).flatMap fun p=>qc pins p)++(p.ws.take j).map fun w=>dE (gk p.nm w) pins)) ⟨o3,ls,cL,rfl,w8,s5 _ _ l4,e5,p5,by simpa using RR.same s5⟩ (fun j σ H' _ h=>by
    obtain ⟨_,_,_,_,_,_,h,_⟩:=h
    exact aV.of h) ?_ ?_⟩
  ·rintro j u σ H6 hu ⟨o3,ls,cL,rfl,s6,l6,e6,p6,w_⟩
   obtain ⟨w,ew,hw⟩:=aw p6 hu
   have jl:=(ir.mp hu).1
   refine ⟨_,rfl,.inl ⟨rfl,_,aV.of w_.mZ.1⟩,_,rfl,fun d nd=>?_⟩
   have t1:=aH nd (.dK [])
   have d1:(upd H6 d (.dK [])) d=some (.dK []):=ak
   generalize upd H6 d (.dK [])=H7 at t1 d1 ⊢
   refine ⟨_,rfl,_,rfl,d1,[(.inr p.nm,u)],rfl,(by show 1<=15;decide),?_⟩
   rw [RM]
   have st:bu H7 (upd H7 d (.dK [(.inr p.nm,u)])):=.dict d1
   have d8:(upd H7 d (.dK [(.inr p.nm,u)])) d=some (.dK [(.inr p.nm,u)]):=ak
   have t8:au H6 (upd H7 d (.dK [(.inr p.nm,u)])):=fun c o z=>by
    rw [ao (aq z nd)]
    exact t1 _ _ z
   have hw8:=(hw.same t1).aR st
   generalize upd H7 d (.dK [(.inr p.nm,u)])=H8 at d8 t8 hw8 ⊢
   have s8:=s6.trans t8
   refine ⟨a,d,pins,aj,_,gk p.nm w,rfl,R.same s8,aak g.lp (by decide),d8,fun x=>?_,fun l eK H9 t9 n9 e9 nm=>?_⟩
   ·by_cases c1:x=p.nm
    ·subst c1
     exact .inr ⟨u,w,bT rfl,by unfold gk;rw [aek rfl],hw8⟩
    ·exact .inl ⟨by rw [bG (fun z=>c1 (aa4 z).symm)];rfl,by unfold gk;rw [aej c1]⟩
   have t69:=t8.trans t9
   have NW:=w_.same t69
   have lr:l≠r:=fun z=>by rw [z,t8 _ _ w_.mZ.1] at n9;cases n9
   have lss:ls.length<=18:=by
    have h1:=w_.mZ.2.1
    have h2:=w_.num.1
    rw [aat,aah,aaJ,qi] at h2
    have h3:((pins.take i).flatMap fun p=>p.ws).length+p.ws.length<=(pins.flatMap fun p=>p.ws).length:=by
     have e:pins=pins.take i++p::pins.drop (i+1):=by
      have lt:=(ir.mp hp).1
      have e2:=(ir.mp hp).2
      rw [<-e2,ajV,adz]
     have e3:=aeE (fun l:List ay=>(l.flatMap fun p=>p.ws).length) e
     simp only [abg,aaH,aat] at e3
     omega
    omega
   refine ⟨r,_,_,rfl,rfl,NW.mZ.1,(by rw [aah];omega),?_⟩
   have RN:=NW.push e9 lr nm
   have tr:bu H9 (upd H9 r (.lst (ls.map V.ref++[.ref l]))):=.list NW.mZ.1
   have kk:∀b o,b≠r->H6 b=some o->(upd H9 r (.lst (ls.map V.ref++[.ref l]))) b=some o:=fun b o n e=>by rw [ao n];exact t69 _ _ e
   refine ⟨_,ls++[l],cL++[eK],rfl,fun b o e=>?_,kk _ _ Mo l6,kk _ _ mr e6,(p6.same t69).aR tr,?_⟩
   ·exact kk _ _ (aq e nr) (s6 _ _ e)
   ·rw [take_snoc ew,aax,<-ab5]
    exact RN
  ·rintro σ H6 ⟨o3,ls,cL,rfl,s6,l6,e6,p6,w_⟩
   refine ⟨_,_,ls,cL,rfl,s6,l6,?_⟩
   rw [lu,aaW] at w_
   rw [take_snoc hp,abg]
   simpa [qc] using w_
 ·rintro σ H4 ⟨o2,o3,ls,cL,rfl,s4,l4,RR⟩
  rw [aah,aah,aaW] at RR
  have R4:=R.same s4
  obtain ⟨dx,pP,pW,pB,kP,kW,kB,F4,W4⟩:=R4.ex
  refine ⟨_,rfl,a,C,dx,_,_,_,rfl,F4.obj,rfl,MB,a,dx,pP,pW,pB,_,_,kP,kW,kB,rfl,F4,fun lb H5 s5 nlb RP=>?_⟩
  rw [AS] at RP
  have bne:lb≠r:=fun z=>by rw [z,RR.mZ.1] at nlb;cases nlb
  refine ⟨lb,rfl,⟨_,aV.of RP⟩,ck (K:=K) (a:=lb) (xs:=(aj.map (·.nm)).map V.str) (fun i σ H'=>HE fun (o4 o5:ψ) (ls:χ) (cL:Ζ)=>σ=[some (.ref a),some (.ref r),o2,o3,o4,o5]/\au H H'/\H' lb=some (.lst ((aj.map (·.nm)).map V.str))/\ix K H' r ls cL ((pins.flatMap fun p=>qc pins p)++(aj.take i).map fun b=>dE (dR b) pins)) ⟨none,none,ls,cL,rfl,s4.trans s5,RP,by simpa using RR.same s5⟩ (fun i σ H' _ h=>by
    obtain ⟨_,_,_,_,_,_,h,_⟩:=h
    exact aV.of h) ?_ ?_⟩
  ·rintro i z σ H6 hi ⟨o4,o5,ls,cL,rfl,s6,l6,w_⟩
   rw [aag,aag] at hi
   obtain ⟨x,hx,rfl⟩:=aaw.mp hi
   obtain ⟨b,hb,rfl⟩:=aaw.mp hx
   have mb:b∈aj:=Wp hb
   have il:=(ir.mp hb).1
   have R6:=R.same s6
   obtain ⟨dx,pP,pW,pB,kP,kW,kB,F6,W6⟩:=R6.ex
   refine ⟨_,rfl,a,C,dx,_,_,_,rfl,F6.obj,rfl,ME,_,rfl,a,dx,pP,pW,pB,_,_,kP,kW,kB,b.nm,b.one.nm,b.other.nm,rfl,F6,V1 g.nb,aai.mpr ⟨b,mb,rfl⟩,fun p rd=>?_⟩
   have tp:bJ K H6 p [.str b.one.nm,.str b.other.nm]:=.inl rd
   obtain ⟨m1,m2,m3⟩:=g.ends b mb
   refine ⟨_,rfl,.inl ⟨rfl,_,aV.of w_.mZ.1⟩,_,rfl,_,rfl,p,_,_,_,rfl,rfl,tp,iC,_,rfl,p,_,_,_,rfl,rfl,tp,iD,a,pins,aj,b,rfl,R6,g,m1,m2,m3,fun l eK H9 t9 n9 e9 nm=>?_⟩
   have NW:=w_.same t9
   have lr:l≠r:=fun z=>by rw [z,w_.mZ.1] at n9;cases n9
   have lss:ls.length<=32:=by
    have h1:=w_.mZ.2.1
    have h2:=w_.num.1
    rw [aat,aah,aaJ,qi] at h2
    have:=g.lb
    omega
   refine ⟨r,_,_,rfl,rfl,NW.mZ.1,(by rw [aah];omega),?_⟩
   have RN:=NW.push e9 lr nm
   have kk:∀c o,c≠r->H6 c=some o->(upd H9 r (.lst (ls.map V.ref++[.ref l]))) c=some o:=fun c o n e=>by rw [ao n];exact t9 _ _ e
   refine ⟨_,_,ls++[l],cL++[eK],rfl,fun c o e=>kk _ _ (aq e nr) (s6 _ _ e),kk _ _ bne l6,?_⟩
   rw [take_snoc hb,aax,<-ab5]
   exact RN
  ·rintro σ H6 ⟨o4,o5,ls,cL,rfl,s6,l6,w_⟩
   rw [aah,aah,aaW] at w_
   exact ⟨_,rfl,q r ls cL H6 s6 nr w_⟩
theorem KU {i j:Nat}(h:i<=j)(hj:j<=xs.length):fK xs (some (i:Int)) (some (j:Int))=(xs.drop i).take (j-i):=by
 unfold fK
 rw [HT.nV,HT.nV,adQ hj,adQ (show i<=xs.length by omega)]
theorem ia :∀{l:List α} {m:List β} (n:Nat),Paired R l m->Paired R (l.drop n) (m.drop n)
 | _,_,0,h=>h
 | _,_,_+1,.nil=>.nil
 | _,_,n+1,.cons _ t=>ia n t
theorem ib :∀{l:List α} {m:List β} (n:Nat),Paired R l m->Paired R (l.take n) (m.take n)
 | _,_,0,_=>.nil
 | _,_,_+1,.nil=>.nil
 | _,_,n+1,.cons h t=>.cons h (ib n t)
theorem ie:∀(more kvs:γ),((kvs++more).map (·.1)).Nodup->bN kvs more=kvs++more
 | [],kvs,_=>by simp [bN]
 | p::r,kvs,h=>by
  have e:bN kvs (p::r)=bN (putK kvs p.1 p.2) r:=rfl
  have hn:p.1∉kvs.map (·.1):=fun z=>by
   rw [aax,aaj,ab6] at h
   exact h.2.2 p.1 z p.1 aas rfl
  rw [e,dI _ (cb hn),ie r (kvs++[(p.1,p.2)]) (by rw [ab5];exact h),ab5]
  rfl
theorem AU :∀{aj:τ} {ys:ε} {rs:Τ},(aj.map (·.nm)).Nodup->aj.length=rs.length->Paired R ys rs->
  ∃T:Str->Rat,aj.map (fun b=>T b.nm)=rs/\(((aj.map fun b=>(aaU b.nm:Key)).zip ys).map (·.1))=aj.map (fun b=>(aaU b.nm:Key))/\∀b∈aj,∃v,bY ((aj.map fun b=>(aaU b.nm:Key)).zip ys) (.inr b.nm)=some v/\R v (T b.nm)
 | [],_,[],_,_,.nil=>⟨fun _=>0,rfl,rfl,by simp⟩
 | _::_,[],_,_,hl,.nil=>by simp at hl
 | b::bs,y::ys,r::rs,nd,hl,.cons h t=>by
  rw [aaj,aaR] at nd
  obtain ⟨T,h1,h2,h3⟩:=AU nd.2 (by simpa using hl) t
  have ne:∀c∈bs,c.nm≠b.nm:=fun c hc z=>nd.1 (z▸aai.mpr ⟨c,hc,rfl⟩)
  obtain ⟨T',t1,t2⟩:∃T':Str->Rat,T' b.nm=r/\∀x,x≠b.nm->T' x=T x:=⟨fun x=>if x=b.nm then r else T x,aek rfl,fun x h=>aej h⟩
  refine ⟨T',?_,?_,fun c hc=>?_⟩
  ·have em:bs.map (fun c=>T' c.nm)=rs:=by
    rw [<-h1]
    exact aaO fun c hc=>t2 _ (ne c hc)
   rw [aaj,t1,em]
  ·rw [aaj,akg,aaj,h2]
  ·rw [aaj,akg]
   rcases aaL.mp hc with e|hc
   ·subst e
    exact ⟨y,bT rfl,by rw [t1];exact h⟩
   ·obtain ⟨v,e1,e2⟩:=h3 c hc
    refine ⟨v,?_,by rw [t2 _ (ne c hc)];exact e2⟩
    rw [bG (fun z=>ne c hc (aa4 z).symm)]
    exact e1
def cH (pins:ν):Nat:=(pins.flatMap fun p=>p.ws).length
theorem qj (ps:ν)(p:ay):cH (ps++[p])=cH ps+p.ws.length:=by
 unfold cH
 rw [abg,aat]
 simp
theorem yO (h:pins[i]?=some p):cH (pins.take i)+p.ws.length<=cH pins:=by
 have e:pins=pins.take i++p::pins.drop (i+1):=by
  have lt:=(ir.mp h).1
  have e2:=(ir.mp h).2
  rw [<-e2,ajV,adz]
 have e3:=aeE (fun l:List ay=>(l.flatMap fun p=>p.ws).length) e
 simp only [abg,aaH,aat] at e3
 unfold cH
 omega
structure PPR (K:Frag)(H H':Hp)(pins:ν)(aj:τ)(dT dU:aef)(kT kU:γ)(T:Ι)(U:Α)(L:Str->aef):Prop where
 nT:H dT=none
 nU:H dU=none
 ne:dT≠dU
 hT:H' dT=some (.dK kT)
 hU:H' dU=some (.dK kU)
 KW:kT.map (·.1)=aj.map (fun b=>(aaU b.nm:Key))
 KY:kU.map (·.1)=pins.map (fun p=>(aaU p.nm:Key))
 tT:∀b∈aj,∃v,bY kT (.inr b.nm)=some v/\fN K H' v (T b.nm)
 tU:∀p∈pins,∃vs,bY kU (.inr p.nm)=some (.ref (L p.nm))/\H (L p.nm)=none/\H' (L p.nm)=some (.lst vs)/\Paired (fN K H') vs (U p.nm)
 lU:∀p∈pins,(U p.nm).length=p.ws.length
 inj:∀p∈pins,∀q∈pins,L p.nm=L q.nm->p.nm=q.nm
inductive RQ (K:Frag)(C:aef)(vs:ε)(H:Hp)(Q:VK)(E_:XK):Prop
|mk (a nl:aef)(pins:ν)(aj:τ)(us:ε)(rs:Τ)(_:vs=[.ref a,.ref nl])(_:vw K H C a pins aj)(_:fG pins aj)(_:H nl=some (.lst us))(_:Paired (fN K H) us rs)(_:rs.length=cH pins+aj.length)(_:∀(T:Ι)(U:Α)(L:Str->aef)(p dT dU:aef)(kT kU:γ)(H':Hp),au H H' ->rs=(pins.flatMap fun p=>U p.nm)++aj.map (fun b=>T b.nm)->H' p=some (.tup [.ref dT,.ref dU])->PPR K H H' pins aj dT dU kT kU T U L->Q (.ref p) H')
theorem yP {ps:ν}{U W:Α}(h:∀p∈ps,U p.nm=W p.nm):(ps.flatMap fun p=>U p.nm)=ps.flatMap fun p=>W p.nm:=by
 induction ps with
 | nil=>rfl
 | cons p ps ih=>
  rw [aaH,aaH,h p aas,ih fun q hq=>h q (aan _ hq)]
theorem qk:aC ["F","numbers","pushes","at","pin","behind","pulls"] zaB (ae DW):=sq
theorem V_ (D:Def K mg "pulls_and_pushes" DW zaB)(aX:mg "len"=none)(d_:mg "dict"=none)(jz:mg "zip"=none)(MP:bH P w K mg base (aY P w) 1 C "pins" zaj (g9 K C))(MW:bH P w K mg base (aY P w) 2 C "ways" zap (qb K C))(MB:bH P w K mg base (aY P w) 1 C "bars" zaj (qa K C)):
  Fn P w K mg base (aY P w) 3 "pulls_and_pushes" zaB (RQ K C):=by
 refine D.op qk fun f cp A outer s H vs Q E hr h=>?_
 obtain ⟨a,nl,pins,aj,us,rs,rfl,R,g,hn,hu,hl,q⟩:=h
 have lu:us.length=rs.length:=aer hu
 have wl:cH pins<=2*pins.length:=qh pins g.lw
 have gl:=g.lp
 have gb:=g.lb
 refine ⟨_,(aa (aK (i:=2) qk.nd fZ)
  (aa (aK (i:=3) qk.nd ag)
  (aa (bC aev rfl (bx (fL (k:=1) (pv 0) hr.mo (pY P w))) (bW (i:=4) qk.nd) (aa (aK (i:=5) qk.nd (aJ cf (pv 3) (aG aD rfl aX bS (aS (cW (k:=2) (pv 0) hr.mo (pY P w) (aS (pv 4)))))))
   (aa (fM (b6 hr) (pv 2) (pv 4) (cP gX (pv 1) (cM (pv 3)) (cM (pv 5))) rfl)
   (ah (aK (i:=3) qk.nd (pv 5))))))
  (aa (aK (i:=6) qk.nd (Kg rfl rfl d_ rfl jz (aL (fL (k:=1) (pv 0) hr.mo (pY P w)) (cP gX (pv 1) (cM (pv 3)) fj))))
  (ah (aE (aU (aL (pv 6) (pv 2))))))))),?_⟩
 intro dU nU
 have s1:=aH nU (.dK [])
 have e1:(upd H dU (.dK [])) dU=some (.dK []):=ak
 generalize upd H dU (.dK [])=H1 at s1 e1 ⊢
 have R1:=R.same s1
 obtain ⟨dx,pP,pW,pB,kP,kW,kB,F1,W1⟩:=R1.ex
 refine ⟨_,rfl,a,C,dx,_,_,_,rfl,F1.obj,rfl,MP,a,dx,pP,pW,pB,_,_,kP,kW,kB,rfl,F1,fun lp H2 s2 yN vy=>?_⟩
 rw [gx] at vy
 have qe:=s1.trans s2
 have Mo:lp≠dU:=fun z=>by rw [z,e1] at yN;cases yN
 refine ⟨lp,rfl,⟨_,aV.of vy⟩,ck (K:=K) (a:=lp) (xs:=(pins.map (·.nm)).map V.str) (fun i σ H'=>S2 fun (o4 o5:ψ) (kU:γ) (U:Α) (L:Str->aef)=>σ=[some (.ref a),some (.ref nl),some (.ref dU),some (.int (cH (pins.take i):Int)),o4,o5,none]/\au H H'/\H' lp=some (.lst ((pins.map (·.nm)).map V.str))/\H' dU=some (.dK kU)/\kU.map (·.1)=(pins.take i).map (fun p=>(aaU p.nm:Key))/\((pins.take i).flatMap fun p=>U p.nm)=rs.take (cH (pins.take i))/\
   (∀p∈pins.take i,∃vs,bY kU (.inr p.nm)=some (.ref (L p.nm))/\H (L p.nm)=none/\H' (L p.nm)=some (.lst vs)/\Paired (fN K H') vs (U p.nm))/\(∀p∈pins.take i,(U p.nm).length=p.ws.length)/\(∀p∈pins.take i,∀q∈pins.take i,L p.nm=L q.nm->p.nm=q.nm))
   ⟨none,none,[],fun _=>[],fun _=>0,rfl,qe,vy,s2 _ _ e1,rfl,rfl,by simp,by simp,by simp⟩ (fun i σ H' _ h=>by
   obtain ⟨_,_,_,_,_,_,_,h,_⟩:=h
   exact aV.of h) ?_ ?_⟩
 ·rintro i z σ H4 hi ⟨o4,o5,kU,U,L,rfl,s4,l4,e4,ks,fl,tU,lU,inj⟩
  rw [aag,aag] at hi
  obtain ⟨x,hx,rfl⟩:=aaw.mp hi
  obtain ⟨p,hp,rfl⟩:=aaw.mp hx
  have mp:p∈pins:=Wp hp
  have il:i<pins.length:=(ir.mp hp).1
  have R4:=R.same s4
  obtain ⟨dx,pP,pW,pB,kP,kW,kB,F4,W4⟩:=R4.ex
  have mpn:p.nm∈(pins.map fun p=>(p.nm,qX p.sp)).map (·.1):=by rw [gx];exact aai.mpr ⟨p,mp,rfl⟩
  refine ⟨_,rfl,_,rfl,a,C,dx,_,_,_,rfl,F4.obj,rfl,MW,_,rfl,a,dx,pP,pW,pB,_,_,kP,kW,kB,_,p.nm,p.ws,rfl,F4,W4,PH g.np,aai.mpr ⟨p,mp,rfl⟩,mpn,fun m vs H5 s5 n5 e5 p5=>?_⟩
  have lv:vs.length=p.ws.length:=aer p5
  refine ⟨m,_,rfl,.inl (aV.of e5),_,_,rfl,rfl,?_⟩
  have tk:=take_snoc hp
  have wn:cH (pins.take (i+1))=cH (pins.take i)+p.ws.length:=by rw [tk,qj]
  have wt:=yO hp
  have eb:(cH (pins.take i):Int)+((vs.length:Nat):Int)=((cH (pins.take (i+1)):Nat):Int):=by rw [wn,lv];omega
  have NX:=s4.trans s5
  have NO:=NX _ _ hn
  dsimp only
  rw [eb]
  refine ⟨_,rfl,_,rfl,_,rfl,_,rfl,_,rfl,nl,_,rfl,aV.of NO,?_⟩
  rw [KU (by omega) (by omega)]
  intro m2 n6;generalize eX:upd _ m2 _=H6;have ⟨s6,e6⟩:=nw n6 eX
  have V':=s6 _ _ (s5 _ _ e4)
  have lk:kU.length<=9:=by
   have z:=aeE acf ks
   rw [aah,aah,aaJ] at z
   omega
  refine ⟨_,rfl,_,rfl,dU,_,rfl,kz.k (k:=.inr p.nm) V' (aap (show kU.length<=1000 by omega) (by decide)),?_⟩
  have fresh:(aaU p.nm:Key)∉kU.map (·.1):=by
   rw [ks]
   intro z
   obtain ⟨b',iH,vx⟩:=aai.mp z
   exact f_ (nm:=ay.nm) g.np hp iH (aa4 vx)
  have pk:putK kU (.inr p.nm) (.ref m2)=kU++[(.inr p.nm,.ref m2)]:=dI _ (cb fresh)
  have t6:bu H6 (upd H6 dU (.dK (putK kU (.inr p.nm) (.ref m2)))):=.dict V'
  have KJ:=s5.trans s6
  have md:m2≠dU:=fun z=>by rw [z,s5 _ _ e4] at n6;cases n6
  have kk:∀b o,b≠dU->H4 b=some o->(upd H6 dU (.dK (putK kU (.inr p.nm) (.ref m2)))) b=some o:=fun b o n e=>by rw [ao n];exact KJ _ _ e
  have ne:∀p' ∈pins.take i,p'.nm≠p.nm:=fun p' iY =>f_ (nm:=ay.nm) g.np hp iY
  have uP :∀p' ∈pins.take (i+1),p' ∈pins.take i\/p'=p:=fun p' iY =>by
   rw [tk] at iY
   rcases aau.mp iY with h|h
   ·exact .inl h
   ·exact .inr (aao.mp h)
  have hold:∀p' ∈pins.take i,∃o,H4 (L p'.nm)=some o:=fun p' iY =>by
   obtain ⟨vs,_,_,h,_⟩:=tU p' iY
   exact ⟨_,h⟩
  obtain ⟨U',hU1,hU2⟩:∃U':Str->List Rat,U' p.nm=(rs.drop (cH (pins.take i))).take p.ws.length/\∀x,x≠p.nm->U' x=U x:=⟨fun x=>if x=p.nm then (rs.drop (cH (pins.take i))).take p.ws.length else U x,aek rfl,fun x h=>aej h⟩
  obtain ⟨L',RA,Px⟩:∃L':Str->aef,L' p.nm=m2/\∀x,x≠p.nm->L' x=L x:=⟨fun x=>if x=p.nm then m2 else L x,aek rfl,fun x h=>aej h⟩
  refine ⟨_,rfl,_,_,putK kU (.inr p.nm) (.ref m2),U',L',rfl,fun b o e=>?_,kk _ _ Mo l4,ak,?_,?_,fun p' iY =>?_,fun p' iY =>?_,fun p' iY q' nq =>?_⟩
  ·rw [ao (aq e nU)]
   exact KJ _ _ (s4 _ _ e)
  ·rw [pk,aax,ks,tk,aax]
   rfl
  ·rw [tk,abg,qj]
   rw [yP (U:=U') (W:=U) fun p' iY =>hU2 _ (ne p' iY),fl]
   simp only [aaH,akB,acB,hU1]
   rw [List.take_add]
  ·rw [iS]
   rcases uP p' iY with h|h
   ·rw [aej (fun z=>ne p' h (aa4 z)),Px _ (ne p' h),hU2 _ (ne p' h)]
    obtain ⟨cA,h1,h2,h3,h4⟩:=tU p' h
    exact ⟨cA,h1,h2,kk _ _ (fun z=>by rw [z,e4] at h3;cases h3) h3,Paired.bL h4 fun _ _ z=>(z.same KJ).aR t6⟩
   ·subst h
    rw [aek rfl,RA,hU1]
    refine ⟨_,rfl,(s4.trans s5).free n6,by rw [ao md];exact e6,?_⟩
    have a1:=ib (cH (pins.take (i+1))-cH (pins.take i)) (ia (cH (pins.take i)) hu)
    have a2:cH (pins.take (i+1))-cH (pins.take i)=p'.ws.length:=by omega
    rw [a2] at a1 ⊢
    exact Paired.bL a1 fun _ _ z=>((z.same s4).same KJ).aR t6
  ·rcases uP p' iY with h|h
   ·rw [hU2 _ (ne p' h)]
    exact lU p' h
   ·subst h
    rw [hU1,aaJ,adC]
    omega
  ·rcases uP p' iY with h|h<;>rcases uP q' nq with h'|h'
   ·rw [Px _ (ne p' h),Px _ (ne q' h')]
    exact inj p' h q' h'
   ·subst h'
    rw [Px _ (ne p' h),RA]
    intro z
    obtain ⟨o,ho⟩:=hold p' h
    rw [z,s5.free n6] at ho
    cases ho
   ·subst h
    rw [Px _ (ne q' h'),RA]
    intro z
    obtain ⟨o,ho⟩:=hold q' h'
    rw [<-z,s5.free n6] at ho
    cases ho
   ·intro _
    rw [h,h']
 ·rintro σ H4 ⟨o4,o5,kU,U,L,rfl,s4,l4,e4,ks,fl,tU,lU,inj⟩
  rw [aah,aah,aaW] at ks fl tU lU inj
  have R4:=R.same s4
  obtain ⟨dx,pP,pW,pB,kP,kW,kB,F4,W4⟩:=R4.ex
  refine ⟨_,rfl,a,C,dx,_,_,_,rfl,F4.obj,rfl,MB,a,dx,pP,pW,pB,_,_,kP,kW,kB,rfl,F4,fun lb H5 s5 nlb RP=>?_⟩
  rw [AS] at RP
  have NX:=s4.trans s5
  refine ⟨_,rfl,_,rfl,_,rfl,nl,_,rfl,aV.of (NX _ _ hn),?_⟩
  have hw:cH pins<=us.length:=by omega
  rw [aah,aah,aaW,s_ hw]
  intro m2 n6;generalize eX:upd _ m2 _=H6;have ⟨s6,e6⟩:=nw n6 eX
  have RS:Paired (fN K H6) (us.drop (cH pins)) (rs.drop (cH pins)):=Paired.bL (ia (cH pins) hu) fun _ _ z=>(z.same NX).same s6
  obtain ⟨T,h1,h2,h3⟩:=AU (R:=fN K H6) g.nb (by rw [adC];omega) RS
  have eks:(aj.map (·.nm)).map V.str=(aj.map fun b=>(aaU b.nm:Key)).map kV:=by
   rw [aay,aay]
   rfl
  rw [eks] at RP
  refine ⟨lb,m2,aj.map fun b=>(aaU b.nm:Key),us.drop (cH pins),rfl,s6 _ _ RP,e6,by rw [aah];omega,fun dT H7 s7 n7 e7=>?_⟩
  have ndk:(aj.map fun b=>(aaU b.nm:Key)).Nodup:=by
   have:=DJ g.nb
   rw [aay] at this
   exact this
  rw [ie _ [] (by rw [ace,h2];exact ndk),ace] at e7
  refine ⟨_,rfl,_,rfl,z2L,?_⟩
  intro pt n8;generalize eX:upd _ pt _=H8;have ⟨s8,e8⟩:=nw n8 eX
  have S8:=(s5.trans s6).trans (s7.trans s8)
  have Wa:=s4.trans S8
  have er:rs=(pins.flatMap fun p=>U p.nm)++aj.map (fun b=>T b.nm):=by rw [fl,h1,adz]
  refine q T U L pt dT dU _ kU H8 Wa er e8 ⟨(NX.trans s6).free n7,nU,(fun z=>by rw [z,s6 _ _ (s5 _ _ e4)] at n7;cases n7),s8 _ _ e7,S8 _ _ e4,h2,ks,fun b hb=>?_,fun p hp=>?_,lU,inj⟩
  ·obtain ⟨v,e1,e2⟩:=h3 b hb
   exact ⟨v,e1,(e2.same s7).same s8⟩
  ·obtain ⟨cA,a1,a2,a3,a4⟩:=tU p hp
   exact ⟨cA,a1,a2,S8 _ _ a3,Paired.bL a4 fun _ _ z=>z.same S8⟩
inductive qm (K:Frag)(C:aef)(vs:ε)(H:Hp)(Q:VK)(E_:XK):Prop
|mk (a nl:aef)(pins:ν)(aj:τ)(us:ε)(rs:Τ)(_:vs=[.ref a,.ref nl])(_:vw K H C a pins aj)(_:fG pins aj)(_:H nl=some (.lst us))(_:Paired (fN K H) us rs)(_:rs.length=2*pins.length)(_:∀(M:Β)(d:aef)(kM:γ)(H':Hp),au H H' ->rs=(pins.flatMap fun p=>[(M p.nm).1,(M p.nm).2])->H d=none->H' d=some (.dK kM)->kM.map (·.1)=pins.map (fun p=>(aaU p.nm:Key))->(∀p∈pins,∃t v1 v2,bY kM (.inr p.nm)=some (.ref t)/\H' t=some (.tup [v1,v2])/\fN K H' v1 (M p.nm).1/\fN K H' v2 (M p.nm).2)->Q (.ref d) H')
theorem xa {ps:ν}{U W:Β}(h:∀p∈ps,U p.nm=W p.nm):(ps.flatMap fun p=>[(U p.nm).1,(U p.nm).2])=ps.flatMap fun p=>[(W p.nm).1,(W p.nm).2]:=by
 induction ps with
 | nil=>rfl
 | cons p ps ih=>
  rw [aaH,aaH,h p aas,ih fun q hq=>h q (aan _ hq)]
theorem AV:aC ["F","numbers","motion","at","pin"] zaB (ae DX):=sq
theorem Wb (D:Def K mg "motion_from" DX zaB)(dX:mg "enumerate"=none)(MP:bH P w K mg base (aY P w) 1 C "pins" zaj (g9 K C)):
  Fn P w K mg base (aY P w) 2 "motion_from" zaB (qm K C):=by
 refine D.oo AV fun H hr h=>?_
 obtain ⟨a,nl,pins,aj,us,rs,rfl,R,g,hn,hu,hl,q⟩:=h
 have lu:us.length=rs.length:=aer hu
 have gl:=g.lp
 refine ⟨_,(aa (aK (i:=2) AV.nd fZ)
  (aa (bC aev rfl (z6 rfl dX (aS (fL (k:=1) (pv 0) hr.mo (wO P w)))) (eY rfl (aZ (bW (i:=3) AV.nd) (aZ (bW (i:=4) AV.nd) cU))) (ah (fM (b6 hr) (pv 2) (pv 4) (aU (aL (bD aQ (pv 1) (aJ cV ag (pv 3))) (bD aQ (pv 1) (aJ cf (aJ cV ag (pv 3)) ag)))) rfl)))
  (ah (aE (pv 2))))),?_⟩
 intro d nd
 have s1:=aH nd (.dK [])
 have e1:(upd H d (.dK [])) d=some (.dK []):=ak
 generalize upd H d (.dK [])=H1 at s1 e1 ⊢
 have R1:=R.same s1
 obtain ⟨dx,pP,pW,pB,kP,kW,kB,F1,W1⟩:=R1.ex
 refine ⟨_,rfl,a,C,dx,_,_,_,rfl,F1.obj,rfl,MP,a,dx,pP,pW,pB,_,_,kP,kW,kB,rfl,F1,fun lp H2 s2 yN vy=>?_⟩
 rw [gx] at vy
 have qe:=s1.trans s2
 have Mo:lp≠d:=fun z=>by rw [z,e1] at yN;cases yN
 refine ⟨lp,rfl,⟨_,aV.of vy⟩,wu (K:=K) (a:=lp) (xs:=(pins.map (·.nm)).map V.str) (fun i σ H'=>HE fun (o3 o4:ψ) (kM:γ) (M:Β)=>σ=[some (.ref a),some (.ref nl),some (.ref d),o3,o4]/\au H H'/\H' lp=some (.lst ((pins.map (·.nm)).map V.str))/\H' d=some (.dK kM)/\kM.map (·.1)=(pins.take i).map (fun p=>(aaU p.nm:Key))/\((pins.take i).flatMap fun p=>[(M p.nm).1,(M p.nm).2])=rs.take (2*i)/\
   (∀p∈pins.take i,∃t v1 v2,bY kM (.inr p.nm)=some (.ref t)/\H' t=some (.tup [v1,v2])/\fN K H' v1 (M p.nm).1/\fN K H' v2 (M p.nm).2))
   ⟨none,none,[],fun _=>(0,0),rfl,qe,vy,s2 _ _ e1,rfl,rfl,by simp⟩ (fun i σ H' _ h=>by
   obtain ⟨_,_,_,_,_,_,h,_⟩:=h
   exact aV.of h) ?_ ?_⟩
 ·rintro i z σ H4 p9 hi ⟨o3,o4,kM,M,rfl,s4,l4,e4,ks,fl,tM⟩ n9
  rw [aag,aag] at hi
  obtain ⟨x,hx,rfl⟩:=aaw.mp hi
  obtain ⟨p,hp,rfl⟩:=aaw.mp hx
  have il:i<pins.length:=(ir.mp hp).1
  have t9:=aH n9 (.tup [.int (i:Int),.str p.nm])
  have e9:(upd H4 p9 (.tup [.int (i:Int),.str p.nm])) p9=some (.tup [.int (i:Int),.str p.nm]):=ak
  generalize upd H4 p9 (.tup [.int (i:Int),.str p.nm])=H5 at t9 e9 ⊢
  refine ⟨p9,_,rfl,bJ.of e9,rfl,_,_,rfl,_,_,rfl,rfl,?_⟩
  have NX:=s4.trans t9
  have NO:=NX _ _ hn
  have l1:2*i<us.length:=by omega
  have l2:2*i+1<us.length:=by omega
  have c2:vU 2 (i:Int):=⟨by decide+kernel,aak (intBits_le_64 (by omega) (by omega)) (by decide)⟩
  have a1:gh us (2*(i:Int))=some us[2*i]:=by
   have:=bP (xs:=us) (j:=2*i) (gE l1)
   rw [show ((2*i:Nat):Int)=2*(i:Int) by omega] at this
   exact this
  have a2:gh us (2*(i:Int)+1)=some us[2*i+1]:=by
   have:=bP (xs:=us) (j:=2*i+1) (gE l2)
   rw [show ((2*i+1:Nat):Int)=2*(i:Int)+1 by omega] at this
   exact this
  refine ⟨_,rfl,_,rfl,_,_,rfl,rfl,c2,nl,_,_,_,rfl,rfl,aV.of NO,a1,_,rfl,_,rfl,_,_,rfl,rfl,c2,_,_,rfl,rfl,nl,_,_,_,rfl,rfl,aV.of NO,a2,z2L,?_⟩
  intro t n6;generalize eX:upd _ t _=H6;have ⟨s6,e6⟩:=nw n6 eX
  have V':=s6 _ _ (t9 _ _ e4)
  have lk:kM.length<=9:=by
   have z:=aeE acf ks
   rw [aah,aah,aaJ] at z
   omega
  refine ⟨_,rfl,_,rfl,d,_,rfl,kz.k (k:=.inr p.nm) V' (aap (show kM.length<=1000 by omega) (by decide)),?_⟩
  have fresh:(aaU p.nm:Key)∉kM.map (·.1):=by
   rw [ks]
   intro z
   obtain ⟨b',iH,vx⟩:=aai.mp z
   exact f_ (nm:=ay.nm) g.np hp iH (aa4 vx)
  have pk:putK kM (.inr p.nm) (.ref t)=kM++[(.inr p.nm,.ref t)]:=dI _ (cb fresh)
  have t6:bu H6 (upd H6 d (.dK (putK kM (.inr p.nm) (.ref t)))):=.dict V'
  have KJ:=t9.trans s6
  have td:t≠d:=fun z=>by rw [z,t9 _ _ e4] at n6;cases n6
  have kk:∀b o,b≠d->H4 b=some o->(upd H6 d (.dK (putK kM (.inr p.nm) (.ref t)))) b=some o:=fun b o n e=>by rw [ao n];exact KJ _ _ e
  have ne:∀p' ∈pins.take i,p'.nm≠p.nm:=fun p' iY =>f_ (nm:=ay.nm) g.np hp iY
  have tk:=take_snoc hp
  obtain ⟨r1,er1,hr1⟩:=aw hu (gE l1)
  obtain ⟨r2,er2,hr2⟩:=aw hu (gE l2)
  obtain ⟨M',hM1,hM2⟩:∃M':Str->Rat×Rat,M' p.nm=(r1,r2)/\∀x,x≠p.nm->M' x=M x:=⟨fun x=>if x=p.nm then (r1,r2) else M x,aek rfl,fun x h=>aej h⟩
  refine ⟨_,_,putK kM (.inr p.nm) (.ref t),M',rfl,fun b o e=>?_,kk _ _ Mo l4,ak,?_,?_,fun p' iY =>?_⟩
  ·rw [ao (aq e nd)]
   exact KJ _ _ (s4 _ _ e)
  ·rw [pk,aax,ks,tk,aax]
   rfl
  ·rw [tk,abg,xa (U:=M') (W:=M) fun p' iY =>hM2 _ (ne p' iY),fl]
   simp only [aaH,akB,acB,hM1]
   rw [show 2*(i+1)=2*i+1+1 by omega,acn,acn,er1,er2]
   simp
  ·rw [iS]
   rw [tk] at iY
   rcases aau.mp iY with h|h
   ·rw [aej (fun z=>ne p' h (aa4 z)),hM2 _ (ne p' h)]
    obtain ⟨t',v1,v2,h1,h2,h3,h4⟩:=tM p' h
    exact ⟨t',v1,v2,h1,kk _ _ (fun z=>by rw [z,e4] at h2;cases h2) h2,(h3.same KJ).aR t6,(h4.same KJ).aR t6⟩
   ·rw [aao.mp h,aek rfl,hM1]
    exact ⟨t,_,_,rfl,by rw [ao td];exact e6,((hr1.same NX).same s6).aR t6,((hr2.same NX).same s6).aR t6⟩
 ·rintro σ H4 ⟨o3,o4,kM,M,rfl,s4,l4,e4,ks,fl,tM⟩
  rw [aah,aah] at ks fl tM
  rw [aaW] at ks fl tM
  rw [<-hl,aaW] at fl
  exact ⟨_,rfl,q M d kM H4 s4 fl.symm nd e4 ks tM⟩
def dt (a b:Rat×Rat):Rat:=a.1*b.1+a.2*b.2
def sP (as bs:Τ):Rat:=(aa5 (·*·) as bs).sum
theorem ig (bs:Τ):sP [] bs=0:=by simp [sP]
theorem eg (a b:Rat)(as bs:Τ):sP (a::as) (b::bs)=a*b+sP as bs:=by simp [sP]
theorem jS:∀{a c:Τ} (b d:Τ),a.length=c.length->sP (a++b) (c++d)=sP a c+sP b d
 | [],[],b,d,_=>by
  rw [ace,ace,ig]
  grind
 | x::a,y::c,b,d,h=>by
  rw [acR,acR,eg,eg,jS b d (by simpa using h)]
  grind
 | [],_::_,_,_,h=>by simp at h
 | _::_,[],_,_,h=>by simp at h
theorem ou:∀(ys cs:ς),gZ ys cs=sP (ys.map vl) (cs.map vl)
 | [],_=>by simp [gZ,sP]
 | _::_,[]=>by simp [gZ,sP]
 | y::ys,c::cs=>by rw [CT,aaj,aaj,eg,ou ys cs]
theorem AW (F:θ)(M:Β):∀pins:List ay,sP ((dE F pins).map vl) (pins.flatMap fun p=>[(M p.nm).1,(M p.nm).2])=(pins.map fun p=>dt (mv F p.nm) (M p.nm)).sum
 | []=>by simp [dE,sP]
 | p::ps=>by
  have ih:=AW F M ps
  unfold dE at ih ⊢
  rw [aaH,aaH,aax,jS _ _ (by simp),ih]
  simp only [aaj,aa2,fB,eg,ig,aaP]
  unfold dt
  grind
theorem NY {pins:ν}(nd:(pins.map (·.nm)).Nodup)(hp:p∈pins){f:Ι}(h:∀q∈pins,q.nm≠p.nm->f q.nm=0):(pins.map fun q=>f q.nm).sum=f p.nm:=by
 induction pins with
 | nil=>simp at hp
 | cons q ps ih=>
  rw [aaj,aaR] at nd
  rw [aaj,aaP]
  have zero:∀(l:ν),(∀r∈l,f r.nm=0)->(l.map fun q=>f q.nm).sum=0:=fun l hl=>by
   induction l with
   | nil=>simp
   | cons r l ihl=>
    rw [aaj,aaP,hl r aas,ihl fun s hs=>hl s (aan _ hs)]
    grind
  by_cases e:q.nm=p.nm
  ·rw [e,zero ps fun r hr=>h r (aan _ hr) fun z=>nd.1 (by rw [e,<-z];exact aai.mpr ⟨r,hr,rfl⟩)]
   grind
  ·rw [h q aas e]
   have iY :p∈ps:=by
    rcases aaL.mp hp with z|z
    ·exact aet (by rw [z]) e
    ·exact z
   rw [ih nd.2 iY fun r hr=>h r (aan _ hr)]
   grind
theorem jT (x:Str)(w:Rat×Rat)(y:Str):mv (gk x w) y=if y=x then w else (0,0):=by
 unfold mv gk
 by_cases e:y=x
 ·rw [aek e,aek e]
  rfl
 ·rw [aej e,aej e]
  rfl
theorem jf (m:Rat×Rat):dt (0,0) m=0:=by
 unfold dt
 grind
theorem uQ {pins:ν}(nd:(pins.map (·.nm)).Nodup)(hp:p∈pins)(w:Rat×Rat)(M:Β):(pins.map fun q=>dt (mv (gk p.nm w) q.nm) (M q.nm)).sum=dt w (M p.nm):=by
 rw [NY nd hp (f:=fun x=>dt (mv (gk p.nm w) x) (M x)) fun q _ e=>by rw [jT,aej e];exact jf _]
 rw [jT,aek rfl]
theorem sum_add (f g:ay->Rat):∀l:List ay,(l.map fun q=>f q+g q).sum=(l.map f).sum+(l.map g).sum
 | []=>by
  simp only [aa2,acs]
  grind
 | p::l=>by
  rw [aaj,aaP,sum_add f g l,aaj,aaj,aaP,aaP]
  grind
def yQ (M:Β)(b:a_):Rat:=dt (iW b.one b.other) ((M b.other.nm).1-(M b.one.nm).1,(M b.other.nm).2-(M b.one.nm).2)
theorem RT (b:a_)(h:b.one.nm≠b.other.nm)(x:Str)(m:Rat×Rat):dt (mv (dR b) x) m=dt (mv (gk b.one.nm (iW b.one b.other)) x) m+dt (mv (gk b.other.nm (iW b.other b.one)) x) m:=by
 rw [jT,jT]
 unfold mv dR
 by_cases c1:x=b.one.nm
 ·rw [aek c1,aek c1,aej (fun z=>h (c1.symm.trans z)),jf]
  show dt (iW b.one b.other) m=_
  grind
 ·rw [aej c1,aej c1,jf]
  by_cases c2:x=b.other.nm
  ·rw [aek c2,aek c2]
   show dt (iW b.other b.one) m=_
   grind
  ·rw [aej c2,aej c2,jf]
   show dt (0,0) m=_
   rw [jf]
   grind
theorem AX {pins:ν}(nd:(pins.map (·.nm)).Nodup)(b:a_)(h1:b.one∈pins)(h2:b.other∈pins)(h:b.one.nm≠b.other.nm)(M:Β):(pins.map fun q=>dt (mv (dR b) q.nm) (M q.nm)).sum= -(yQ M b):=by
 have e:(pins.map fun q=>dt (mv (dR b) q.nm) (M q.nm))=pins.map fun q=>dt (mv (gk b.one.nm (iW b.one b.other)) q.nm) (M q.nm)+dt (mv (gk b.other.nm (iW b.other b.one)) q.nm) (M q.nm):=aaO fun q _=>RT b h _ _
 rw [e,sum_add,uQ nd h1,uQ nd h2]
 unfold yQ dt iW
 grind
structure qp (pins:ν)(aj:τ)(M:Β):Prop where
 Wc:∀p∈pins,∀w∈p.ws,dt w (M p.nm)=0
 aj:∀b∈aj,yQ M b=0
def jA (pins:ν)(L:θ)(M:Β):Rat:=(pins.map fun p=>dt (mv L p.nm) (M p.nm)).sum
def fg (aj:τ)(T:Ι)(U:Α)(p:ay)(c:Rat×Rat->Rat):Rat:=sP (U p.nm) (p.ws.map c)+(aj.map fun b=>T b.nm*c (mv (dR b) p.nm)).sum
def gB (pins:ν)(aj:τ)(T:Ι)(U:Α)(L:θ):Prop:=∀p∈pins,fg aj T U p (·.1)+(mv L p.nm).1=0/\fg aj T U p (·.2)+(mv L p.nm).2=0
theorem oy:∀(as:Τ) {α:Type} (l:List α),sP as (l.map fun _=>(0:Rat))=0
 | [],_,_=>ig _
 | _::_,_,[]=>by simp [sP]
 | a::as,_,x::l=>by
  rw [aaj,eg,oy as l]
  grind
theorem AY {U:Α}(c0:c (0,0)=0)(p:ay):∀(ps:ν),(ps.map (·.nm)).Nodup->(∀q∈ps,(U q.nm).length=q.ws.length)->(∀q∈ps,q.nm=p.nm->q=p)->
  sP (ps.flatMap fun q=>U q.nm) (ps.flatMap fun q=>q.ws.map fun w=>c (mv (gk q.nm w) p.nm))=if p.nm∈ps.map (·.nm) then sP (U p.nm) (p.ws.map c) else 0
 | [],_,_,_=>by simp [sP]
 | q::ps,nd,hl,inj=>by
  rw [aaj,aaR] at nd
  have ih:=AY c0 p ps nd.2 (fun r hr=>hl r (aan _ hr)) fun r hr=>inj r (aan _ hr)
  rw [aaH,aaH,jS _ _ (by rw [hl q aas,aah]),ih,aaj]
  by_cases e:q.nm=p.nm
  ·have eq:q=p:=inj q aas e
   subst eq
   have ec:(q.ws.map fun w=>c (mv (gk q.nm w) q.nm))=q.ws.map c:=aaO fun w _=>by rw [jT,aek rfl]
   rw [aej nd.1,aek aas,ec]
   grind
  ·have ec:(q.ws.map fun w=>c (mv (gk q.nm w) p.nm))=q.ws.map fun _=>(0:Rat):=aaO fun w _=>by rw [jT,aej (fun z=>e z.symm)];exact c0
   rw [ec,oy]
   by_cases hm:p.nm∈ps.map (·.nm)
   ·rw [aek hm,aek (aan _ hm)]
    grind
   ·rw [aej hm,aej (fun z=>by
     rcases aaL.mp z with z|z
     ·exact e z.symm
     ·exact hm z)]
    grind
theorem KZ {α:Type}(f g:α->Rat):∀l:List α,sP (l.map f) (l.map g)=(l.map fun x=>f x*g x).sum
 | []=>by simp [sP]
 | x::l=>by rw [aaj,aaj,eg,KZ f g l,aaj,aaP]
theorem NZ {pins:ν}{aj:τ}{T:Ι}{U:Α}{c:Rat×Rat->Rat}(c0:c (0,0)=0)(nd:(pins.map (·.nm)).Nodup)(hl:∀q∈pins,(U q.nm).length=q.ws.length)(hp:p∈pins)(y:Rat):
  sP ((pins.flatMap fun q=>U q.nm)++aj.map (fun b=>T b.nm)++[y]) (((pins.flatMap fun q=>q.ws.map fun w=>c (mv (gk q.nm w) p.nm))++aj.map fun b=>c (mv (dR b) p.nm))++[c (mv L p.nm)])=fg aj T U p c+y*c (mv L p.nm):=by
 have l1:(pins.flatMap fun q=>U q.nm).length=(pins.flatMap fun q=>q.ws.map fun w=>c (mv (gk q.nm w) p.nm)).length:=by
  clear hp nd
  induction pins with
  | nil=>rfl
  | cons q ps ih=>rw [aaH,aaH,aat,aat,ih fun r hr=>hl r (aan _ hr),hl q aas,aah]
 rw [jS _ _ (by rw [aat,aat,l1,aah,aah]),jS _ _ l1,AY c0 p pins nd hl fun q hq e=>Rq (nm:=ay.nm) nd hq hp e,aek (aai.mpr ⟨p,hp,rfl⟩),KZ,eg,ig]
 unfold fg
 grind
theorem uR (F:θ):∀{pins:ν} {k:Nat} {p:ay},pins[k]?=some p->vl ((dE F pins).getD (2*k) (0,1))=(mv F p.nm).1/\vl ((dE F pins).getD (2*k+1) (0,1))=(mv F p.nm).2
 | q::ps,0,p,h=>by
  cases h
  unfold dE
  rw [aaH]
  exact ⟨fB _,fB _⟩
 | q::ps,k+1,p,h=>by
  have ih:=uR F (pins:=ps) (k:=k) (p:=p) (by simpa using h)
  unfold dE at ih ⊢
  rw [aaH]
  exact ih
theorem GB (pins:ν)(aj:τ)(L:θ){k:Nat}(h:pins[k]?=some p)(j:Nat)(c:Rat×Rat->Rat)(hj:∀F,vl ((dE F pins).getD j (0,1))=c (mv F p.nm)):
  (Kz (eV pins aj++[dE L pins]) j).map vl=((pins.flatMap fun q=>q.ws.map fun w=>c (mv (gk q.nm w) p.nm))++aj.map fun b=>c (mv (dR b) p.nm))++[c (mv L p.nm)]:=by
 have flat:∀ps:List ay,((ps.flatMap fun q=>qc pins q).map fun qs=>vl (qs.getD j (0,1)))=ps.flatMap fun q=>q.ws.map fun w=>c (mv (gk q.nm w) p.nm):=fun ps=>by
  induction ps with
  | nil=>rfl
  | cons q ps ih=>
   rw [aaH,aaH,aax,ih]
   congr 1
   unfold qc
   rw [aay]
   exact aaO fun w _=>hj _
 unfold Kz eV
 rw [aay,aax,aax,aaj,aa2]
 congr 1
 ·congr 1
  ·exact flat pins
  ·rw [aay]
   exact aaO fun b _=>hj _
 ·rw [<-hj]
  rfl
theorem fm (h:1<=k):Sz k 0:=by
 have:=g8 (i:=0) (k:=k) (by simpa using akJ k) h
 simpa using this
structure Zb (n:Nat)(r:Rat):Prop where
 top:(qr r).1.natAbs<=2^n
 bot:(qr r).2.natAbs<=2^n
theorem PJ (h:Sm T B q):q=qr (vl q):=pO h.pos h.low
theorem PK (h:Sz k r)(h2:k<=90):Sm 90 90 (qr r):=
 ⟨cD r,jM r,aa1 (aaB (intBits_le_iff.mp h.top) (aaI (by decide) h2)),aa1 (aaB (intBits_le_iff.mp h.bot) (aaI (by decide) h2))⟩
theorem AZ (h:∀x,Sz 90 (mv F x).1/\Sz 90 (mv F x).2)(pins:ν):∀q∈dE F pins,Sm 90 90 q:=fun q hq=>by
 unfold dE at hq
 obtain ⟨p,_,hq⟩:=abY.mp hq
 have z:=h p.nm
 rcases aaL.mp hq with e|hq
 ·rw [e]
  exact PK z.1 (aal _)
 ·rw [aao.mp hq]
  exact PK z.2 (aal _)
theorem RU {w:Rat×Rat}(h:Sz 90 w.1/\Sz 90 w.2)(y:Str):Sz 90 (mv (gk x w) y).1/\Sz 90 (mv (gk x w) y).2:=by
 rw [jT]
 by_cases c:y=x
 ·rw [aek c]
  exact h
 ·rw [aej c]
  exact ⟨fm (by decide),fm (by decide)⟩
theorem K4 (g:fG pins aj)(hb:b∈aj)(y:Str):Sz 90 (mv (dR b) y).1/\Sz 90 (mv (dR b) y).2:=by
 obtain ⟨m1,m2,_⟩:=g.ends b hb
 have z1:=g.sz _ m1
 have z2:=g.sz _ m2
 unfold mv dR
 by_cases c1:y=b.one.nm
 ·rw [aek c1]
  exact ⟨(z2.1.sub z1.1).up (by decide),(z2.2.1.sub z1.2.1).up (by decide)⟩
 ·rw [aej c1]
  by_cases c2:y=b.other.nm
  ·rw [aek c2]
   exact ⟨(z1.1.sub z2.1).up (by decide),(z1.2.1.sub z2.2.1).up (by decide)⟩
  ·rw [aej c2]
   exact ⟨fm (by decide),fm (by decide)⟩
theorem qt (g:fG pins aj):∀qs∈eV pins aj,qs.length=2*pins.length/\∀q∈qs,Sm 90 90 q:=fun qs hq=>by
 unfold eV at hq
 rcases aau.mp hq with h|h
 ·obtain ⟨p,hp,h⟩:=abY.mp h
  unfold qc at h
  obtain ⟨w,hw,rfl⟩:=aai.mp h
  have z:=(g.sz p hp).2.2 w hw
  exact ⟨iX _ _,AZ (RU ⟨z.1.up (by decide),z.2.up (by decide)⟩) pins⟩
 ·obtain ⟨b,hb,rfl⟩:=aai.mp h
  exact ⟨iX _ _,AZ (K4 g hb) pins⟩
theorem qu :∀{us:ε} {qs:ς},dA K H us qs->(∀q∈qs,Sm T B q)->Paired (fN K H) us (qs.map vl)
 | [],[],_,_=>.nil
 | u::us,q::qs,h,hs=>by
  refine .cons ?_ (qu ⟨by simpa using h.1,fun i u q e1 e2=>h.2 (i+1) u q (by simpa using e1) (by simpa using e2)⟩ fun r hr=>hs r (aan _ hr))
  have n:=h.2 0 u q rfl rfl
  show mT K H u (qr (vl q))
  rw [<-PJ (hs q aas)]
  exact n
 | [],_::_,h,_=>(nomatch h.1)
 | _::_,[],h,_=>(nomatch h.1)
structure MoR (K:Frag)(H H':Hp)(pins:ν)(d:aef)(kM:γ)(M:Β):Prop where
 nM:H d=none
 hM:H' d=some (.dK kM)
 keys:kM.map (·.1)=pins.map (fun p=>(aaU p.nm:Key))
 tM:∀p∈pins,∃t v1 v2,bY kM (.inr p.nm)=some (.ref t)/\H' t=some (.tup [v1,v2])/\fN K H' v1 (M p.nm).1/\fN K H' v2 (M p.nm).2
theorem PM {m n:Nat}(h:Sm T B q)(h1:T<=n)(h2:B<=n):Zb n (vl q):=by
 have e:=PJ h
 refine ⟨?_,?_⟩
 ·rw [<-e]
  exact aak h.top (aaI (by decide) h1)
 ·rw [<-e]
  exact aak h.bot (aaI (by decide) h2)
def zL (n:Nat):Nat:=bb (1000+1000*(2*n+1)) (2*n+1)+1000*(2*n+1)
theorem K5 (h:n<=9):bb (1000+1000*(2*n+1)) (2*n+1)<=29000000:=by
 unfold bb
 have:=aa7 (show 2*n+1+1<=20 by omega) (show 1000+1000*(2*n+1)+11<=20011 by omega)
 omega
theorem Wd (h:n<=9):bb (1000+1000*(2*n+1)) (2*n+1)<=400220:=by
 unfold bb
 exact aak (aa7 (show 2*n+1+1<=20 by omega) (show 1000+1000*(2*n+1)+11<=20011 by omega)) (by decide)
theorem zL9 (h:n<=9):zL n<=500000:=by
 have h1:=Wd h
 unfold zL
 generalize bb (1000+1000*(2*n+1)) (2*n+1)=x at h1
 omega
def mvL (M:θ):Prop:=∀x,Sz 1000 (mv M x).1/\Sz 1000 (mv M x).2
theorem ac3 (h:Sm T B q)(h1:T<=T')(h2:B<=B'):Sm T' B' q:=⟨h.pos,h.low,aak h.top (aaI (by decide) h1),aak h.bot (aaI (by decide) h2)⟩
theorem K6 (h:Sz 1000 r):Sm 1000 1000 (qr r):=
 ⟨cD r,jM r,aa1 (intBits_le_iff.mp h.top),aa1 (intBits_le_iff.mp h.bot)⟩
theorem K7 (h:∀x,Sz 1000 (mv F x).1/\Sz 1000 (mv F x).2)(pins:ν):∀q∈dE F pins,Sm 1000 1000 q:=fun q hq=>by
 unfold dE at hq
 obtain ⟨p,_,hq⟩:=abY.mp hq
 have z:=h p.nm
 rcases aaL.mp hq with e|hq
 ·rw [e]
  exact K6 z.1
 ·rw [aao.mp hq]
  exact K6 z.2
inductive uS (K:Frag)(C:aef)(vs:ε)(H:Hp)(Q:VK)(E_:XK):Prop
|mk (a d:aef)(pins:ν)(aj:τ)(kvs:γ)(L:θ)(_:vs=[.ref a,.ref d])(_:vw K H C a pins aj)(_:fG pins aj)(_:pins.length<=9)(_:H d=some (.dK kvs))(_:Mf K H kvs L)(_:mvL L)(_:(∀kv∈kvs,∃x∈pins.map (·.nm),kv.1=.inr x))(_:(∀(M:Β)(p dM:aef)(kM:γ)(H':Hp),au H H' ->H' p=some (.tup [.str "moves",.ref dM])->MoR K H H' pins dM kM M->qp pins aj M->jA pins L M=1->(∀p∈pins,Zb (zL pins.length) (M p.nm).1/\Zb (zL pins.length) (M p.nm).2)->Q (.ref p) H'))(_:(∀(T:Ι)(U:Α)(Lx:Str->aef)(p dT dU:aef)(kT kU:γ)(H':Hp),au H H' ->H' p=some (.tup [.str "rest",.ref dT,.ref dU])->PPR K H H' pins aj dT dU kT kU T U Lx->gB pins aj T U L->(∀b∈aj,Zb (zL pins.length) (T b.nm))->(∀p∈pins,∀u∈U p.nm,Zb (zL pins.length) u)->Q (.ref p) H'))
theorem tq:aC ["F","load","drawn","rows","due","told","forces"] zaJ (ae EE):=sq
theorem We (hN:∀H:Hp,bJ K H aN [.int 0,.int 1])(FW:mg "NOUGHT"=some (.ref aN))(hO:∀H:Hp,bJ K H aO [.int 1,.int 1])(RV:mg "ONE"=some (.ref aO))(D:Def K mg "rest_of" EE zaJ)(aX:mg "len"=none)(MP:bH P w K mg base (aY P w) 1 C "pins" zaj (g9 K C))
  (ac4:Fn P w K mg base (aY P w) 38 "draw_rows" ["F"] (jR K C)) (ac5:Fn P w K mg base (aY P w) 3 "load_row" zaJ (mq K C)) (ac6:Fn P w K mg base (aY P w) 37 "solve_rows" zaN (uK K)) (ac7:Fn P w K mg base (aY P w) 2 "motion_from" zaB (qm K C)) (ac8:Fn P w K mg base (aY P w) 3 "pulls_and_pushes" zaB (RQ K C)):
  Fn P w K mg base (aY P w) 39 "rest_of" zaJ (uS K C):=by
 refine D.op tq fun f cp A outer s H vs Q E hr h=>?_
 obtain ⟨a,d,pins,aj,kvs,L,rfl,R,g,lp5,hd,hP,zl,hk,q1,q2⟩:=h
 have gl:=g.lp
 have gb:=g.lb
 have big:(100:Nat)<=ael:=by decide
 have wl:cH pins<=2*pins.length:=qh pins g.lw
 have ql:=F' pins aj
 have lpp:pins.length<=100:=by omega
 refine ⟨_,(aa (aK (i:=2) tq.nd (aT ac4 hr (aS (pv 0))))
  (aa (aK (i:=3) tq.nd (aJ iP (pv 2) (bV (aS (aT ac5 hr (aL (pv 0) (pv 1)))))))
  (aa (aK (i:=4) tq.nd (aJ iP (aJ IP (bV (aS (i6 (v:=.ref aN) rfl FW rfl))) (aG aD rfl aX bS (aS (pv 2)))) (bV (aS (i6 (v:=.ref aO) rfl RV rfl)))))
  (aa (aK (i:=5) tq.nd (aT ac6 hr (bE (pv 3) (pv 4) (aJ cV ag (aG aD rfl aX bS (aS (fL (k:=1) (pv 0) hr.mo (pY P w))))))))
  (aa (bh (bB dq (aF (pv 5)) dY) (ah (aE (aU (aL dY (aT ac7 hr (aL (pv 0) (aF (pv 5)))))))) aI)
  (aa (aK (i:=6) tq.nd (aT ac8 hr (aL (pv 0) (cP gX (aF (pv 5)) fj (cM (aG aD rfl aX bS (aS (pv 2))))))))
  (ah (aE (aU (bE dY (aF (pv 6)) (aF (pv 6)))))))))))),?_⟩
 refine ⟨_,rfl,a,pins,aj,rfl,R,g,fun r ls cL H1 s1 nr RR=>?_⟩
 refine ⟨_,rfl,_,rfl,_,rfl,a,d,pins,aj,kvs,L,rfl,R.same s1,lpp,s1 _ _ hd,hP.same s1,hk,fun l us H2 s2 nl el nm=>⟨z1L,?_⟩⟩
 intro l1 n3;generalize eX:upd _ l1 _=H3;have ⟨s3,e3⟩:=nw n3 eX
 have RR3:=RR.same (s2.trans s3)
 have S9:ls.length=(eV pins aj).length:=by rw [RR.mZ.2.1,RR.num.1]
 have lq:(eV pins aj).length<=32:=by
  have:(eV pins aj).length=cH pins+aj.length:=ql
  omega
 refine ⟨r,l1,_,_,rfl,rfl,RR3.mZ.1,e3,(by rw [aah];show ls.length+1<=ael;omega),?_⟩
 intro r2 n4;generalize eX:upd _ r2 _=H4;have ⟨s4,e4⟩:=nw n4 eX
 have PQ:=s3.trans s4
 refine ⟨z1L,?_⟩
 intro l5 n5;generalize eX:upd _ l5 _=H5;have ⟨s5,e5⟩:=nw n5 eX
 have RR5:=(RR3.same s4).same s5
 refine ⟨_,rfl,r,_,rfl,.inl (aV.of RR5.mZ.1),l5,_,_,rfl,rfl,e5,by omega,(by rw [aah];omega),(by rw [aah];simp;omega),?_⟩
 intro l6 n6;generalize eX:upd _ l6 _=H6;have ⟨s6,e6⟩:=nw n6 eX
 refine ⟨z1L,?_⟩
 intro l7 n7;generalize eX:upd _ l7 _=H7;have ⟨s7,e7⟩:=nw n7 eX
 have ac':(aaF (((ls.map V.ref).length:Nat):Int).toNat [V.ref aN]).flatten=aaF ls.length (V.ref aN):=by simp
 rw [ac'] at e6
 refine ⟨l6,l7,_,_,rfl,rfl,s7 _ _ e6,e7,(by rw [ab'];show ls.length+1<=ael;omega),?_⟩
 intro l8 n8;generalize eX:upd _ l8 _=H8;have ⟨s8,e8⟩:=nw n8 eX
 have S_:=(s5.trans s6).trans (s7.trans s8)
 have s28:=PQ.trans S_
 have s18:=s2.trans s28
 have Wa:=s1.trans s18
 have R8:=R.same Wa
 obtain ⟨dx,pP,pW,pB,kP,kW,kB,F8,W8⟩:=R8.ex
 have c2:vU 2 ((pins.length:Nat):Int):=⟨by decide+kernel,aak (intBits_le_64 (by omega) (by omega)) (by decide)⟩
 refine ⟨_,rfl,_,rfl,_,rfl,a,C,dx,_,_,_,rfl,F8.obj,rfl,MP,a,dx,pP,pW,pB,_,_,kP,kW,kB,rfl,F8,fun lp H9 s9 yN vy=>?_⟩
 rw [gx] at vy
 refine ⟨lp,_,rfl,.inl (aV.of vy),_,_,rfl,rfl,(by rw [aah,aah];exact c2),?_⟩
 have s89:=s8.trans s9
 have NW:ix K H9 r2 (ls++[l]) (cL++[us]) (eV pins aj++[dE L pins]):=by
  have S':=s28.trans s9
  have RRx:=(RR.same s2).same S'
  refine ⟨⟨?_,by simp [RR.mZ.2.1],AR RR.mZ.2.1 RRx.mZ.2.2 (S' _ _ el)⟩,qd RRx.num (nm.same S'),fun z=>?_⟩
  ·rw [(S_.trans s9) _ _ e4,aax]
   rfl
  ·rcases aau.mp z with z|z
   ·obtain ⟨i,ei⟩:=aaq z
    have hi:=(ir.mp ei).1
    have:=RR3.mZ.2.2 i r2 _ ei (gE (by rw [<-RR.mZ.2.1];exact hi))
    rw [this] at n4
    cases n4
   ·rw [aao.mp z,s3 _ _ el] at n4
    cases n4
 have em:(2:Int)*((((pins.map (·.nm)).map V.str).length:Nat):Int)=((2*pins.length:Nat):Int):=by rw [aah,aah];omega
 have nds:dA K H9 (aaF ls.length (V.ref aN)++[V.ref aO]) (aaF ls.length (0,1)++[(1,1)]):=by
  refine dA.snoc ⟨by simp,fun i u q e1 e2=>?_⟩ ⟨aO,rfl,hO _⟩
  rw [aa_] at e1 e2
  split at e1
  ·rename_i c
   rw [aek c] at e2
   cases e1
   cases e2
   exact ⟨aN,rfl,hN _⟩
  ·cases e1
 have sh:Shape 1000 1000 (2*pins.length) (eV pins aj++[dE L pins]):=fun qs hq=>by
  rcases aau.mp hq with h|h
  ·exact ⟨(qt g qs h).1,fun q hq=>ac3 ((qt g qs h).2 q hq) (by decide) (by decide)⟩
  ·rw [aao.mp h]
   exact ⟨iX _ _,K7 (fun x=>⟨(zl x).1,(zl x).2⟩) pins⟩
 have PU:Sm 1000 1000 ((0,1):Int×Int):=⟨by decide,by decide,by decide+kernel,by decide+kernel⟩
 have JC:Sm 1000 1000 ((1,1):Int×Int):=⟨by decide,by decide,by decide+kernel,by decide+kernel⟩
 have e89:=s9 _ _ e8
 refine ⟨r2,l8,2*pins.length,ls++[l],cL++[us],eV pins aj++[dE L pins],_,aaF ls.length (0,1)++[(1,1)],1000,1000,bb (1000+1000*(2*pins.length+1)) (2*pins.length+1),(by rw [<-em];rfl),NW.mZ,NW.num,e89,nds,by simp [S9],sh,fun q hq=>?_,by omega,by simp;omega,by decide,by omega,by decide,uH _ (Nat.min_le_left _ _),K5 lp5,?_,?_⟩
 ·rcases aau.mp hq with h|h
  ·rw [(List.mem_replicate.mp h).2]
   exact PU
  ·rw [aao.mp h]
   exact JC
 ·intro p x eK xs HA sA ep ex nx lx zx hx
  refine ⟨_,rfl,p,_,_,_,rfl,rfl,bJ.of ep,rfl,rfl,_,rfl,bg (fun _=>?_) (fun c=>aet (by simp [kg]) c)⟩
  have Wf:=(Wa.trans s9).trans sA
  have Py :=qu nx zx
  refine ⟨_,rfl,_,rfl,p,_,_,_,rfl,rfl,bJ.of ep,rfl,a,x,pins,aj,eK,xs.map vl,rfl,R.same Wf,g,ex,Py,by rw [aah];exact lx,fun M dM kM HB sB eM nM hM ks tM=>⟨z2L,?_⟩⟩
  intro pt nC;generalize eX:upd _ pt _=HC;have ⟨sC,eC⟩:=nw nC eX
  have sBC:=Wf.trans (sB.trans sC)
  have row:∀(i:Nat)(F:θ)(dd:Int×Int),(eV pins aj++[dE L pins])[i]?=some (dE F pins)->(aaF ls.length ((0,1):Int×Int)++[(1,1)])[i]?=some dd->(pins.map fun p=>dt (mv F p.nm) (M p.nm)).sum=vl dd:=fun i F dd h1 h2=>by
   have:=hx i _ dd h1 h2
   rw [ou,eM,AW] at this
   exact this
  have v0:vl ((0,1):Int×Int)=0:=by decide+kernel
  have v1:vl ((1,1):Int×Int)=1:=by decide+kernel
  have draw:∀F,dE F pins∈eV pins aj->(pins.map fun p=>dt (mv F p.nm) (M p.nm)).sum=0:=fun F hF=>by
   obtain ⟨i,ei⟩:=aaq hF
   have hi:=(ir.mp ei).1
   rw [<-v0]
   refine row i F (0,1) (by rw [aar hi];exact ei) ?_
   rw [aar (by rw [ab',S9];exact hi),aa_,aek (by rw [S9];exact hi)]
  refine q1 M pt dM kM HC sBC eC ⟨(Wf).free nM,sC _ _ hM,ks,fun p hp=>?_⟩ ⟨fun p hp w hw=>?_,fun b hb=>?_⟩ ?_ fun p hp=>?_
  ·obtain ⟨t,v1,v2,h1,h2,h3,h4⟩:=tM p hp
   exact ⟨t,v1,v2,h1,sC _ _ h2,h3.same sC,h4.same sC⟩
  ·rw [<-uQ g.np hp w M]
   refine draw _ ?_
   unfold eV qc
   exact aaK _ (abY.mpr ⟨p,hp,aai.mpr ⟨w,hw,rfl⟩⟩)
  ·obtain ⟨m1,m2,m3⟩:=g.ends b hb
   have:=draw (dR b) (by unfold eV;exact aaN _ (aai.mpr ⟨b,hb,rfl⟩))
   rw [AX g.np b m1 m2 m3] at this
   grind
  ·unfold jA
   rw [<-v1]
   refine row (eV pins aj).length L (1,1) (by simp) ?_
   rw [<-S9]
   simp
  ·have mem:∀r∈xs.map vl,Zb (zL pins.length) r:=fun r hr=>by
    obtain ⟨q,hq,rfl⟩:=aai.mp hr
    exact PM (m:=0) (zx q hq) (ah_ _ _) (ah_ _ _)
   rw [eM] at mem
   exact ⟨mem _ (abY.mpr ⟨p,hp,aas⟩),mem _ (abY.mpr ⟨p,hp,aan _ aas⟩)⟩
 ·intro p y eK ys HA sA ep ey ny ly zy FU hy1
  refine ⟨_,rfl,p,_,_,_,rfl,rfl,bJ.of ep,rfl,rfl,_,rfl,bg (fun c=>aet c (by simp [kg];decide+kernel)) (fun _=>?_)⟩
  have Wf:=(Wa.trans s9).trans sA
  have e0A:=(s18.trans s9).trans sA
  have py:=qu ny zy
  have lys:ys.length=ls.length+1:=by rw [ly,S9];simp
  have lus:eK.length=ls.length+1:=by rw [ny.1,lys]
  have rA:HA r=some (.lst (ls.map V.ref)):=e0A _ _ RR.mZ.1
  refine ⟨_,rfl,_,rfl,p,_,_,_,rfl,rfl,bJ.of ep,rfl,_,rfl,r,_,rfl,.inl (aV.of rA),_,rfl,y,_,rfl,aV.of ey,?_⟩
  rw [aah,oj (show ls.length<=eK.length by omega)]
  intro l9 nB;generalize eX:upd _ l9 _=HB;have ⟨sB,eB⟩:=nw nB eX
  have pyB:Paired (fN K HB) (eK.take ls.length) ((ys.map vl).take ls.length):=Paired.bL (ib ls.length py) fun _ _ z=>z.same sB
  have Wg:=Wf.trans sB
  refine ⟨a,l9,pins,aj,_,_,rfl,R.same Wg,g,eB,pyB,?_,fun T U Lx pf dT dU kT kU HC sC er epf PR=>?_⟩
  ·rw [aaJ,aah,lys,S9,ql]
   unfold cH
   omega
  refine ⟨_,rfl,pf,_,_,_,rfl,rfl,bJ.of epf,rfl,_,rfl,pf,_,_,_,rfl,rfl,bJ.of epf,rfl,z3L,?_⟩
  intro pt nD;generalize eX:upd _ pt _=HD;have ⟨sD,eD⟩:=nw nD eX
  have sx:=Wg.trans (sC.trans sD)
  obtain ⟨yl,eyl⟩:∃yl,(ys.map vl)=(ys.map vl).take ls.length++[yl]:=by
   have hl:ls.length<(ys.map vl).length:=by rw [aah];omega
   refine ⟨(ys.map vl)[ls.length],?_⟩
   have:=acn (l:=ys.map vl) (i:=ls.length)
   rw [gE hl,abe (by rw [aah];omega)] at this
   exact this
  have v0:vl ((0,1):Int×Int)=0:=by decide+kernel
  have v1:vl ((1,1):Int×Int)=1:=by decide+kernel
  have ly1:yl=1:=by
   rw [ou,eyl,aax,jS _ _ (by rw [aaJ,aah,aah,ab'];omega),List.map_replicate,v0] at hy1
   have ez:aaF ls.length (0:Rat)=(aaF ls.length ()).map fun _=>(0:Rat):=by simp
   rw [ez,oy,aaj,aa2,eg,ig,v1] at hy1
   grind
  have rest:gB pins aj T U L:=fun p hp=>by
   obtain ⟨k,ek⟩:=aaq hp
   have hk:=(ir.mp ek).1
   have one:∀(j:Nat)(c:Rat×Rat->Rat),j<2*pins.length->c (0,0)=0->(∀F,vl ((dE F pins).getD j (0,1))=c (mv F p.nm))->fg aj T U p c+c (mv L p.nm)=0:=fun j c hj c0 hc=>by
    have:=FU j hj
    rw [ou,GB pins aj L ek j c hc,eyl,er,ly1,NZ c0 g.np PR.lU hp] at this
    grind
   exact ⟨one (2*k) (·.1) (by omega) rfl fun F=>(uR F ek).1,one (2*k+1) (·.2) (by omega) rfl fun F=>(uR F ek).2⟩
  have mem:∀r∈(ys.map vl).take ls.length,Zb (zL pins.length) r:=fun r hr=>by
   obtain ⟨q,hq,rfl⟩:=aai.mp (aj5 hr)
   exact PM (m:=0) (zy q hq) (by unfold zL;omega) (ah_ _ _)
  rw [er] at mem
  refine q2 T U Lx pt dT dU kT kU HD sx eD ⟨Wg.free PR.nT,Wg.free PR.nU,PR.ne,sD _ _ PR.hT,sD _ _ PR.hU,PR.KW,PR.KY,fun b hb=>?_,fun p hp=>?_,PR.lU,PR.inj⟩ rest (fun b hb=>mem _ (aaN _ (aai.mpr ⟨b,hb,rfl⟩))) fun p hp u hu=>mem _ (aaK _ (abY.mpr ⟨p,hp,hu⟩))
  ·obtain ⟨v,h1,h2⟩:=PR.tT b hb
   exact ⟨v,h1,h2.same sD⟩
  ·obtain ⟨vs,h1,h2,h3,h4⟩:=PR.tU p hp
   exact ⟨vs,h1,Wg.free h2,sD _ _ h3,Paired.bL h4 fun _ _ z=>z.same sD⟩
theorem dw {α:Type}{l:List α}(h:l.Nodup){i j:Nat}{x:α}(hi:l[i]?=some x)(hj:l[j]?=some x):i=j:=by
 obtain ⟨i1,i2⟩:=ir.mp hi
 obtain ⟨j1,j2⟩:=ir.mp hj
 exact (aky h).mp (i2.trans j2.symm)
theorem fT :∀{us:ε} {zs:List α},us.length=zs.length->(∀(i:Nat)(u:V),us[i]?=some u->∃z,zs[i]?=some z/\R u z)->Paired R us zs
 | [],[],_,_=>.nil
 | u::us,z::zs,l,h=>by
  obtain ⟨z',e,hz⟩:=h 0 u rfl
  cases e
  exact .cons hz (fT (by simpa using l) fun i u e=>h (i+1) u (by simpa using e))
theorem qv {α β:Type}(f:α->β->Rat)(bs:List β):∀as:List α,(as.map fun a=>(bs.map fun b=>f a b).sum).sum=(bs.map fun b=>(as.map fun a=>f a b).sum).sum
 | []=>by
  induction bs with
  | nil=>rfl
  | cons b bs ih=>
   rw [aaj,aaP,<-ih]
   simp only [aa2,acs]
   grind
 | a::as=>by
  rw [aaj,aaP,qv f bs as]
  clear qv
  induction bs with
  | nil=>
   simp only [aa2,acs]
   grind
  | cons b bs ih=>
   simp only [aaj,aaP] at ih ⊢
   grind
theorem uT {α:Type}(t:Rat)(f:α->Rat):∀l:List α,(l.map fun a=>t*f a).sum=t*(l.map f).sum
 | []=>by
  simp only [aa2,acs]
  grind
 | a::l=>by
  rw [aaj,aaP,aaj,aaP,uT t f l]
  grind
theorem sum_neg {α:Type}(f:α->Rat):∀l:List α,(l.map fun a=> -(f a)).sum= -(l.map f).sum
 | []=>by
  simp only [aa2,acs]
  grind
 | a::l=>by
  rw [aaj,aaP,aaj,aaP,sum_neg f l]
  grind
theorem PV (m:Rat×Rat):∀(us:Τ)(ws:υ),sP us (ws.map (·.1))*m.1+sP us (ws.map (·.2))*m.2=sP us (ws.map fun w=>dt w m)
 | [],_=>by
  simp only [ig]
  grind
 | _::_,[]=>by
  simp [sP]
  grind
 | u::us,w::ws=>by
  have ih:=PV m us ws
  simp only [aaj,eg]
  unfold dt at ih ⊢
  grind
theorem A_ (T:Ι)(p:ay)(m:Rat×Rat):∀aj:List a_,(aj.map fun b=>T b.nm*(mv (dR b) p.nm).1).sum*m.1+(aj.map fun b=>T b.nm*(mv (dR b) p.nm).2).sum*m.2=(aj.map fun b=>T b.nm*dt (mv (dR b) p.nm) m).sum
 | []=>by
  simp only [aa2,acs]
  grind
 | b::aj=>by
  have ih:=A_ T p m aj
  simp only [aaj,aaP]
  unfold dt at ih ⊢
  grind
theorem N0 {ws:υ}(us:Τ)(h:∀w∈ws,dt w m=0):sP us (ws.map fun w=>dt w m)=0:=by
 have:(ws.map fun w=>dt w m)=ws.map fun _=>(0:Rat):=aaO h
 rw [this]
 exact oy us ws
theorem ada (g:fG pins aj)(h:gB pins aj T U L)(hw:∀p∈pins,∀w∈p.ws,dt w (M p.nm)=0):jA pins L M=(aj.map fun b=>T b.nm*yQ M b).sum:=by
 have e1:∀p∈pins,dt (mv L p.nm) (M p.nm)= -((aj.map fun b=>T b.nm*dt (mv (dR b) p.nm) (M p.nm)).sum):=fun p hp=>by
  obtain ⟨r1,r2⟩:=h p hp
  unfold fg at r1 r2
  have a:=PV (M p.nm) (U p.nm) p.ws
  rw [N0 _ (hw p hp)] at a
  have b:=A_ T p (M p.nm) aj
  rw [<-b]
  unfold dt
  grind
 unfold jA
 rw [aaO e1,sum_neg,qv (fun (p:ay) (b:a_)=>T b.nm*dt (mv (dR b) p.nm) (M p.nm)) aj pins]
 have e2:∀b∈aj,(pins.map fun p=>T b.nm*dt (mv (dR b) p.nm) (M p.nm)).sum= -(T b.nm*yQ M b):=fun b hb=>by
  obtain ⟨m1,m2,m3⟩:=g.ends b hb
  rw [uT (T b.nm) (fun p:ay=>dt (mv (dR b) p.nm) (M p.nm)) pins,AX g.np b m1 m2 m3]
  grind
 rw [aaO e2,sum_neg]
 grind
theorem K8 (g:fG pins aj)(h:gB pins aj T U L)(mo:qp pins aj M)(w:jA pins L M=1):False:=by
 have e:=ada g h mo.Wc
 have:(aj.map fun b=>T b.nm*yQ M b)=aj.map fun b=>0*T b.nm:=aaO fun b hb=>by
  rw [mo.aj b hb]
  grind
 rw [this,uT 0 (fun b:a_=>T b.nm)] at e
 grind
def cell (ns:ξ)(k:Int):Int:=if k<(ns.length:Int) then (ns[k.toNat]?).getD 0 else ((((k+5)*(k+5)*48271).fmod 2147483647)*(((k+5)*(k+5)*48271).fmod 2147483647)).fmod 2147483629
theorem oz {x m:Int}(h:0<m):0<=x.fmod m/\x.fmod m<m:=⟨acA x h,ad0 x h⟩
inductive mx (K:Frag)(vs:ε)(H:Hp)(Q:VK)(E_:XK):Prop
|mk (a:aef)(ns:ξ)(k:Int)(_:vs=[.ref a,.int k])(_:aV K H a (ns.map V.int))(_:0<=k)(_:k<=1000)(_:Q (.int (cell ns k)) H)
theorem cell_in {ns:ξ}(h0:0<=k)(h:k<(ns.length:Int)):gh (ns.map V.int) k=some (.int (cell ns k)):=by
 have hk:k.toNat<ns.length:=by omega
 have ek:k=((k.toNat:Nat):Int):=by omega
 have q:gh (ns.map V.int) ((k.toNat:Nat):Int)=some (.int (cell ns k)):=bP (by
  unfold cell
  rw [aek h,aag,gE hk]
  rfl)
 rw [<-ek] at q
 exact q
theorem jU (h:i.natAbs<2^k):intBits i<=k:=intBits_le_iff.mpr h
theorem PX:aC ["_law_script","_law_k","_law_part"] zav (ae EF):=sq
theorem Wh (D:Def K mg "_law_cell_at" EF zav)(aX:mg "len"=none):Fn P w K mg base CX 1 "_law_cell_at" zav (mx K):=by
 refine D.oo PX fun H hr h=>?_
 obtain ⟨a,ns,k,rfl,hS,h0,h1,q⟩:=h
 refine ⟨_,(aa (bh (bB vI (pv 1) (aG aD rfl aX bS (aS (pv 0)))) (ah (aE (bD aQ (pv 0) (pv 1)))) aI)
  (aa (aK (i:=2) PX.nd (aJ gu (aJ cV (aJ cV (aJ cf (pv 1) ag) (aJ cf (pv 1) ag)) ag) ag))
  (ah (aE (aJ gu (aJ cV (pv 2) (pv 2)) ag))))),?_⟩
 have hl:(ns.map V.int).length=ns.length:=aah _
 refine ⟨_,rfl,_,rfl,a,_,rfl,.inl hS,_,_,rfl,rfl,_,rfl,?_⟩
 refine bg (fun c=>?_) (fun c=>?_)
 ·have c':k<(((ns.map V.int).length:Nat):Int):=aeJ c
  rw [hl] at c'
  exact ⟨_,rfl,_,rfl,a,_,k,_,rfl,rfl,hS,cell_in h0 c',q⟩
 ·have c':¬ k<(((ns.map V.int).length:Nat):Int):=of_decide_eq_false (ado.mpr c)
  rw [hl] at c'
  have b5:intBits (k+5)<=11:=jU (by show _<2048;omega)
  have e1:=oz (x:=(k+5)*(k+5)*48271) (m:=2147483647) (by decide)
  have bp:intBits (((k+5)*(k+5)*48271).fmod 2147483647)<=31:=jU (by show _<2147483648;omega)
  refine ⟨_,rfl,_,_,rfl,rfl,_,rfl,_,_,rfl,rfl,_,_,rfl,rfl,⟨aak b5 (by decide),aak b5 (by decide)⟩,_,_,rfl,rfl,⟨aak (afe b5 b5) (by decide),by decide+kernel⟩,_,_,rfl,rfl,nz (by decide),_,rfl,_,rfl,_,_,rfl,rfl,⟨aak bp (by decide),aak bp (by decide)⟩,_,_,rfl,rfl,nz (by decide),?_⟩
  have e:cell ns k=((((k+5)*(k+5)*48271).fmod 2147483647)*(((k+5)*(k+5)*48271).fmod 2147483647)).fmod 2147483629:=by
   unfold cell
   rw [aej c']
  rw [e] at q
  exact q
def field (c p m:Int):Int:=(((c.fmod p+11)*48271).fmod p).fmod m
theorem ba (h:0<m):0<=field c p m/\field c p m<m:=oz h
inductive du (vs:ε)(H:Hp)(Q:VK)(E_:XK):Prop
|mk (c p m:Int)(_:vs=[.int c,.int p,.int m])(_:0<p)(_:p<=2000000)(_:0<m)(_:Q (.int (field c p m)) H)
theorem Wi:aC zab zab (ae EG):=sq
theorem Wj (D:Def K mg "_law_field" EG zab):Fn P w K mg base CX 1 "_law_field" zab du:=by
 refine D.oo Wi fun H hr h=>?_
 obtain ⟨c,p,m,rfl,hp,Us,hm,q⟩:=h
 refine ⟨_,(ah (aE (aJ gu (aJ gu (aJ cV (aJ cf (aJ gu (pv 0) (pv 1)) ag) ag) (pv 1)) (pv 2)))),?_⟩
 have e1:=oz (x:=c) hp
 exact ⟨_,rfl,_,rfl,_,_,rfl,rfl,nz (by omega),_,_,rfl,rfl,_,_,rfl,rfl,⟨aak (jU (k:=22) (by show _<4194304;omega)) (by decide),by decide+kernel⟩,_,rfl,_,_,rfl,rfl,nz (by omega),_,rfl,_,_,rfl,rfl,nz (by omega),q⟩
inductive de (vs:ε)(H:Hp)(Q:VK)(E_:XK):Prop
|mk (t b:Int)(_:vs=[.int t,.int b])(_:0<b)(_:gives H Q (low t b))
theorem BA:aC ["_law_top","_law_bottom","_law_one","_law_other"] zas (ae EH):=sq
theorem Wk (ht:P.given.tree=none)(D:Def K mg "_law_lowest" EH zas)(sY:mg "abs"=none):Fn P w K mg base (aY P w) 33 "_law_lowest" zas de:=by
 refine D.oo BA fun H hr h=>?_
 obtain ⟨t,b,rfl,hb,q⟩:=h
 refine ⟨_,(aa (aK (i:=2) BA.nd (aG vJ rfl sY O_ (aS (pv 0))))
  (aa (aK (i:=3) BA.nd (pv 1))
  (aa (oH aev (bB gm (pv 3) ag) (ah (QD (i:=2) (j:=3) rfl BA.nd rfl rfl (by decide) rfl rfl (aL (pv 3) (aJ gu (pv 2) (pv 3))) rfl)))
  (ah (aE (aU (aL (aJ (f7 ht (Ty.cx.py hr (by decide)) rfl rfl rfl rfl rfl) (pv 0) (pv 2)) (aJ (f7 ht (Ty.cx.py hr (by decide)) rfl rfl rfl rfl rfl) (pv 1) (pv 2))))))))),?_⟩
 refine ⟨_,rfl,t,rfl,_,rfl,?_⟩
 refine vH (fun σ H'=>∃x y:Int,σ=[some (.int t),some (.int b),some (.int x),some (.int y)]/\H'=H/\0<=x/\0<=y/\aaZ x y=aaZ t b) (fun σ _=>match σ with|[_,_,_,some (.int y)]=>y.natAbs|_=>0) ⟨_,b,rfl,rfl,?_,by omega,?_⟩ ?_ ?_
 ·split<;>omega
 ·split
  ·exact Int.neg_gcd
  ·rfl
 ·rintro σ H' ⟨x,y,rfl,rfl,hx,hy,g⟩
  refine ⟨_,rfl,rfl,_,rfl,?_⟩
  refine bg (fun c=>?_) (fun c=>?_)
  ·have FU:y≠0:=by
    intro z
    subst z
    simp at c
   exact ⟨_,rfl,_,rfl,_,rfl,_,_,rfl,rfl,FU,_,_,rfl,⟨_,_,rfl,rfl,hy,acA _ (by omega),by rw [vS];exact g⟩,sk FU⟩
  ·have FU:y=0:=by
    have:=ado.mpr c
    simp at this
    exact this
   subst FU
   have e:x=sg t b:=by
    rw [akf] at g
    unfold sg
    rw [aej (by omega)]
    unfold gz
    rw [<-g]
    omega
   subst e
   have hbn:b≠0:=by omega
   have c:=oN (t:=t) hbn
   refine ⟨_,rfl,_,rfl,_,_,rfl,rfl,c,_,rfl,_,rfl,_,_,rfl,rfl,c,z2L,fun p hp=>?_⟩
   exact q p _ (aH hp _) ak
 ·rintro σ H' Q1 Q2 h ⟨v,e1,e2,k,ek,z⟩
  exact ⟨v,e1,e2,k,ek,h _ _ z⟩
structure Ns (n:Nat)(q:Int×Int):Prop where
 top:q.1.natAbs<=2^n
 bot:q.2.natAbs<=2^n
theorem Ns.up (h:Ns m q)(l:m<=n):Ns n q:=⟨aak h.top (aaI (by decide) l),aak h.bot (aaI (by decide) l)⟩
def gC (K:Frag)(H:Hp)(v:V)(n:Nat)(r:Rat):Prop:=∃q:Int×Int,mT K H v q/\0<q.2/\vl q=r/\Ns n q
theorem gC.same (h:gC K H v n r)(s:au H H'):gC K H' v n r:=by
 obtain ⟨q,h1,h2⟩:=h
 exact ⟨q,h1.same s,h2⟩
theorem gC.aR (h:gC K H v n r)(s:bu H H'):gC K H' v n r:=by
 obtain ⟨q,h1,h2⟩:=h
 exact ⟨q,h1.aR s,h2⟩
theorem gC.up (h:gC K H v m r)(l:m<=n):gC K H v n r:=by
 obtain ⟨q,h1,h2,h3,h4⟩:=h
 exact ⟨q,h1,h2,h3,h4.up l⟩
theorem dF (h:fN K H v r)(z:Zb n r):gC K H v n r:=⟨qr r,h,cD r,fB r,⟨z.top,z.bot⟩⟩
theorem m7 (h:Sz k r)(l:k<=n):Zb n r:=⟨aa1 (aaB (intBits_le_iff.mp h.top) (aaI (by decide) l)),aa1 (aaB (intBits_le_iff.mp h.bot) (aaI (by decide) l))⟩
theorem uU (h:0<q.2):q.1=0 ↔ vl q=0:=by
 unfold vl
 have z:((q.2:Int):Rat)≠0:=cR (aaY h)
 constructor
 ·intro e
  rw [e]
  have:((0:Int):Rat)=0:=by rfl
  rw [this]
  grind
 ·intro e
  apply abC
  intro n
  have y:((q.1:Int):Rat)≠0:=cR n
  exact (by grind:¬ ((q.1:Int):Rat) / ((q.2:Int):Rat)=0) e
theorem RW (h:0<q.2):q.1=q.2 ↔ vl q=1:=by
 unfold vl
 have z:((q.2:Int):Rat)≠0:=cR (aaY h)
 constructor
 ·intro e
  rw [e]
  grind
 ·intro e
  have:((q.1:Int):Rat)=((q.2:Int):Rat):=by grind
  exact acY.mp this
def eQ (x y:Int×Int):Int×Int:=(x.1*y.2+y.1*x.2,x.2*y.2)
def my (x y:Int×Int):Int×Int:=(x.1*y.1,x.2*y.2)
theorem fC {a b:Int}(h1:a.natAbs<=2^m)(h2:b.natAbs<=2^n):(a*b).natAbs<=2^(m+n):=by
 rw [ab1,adP]
 exact aa7 h1 h2
theorem N1 (hx:0<x.2)(hy:0<y.2)(zx:Ns m x)(zy:Ns n y):0<(eQ x y).2/\vl (eQ x y)=vl x+vl y/\Ns (m+n+1) (eQ x y):=by
 refine ⟨acm hx hy,?_,?_,?_⟩
 ·unfold vl eQ
  have z1:((x.2:Int):Rat)≠0:=cR (aaY hx)
  have z2:((y.2:Int):Rat)≠0:=cR (aaY hy)
  push_cast
  grind
 ·have h1:=fC zx.top zy.bot
  have h2:=fC zy.top zx.bot
  rw [ajS n m] at h2
  have h3:=acN (x.1*y.2) (y.1*x.2)
  show (x.1*y.2+y.1*x.2).natAbs<=2^(m+n+1)
  rw [adk]
  omega
 ·exact aak (fC zx.bot zy.bot) (aaI (by decide) (by omega))
theorem N2 (hx:0<x.2)(hy:0<y.2)(zx:Ns m x)(zy:Ns n y):0<(my x y).2/\vl (my x y)=vl x*vl y/\Ns (m+n) (my x y):=by
 refine ⟨acm hx hy,?_,fC zx.top zy.top,fC zx.bot zy.bot⟩
 unfold vl my
 have z1:((x.2:Int):Rat)≠0:=cR (aaY hx)
 have z2:((y.2:Int):Rat)≠0:=cR (aaY hy)
 push_cast
 grind
inductive b8 (K:Frag)(f:Int×Int->Int×Int->Int×Int)(vs:ε)(H:Hp)(Q:VK)(E_:XK):Prop
|mk (u v:V)(x y:Int×Int)(m n:Nat)(_:vs=[u,v])(_:mT K H u x)(_:mT K H v y)(_:Ns m x)(_:Ns n y)(_:m+n<=130000000)(_:gives H Q (f x y))
theorem jg (h1:gC K H u m x)(h2:gC K H v n y)(l:m+n<=130000000)(k:∀(p:aef)(H':Hp),au H H' ->gC K H' (.ref p) (m+n+1) (x+y)->Q (.ref p) H'):b8 K eQ [u,v] H Q E:=by
 obtain ⟨q1,a1,a2,a3,a4⟩:=h1
 obtain ⟨q2,b1,b2,b3,b4⟩:=h2
 obtain ⟨c1,c2,c3⟩:=N1 a2 b2 a4 b4
 exact ⟨u,v,q1,q2,m,n,rfl,a1,b1,a4,b4,l,fun p H' s e=>k p H' s ⟨eQ q1 q2,⟨p,rfl,bJ.of e⟩,c1,by rw [c2,a3,b3],c3⟩⟩
theorem oA (h1:gC K H u m x)(h2:gC K H v n y)(l:m+n<=130000000)(k:∀(p:aef)(H':Hp),au H H' ->gC K H' (.ref p) (m+n) (x*y)->Q (.ref p) H'):b8 K my [u,v] H Q E:=by
 obtain ⟨q1,a1,a2,a3,a4⟩:=h1
 obtain ⟨q2,b1,b2,b3,b4⟩:=h2
 obtain ⟨c1,c2,c3⟩:=N2 a2 b2 a4 b4
 exact ⟨u,v,q1,q2,m,n,rfl,a1,b1,a4,b4,l,fun p H' s e=>k p H' s ⟨my q1 q2,⟨p,rfl,bJ.of e⟩,c1,by rw [c2,a3,b3],c3⟩⟩
inductive fO (K:Frag)(vs:ε)(H:Hp)(Q:VK)(E_:XK):Prop
|mk (u:V)(x:Int×Int)(_:vs=[u])(_:mT K H u x)(_:gives H Q (0-x.1,x.2))
theorem qw (h1:gC K H u m x)(k:∀(p:aef)(H':Hp),au H H' ->gC K H' (.ref p) m (-x)->Q (.ref p) H'):fO K [u] H Q E:=by
 obtain ⟨q1,a1,a2,a3,a4⟩:=h1
 refine ⟨u,q1,rfl,a1,fun p H' s e=>k p H' s ⟨(0-q1.1,q1.2),⟨p,rfl,bJ.of e⟩,a2,?_,?_,a4.bot⟩⟩
 ·rw [<-a3]
  unfold vl
  push_cast
  grind
 ·have:=a4.top
  show (0-q1.1).natAbs<=2^m
  omega
theorem Wm:aC zaa zaa (ae EI):=sq
theorem Wn (D:Def K mg "_law_sum" EI zaa):Fn P w K mg base (aY P w) 1 "_law_sum" zaa (b8 K eQ):=by
 refine D.oo Wm fun H hr h=>?_
 obtain ⟨u,v,x,y,m,n,rfl,⟨p1,rfl,h1⟩,⟨p2,rfl,h2⟩,zx,zy,l,q⟩:=h
 refine ⟨_,(ah (aE (aU (aL (aJ cf (aJ jb (aF (pv 0)) (aF (pv 1))) (aJ jb (aF (pv 1)) (aF (pv 0)))) (aJ jb (aF (pv 0)) (aF (pv 1))))))),_,rfl,p1,_,_,_,rfl,rfl,h1,iC,_,rfl,p2,_,_,_,rfl,rfl,h2,iD,_,_,rfl,rfl,gI zx.top zy.bot (by omega),_,rfl,p2,_,_,_,rfl,rfl,h2,iC,_,rfl,p1,_,_,_,rfl,rfl,h1,iD,_,_,rfl,rfl,gI zy.top zx.bot (by omega),_,_,rfl,rfl,_,rfl,p1,_,_,_,rfl,rfl,h1,iD,_,rfl,p2,_,_,_,rfl,rfl,h2,iD,_,_,rfl,rfl,gI zx.bot zy.bot (by omega),z2L,?_⟩
 intro p3 n3;generalize eX:upd _ p3 _=H3;have ⟨s3,e3⟩:=nw n3 eX
 exact q p3 H3 s3 e3
theorem Wo:aC zaa zaa (ae EJ):=sq
theorem Wq (D:Def K mg "_law_times" EJ zaa):Fn P w K mg base (aY P w) 1 "_law_times" zaa (b8 K my):=by
 refine D.oo Wo fun H hr h=>?_
 obtain ⟨u,v,x,y,m,n,rfl,⟨p1,rfl,h1⟩,⟨p2,rfl,h2⟩,zx,zy,l,q⟩:=h
 refine ⟨_,(ah (aE (aU (aL (aJ jb (aF (pv 0)) (aF (pv 1))) (aJ jb (aF (pv 0)) (aF (pv 1))))))),_,rfl,p1,_,_,_,rfl,rfl,h1,iC,_,rfl,p2,_,_,_,rfl,rfl,h2,iC,_,_,rfl,rfl,gI zx.top zy.top (by omega),_,rfl,p1,_,_,_,rfl,rfl,h1,iD,_,rfl,p2,_,_,_,rfl,rfl,h2,iD,_,_,rfl,rfl,gI zx.bot zy.bot (by omega),z2L,?_⟩
 intro p3 n3;generalize eX:upd _ p3 _=H3;have ⟨s3,e3⟩:=nw n3 eX
 exact q p3 H3 s3 e3
theorem Wr:aC zaK zaK (ae EK):=sq
theorem Ws (D:Def K mg "_law_turned" EK zaK):Fn P w K mg base (aY P w) 1 "_law_turned" zaK (fO K):=by
 refine D.oo Wr fun H hr h=>?_
 obtain ⟨u,x,rfl,⟨p1,rfl,h1⟩,q⟩:=h
 refine ⟨_,(ah (aE (aU (aL (aJ dj ag (aF (pv 0))) (aF (pv 0)))))),_,rfl,p1,_,_,_,rfl,rfl,h1,iC,_,_,rfl,rfl,_,rfl,p1,_,_,_,rfl,rfl,h1,iD,z2L,?_⟩
 intro p3 n3;generalize eX:upd _ p3 _=H3;have ⟨s3,e3⟩:=nw n3 eX
 exact q p3 H3 s3 e3
def nameOf (st a k:Int):Str:=if st=0 then Txt.mul "p" (k+1) else if st=1 then Txt.mul "p" a++⟨#[(gh (aeY "bcdefghijklm").cps.toList k).getD 0]⟩++Txt.mul "p" (5-a) else Txt.slice "12345" none (some a)++(toString k:String)
theorem xc:∀st:Fin 3,∀a:Fin 6,∀k:Fin 12,∀j:Fin 12,k≠j->nameOf (st.val:Int) (a.val:Int) (k.val:Int)≠nameOf (st.val:Int) (a.val:Int) (j.val:Int):=by decide+kernel
theorem RX:∀n:Fin 20,MulOk "p" (n.val:Int):=by
 intro n
 unfold MulOk
 revert n
 decide+kernel
theorem RY:∀k:Fin 12,gh (aeY "bcdefghijklm").cps.toList (k.val:Int)=some ((gh (aeY "bcdefghijklm").cps.toList (k.val:Int)).getD 0):=by decide+kernel
theorem K9:∀a:Fin 6,∀k:Fin 12,(Txt.mul "p" (a.val:Int)).length+(⟨#[(gh (aeY "bcdefghijklm").cps.toList (k.val:Int)).getD 0]⟩:Str).length<=1000/\
  (Txt.mul "p" (a.val:Int)++(⟨#[(gh (aeY "bcdefghijklm").cps.toList (k.val:Int)).getD 0]⟩:Str)).length+(Txt.mul "p" (5-(a.val:Int))).length<=1000/\(Txt.slice "12345" none (some (a.val:Int))).length+(aeY (toString (k.val:Int))).length<=1000:=by decide+kernel
inductive uV (vs:ε)(H:Hp)(Q:VK)(E_:XK):Prop
|mk (c k:Int)(_:vs=[.int c,.int k])(_:0<=k)(_:k<12)(_:Q (.str (nameOf (field c 3001 3) (field c 4001 6) k)) H)
theorem K_:aC zaL zaE (ae yF):=sq
theorem Wt (hM:vX CX)(D:Def K mg "_law_name" yF zaE)(tu:mg "str"=none)(cE:Fn P w K mg base CX 1 "_law_field" zab du):Fn P w K mg base CX 2 "_law_name" zaE uV:=by
 refine D.op K_ fun f cp A outer s H vs Q E hr h=>?_
 obtain ⟨c,k,rfl,h0,h12,q⟩:=h
 have px:=oU (X:=j_ CX P w K mg base zaL "_law_name" (ae yF) f cp A outer s H E) hM
 refine ⟨_,(aa (aK (i:=2) K_.nd (oV cE hr.mo px (bE (pv 0) ag ag)))
  (aa (aK (i:=3) K_.nd (oV cE hr.mo px (bE (pv 0) ag ag)))
  (aa (bh (bB dq (pv 2) ag) (ah (aE (aJ ug dY (aJ cf (pv 1) ag)))) aI)
  (aa (bh (bB dq (pv 2) ag) (ah (aE (aJ gW (aJ gW (aJ ug dY (pv 3)) (bD QN dY (pv 1))) (aJ ug dY (aJ dj ag (pv 3)))))) aI)
  (ah (aE (aJ gW (cP Q4 dY fj (cM (pv 3))) (b_ j8 rfl tu Pb (aS (pv 1)))))))))),?_⟩
 have i1:=ba (c:=c) (p:=3001) (m:=3) (by decide)
 have i2:=ba (c:=c) (p:=4001) (m:=6) (by decide)
 refine ⟨_,rfl,_,_,_,rfl,by decide,by decide,by decide,_,rfl,_,_,_,rfl,by decide,by decide,by decide,?_⟩
 generalize field c 3001 3=st at i1 q ⊢
 generalize field c 4001 6=a at i2 q ⊢
 obtain ⟨kn,rfl⟩:∃n:Nat,k=(n:Int):=⟨k.toNat,by omega⟩
 obtain ⟨an,rfl⟩:∃n:Nat,a=(n:Int):=⟨a.toNat,by omega⟩
 have mk:∀i:Int,0<=i->i<20->MulOk "p" i:=fun i a b=>by
  have:=RX ⟨i.toNat,by omega⟩
  rwa [show ((⟨i.toNat,by omega⟩:Fin 20).val:Int)=i by show ((i.toNat:Nat):Int)=i;omega] at this
 refine ⟨_,rfl,rfl,_,rfl,?_⟩
 refine bg (fun z=>?_) (fun z=>?_)
 ·have z':st=0:=by simpa [kg] using z
  subst z'
  exact ⟨_,rfl,_,_,rfl,rfl,_,_,rfl,rfl,mk _ (by omega) (by omega),q⟩
 have z':¬ st=0:=by simpa [kg] using z
 have nl:=K9 ⟨an,by omega⟩ ⟨kn,by omega⟩
 refine ⟨_,rfl,rfl,_,rfl,?_⟩
 refine bg (fun z3=>?_) (fun z3=>?_)
 ·have z3':st=1:=by simpa [kg] using z3
  subst z3'
  exact ⟨_,rfl,_,_,rfl,rfl,mk _ (by omega) (by omega),_,rfl,_,_,_,rfl,rfl,(by decide+kernel),RY ⟨kn,by omega⟩,_,_,rfl,rfl,aak nl.1 (by decide),_,rfl,_,_,rfl,rfl,_,_,rfl,rfl,mk _ (by omega) (by omega),_,_,rfl,rfl,aak nl.2.1 (by decide),q⟩
 ·have z3':¬ st=1:=by simpa [kg] using z3
  refine ⟨_,rfl,_,rfl,_,rfl,(by decide+kernel),?_⟩
  have lg:(kn:Int).natAbs.log2<1920:=aap (akC _) (by show kn<1920;omega)
  refine ⟨_,rfl,_,rfl,lg,_,_,rfl,rfl,aak nl.2.2 (by decide),?_⟩
  have e:nameOf st (an:Int) (kn:Int)=Txt.slice "12345" none (some (an:Int))++aeY (toString (kn:Int)):=by
   unfold nameOf
   rw [aej z',aej z3']
  rw [e] at q
  exact q
def iZ (ws:υ):Prop:=ws=[]\/(∃x y:Rat,ws=[(x,y)]/\¬ (x=0/\y=0)/\Sz 22 x/\Sz 22 y)\/ws=[(1,0),(0,1)]
theorem qz (i:Int)(h:H p=some (.tup [.int i,.int 1])):fN K H (.ref p) (i:Rat):=⟨p,rfl,by rw [pQ];exact bJ.of h⟩
theorem iy (h:H p=some (.tup [.int (qr r).1,.int (qr r).2])):fN K H (.ref p) r:=⟨p,rfl,bJ.of h⟩
theorem kN (h:H p=some (.tup [u,v]))(h1:fN K H u r)(h2:fN K H v s):eG K H (.ref p) (r,s):=⟨p,u,v,rfl,bJ.of h,h1,h2⟩
theorem kO {i:Int}(h:i.natAbs<524288)(hk:19<=k):Sz k (i:Rat):=g8 (aaB h (show 2^19<=2^k from aaI (by decide) hk)) (by omega)
theorem jh {t b:Int}(h:0<b)(h1:t.natAbs<524288)(h2:b<524288):Sz 19 ((t:Rat) / (b:Rat)):=yq (aaY h) (intBits_le_iff.mpr (by show _<524288;omega)) (intBits_le_iff.mpr (by show _<524288;omega))
theorem xf {i:Int}(h:i<=500002):(i:Rat)<=500002:=by
 have:=aaX.mpr h
 simpa using this
theorem oB {t b:Int}(hb:0<b)(h:t<=500002):(t:Rat) / (b:Rat)<=500002:=by
 have iH :(0:Rat)<(b:Rat):=by
  have:=adp.mpr hb
  simpa using this
 have h1:t<=500002*b:=by
  have:(500002:Int)*1<=500002*b:=Int.mul_le_mul_of_nonneg_left (by omega) (by decide)
  omega
 have h2:(t:Rat)<=500002*(b:Rat):=by
  have:=aaX.mpr h1
  simpa using this
 have e:(t:Rat) / (b:Rat)*(b:Rat)=(t:Rat):=by
  have zX:(b:Rat)≠0:=by grind
  grind
 generalize (t:Rat) / (b:Rat)=z at e
 by_cases c:z<=500002
 ·exact c
 ·have c':500002<z:=by grind
  have:=Rat.mul_lt_mul_of_pos_right c' iH
  grind
theorem K' {i:Int}(h:i<=500002)(h2: -500002<=i): -500002<=(i:Rat)/\(i:Rat)<=500002:=by
 refine ⟨?_,xf h⟩
 have:=aaX.mpr h2
 simpa using this
theorem BB {t b:Int}(hb:0<b)(h:t<=500002)(h2: -500002<=t): -500002<=(t:Rat) / (b:Rat)/\(t:Rat) / (b:Rat)<=500002:=by
 refine ⟨?_,oB hb h⟩
 have:=oB (t:= -t) hb (by omega)
 have e:((-t:Int):Rat) / (b:Rat)= -((t:Rat) / (b:Rat)):=by
  push_cast
  grind
 rw [e] at this
 grind
inductive uW (K:Frag)(vs:ε)(H:Hp)(Q:VK)(E_:XK):Prop
|mk (c k:Int)(_:vs=[.int c,.int k])(_:∀(p:aef)(x y:Rat)(H':Hp),au H H' ->Sz 19 x->Sz 19 y->x<=500002->(-500002<=y/\y<=500002)->eG K H' (.ref p) (x,y)->Q (.ref p) H')
theorem La:aC ["_law_cell","_law_kind","_law_x"] zaG (ae EL):=sq
theorem Wu (D:Def K mg "_law_spot" EL zaG)(cE:Fn P w K mg base (aY P w) 1 "_law_field" zab du)(nK:Fn P w K mg base (aY P w) 33 "_law_lowest" zas de):Fn P w K mg base (aY P w) 34 "_law_spot" zaG (uW K):=by
 refine D.oo La fun H hr h=>?_
 obtain ⟨c,k,rfl,q⟩:=h
 have L2:2<=ael:=by decide
 refine ⟨_,(aa (bh (bB dq (pv 1) ag) (ah (aE (aU (aL (aU (aL (aT cE hr (bE (pv 0) ag ag)) ag)) (aU (aL (aT cE hr (bE (pv 0) ag ag)) ag)))))) aI)
  (aa (bh (bB dq (pv 1) ag) (aa (aK (i:=2) La.nd (aT nK hr (aL (aJ dj (aT cE hr (bE (pv 0) ag ag)) ag) (aJ cf ag (aT cE hr (bE (pv 0) ag ag))))))
   (ah (aE (aU (aL (pv 2) (aT nK hr (aL (aJ dj (aT cE hr (bE (pv 0) ag ag)) ag) (aJ cf ag (aT cE hr (bE (pv 0) ag ag)))))))))) aI)
  (aa (aK (i:=2) La.nd (aT nK hr (aL (aJ dj (aT cE hr (bE (pv 0) ag ag)) ag) (aJ cf ag (aT cE hr (bE (pv 0) ag ag))))))
  (ah (aE (aU (aL (pv 2) (aT nK hr (aL (aJ dj (aT cE hr (bE (pv 0) ag ag)) ag) (aJ cf ag (aT cE hr (bE (pv 0) ag ag)))))))))))),?_⟩
 refine ⟨_,rfl,rfl,_,rfl,?_⟩
 refine bg (fun _=>?_) (fun _=>?_)
 ·have i1:=ba (c:=c) (p:=1009) (m:=4) (by decide)
  have i2:=ba (c:=c) (p:=2003) (m:=4) (by decide)
  refine ⟨_,rfl,_,_,_,rfl,by decide,by decide,by decide,L2,?_⟩
  intro p1 n1;generalize eX:upd _ p1 _=H1;have ⟨s1,e1⟩:=nw n1 eX
  refine ⟨_,rfl,_,_,_,rfl,by decide,by decide,by decide,L2,?_⟩
  intro p2 n2;generalize eX:upd _ p2 _=H2;have ⟨s2,e2⟩:=nw n2 eX
  refine ⟨L2,?_⟩
  intro p3 n3;generalize eX:upd _ p3 _=H3;have ⟨s3,e3⟩:=nw n3 eX
  exact q p3 _ _ H3 ((s1.trans s2).trans s3) (kO (by omega) (by decide)) (kO (by omega) (by decide)) (xf (by omega)) (K' (by omega) (by omega)) (kN e3 (((qz _ e1).same s2).same s3) ((qz _ e2).same s3))
 refine ⟨_,rfl,rfl,_,rfl,?_⟩
 refine bg (fun _=>?_) (fun _=>?_)
 ·have i1:=ba (c:=c) (p:=1009) (m:=13) (by decide)
  have i2:=ba (c:=c) (p:=3001) (m:=3) (by decide)
  have i3:=ba (c:=c) (p:=2003) (m:=13) (by decide)
  have i4:=ba (c:=c) (p:=4001) (m:=2) (by decide)
  refine ⟨_,rfl,_,_,_,rfl,by decide,by decide,by decide,_,_,rfl,rfl,_,rfl,_,_,_,rfl,by decide,by decide,by decide,_,_,rfl,rfl,_,_,rfl,by omega,fun p1 H1 s1 e1=>?_⟩
  rw [f9 (by omega)] at e1
  refine ⟨_,rfl,_,rfl,_,_,_,rfl,by decide,by decide,by decide,_,_,rfl,rfl,_,rfl,_,_,_,rfl,by decide,by decide,by decide,_,_,rfl,rfl,_,_,rfl,by omega,fun p2 H2 s2 e2=>⟨L2,?_⟩⟩
  rw [f9 (by omega)] at e2
  intro p3 n3;generalize eX:upd _ p3 _=H3;have ⟨s3,e3⟩:=nw n3 eX
  exact q p3 _ _ H3 ((s1.trans s2).trans s3) (jh (by omega) (by omega) (by omega)) (jh (by omega) (by omega) (by omega)) (oB (by omega) (by omega)) (BB (by omega) (by omega) (by omega)) (kN e3 (((iy e1).same s2).same s3) ((iy e2).same s3))
 ·have i1:=ba (c:=c) (p:=1000003) (m:=1000003) (by decide)
  have i2:=ba (c:=c) (p:=3001) (m:=997) (by decide)
  have i3:=ba (c:=c) (p:=1000033) (m:=1000003) (by decide)
  have i4:=ba (c:=c) (p:=4001) (m:=997) (by decide)
  refine ⟨_,rfl,_,_,_,rfl,by decide,by decide,by decide,_,_,rfl,rfl,_,rfl,_,_,_,rfl,by decide,by decide,by decide,_,_,rfl,rfl,_,_,rfl,by omega,fun p1 H1 s1 e1=>?_⟩
  rw [f9 (by omega)] at e1
  refine ⟨_,rfl,_,rfl,_,_,_,rfl,by decide,by decide,by decide,_,_,rfl,rfl,_,rfl,_,_,_,rfl,by decide,by decide,by decide,_,_,rfl,rfl,_,_,rfl,by omega,fun p2 H2 s2 e2=>⟨L2,?_⟩⟩
  rw [f9 (by omega)] at e2
  intro p3 n3;generalize eX:upd _ p3 _=H3;have ⟨s3,e3⟩:=nw n3 eX
  exact q p3 _ _ H3 ((s1.trans s2).trans s3) (jh (by omega) (by omega) (by omega)) (jh (by omega) (by omega) (by omega)) (oB (by omega) (by omega)) (BB (by omega) (by omega) (by omega)) (kN e3 (((iy e1).same s2).same s3) ((iy e2).same s3))
inductive oC (K:Frag)(vs:ε)(H:Hp)(Q:VK)(E_:XK):Prop
|mk (c:Int)(_:vs=[.int c])(_:∀(l:aef)(us:ε)(ws:υ)(H':Hp),iZ ws->au H H' ->H l=none->H' l=some (.lst us)->iB K H' us ws->Q (.ref l) H')
theorem N3 :(qr r).1=0 ↔ r=0:=⟨uN,fun e=>by rw [e,c_]⟩
theorem xg:aC ["_law_cell","_law_kind","_law_x","_law_y"] zaQ (ae EM):=sq
theorem Wv (D:Def K mg "_law_ways" EM zaQ)(cE:Fn P w K mg base (aY P w) 1 "_law_field" zab du)(nK:Fn P w K mg base (aY P w) 33 "_law_lowest" zas de):Fn P w K mg base (aY P w) 34 "_law_ways" zaQ (oC K):=by
 refine D.op xg fun f cp A outer s H vs Q E hr h=>?_
 obtain ⟨c,rfl,q⟩:=h
 have L0:0<=ael:=by decide
 have L1:1<=ael:=by decide
 have L2:2<=ael:=by decide
 refine ⟨_,(aa (aK (i:=1) xg.nd (aT cE hr (bE (pv 0) ag ag)))
  (aa (bh (bB vI (pv 1) ag) (ah (aE (bV eZ))) aI)
  (aa (bh (bB vI (pv 1) ag) (ah (aE (bV (aL (aU (aL (aU (aL ag ag)) (aU (aL ag ag)))) (aU (aL (aU (aL ag ag)) (aU (aL ag ag)))))))) aI)
  (aa (aK (i:=2) xg.nd (aT nK hr (aL (aJ dj (aT cE hr (bE (pv 0) ag ag)) ag) (aJ cf ag (aT cE hr (bE (pv 0) ag ag))))))
  (aa (aK (i:=3) xg.nd (aT nK hr (aL (aJ dj (aT cE hr (bE (pv 0) ag ag)) ag) (aJ cf ag (aT cE hr (bE (pv 0) ag ag))))))
  (aa (bh (PW.pt (oG (bB dq (aF (pv 2)) ag) (j7 (bB dq (aF (pv 3)) ag)))) (ah (aK (i:=3) xg.nd (aU (aL ag ag)))) aI)
  (ah (aE (bV (aS (aU (aL (pv 2) (pv 3))))))))))))),?_⟩
 refine ⟨_,rfl,_,_,_,rfl,by decide,by decide,by decide,_,rfl,_,_,rfl,rfl,_,rfl,?_⟩
 refine bg (fun _=>?_) (fun _=>?_)
 ·refine ⟨L0,?_⟩
  intro l nl;generalize eX:upd _ l _=H1;have ⟨s1,e1⟩:=nw nl eX
  exact q l [] [] H1 (.inl rfl) s1 nl e1 .nil
 refine ⟨_,rfl,_,_,rfl,rfl,_,rfl,?_⟩
 refine bg (fun _=>?_) (fun _=>?_)
 ·refine ⟨L2,?_⟩
  intro p1 n1;generalize eX:upd _ p1 _=H1;have ⟨s1,e1⟩:=nw n1 eX
  refine ⟨L2,?_⟩
  intro p2 n2;generalize eX:upd _ p2 _=H2;have ⟨s2,e2⟩:=nw n2 eX
  refine ⟨L2,?_⟩
  intro p3 n3;generalize eX:upd _ p3 _=H3;have ⟨s3,e3⟩:=nw n3 eX
  refine ⟨L2,?_⟩
  intro p4 n4;generalize eX:upd _ p4 _=H4;have ⟨s4,e4⟩:=nw n4 eX
  refine ⟨L2,?_⟩
  intro p5 n5;generalize eX:upd _ p5 _=H5;have ⟨s5,e5⟩:=nw n5 eX
  refine ⟨L2,?_⟩
  intro p6 n6;generalize eX:upd _ p6 _=H6;have ⟨s6,e6⟩:=nw n6 eX
  refine ⟨L2,?_⟩
  intro p7 n7;generalize eX:upd _ p7 _=H7;have ⟨s7,e7⟩:=nw n7 eX
  have sh:=s1.trans (s2.trans (s3.trans (s4.trans (s5.trans s6))))
  have w1:eG K H7 (.ref p3) (1,0):=wZ uO c_ (s7 _ _ (s6 _ _ (s5 _ _ (s4 _ _ e3)))) (s7 _ _ (s6 _ _ (s5 _ _ (s4 _ _ (s3 _ _ (s2 _ _ e1)))))) (s7 _ _ (s6 _ _ (s5 _ _ (s4 _ _ (s3 _ _ e2)))))
  have w2:eG K H7 (.ref p6) (0,1):=wZ c_ uO (s7 _ _ e6) (s7 _ _ (s6 _ _ (s5 _ _ e4))) (s7 _ _ (s6 _ _ e5))
  exact q p7 _ [(1,0),(0,1)] _ (.inr (.inr rfl)) (sh.trans s7) (sh.free n7) e7 (.cons w1 (.cons w2 .nil))
 have i1:=ba (c:=c) (p:=6007) (m:=7) (by decide)
 have i2:=ba (c:=c) (p:=7001) (m:=3) (by decide)
 have i3:=ba (c:=c) (p:=8009) (m:=7) (by decide)
 have i4:=ba (c:=c) (p:=9001) (m:=2) (by decide)
 refine ⟨_,rfl,_,_,_,rfl,by decide,by decide,by decide,_,_,rfl,rfl,_,rfl,_,_,_,rfl,by decide,by decide,by decide,_,_,rfl,rfl,_,_,rfl,by omega,fun p1 H1 s1 e1=>?_⟩
 rw [f9 (by omega)] at e1
 refine ⟨_,rfl,_,_,_,rfl,by decide,by decide,by decide,_,_,rfl,rfl,_,rfl,_,_,_,rfl,by decide,by decide,by decide,_,_,rfl,rfl,_,_,rfl,by omega,fun p2 H2 s2 e2=>?_⟩
 rw [f9 (by omega)] at e2
 have z1:=jh (t:=field c 6007 7-3) (b:=1+field c 7001 3) (by omega) (by omega) (by omega)
 have z2:=jh (t:=field c 8009 7-3) (b:=1+field c 9001 2) (by omega) (by omega) (by omega)
 generalize ((field c 6007 7-3:Int):Rat) / ((1+field c 7001 3:Int):Rat)=x at e1 z1 ⊢
 generalize ((field c 8009 7-3:Int):Rat) / ((1+field c 9001 2:Int):Rat)=y at e2 z2 ⊢
 have CP :=s2 _ _ e1
 have yz:=s1.trans s2
 have fin:∀(v:V)(y':Rat)(H3:Hp),au H2 H3->fN K H3 v y' ->Sz 22 y' ->¬ (x=0/\y'=0)->∀(p:aef)(l:aef)(H5:Hp),au H3 H5->H3 l=none->H5 p=some (.tup [.ref p1,v])->H5 l=some (.lst [.ref p])->Q (.ref l) H5:=fun v y' H3 s3 hv zy hn p l H5 s5 nl ep el=>
  q l [.ref p] [(x,y')] H5 (.inr (.inl ⟨x,y',rfl,hn,z1.up (by decide),zy⟩)) (yz.trans (s3.trans s5)) ((yz.trans s3).free nl) el (.cons (kN ep (((iy CP).same s3).same s5) (hv.same s5)) .nil)
 refine ⟨_,rfl,p1,_,_,_,rfl,rfl,bJ.of CP,iC,rfl,_,rfl,?_⟩
 refine bg (fun c1=>?_) (fun c1=>?_)
 ·have c1':x=0:=N3.mp (by simpa using aeJ c1)
  refine ⟨_,rfl,p2,_,_,_,rfl,rfl,bJ.of e2,iC,rfl,_,rfl,?_⟩
  refine bg (fun c2=>?_) (fun c2=>?_)
  ·refine ⟨L2,?_⟩
   intro p3 n3;generalize eX:upd _ p3 _=H3;have ⟨s3,e3⟩:=nw n3 eX
   refine ⟨_,rfl,_,rfl,L2,?_⟩
   intro p4 n4;generalize eX:upd _ p4 _=H4;have ⟨s4,e4⟩:=nw n4 eX
   refine ⟨L1,?_⟩
   intro l5 n5;generalize eX:upd _ l5 _=H5;have ⟨s5,e5⟩:=nw n5 eX
   exact fin (.ref p3) 1 H3 s3 (qz 1 e3) (kO (i:=1) (by decide) (by decide)) (fun z=>aet z.2 (by decide)) p4 l5 H5 (s4.trans s5) (s4.free n5) (s5 _ _ e4) e5
  ·have c2':¬ y=0:=fun z=>c2 (by rw [z,c_];decide)
   refine ⟨_,rfl,_,rfl,L2,?_⟩
   intro p4 n4;generalize eX:upd _ p4 _=H4;have ⟨s4,e4⟩:=nw n4 eX
   refine ⟨L1,?_⟩
   intro l5 n5;generalize eX:upd _ l5 _=H5;have ⟨s5,e5⟩:=nw n5 eX
   exact fin (.ref p2) y H2 (au.refl _) (iy e2) (z2.up (by decide)) (fun z=>c2' z.2) p4 l5 H5 (s4.trans s5) (s4.free n5) (s5 _ _ e4) e5
 ·have c1':¬ x=0:=fun z=>c1 (by rw [z,c_];decide)
  refine QT ?_
  refine ⟨_,rfl,_,rfl,L2,?_⟩
  intro p4 n4;generalize eX:upd _ p4 _=H4;have ⟨s4,e4⟩:=nw n4 eX
  refine ⟨L1,?_⟩
  intro l5 n5;generalize eX:upd _ l5 _=H5;have ⟨s5,e5⟩:=nw n5 eX
  exact fin (.ref p2) y H2 (au.refl _) (iy e2) (z2.up (by decide)) (fun z=>c1' z.1) p4 l5 H5 (s4.trans s5) (s4.free n5) (s5 _ _ e4) e5
inductive jV (K:Frag)(H:Hp)(d:aef)(v:V)(p:ay):Prop
|mk (a l:aef)(s:V)(us:ε)(_:v=.ref a)(_:bJ K H a [.str p.nm,s,.ref l])(_:eG K H s p.sp)(_:H l=some (.lst us))(_:iB K H us p.ws)(_:l≠d)
inductive ip (K:Frag)(H:Hp)(v:V)(p:ay):Prop
|mk (a l:aef)(s:V)(us:ε)(_:v=.ref a)(_:bJ K H a [.str p.nm,s,.ref l])(_:eG K H s p.sp)(_:H l=some (.lst us))(_:iB K H us p.ws)
inductive qA (K:Frag)(H:Hp)(pins:ν)(v:V)(b:a_):Prop
|mk (a:aef)(i j:Nat)(_:v=.ref a)(_:bJ K H a [.str b.nm,.int (i:Int),.int (j:Int)])(_:pins[i]?=some b.one)(_:pins[j]?=some b.other)
inductive fD (K:Frag)(H:Hp)(pins:ν)(v:V)(b:a_):Prop
|mk (a:aef)(i j:Nat)(c:Int)(_:v=.ref a)(_:bJ K H a [.str b.nm,.int (i:Int),.int (j:Int),.int c])(_:pins[i]?=some b.one)(_:pins[j]?=some b.other)
section
variable {K:Frag}{H H':Hp}{v:V}{p:ay}{d:aef}
theorem jV.same (h:jV K H d v p)(s:au H H'):jV K H' d v p:=by
 obtain ⟨a,l,sv,us,e,h1,h2,h3,h4,h5⟩:=h
 exact ⟨a,l,sv,us,e,Ty.au.bI s h1,h2.same s,s _ _ h3,h4.same s,h5⟩
theorem jV.upd (h:jV K H d v p)(e:H d=some (.lst xs)):jV K (L2.upd H d o) d v p:=by
 obtain ⟨a,l,sv,us,ev,h1,h2,h3,h4,h5⟩:=h
 have t:bu H (L2.upd H d o):=.list e
 exact ⟨a,l,sv,us,ev,t.bI h1,h2.aR t,by rw [ao h5];exact h3,h4.aR t,h5⟩
theorem jV.r (h:jV K H d v p):ip K H v p:=by
 obtain ⟨a,l,sv,us,e,h1,h2,h3,h4,_⟩:=h
 exact ⟨a,l,sv,us,e,h1,h2,h3,h4⟩
theorem ip.same (h:ip K H v p)(s:au H H'):ip K H' v p:=by
 obtain ⟨a,l,sv,us,e,h1,h2,h3,h4⟩:=h
 exact ⟨a,l,sv,us,e,Ty.au.bI s h1,h2.same s,s _ _ h3,h4.same s⟩
theorem fD.same (h:fD K H pins v b)(s:au H H'):fD K H' pins v b:=by
 obtain ⟨a,i,j,c,e,h1,h2,h3⟩:=h
 exact ⟨a,i,j,c,e,Ty.au.bI s h1,h2,h3⟩
theorem qA.same (h:qA K H pins v b)(s:au H H'):qA K H' pins v b:=by
 obtain ⟨a,i,j,e,h1,h2,h3⟩:=h
 exact ⟨a,i,j,e,Ty.au.bI s h1,h2,h3⟩
end
structure eW (pins:ν):Prop where
 np:(pins.map (·.nm)).Nodup
 ns:(pins.map (·.sp)).Nodup
 sz:∀p∈pins,Sz 44 p.sp.1/\Sz 44 p.sp.2
 ws:∀p∈pins,iZ p.ws
theorem iZ.sz (h:iZ ws):∀w∈ws,Sz 22 w.1/\Sz 22 w.2:=fun w hw=>by
 rcases h with rfl|⟨x,y,rfl,_,h1,h2⟩|rfl
 ·cases hw
 ·have:w=(x,y):=by simpa using hw
  rw [this]
  exact ⟨h1,h2⟩
 ·have e1:Sz 22 (1:Rat):=kO (k:=22) (i:=1) (by decide) (by decide)
  have e0:Sz 22 (0:Rat):=fm (by decide)
  have:w=(1,0)\/w=(0,1):=by simpa using hw
  rcases this with rfl|rfl
  ·exact ⟨e1,e0⟩
  ·exact ⟨e0,e1⟩
theorem iZ.len (h:iZ ws):ws.length<=2:=by
 rcases h with rfl|⟨x,y,rfl,_⟩|rfl<;>simp
theorem eW.snoc (g:eW pins)(h1:p.nm∉pins.map (·.nm))(h2:p.sp∉pins.map (·.sp))(h3:Sz 44 p.sp.1/\Sz 44 p.sp.2)(h4:iZ p.ws):eW (pins++[p]):=by
 refine ⟨?_,?_,fun q hq=>?_,fun q hq=>?_⟩
 ·rw [aax,ab6]
  refine ⟨g.np,by simp,fun a ha b hb e=>h1 ?_⟩
  have:b=p.nm:=by simpa using hb
  rw [<-this,<-e]
  exact ha
 ·rw [aax,ab6]
  refine ⟨g.ns,by simp,fun a ha b hb e=>h2 ?_⟩
  have:b=p.sp:=by simpa using hb
  rw [<-this,<-e]
  exact ha
 ·rcases aau.mp hq with z|z
  ·exact g.sz q z
  ·rw [aao.mp z]
   exact h3
 ·rcases aau.mp hq with z|z
  ·exact g.ws q z
  ·rw [aao.mp z]
   exact h4
structure gO (pins:ν)(aj:τ):Prop where
 nb:(aj.map (·.nm)).Nodup
 ends:∀b∈aj,b.one∈pins/\b.other∈pins/\b.one.nm≠b.other.nm
theorem cI :∀{l₁:List α} {l₂:List β} {a:α} {b:β},Paired F l₁ l₂->F a b->Paired F (l₁++[a]) (l₂++[b])
 | _,_,_,_,.nil,h=>.cons h .nil
 | _,_,_,_,.cons h t,h'=>.cons h (cI t h')
theorem cn (inv:L2.St->Hp->Prop)(h1:∀N:L2.St->Hp->Prop,(∀σ' H',inv σ' H' ->N σ' H')->t {D with nx:=N} σ H)(h2:∀σ' H',inv σ' H' ->u D σ' H'):TB t u D σ H:=h1 _ h2
theorem Ww (g:eW pins)(b:gO pins aj)(lp:pins.length<=9)(lb:aj.length<=14):fG pins aj:=
 ⟨g.np,b.nb,b.ends,fun p hp=>⟨(g.sz p hp).1,(g.sz p hp).2,(g.ws p hp).sz⟩,lp,lb,fun p hp=>(g.ws p hp).len⟩
theorem Wx:aeL "min"=some (.builtin "min"):=by decide+kernel
def cnt (pins:ν)(x:Rat):Nat:=(pins.filter fun p=>decide (x<=p.sp.1)).length
theorem Lb (x:Rat):∀pins:List ay,cnt pins (x+1)<=cnt pins x
 | []=>aal _
 | p::ps=>by
  have ih:=Lb x ps
  unfold cnt at ih ⊢
  rw [abW,abW]
  by_cases c:x+1<=p.sp.1
  ·have c2:x<=p.sp.1:=by grind
   rw [aek (aeD c),aek (aeD c2)]
   simpa using ih
  ·rw [aej (by simpa using c)]
   split
   ·rw [aaQ]
    omega
   ·exact ih
theorem Lc :∀{pins:ν},(∃p∈pins,p.sp.1=x)->cnt pins (x+1)<cnt pins x
 | [],⟨p,h,_⟩=>by simp at h
 | p::ps,⟨q,hq,e⟩=>by
  unfold cnt
  rw [abW,abW]
  by_cases c0:p.sp.1=x
  ·have c:¬ x+1<=p.sp.1:=by grind
   have c2:x<=p.sp.1:=by grind
   rw [aej (by simpa using c),aek (aeD c2),aaQ]
   have:=Lb x ps
   unfold cnt at this
   omega
  ·have nq :q∈ps:=by
    rcases aaL.mp hq with z|z
    ·exact aet (by rw [<-z];exact e) c0
    ·exact z
   have ih:=Lc (pins:=ps) ⟨q,nq,e⟩
   unfold cnt at ih
   by_cases c:x+1<=p.sp.1
   ·have c2:x<=p.sp.1:=by grind
    rw [aek (aeD c),aek (aeD c2)]
    simpa using ih
   ·rw [aej (by simpa using c)]
    split
    ·rw [aaQ]
     omega
    ·exact ih
theorem N4 (pins:ν)(x:Rat):cnt pins x<=pins.length:=acK _ _
theorem BC (r:Rat):eQ (qr r) (1,1)=qr (r+1):=by
 have e:eQ (qr r) (1,1)=((qr r).1+(qr r).2,(qr r).2):=by
  unfold eQ
  simp
 have g:aaZ ((qr r).1+(qr r).2) (qr r).2=1:=by
  have:=jM r
  rw [<-this]
  simp
 rw [e,pO (q:=((qr r).1+(qr r).2,(qr r).2)) (cD r) g]
 congr 1
 have z:=uz (r:=r)
 have v:=fB r
 unfold vl at v ⊢
 push_cast
 grind
theorem Ld (h:Sz k r):Ns k (qr r):=⟨aa1 (intBits_le_iff.mp h.top),aa1 (intBits_le_iff.mp h.bot)⟩
theorem N5:∀i:Fin 10,∃N:Fin 6,gh [V.int 0,.int 1,.int 2,.int 2,.int 3,.int 3,.int 3,.int 4,.int 4,.int 5] (i.val:Int)=some (.int (N.val:Int)):=by decide+kernel
def qB (k:Int):Str:="far"++aeY (toString k)
theorem GG:∀st:Fin 3,∀a:Fin 6,∀k:Fin 12,∀f:Fin 4,nameOf (st.val:Int) (a.val:Int) (k.val:Int)≠qB (f.val:Int):=by decide+kernel
inductive uX (K:Frag)(vs:ε)(H:Hp)(Q:VK)(E_:XK):Prop
|mk (sA:aef)(ns:ξ)(_:vs=[.ref sA])(_:aV K H sA (ns.map V.int))(_:∀(l:aef)(us:ε)(pins:ν)(H':Hp),au H H' ->H l=none->H' l=some (.lst us)->Paired (jV K H' l) us pins->eW pins->pins.length<=5->(∀p∈pins,(∀f:Fin 4,p.nm≠qB (f.val:Int))/\p.sp.1<=500010/\Sz 19 p.sp.2/\ -500002<=p.sp.2/\p.sp.2<=500002)->Q (.ref l) H')
theorem kQ:aC ["_law_script","_law_cell","_law_many","_law_kind","_law_pins_here","_law_k","_law_spot_here"] zaM (ae EN):=sq
theorem Wy (D:Def K mg "_law_pins" EN zaM)(bf:mg "range"=none)(Le:mg "min"=none)(mz:Fn P w K mg base (aY P w) 1 "_law_cell_at" zav (mx K))(cE:Fn P w K mg base (aY P w) 1 "_law_field" zab du)
  (ade:Fn P w K mg base (aY P w) 34 "_law_spot" zaG (uW K)) (RZ:Fn P w K mg base (aY P w) 34 "_law_ways" zaQ (oC K)) (R5:Fn P w K mg base (aY P w) 2 "_law_name" zaE uV) (i0:Fn P w K mg base (aY P w) 1 "_law_sum" zaa (b8 K eQ)):
  Fn P w K mg base (aY P w) 35 "_law_pins" zaM (uX K):=by
 refine D.oo kQ fun H hr h=>?_
 obtain ⟨sA,ns,rfl,hS,q⟩:=h
 have L2:2<=ael:=by decide
 have L3:3<=ael:=by decide
 refine ⟨_,(aa (aK (i:=1) kQ.nd (aT mz hr (aL (pv 0) ag)))
  (aa (aK (i:=2) kQ.nd (bD aQ (bV (iA ag (iA ag (iA ag (iA ag (iA ag (iA ag (iA ag (bE ag ag ag))))))))) (aT cE hr (bE (pv 1) ag ag))))
  (aa (aK (i:=3) kQ.nd (aT cE hr (bE (pv 1) ag ag)))
  (aa (bh (bB dq (pv 3) ag) (ah (aK (i:=2) kQ.nd (aG (CA rfl) rfl Le Wx (aL (pv 2) ag)))) aI)
  (aa (aK (i:=4) kQ.nd (bV eZ))
  (aa (bC aev rfl (bK rfl bf (aS (pv 2))) (bW (i:=5) kQ.nd) (aa (aK (i:=6) kQ.nd (aT ade hr (aL (aT mz hr (aL (pv 0) (aJ cf ag (pv 5)))) (pv 3))))
   (aa (oH aev (nQ (Nw hr.units) (pv 6) (dr (tn:=zaT) (fr:=[]) (caps:=[]) (bx (pv 4)) (bD (cX (K:=K) rfl) (pv 0) ag)) rfl) (ah (aK (i:=6) kQ.nd (aU (aL (aT i0 hr (aL (aF (pv 6)) (aU (aL ag ag)))) (aF (pv 6)))))))
   (ah (bq (gs aeH aeN aeP cQ (pv 4) (aS (aU (bE (aT R5 hr (aL (pv 1) (pv 5))) (pv 6) (aT RZ hr (aS (aT mz hr (aL (pv 0) (aJ cf ag (pv 5)))))))))))))))
  (ah (aE (pv 4))))))))),?_⟩
 refine ⟨_,rfl,sA,ns,0,rfl,hS,by decide,by decide,?_⟩
 generalize cell ns 0=c0
 refine ⟨z10L,?_⟩
 intro t0 nt0;generalize eX:upd _ t0 _=H0;have ⟨st0,et0⟩:=nw nt0 eX
 have i1:=ba (c:=c0) (p:=1009) (m:=10) (by decide)
 refine ⟨_,rfl,_,_,_,rfl,by decide,by decide,by decide,?_⟩
 generalize field c0 1009 10=fi at i1 ⊢
 obtain ⟨fn,rfl⟩:∃n:Nat,fi=(n:Int):=⟨fi.toNat,by omega⟩
 obtain ⟨N,eN⟩:=N5 ⟨fn,by omega⟩
 refine ⟨t0,_,_,_,rfl,rfl,aV.of et0,eN,_,rfl,_,_,_,rfl,by decide,by decide,by decide,?_⟩
 generalize field c0 2003 3=kind
 dsimp only
 refine cn (fun σ' H'=>∃N:Nat,N<=5/\σ' =[some (.ref sA),some (.int c0),some (.int (N:Int)),some (.int kind),none,none,none]/\H'=H0) (fun Nx i5=>?_) ?_
 ·refine ⟨_,rfl,rfl,_,rfl,?_⟩
  refine bg (fun _=>?_) (fun _=>?_)
  ·have hN:=N.isLt
   refine ⟨_,rfl,_,_,rfl,i5 _ _ ⟨min N.val 4,by omega,?_,rfl⟩⟩
   have:(if (4:Int)<(N.val:Int) then (4:Int) else (N.val:Int))=((min N.val 4:Nat):Int):=by
    split<;>omega
   rw [this]
   rfl
  ·exact i5 _ _ ⟨N.val,by have:=N.isLt;omega,rfl,rfl⟩
 rintro σ' H' ⟨N,hN,rfl,rfl⟩
 refine ⟨z0L,?_⟩
 intro lp np;generalize eX:upd _ lp _=H1;have ⟨sp,ep⟩:=nw np eX
 have PU:=st0.trans sp
 have yN:H lp=none:=st0.free np
 refine ⟨_,rfl,(N:Int),rfl,by omega,by omega,bX (lo:=0) (n:=N) (fun i σ H'=>HE fun (o5 o6:ψ) (us:ε) (pins:ν)=>σ=[some (.ref sA),some (.int c0),some (.int (N:Int)),some (.int kind),some (.ref lp),o5,o6]/\au H H'/\H' lp=some (.lst us)/\Paired (jV K H' lp) us pins/\eW pins/\pins.length=i/\∀p∈pins,∃j,j<i/\p.nm=nameOf (field c0 3001 3) (field c0 4001 6) (j:Int)/\p.sp.1<=500010/\Sz 19 p.sp.2/\ -500002<=p.sp.2/\p.sp.2<=500002) ⟨none,none,[],[],rfl,PU,ep,.nil,⟨by simp,by simp,by simp,by simp⟩,rfl,by simp⟩ ?_ ?_⟩
 ·rintro i σ H2 hi ⟨o5,o6,us,pins,rfl,s2,e2,pp,gp,lpi,nm⟩
  have ei:(0:Int)+(i:Int)=(i:Int):=aaT _
  rw [ei]
  have lu:us.length=pins.length:=aer pp
  refine ⟨_,rfl,_,rfl,_,_,rfl,rfl,sA,ns,_,rfl,s2.seq hS,by omega,by omega,_,rfl,_,_,rfl,fun p3 x0 y0 H3 s3 zx zy xb yb h3=>?_⟩
  have s23:=s2.trans s3
  have h30:eG K H3 (.ref p3) (x0+((0:Nat):Rat),y0):=by
   have e:x0+((0:Nat):Rat)=x0:=by
    have:((0:Nat):Rat)=0:=by rfl
    rw [this]
    grind
   rw [e]
   exact h3
  dsimp only
  refine cn (fun σ' H'=>Mi fun (sv:V) (x:Rat)=>σ' =[some (.ref sA),some (.int c0),some (.int (N:Int)),some (.int kind),some (.ref lp),some (.int (i:Int)),some sv]/\au H3 H'/\eG K H' sv (x,y0)/\(Sz 44 x/\x<=500010)/\(x,y0)∉pins.map (·.sp)) (fun Nx i5=>?_) ?_
  ·refine ⟨fun m σ H'=>Mi fun (sv:V) (j:Nat)=>σ=[some (.ref sA),some (.int c0),some (.int (N:Int)),some (.int kind),some (.ref lp),some (.int (i:Int)),some sv]/\au H3 H'/\eG K H' sv (x0+(j:Rat),y0)/\m=cnt pins (x0+(j:Rat))/\j+cnt pins (x0+(j:Rat))<=pins.length,⟨_,_,0,rfl,au.refl _,h30,rfl,by have:=N4 pins (x0+((0:Nat):Rat));omega⟩,?_⟩
   rintro m σ H4 ⟨sv,j,rfl,s4,h4,rfl,hj⟩
   have e4:=(s3.trans s4) _ _ e2
   have pp4:Paired (jV K H4 lp) us pins:=Paired.bL pp fun _ _ z=>z.same (s3.trans s4)
   have zj:Sz 44 (x0+(j:Rat)):=(zx.add (g8 (i:=(j:Int)) (k:=3) (show _<8 by omega) (by decide))).up (by decide)
   refine ⟨_,rfl,_,rfl,lp,rfl,⟨_,aV.of e4⟩,fun D1 n1=>?_⟩
   refine cy (cap:=[]) (K:=K) (a:=lp) (xs:=us) (fun i v H=>∃p,pins[i]?=some p/\eG K H v p.sp) n1 (by rw [lu];exact aap (show pins.length<=1000 by omega) (by decide)) (fun H2 s2=>aV.of (s2 _ _ e4)) (fun _ _ _ _ _ h0 ks h=>by
     obtain ⟨p,h1,h2⟩:=h
     refine ⟨p,h1,h2.aR fun b xs r=>?_⟩
     rcases r with r|⟨o',r⟩
     ·exact .inl (ks _ _ (fun e=>by rw [e,h0] at r;cases r) r)
     ·exact .inr ⟨o',ks _ _ (fun e=>by rw [e,h0] at r;cases r) r⟩) ?_ ?_
   ·intro jj u H6 R hu s6 k
    obtain ⟨p,rX,hp⟩:=aw pp4 hu
    obtain ⟨a,l,sv,eK,rfl,h1,h2,_⟩:=hp
    exact ⟨_,rfl,a,_,_,_,rfl,rfl,Ty.au.bI s6 h1,rfl,k _ _ (au.refl _) ⟨p,rX,h2.same s6⟩⟩
   intro ys H6 hy gc s6 hD
   have pq:iB K H6 ys (pins.map (·.sp)):=cF (by rw [aah,hy,lu]) fun j u q' CP e2'=>by
    obtain ⟨p,h1,h2⟩:=gc j u CP
    rw [aag,h1] at e2'
    cases e2'
    exact h2
   have h6:=h4.same s6
   refine ⟨(x0+(j:Rat),y0),D1,ys,_,rfl,aV.of hD,h6,pq,_,rfl,?_⟩
   refine bg (fun cc=>?_) (fun cc=>?_)
   ·have mem:(x0+(j:Rat),y0)∈pins.map (·.sp):=by simpa using cc
    obtain ⟨p,hp,rX⟩:=aai.mp mem
    have lt:=Lc (x:=x0+(j:Rat)) ⟨p,hp,by rw [rX]⟩
    have ej:x0+(j:Rat)+1=x0+((j+1:Nat):Rat):=by
     push_cast
     grind
    rw [ej] at lt
    refine ⟨fun σ' H'=>∃(sv:V),σ' =[some (.ref sA),some (.int c0),some (.int (N:Int)),some (.int kind),some (.ref lp),some (.int (i:Int)),some sv]/\au H3 H'/\eG K H' sv (x0+((j+1:Nat):Rat),y0),fun σ' H' ⟨sv',h1,h2,h3⟩=>⟨_,lt,sv',j+1,h1,h2,h3,rfl,by omega⟩,?_⟩
    obtain ⟨sa,u1,u2,rfl,rq,N6,GV⟩:=h6
    refine ⟨_,rfl,sa,_,_,_,rfl,rfl,rq,iC,L2,?_⟩
    intro p7 n7;generalize eX:upd _ p7 _=H7;have ⟨s7,e7⟩:=nw n7 eX
    refine ⟨u1,.ref p7,qr (x0+(j:Rat)),(1,1),44,1,rfl,N6.same s7,⟨p7,rfl,bJ.of e7⟩,Ld zj,⟨by decide,by decide⟩,by decide,fun p8 H8 s8 e8=>?_⟩
    rw [BC,ej] at e8
    refine ⟨_,rfl,sa,_,_,_,rfl,rfl,Ty.au.bI (s7.trans s8) rq,iD,L2,?_⟩
    intro p9 n9;generalize eX:upd _ p9 _=H9;have ⟨s9,e9⟩:=nw n9 eX
    have s69:=(s7.trans s8).trans s9
    exact ⟨.ref p9,rfl,(s4.trans s6).trans s69,kN e9 ((iy e8).same s9) (GV.same s69)⟩
   ·have fresh:(x0+(j:Rat),y0)∉pins.map (·.sp):=by simpa using cc
    exact i5 _ _ ⟨sv,x0+(j:Rat),rfl,s4.trans s6,h6,⟨zj,(by have UO :((j:Int):Rat)<=((5:Int):Rat):=aaX.mpr (by omega);have e1:((j:Int):Rat)=(j:Rat):=rfl;have e2:((5:Int):Rat)=5:=rfl;rw [e1,e2] at UO;grind)⟩,fresh⟩
  rintro σ' H4 ⟨sv,x,rfl,s4,h4,⟨zx',xb'⟩,fresh⟩
  have PQ:=s3.trans s4
  have iF:=s2.trans PQ
  have e4:=PQ _ _ e2
  have pp4:Paired (jV K H4 lp) us pins:=Paired.bL pp fun _ _ z=>z.same PQ
  refine ⟨_,rfl,.inl ⟨rfl,_,aV.of e4⟩,_,rfl,_,rfl,_,_,rfl,by omega,by omega,_,rfl,_,rfl,_,rfl,_,_,rfl,rfl,sA,ns,_,rfl,iF.seq hS,by omega,by omega,_,rfl,fun l8 us8 ws H8 wk s8 n8 e8 p8=>⟨L3,?_⟩⟩
  intro p9 n9;generalize eX:upd _ p9 _=H9;have ⟨s9,e9⟩:=nw n9 eX
  have s49:=s8.trans s9
  have e49:=s49 _ _ e4
  have pp9:Paired (jV K H9 lp) us pins:=Paired.bL pp4 fun _ _ z=>z.same s49
  refine ⟨lp,_,_,rfl,rfl,e49,(by rw [lu];exact aap (show pins.length<=1000 by omega) (by decide)),?_⟩
  have nA:jV K H9 lp (.ref p9) ⟨nameOf (field c0 3001 3) (field c0 4001 6) (i:Int),(x,y0),ws⟩:=⟨p9,l8,sv,us8,rfl,bJ.of e9,h4.same s49,s9 _ _ e8,p8.same s9,fun z=>by rw [z,e4] at n8;cases n8⟩
  refine ⟨_,_,_,pins++[⟨nameOf (field c0 3001 3) (field c0 4001 6) (i:Int),(x,y0),ws⟩],rfl,fun b o z=>?_,ak,cI (Paired.bL pp9 fun _ _ z=>z.upd e49) (nA.upd e49),gp.snoc (fun z=>?_) fresh ⟨zx',zy.up (by decide)⟩ wk,by simp [lpi],fun p hp=>?_⟩
  ·rw [ao (aq z yN)]
   exact s49 _ _ (iF _ _ z)
  ·obtain ⟨p,hp,rX⟩:=aai.mp z
   obtain ⟨j,hj,ej,_⟩:=nm p hp
   have i3:=ba (c:=c0) (p:=3001) (m:=3) (by decide)
   have i4:=ba (c:=c0) (p:=4001) (m:=6) (by decide)
   have:=xc ⟨(field c0 3001 3).toNat,by omega⟩ ⟨(field c0 4001 6).toNat,by omega⟩ ⟨j,by omega⟩ ⟨i,by omega⟩ (fun z=>by
    have:=aeE Fin.val z
    simp at this
    omega)
   refine this ?_
   show nameOf (((field c0 3001 3).toNat:Nat):Int) (((field c0 4001 6).toNat:Nat):Int) (j:Int)=nameOf (((field c0 3001 3).toNat:Nat):Int) (((field c0 4001 6).toNat:Nat):Int) (i:Int)
   rw [show (((field c0 3001 3).toNat:Nat):Int)=field c0 3001 3 by omega,show (((field c0 4001 6).toNat:Nat):Int)=field c0 4001 6 by omega,<-ej]
   exact rX
  ·rcases aau.mp hp with z|z
   ·obtain ⟨j,hj,ej,eb⟩:=nm p z
    exact ⟨j,by omega,ej,eb⟩
   ·rw [aao.mp z]
    exact ⟨i,by omega,rfl,xb',zy,yb⟩
 ·rintro σ H2 ⟨o5,o6,us,pins,rfl,s2,e2,pp,gp,lpi,nm⟩
  refine ⟨_,rfl,q lp us pins H2 s2 yN e2 pp gp (by omega) fun p hp=>?_⟩
  obtain ⟨j,hj,ej,eb⟩:=nm p hp
  refine ⟨?_,eb⟩
  rw [ej]
  have f1:=ba (c:=c0) (p:=3001) (m:=3) (by decide)
  have f2:=ba (c:=c0) (p:=4001) (m:=6) (by decide)
  obtain ⟨u,hu⟩:∃n:Nat,field c0 3001 3=(n:Int):=⟨(field c0 3001 3).toNat,by omega⟩
  obtain ⟨v,hv⟩:∃n:Nat,field c0 4001 6=(n:Int):=⟨(field c0 4001 6).toNat,by omega⟩
  rw [hu,hv]
  exact GG ⟨u,by omega⟩ ⟨v,by omega⟩ ⟨j,by omega⟩
inductive uY (K:Frag)(vs:ε)(H:Hp)(Q:VK)(E_:XK):Prop
|mk (sA pA:aef)(ns:ξ)(us:ε)(pins:ν)(_:vs=[.ref sA,.ref pA])(_:aV K H sA (ns.map V.int))(_:H pA=some (.lst us))(_:us.length=pins.length)(_:(pins.map (·.nm)).Nodup)(_:pins.length<=6)(_:∀(l:aef)(cA :ε)(aj:τ)(H':Hp),au H H' ->H l=none->H' l=some (.lst cA)->Paired (qA K H' pins) cA aj->gO pins aj->aj.length<=7->Q (.ref l) H')
theorem gO.snoc (g:gO pins aj)(h1:b.nm∉aj.map (·.nm))(h2:b.one∈pins/\b.other∈pins/\b.one.nm≠b.other.nm):gO pins (aj++[b]):=by
 refine ⟨?_,fun q hq=>?_⟩
 ·rw [aax,ab6]
  refine ⟨g.nb,by simp,fun a ha c hc e=>h1 ?_⟩
  have:c=b.nm:=by simpa using hc
  rw [<-this,<-e]
  exact ha
 ·rcases aau.mp hq with z|z
  ·exact g.ends q z
  ·rw [aao.mp z]
   exact h2
theorem m8:aC ["_law_script","_law_pins_here","_law_cell","_law_many","_law_bars_here","_law_k","_law_one","_law_step"] zaz (ae EO):=sq
theorem Wz (D:Def K mg "_law_bars" EO zaz)(bf:mg "range"=none)(aX:mg "len"=none)(mz:Fn P w K mg base (aY P w) 1 "_law_cell_at" zav (mx K))(cE:Fn P w K mg base (aY P w) 1 "_law_field" zab du)(R5:Fn P w K mg base (aY P w) 2 "_law_name" zaE uV):
  Fn P w K mg base (aY P w) 3 "_law_bars" zaz (uY K):=by
 refine D.oo m8 fun H hr h=>?_
 obtain ⟨sA,pA,ns,us,pins,rfl,hS,hp,lu,np,lp,q⟩:=h
 have L3:3<=ael:=by decide
 refine ⟨_,(aa (aK (i:=2) m8.nd (aT mz hr (aL (pv 0) ag)))
  (aa (aK (i:=3) m8.nd (aT cE hr (bE (pv 2) ag ag)))
  (aa (bh (bB vI (aG aD rfl aX bS (aS (pv 1))) ag) (ah (aK (i:=3) m8.nd ag)) aI)
  (aa (aK (i:=4) m8.nd (bV eZ))
  (aa (bC aev rfl (bK rfl bf (aS (pv 3))) (bW (i:=5) m8.nd) (aa (aK (i:=6) m8.nd (aT cE hr (bE (aT mz hr (aL (pv 0) (aJ cf ag (pv 5)))) ag (aG aD rfl aX bS (aS (pv 1))))))
   (aa (aK (i:=7) m8.nd (aJ cf ag (aT cE hr (bE (aT mz hr (aL (pv 0) (aJ cf ag (pv 5)))) ag (aJ dj (aG aD rfl aX bS (aS (pv 1))) ag)))))
   (ah (bq (gs aeH aeN aeP cQ (pv 4) (aS (aU (bE (aT R5 hr (aL (pv 2) (pv 5))) (pv 6) (aJ gu (aJ cf (pv 6) (pv 7)) (aG aD rfl aX bS (aS (pv 1)))))))))))))
  (ah (aE (pv 4)))))))),?_⟩
 refine ⟨_,rfl,sA,ns,1,rfl,hS,by decide,by decide,?_⟩
 generalize cell ns 1=c0
 have i1:=ba (c:=c0) (p:=1009) (m:=8) (by decide)
 refine ⟨_,rfl,_,_,_,rfl,by decide,by decide,by decide,?_⟩
 generalize field c0 1009 8=fi at i1 ⊢
 obtain ⟨fn,rfl⟩:∃n:Nat,fi=(n:Int):=⟨fi.toNat,by omega⟩
 dsimp only
 refine cn (fun σ' H'=>∃N:Nat,N<=7/\(0<N->2<=pins.length)/\σ' =[some (.ref sA),some (.ref pA),some (.int c0),some (.int (N:Int)),none,none,none,none]/\H'=H) (fun Nx i5=>?_) ?_
 ·refine ⟨_,rfl,pA,_,rfl,.inl (aV.of hp),_,_,rfl,rfl,_,rfl,?_⟩
  refine bg (fun _=>?_) (fun c=>?_)
  ·exact i5 _ _ ⟨0,by omega,by omega,rfl,rfl⟩
  ·have c':¬ (us.length:Int)<2:=fun z=>c (aeD z)
   exact i5 _ _ ⟨fn,by omega,fun _=>by omega,rfl,rfl⟩
 rintro σ' Hy ⟨N,hN,U2,rfl,rfl⟩
 refine ⟨z0L,?_⟩
 intro lb nb;generalize eX:upd _ lb _=H1;have ⟨sb,eb⟩:=nw nb eX
 refine ⟨_,rfl,(N:Int),rfl,by omega,by omega,bX (lo:=0) (n:=N) (fun i σ H'=>S2 fun (o5 o6 o7:ψ) (cA :ε) (aj:τ)=>σ=[some (.ref sA),some (.ref pA),some (.int c0),some (.int (N:Int)),some (.ref lb),o5,o6,o7]/\au Hy H'/\H' lb=some (.lst cA)/\Paired (qA K H' pins) cA aj/\gO pins aj/\aj.length=i/\∀b∈aj,∃j,j<i/\b.nm=nameOf (field c0 3001 3) (field c0 4001 6) (j:Int)) ⟨none,none,none,[],[],rfl,sb,eb,.nil,⟨by simp,by simp⟩,rfl,by simp⟩ ?_ ?_⟩
 ·rintro i σ H2 hi ⟨o5,o6,o7,cA,aj,rfl,s2,e2,pb,gb,lbi,nm⟩
  have ei:(0:Int)+(i:Int)=(i:Int):=aaT _
  rw [ei]
  have n2:2<=pins.length:=U2 (by omega)
  have lv:cA.length=aj.length:=aer pb
  have sp:=aV.of (K:=K) (s2 _ _ hp)
  refine ⟨_,rfl,_,rfl,_,_,rfl,rfl,sA,ns,_,rfl,s2.seq hS,by omega,by omega,_,rfl,pA,_,rfl,.inl sp,_,_,_,rfl,by decide,by decide,by omega,?_⟩
  have j1:=ba (c:=cell ns (8+(i:Int))) (p:=1009) (m:=(us.length:Int)) (by omega)
  have j2:=ba (c:=cell ns (8+(i:Int))) (p:=2003) (m:=(us.length:Int)-1) (by omega)
  refine ⟨_,rfl,_,rfl,_,_,rfl,rfl,sA,ns,_,rfl,s2.seq hS,by omega,by omega,_,rfl,pA,_,rfl,.inl sp,_,_,rfl,rfl,_,_,_,rfl,by decide,by decide,by omega,_,_,rfl,rfl,?_⟩
  generalize field (cell ns (8+(i:Int))) 1009 (us.length:Int)=one at j1 ⊢
  generalize field (cell ns (8+(i:Int))) 2003 ((us.length:Int)-1)=step at j2 ⊢
  obtain ⟨on,rfl⟩:∃n:Nat,one=(n:Int):=⟨one.toNat,by omega⟩
  have oo:∃m:Nat,((on:Int)+(1+step)).fmod (us.length:Int)=(m:Int)/\m<us.length/\m≠on:=by
   have f:=oz (x:=(on:Int)+(1+step)) (m:=(us.length:Int)) (by omega)
   refine ⟨(((on:Int)+(1+step)).fmod (us.length:Int)).toNat,by omega,by omega,fun z=>?_⟩
   have e:((on:Int)+(1+step)).fmod (us.length:Int)=(on:Int):=by omega
   rw [Int.fmod_eq_emod_of_nonneg _ (by omega)] at e
   by_cases c:(on:Int)+(1+step)<(us.length:Int)
   ·rw [aks (by omega) c] at e
    omega
   ·rw [<-Int.sub_emod_right,aks (by omega) (by omega)] at e
    omega
  obtain ⟨on2,e2',l2',ne2⟩:=oo
  refine ⟨_,rfl,.inl ⟨rfl,_,aV.of e2⟩,_,rfl,_,rfl,_,_,rfl,by omega,by omega,_,rfl,_,rfl,_,rfl,_,_,rfl,rfl,_,rfl,pA,_,rfl,.inl sp,_,_,rfl,rfl,nz (by omega),L3,?_⟩
  intro p9 n9;generalize eX:upd _ p9 _=H9;have ⟨s9,e9⟩:=nw n9 eX
  have e9:H9 p9=some (.tup [.str (nameOf (field c0 3001 3) (field c0 4001 6) (i:Int)),.int (on:Int),.int (((on:Int)+(1+step)).fmod (us.length:Int))]):=e9
  rw [e2'] at e9
  have S':=s9 _ _ e2
  refine ⟨lb,_,_,rfl,rfl,S',(by rw [lv];exact aap (show aj.length<=1000 by omega) (by decide)),?_⟩
  have l1:on<pins.length:=by omega
  have l2:on2<pins.length:=by omega
  have st:bu H9 (upd H9 lb (.lst (cA ++[.ref p9]))):=.list S'
  have ns9:∀(v:V)(b:a_),qA K H2 pins v b->qA K (upd H9 lb (.lst (cA ++[.ref p9]))) pins v b:=fun v b h=>by
   obtain ⟨a,i',j',e,h1,h2,h3⟩:=h.same s9
   exact ⟨a,i',j',e,st.bI h1,h2,h3⟩
  refine ⟨_,_,_,cA ++[.ref p9],aj++[⟨nameOf (field c0 3001 3) (field c0 4001 6) (i:Int),pins[on],pins[on2]⟩],rfl,fun b o z=>?_,ak,cI (Paired.bL pb fun _ _ z=>ns9 _ _ z) ?_,gb.snoc (fun z=>?_) ⟨abX l1,abX l2,fun z=>?_⟩,by simp [lbi],fun b hb=>?_⟩
  ·rw [ao (aq z nb)]
   exact s9 _ _ (s2 _ _ z)
  ·exact ⟨p9,on,on2,rfl,st.bI (bJ.of e9),gE l1,gE l2⟩
  ·obtain ⟨b,hb,rX⟩:=aai.mp z
   obtain ⟨j,hj,ej⟩:=nm b hb
   have i3:=ba (c:=c0) (p:=3001) (m:=3) (by decide)
   have i4:=ba (c:=c0) (p:=4001) (m:=6) (by decide)
   have:=xc ⟨(field c0 3001 3).toNat,by omega⟩ ⟨(field c0 4001 6).toNat,by omega⟩ ⟨j,by omega⟩ ⟨i,by omega⟩ (fun z=>by
    have:=aeE Fin.val z
    simp at this
    omega)
   refine this ?_
   show nameOf (((field c0 3001 3).toNat:Nat):Int) (((field c0 4001 6).toNat:Nat):Int) (j:Int)=nameOf (((field c0 3001 3).toNat:Nat):Int) (((field c0 4001 6).toNat:Nat):Int) (i:Int)
   rw [show (((field c0 3001 3).toNat:Nat):Int)=field c0 3001 3 by omega,show (((field c0 4001 6).toNat:Nat):Int)=field c0 4001 6 by omega,<-ej]
   exact rX
  ·have q1:(pins.map (·.nm))[on]?=some pins[on].nm:=by rw [aag,gE l1];rfl
   have q2:(pins.map (·.nm))[on2]?=some pins[on].nm:=by rw [aag,gE l2];exact aeE some z.symm
   exact ne2 ((adl (by rw [aah];omega) np).mp (q1.trans q2.symm)).symm
  ·rcases aau.mp hb with z|z
   ·obtain ⟨j,hj,ej⟩:=nm b z
    exact ⟨j,by omega,ej⟩
   ·rw [aao.mp z]
    exact ⟨i,by omega,rfl⟩
 ·rintro σ H2 ⟨o5,o6,o7,cA,aj,rfl,s2,e2,pb,gb,lbi,nm⟩
  exact ⟨_,rfl,q lb cA aj H2 s2 nb e2 pb gb (by omega)⟩
theorem BD (v:V):abZ ("ways":Str) [(("way":Str),v)]=none:=by
 have h:(("ways":Str)=="way")=false:=by decide+kernel
 simp [abZ,h]
inductive qC (K:Frag)(C:aef)(vs:ε)(H:Hp)(Q:VK)(E_:XK):Prop
|mk (pA bA:aef)(us cA :ε)(pins:ν)(aj:τ)(_:vs=[.ref pA,.ref bA])(_:H pA=some (.lst us))(_:Paired (ip K H) us pins)(_:H bA=some (.lst cA))(_:Paired (qA K H pins) cA aj)(_:eW pins)(_:gO pins aj)(_:pins.length<=9)(_:aj.length<=14)(_:∀(a dx pP pW pB:aef)(kP kW kB:γ)(H':Hp),au H H' ->dP K H' C a dx pP pW pB (pins.map fun p=>(p.nm,qX p.sp)) (aj.map fun b=>(b.nm,b.one.nm,b.other.nm)) kP kW kB->pR K H' (pins.map fun p=>(p.nm,p.ws)) kW->(∀kv∈kW,∀b o,H b=some o->kv.2≠.ref b)->H pP=none->H pW=none->H pB=none->Q (.ref a) H')
theorem m9:aC ["_law_pins_here","_law_bars_here","_law_frame_here","_law_name_here","_law_spot_here","_law_ways_here","_law_one","_law_other"] zax (ae ER):=sq
theorem WA {C CR CF fI fR:aef}(D:Def K mg "_law_frame" ER zax)(aX:mg "len"=none)(R9:Mk K C fI)(R_:mg "Frame"=some (.ref C))(adj:cO P w K mg base (aY P w) 1 fI fdI zaj (uL K C))(Sa:Binds K fdI zaj [])
  (GH:mg "Roller"=some (.ref CR)) (GJ:mg "Fixed"=some (.ref CF)) (GK:SS K CF) (GL:Mk K CR fR) (Sb:cO P w K mg base (aY P w) 1 fR WC zaC (oq K CR)) (GN:Binds K WC zaC [])
  (wR:bH P w K mg base (aY P w) 2 CR "ways" zaj (g_ K CR)) (wF:bH P w K mg base (aY P w) 2 CF "ways" zaj (hV K))
  (Ta:bH P w K mg base (aY P w) 3 C "put_bar" zak (iV K C)) (PY:bH P w K mg base (aY P w) 3 C "put_pin" zat (dc P w K mg base C)) (Tb:uv P w K mg base (aY P w) 3 C "put_pin" zat [.none] (dc P w K mg base C)):
  Fn P w K mg base (aY P w) 4 "_law_frame" zax (qC K C):=by
 refine D.op m9 fun f cp A outer s H vs Q E hr h=>?_
 obtain ⟨pA,bA,us,cA,pins,aj,rfl,hp,pp,hb,pb,gp,gb,lp6,lb8,q⟩:=h
 have lu:us.length=pins.length:=aer pp
 refine ⟨_,(aa (aK (i:=2) m9.nd (IC R9 adj hr.mo rfl R_ Sa .nil (pY P w)))
  (aa (bC aev rfl (bx (pv 0)) (eY rfl (aZ (bW (i:=3) m9.nd) (aZ (bW (i:=4) m9.nd) (aZ (bW (i:=5) m9.nd) cU)))) (aa (bh (bB dq (aG aD rfl aX bS (aS (pv 5))) ag) (ah (bq (z_ (k:=3) (pv 2) hr.mo (pY P w) (bE (pv 3) (aF (pv 4)) (aF (pv 4)))))) aI)
   (aa (bh (bB dq (aG aD rfl aX bS (aS (pv 5))) ag) (ah (bq (cW (k:=3) (pv 2) hr.mo (pY P w) (iA (pv 3) (bE (aF (pv 4)) (aF (pv 4)) (zI GL Sb hr.mo rfl GH GN .nil (pY P w) (aL (aF (mX (pv 5))) (aF (mX (pv 5)))))))))) aI)
   (ah (bh (bB dq (aG aD rfl aX bS (aS (pv 5))) ag) (ah (bq (cW (k:=3) (pv 2) hr.mo (pY P w) (iA (pv 3) (bE (aF (pv 4)) (aF (pv 4)) (JE GK rfl GJ)))))) aI)))))
  (aa (bC aev rfl (bx (pv 1)) (eY rfl (aZ (bW (i:=3) m9.nd) (aZ (bW (i:=6) m9.nd) (aZ (bW (i:=7) m9.nd) cU)))) (ah (bq (cW (k:=3) (pv 2) hr.mo (pY P w) (bE (pv 3) (aF (bD aQ (pv 0) (pv 6))) (aF (bD aQ (pv 0) (pv 7))))))))
  (ah (aE (pv 2)))))),?_⟩
 intro a dx na ndx nad
 have sF:au H (upd (upd H dx (.own a)) a (.ins C dx [])):=fun b o e=>by rw [ao (aq e na),ao (aq e ndx)];exact e
 refine ⟨a,dx,rfl,ak,fun pP pW pB H1 k1 nP nW nB R1=>⟨rfl,?_⟩⟩
 have s1:au H H1:=fun b o e=>k1 b o (aq e na) (sF _ _ e)
 have nP:=ma sF nP
 have nW:=ma sF nW
 have nB:=ma sF nB
 refine ⟨_,rfl,pA,rfl,⟨_,aV.of (s1 _ _ hp)⟩,ck (K:=K) (a:=pA) (xs:=us) (fun i σ H'=>S2 fun (o4 o5 o6:ψ) (kP kW:γ)=>σ=[some (.ref pA),some (.ref bA),some (.ref a),o4,o5,o6,none,none]/\au H H'/\dP K H' C a dx pP pW pB ((pins.take i).map fun p=>(p.nm,qX p.sp)) [] kP kW []/\pR K H' ((pins.take i).map fun p=>(p.nm,p.ws)) kW/\∀kv∈kW,∀b o,H b=some o->kv.2≠.ref b) ⟨none,none,none,[],[],rfl,s1,R1,.nil,fun kv h=>(nomatch h)⟩ (fun i σ H' _ h=>by
   obtain ⟨_,_,_,_,_,_,s,_⟩:=h
   exact aV.of (s _ _ hp)) ?_ ?_⟩
 ·rintro i u σ H2 hu ⟨o4,o5,o6,kP,kW,rfl,s2,R2,W2,nw⟩
  obtain ⟨p,ep,xh⟩:=aw pp hu
  have mp:p∈pins:=Wp ep
  obtain ⟨ta,l,sv,ws,rfl,h1,h2,h3,h4⟩:=xh.same s2
  obtain ⟨sa,x1,y1,rfl,rq,N6,GV⟩:=h2
  refine ⟨ta,_,rfl,h1,rfl,_,_,rfl,_,_,rfl,_,_,rfl,rfl,?_⟩
  have tk:=take_snoc ep
  have il:i<pins.length:=(ir.mp ep).1
  have nlP:l≠pP:=fun z=>by rw [z,R2.pl] at h3;cases h3
  have nlW:l≠pW:=fun z=>by rw [z,R2.wy] at h3;cases h3
  have fin:∀(hv:V)(H5:Hp)(Q5:VK)(E5:XK),au H2 H5->KH P w K mg base H5 hv p.ws->
    (∀H' w4 lE,au H H' ->H' l=some (.lst ws)->dP K H' C a dx pP pW pB ((pins.take (i+1)).map fun p=>(p.nm,qX p.sp)) [] w4 lE []->pR K H' ((pins.take (i+1)).map fun p=>(p.nm,p.ws)) lE ->(∀kv∈lE,∀b o,H b=some o->kv.2≠.ref b)->Q5 .cg H')->dc P w K mg base C [.ref a,.str p.nm,x1,y1,hv] H5 Q5 E5:=fun hv H5 Q5 E5 s5 hY fin=>by
   refine ⟨a,dx,pP,pW,pB,_,_,kP,kW,_,_,p.nm,x1,y1,hv,qX p.sp,p.ws,rfl,R2.same s5,W2.same s5,by rw [aay,aay];rfl,N6.same s5,GV.same s5,fun z=>?_,fun z hz e=>?_,?_,hY,fun H' w4 lE k' R' W' nl'=>?_⟩
   ·rw [aay] at z
    obtain ⟨p',iY,e'⟩:=aai.mp z
    exact f_ (nm:=ay.nm) gp.np ep iY e'
   ·obtain ⟨p',iY,e'⟩:=aai.mp hz
    rw [<-e'] at e
    have e1:=aeE akl e
    have e2:=aeE akm e
    have e3:p'.sp=p.sp:=acT (g7 e1) (g7 e2)
    obtain ⟨j,hj,ej⟩:=aba.mp iY
    rw [akp] at ej
    rw [aaJ] at hj
    have q1:(pins.map (·.sp))[j]?=some p.sp:=by rw [aag,gE (by omega),ej,<-e3];rfl
    have q2:(pins.map (·.sp))[i]?=some p.sp:=by rw [aag,ep];rfl
    have:=(adl (by rw [aah];omega) gp.ns).mp (q1.trans q2.symm)
    omega
   ·rw [aah,aaJ]
    omega
   ·refine fin H' w4 lE (fun b o z=>k' b o (aq z nP) (aq z nW) (s5 _ _ (s2 _ _ z))) (k' _ _ nlP nlW (s5 _ _ h3)) ?_ ?_ ?_
    ·rw [tk,aax]
     exact R'
    ·rw [tk,aax]
     exact W'
    ·obtain ⟨l9,e9,n9⟩:=nl'
     rw [e9]
     intro kv BE b o hb z
     rcases aau.mp BE with h|h
     ·exact nw kv h b o hb z
     ·rw [aao.mp h] at z
      injection z with z
      have:=(s2.trans s5).free n9
      rw [z,hb] at this
      cases this
  have l2:=aV.of (K:=K) h3
  have lw:ws.length=p.ws.length:=aer h4
  refine ⟨_,rfl,l,_,rfl,.inl l2,rfl,_,rfl,?_⟩
  rcases gp.ws p mp with hw|⟨wx,wy,hw,wn,_,_⟩|hw
  ·rw [hw] at lw
   refine bg (fun _=>?_) (fun c=>by rw [lw] at c;simp at c)
   refine ⟨_,rfl,a,C,dx,_,_,_,rfl,R2.obj,rfl,Tb,_,rfl,_,rfl,sa,_,_,_,rfl,rfl,rq,iC,_,rfl,sa,_,_,_,rfl,rfl,rq,iD,?_⟩
   dsimp only [dJ]
   refine fin .cg H2 _ _ (au.refl _) (.inl ⟨rfl,hw⟩) fun H' w4 lE s' l' R' W' WD =>?_
   have l':=aV.of (K:=K) l'
   refine ⟨_,rfl,l,_,rfl,.inl l',rfl,_,rfl,bg (fun c=>by rw [lw] at c;simp at c) (fun _=>?_)⟩
   refine ⟨_,rfl,l,_,rfl,.inl l',rfl,_,rfl,bg (fun c=>by rw [lw] at c;simp at c) (fun _=>?_)⟩
   exact ⟨_,_,_,w4,lE,rfl,s',R',W',WD⟩
  ·rw [hw] at lw h4
   obtain ⟨w0,rfl⟩:=adq.mp lw
   have hw0:eG K H2 w0 (wx,wy):=by
    cases h4 with
    | cons h _=>exact h
   obtain ⟨wa,y2,y3,rfl,uf,Np,WE⟩:=hw0
   refine bg (fun c=>by simp at c) (fun _=>?_)
   refine ⟨_,rfl,l,_,rfl,.inl l2,rfl,_,rfl,bg (fun _=>?_) (fun c=>aet rfl c)⟩
   refine ⟨_,rfl,a,C,dx,_,_,_,rfl,R2.obj,rfl,PY,_,rfl,_,rfl,sa,_,_,_,rfl,rfl,rq,iC,_,rfl,sa,_,_,_,rfl,rfl,rq,iD,_,rfl,l,_,_,_,rfl,rfl,l2,rfl,wa,_,_,_,rfl,rfl,uf,iC,_,rfl,l,_,_,_,rfl,rfl,l2,rfl,wa,_,_,_,rfl,rfl,uf,iD,?_⟩
   intro dO d1 N7 Sd ne1
   have s4:au H2 (upd (upd H2 d1 (.own dO)) dO (.ins CR d1 [])):=fun b o e=>by rw [ao (aq e N7),ao (aq e Sd)];exact e
   have e4:(upd (upd H2 d1 (.own dO)) dO (.ins CR d1 [])) dO =some (.ins CR d1 []):=ak
   generalize upd (upd H2 d1 (.own dO)) dO (.ins CR d1 [])=H4 at s4 e4 ⊢
   refine ⟨dO,d1,y2,y3,wx,wy,rfl,e4,Np.same s4,WE.same s4,wn,fun p5 n5=>⟨rfl,?_⟩⟩
   have zX:p5≠dO :=fun z=>by rw [z,e4] at n5;cases n5
   have s5:au H2 (upd (upd H4 p5 (.tup [y2,y3])) dO (.ins CR d1 [("way",.ref p5)])):=fun b o e=>by
    have z:b≠dO :=fun z=>by rw [z,N7] at e;cases e
    rw [ao z]
    exact aH n5 _ _ _ (s4 _ _ e)
   have e5:(upd (upd H4 p5 (.tup [y2,y3])) dO (.ins CR d1 [("way",.ref p5)])) dO =some (.ins CR d1 [("way",.ref p5)]):=ak
   have t5:(upd (upd H4 p5 (.tup [y2,y3])) dO (.ins CR d1 [("way",.ref p5)])) p5=some (.tup [y2,y3]):=by rw [ao zX,ak]
   generalize upd (upd H4 p5 (.tup [y2,y3])) dO (.ins CR d1 [("way",.ref p5)])=H5 at s5 e5 t5 ⊢
   have Se:eG K H5 (.ref p5) (wx,wy):=kN t5 (Np.same s5) (WE.same s5)
   dsimp only [dJ]
   refine fin (.ref dO) H5 _ _ s5 (.inr ⟨dO,CR,d1,_,zaj,g_ K CR,rfl,e5,BD _,wR,fun H6 e6 t6 Q' an=>⟨dO,d1,p5,(wx,wy),rfl,e6,Se.aR t6,by rw [hw] at an;exact an⟩⟩) fun H' w4 lE s' l' R' W' WD =>?_
   refine ⟨_,rfl,l,_,rfl,.inl (aV.of (K:=K) l'),rfl,_,rfl,bg (fun c=>by simp at c) (fun _=>?_)⟩
   exact ⟨_,_,_,w4,lE,rfl,s',R',W',WD⟩
  ·rw [hw] at lw
   refine bg (fun c=>by rw [lw] at c;simp at c) (fun _=>?_)
   refine ⟨_,rfl,l,_,rfl,.inl l2,rfl,_,rfl,bg (fun c=>by rw [lw] at c;simp at c) (fun _=>?_)⟩
   refine ⟨_,rfl,l,_,rfl,.inl l2,rfl,_,rfl,bg (fun _=>?_) (fun c=>by rw [lw] at c;simp at c)⟩
   refine ⟨_,rfl,a,C,dx,_,_,_,rfl,R2.obj,rfl,PY,_,rfl,_,rfl,sa,_,_,_,rfl,rfl,rq,iC,_,rfl,sa,_,_,_,rfl,rfl,rq,iD,?_⟩
   intro dO d1 N7 Sd ne1
   have s4:au H2 (upd (upd H2 d1 (.own dO)) dO (.ins CF d1 [])):=fun b o e=>by rw [ao (aq e N7),ao (aq e Sd)];exact e
   have e4:(upd (upd H2 d1 (.own dO)) dO (.ins CF d1 [])) dO =some (.ins CF d1 []):=ak
   generalize upd (upd H2 d1 (.own dO)) dO (.ins CF d1 [])=H4 at s4 e4 ⊢
   dsimp only [dJ]
   refine fin (.ref dO) H4 _ _ s4 (.inr ⟨dO,CF,d1,_,zaj,hV K,rfl,e4,rfl,wF,fun H6 _ _ Q' an=>⟨dO,rfl,by rw [hw] at an;exact an⟩⟩) fun H' w4 lE s' l' R' W' WD =>?_
   exact ⟨_,_,_,w4,lE,rfl,s',R',W',WD⟩
 ·rintro σ H2 ⟨o4,o5,o6,kP,kW,rfl,s2,R2,W2,nw⟩
  rw [lu,aaW] at R2 W2
  have lv:cA.length=aj.length:=aer pb
  refine ⟨_,rfl,bA,rfl,⟨_,aV.of (s2 _ _ hb)⟩,ck (K:=K) (a:=bA) (xs:=cA) (fun i σ H'=>HE fun (o3 o7 o8:ψ) (kB:γ)=>σ=[some (.ref pA),some (.ref bA),some (.ref a),o3,o5,o6,o7,o8]/\au H H'/\dP K H' C a dx pP pW pB (pins.map fun p=>(p.nm,qX p.sp)) ((aj.take i).map fun b=>(b.nm,b.one.nm,b.other.nm)) kP kW kB/\pR K H' (pins.map fun p=>(p.nm,p.ws)) kW) ⟨_,none,none,[],rfl,s2,R2,W2⟩ (fun i σ H' _ h=>by
    obtain ⟨_,_,_,_,_,s,_⟩:=h
    exact aV.of (s _ _ hb)) ?_ ?_⟩
  ·rintro i u σ H3 hu ⟨o3,o7,o8,kB,rfl,s3,R3,W3⟩
   obtain ⟨b,ebr,HG⟩:=aw pb hu
   have mb:b∈aj:=Wp ebr
   obtain ⟨ta,i1,j1,rfl,h1,g1,g2⟩:=HG.same s3
   obtain ⟨m1,m2,m3⟩:=gb.ends b mb
   have tk:=take_snoc ebr
   have il:i<aj.length:=(ir.mp ebr).1
   have WG :∀(k:Nat)(p:ay),pins[k]?=some p->∃(c la:aef)(sv:V),gh us (k:Int)=some (.ref c)/\bJ K H3 c [.str p.nm,sv,.ref la]:=fun k p ek=>by
    obtain ⟨u',PZ,hu'⟩:=aw (bU pp) ek
    obtain ⟨c,la,sv,ws,rfl,q1,_⟩:=ip.same hu' s3
    exact ⟨c,la,sv,bP PZ,q1⟩
   obtain ⟨c1,la1,sv1,N8,q1⟩:=WG _ _ g1
   obtain ⟨c2,la2,sv2,N9,q2⟩:=WG _ _ g2
   refine ⟨ta,_,rfl,h1,rfl,_,_,rfl,_,_,rfl,_,_,rfl,rfl,?_⟩
   have lp3:=aV.of (K:=K) (s3 _ _ hp)
   refine ⟨_,rfl,a,C,dx,_,_,_,rfl,R3.obj,rfl,Ta,_,rfl,_,rfl,_,rfl,pA,_,_,_,rfl,rfl,lp3,N8,c1,_,_,_,rfl,rfl,q1,rfl,_,rfl,_,rfl,pA,_,_,_,rfl,rfl,lp3,N9,c2,_,_,_,rfl,rfl,q2,rfl,?_⟩
   refine ⟨a,dx,pP,pW,pB,_,_,kP,kW,kB,b.nm,b.one.nm,b.other.nm,rfl,R3,fun z=>?_,?_,?_,m3,?_,fun H' KN k' R'=>?_⟩
   ·rw [aay] at z
    obtain ⟨b',iH,e'⟩:=aai.mp z
    exact f_ (nm:=a_.nm) gb.nb ebr iH e'
   ·rw [aay]
    exact aai.mpr ⟨_,m1,rfl⟩
   ·rw [aay]
    exact aai.mpr ⟨_,m2,rfl⟩
   ·rw [aah,aaJ]
    omega
   ·refine ⟨_,_,_,KN,rfl,fun c o z=>k' c o (aq z nB) (s3 _ _ z),?_,?_⟩
    ·rw [tk,aax]
     exact R'
    ·refine Paired.bL W3 fun p' kv z=>⟨z.1,?_⟩
     obtain ⟨l',eK,z1,z2,z3⟩:=z.2
     refine ⟨l',eK,z1,k' _ _ (fun z=>by rw [z,R3.br] at z2;cases z2) z2,z3.aR fun c xs r=>?_⟩
     rcases r with r|⟨o',r⟩
     ·exact .inl (k' _ _ (fun e=>by rw [e,R3.br] at r;cases r) r)
     ·exact .inr ⟨o',k' _ _ (fun e=>by rw [e,R3.br] at r;cases r) r⟩
  ·rintro σ H3 ⟨o3,o7,o8,kB,rfl,s3,R3,W3⟩
   rw [lv,aaW] at R3
   exact ⟨_,rfl,q a dx pP pW pB kP kW kB H3 s3 R3 W3 nw nP nW nB⟩
def ax (k:Int)(p:Rat×Rat):Rat:=if k=0 then p.1 else p.2
theorem xi (hk:k=0\/k=1)(h:eG K H v p):∃(a:aef)(xs:ε)(u:V),v=.ref a/\bJ K H a xs/\gh xs k=some u/\fN K H u (ax k p):=by
 obtain ⟨a,u1,u2,rfl,hq,h1,h2⟩:=h
 rcases hk with rfl|rfl
 ·exact ⟨a,_,u1,rfl,hq,rfl,h1⟩
 ·exact ⟨a,_,u2,rfl,hq,rfl,h2⟩
theorem Lf (h:Sz n p.1/\Sz n p.2):Sz n (ax k p):=by
 unfold ax
 split
 ·exact h.1
 ·exact h.2
theorem mB {us:ε}{pins:ν}{k:Nat}(pp:Paired (ip K H) us pins)(e:pins[k]?=some p):∃(c la:aef)(sv:V),gh us (k:Int)=some (.ref c)/\bJ K H c [.str p.nm,sv,.ref la]/\eG K H sv p.sp:=by
 obtain ⟨u',PZ,hu'⟩:=aw (bU pp) e
 obtain ⟨c,la,sv,ws,rfl,q1,q2,_⟩:ip K H u' p:=hu'
 exact ⟨c,la,sv,bP PZ,q1,q2⟩
inductive uZ (K:Frag)(vs:ε)(H:Hp)(Q:VK)(E_:XK):Prop
|mk (pA:aef)(us:ε)(pins:ν)(u:V)(b:a_)(k:Int)(_:vs=[.ref pA,u,.int k])(_:H pA=some (.lst us))(_:Paired (ip K H) us pins)(_:eW pins)(_:fD K H pins u b)(_:(k=0\/k=1))(_:∀(v:V)(H':Hp),au H H' ->gC K H' v 89 (ax k b.other.sp-ax k b.one.sp)->Q v H')
theorem WH:aC zan zan (ae ES):=sq
theorem WI (D:Def K mg "_law_arm" ES zan)(i0:Fn P w K mg base (aY P w) 1 "_law_sum" zaa (b8 K eQ))(Lg:Fn P w K mg base (aY P w) 1 "_law_turned" zaK (fO K)):
  Fn P w K mg base (aY P w) 2 "_law_arm" zan (uZ K):=by
 refine D.oo WH fun H hr h=>?_
 obtain ⟨pA,us,pins,u,b,k,rfl,hp,pp,gp,⟨ta,i,j,c0,rfl,hb,e1,e2⟩,hk,q⟩:=h
 refine ⟨_,(ah (aE (aT i0 hr (aL (bD jJ (aF (bD aQ (pv 0) (aF (pv 1)))) (pv 2)) (aT Lg hr (aS (bD jJ (aF (bD aQ (pv 0) (aF (pv 1)))) (pv 2)))))))),?_⟩
 obtain ⟨c1,l1,sv1,N8,q1,r1⟩:=mB pp e1
 obtain ⟨c2,l2,sv2,N9,q2,r2⟩:=mB pp e2
 obtain ⟨a1,xs1,u1,rfl,t1,v1,n1⟩:=xi hk r1
 obtain ⟨a2,xs2,u2,rfl,t2,v2,n2⟩:=xi hk r2
 have z1:=Lf (k:=k) (gp.sz _ (Wp e1))
 have z2:=Lf (k:=k) (gp.sz _ (Wp e2))
 have lp:=aV.of (K:=K) hp
 refine ⟨_,rfl,_,rfl,ta,_,_,_,rfl,rfl,hb,rfl,pA,_,_,_,rfl,rfl,lp,N9,c2,_,_,_,rfl,rfl,q2,rfl,_,rfl,a2,_,_,_,rfl,rfl,t2,v2,_,rfl,_,rfl,ta,_,_,_,rfl,rfl,hb,rfl,pA,_,_,_,rfl,rfl,lp,N8,c1,_,_,_,rfl,rfl,q1,rfl,_,rfl,a1,_,_,_,rfl,rfl,t1,v1,?_⟩
 dsimp only [dJ]
 show fO K [_] _ _ E0
 refine qw (dF n1 (m7 z1 (aal _))) fun p3 H3 s3 n3=>?_
 show b8 K eQ [_,_] _ _ E0
 refine jg ((dF n2 (m7 z2 (aal _))).same s3) n3 (by decide) fun p4 H4 s4 n4=>?_
 refine q (.ref p4) H4 (s3.trans s4) ?_
 rw [akh]
 exact n4
inductive qD (K:Frag)(vs:ε)(H:Hp)(Q:VK)(E_:XK):Prop
|mk (l1 l2:aef)(u1 u2 v1 v2:V)(x1 x2 y1 y2:Rat)(m n:Nat)(_:vs=[.ref l1,.ref l2])(_:(aV K H l1 [u1,u2]\/bJ K H l1 [u1,u2]))(_:(aV K H l2 [v1,v2]\/bJ K H l2 [v1,v2]))(_:gC K H u1 m x1)(_:gC K H u2 m x2)(_:gC K H v1 n y1)(_:gC K H v2 n y2)(_:m+n<=30000000)(_:∀(v:V)(H':Hp),au H H' ->gC K H' v (m+n+(m+n)+1) (x1*y1+x2*y2)->Q v H')
theorem WJ:aC zaa zaa (ae EZ):=sq
theorem WK (D:Def K mg "_law_dot" EZ zaa)(i0:Fn P w K mg base (aY P w) 1 "_law_sum" zaa (b8 K eQ))(Lh:Fn P w K mg base (aY P w) 1 "_law_times" zaa (b8 K my)):
  Fn P w K mg base (aY P w) 2 "_law_dot" zaa (qD K):=by
 refine D.oo WJ fun H hr h=>?_
 obtain ⟨l1,l2,u1,u2,v1,v2,x1,x2,y1,y2,m,n,rfl,h1,h2,a1,a2,b1,b2,le,q⟩:=h
 refine ⟨_,(ah (aE (aT i0 hr (aL (aT Lh hr (aL (bD AD (pv 0) ag) (bD AD (pv 1) ag))) (aT Lh hr (aL (bD AD (pv 0) ag) (bD AD (pv 1) ag))))))),_,rfl,l1,_,_,_,rfl,rfl,h1,rfl,_,rfl,l2,_,_,_,rfl,rfl,h2,rfl,?_⟩
 dsimp only [dJ]
 show b8 K my [_,_] _ _ E0
 refine oA a1 b1 (by omega) fun p3 H3 s3 n3=>?_
 refine ⟨_,rfl,l1,_,_,_,rfl,rfl,(h1.imp s3.seq (Ty.au.bI s3)),rfl,_,rfl,l2,_,_,_,rfl,rfl,(h2.imp s3.seq (Ty.au.bI s3)),rfl,?_⟩
 dsimp only [dJ]
 show b8 K my [_,_] _ _ E0
 refine oA (a2.same s3) (b2.same s3) (by omega) fun p4 H4 s4 n4=>?_
 show b8 K eQ [_,_] _ _ E0
 refine jg (n3.same s4) n4 (by omega) fun p5 H5 s5 n5=>?_
 exact q (.ref p5) H5 (s3.trans (s4.trans s5)) n5
structure Mp (K:Frag)(H:Hp)(pins:ν)(d:aef)(kM:γ)(M:Β)(N:Nat):Prop where
 hM:H d=some (.dK kM)
 keys:kM.map (·.1)=pins.map (fun p=>(aaU p.nm:Key))
 tM:∀p∈pins,∃t v1 v2,bY kM (.inr p.nm)=some (.ref t)/\H t=some (.tup [v1,v2])/\fN K H v1 (M p.nm).1/\fN K H v2 (M p.nm).2
 zb:∀p∈pins,Zb N (M p.nm).1/\Zb N (M p.nm).2
 hN:N<=6000000
theorem Mp.same (h:Mp K H pins d kM M N)(s:au H H'):Mp K H' pins d kM M N:=⟨s _ _ h.hM,h.keys,fun p hp=>by
 obtain ⟨t,v1,v2,a,b,c,d⟩:=h.tM p hp
 exact ⟨t,v1,v2,a,s _ _ b,c.same s,d.same s⟩,h.zb,h.hN⟩
theorem Mp.get (h:Mp K H pins d kM M N)(hp:p∈pins):∃t v1 v2,dm H d (.str p.nm) (some (.ref t))/\H t=some (.tup [v1,v2])/\fN K H v1 (M p.nm).1/\fN K H v2 (M p.nm).2:=by
 obtain ⟨t,v1,v2,a,b,c,d⟩:=h.tM p hp
 refine ⟨t,v1,v2,?_,b,c,d⟩
 have:=dm.k (k:=.inr p.nm) h.hM
 rw [a] at this
 exact this
theorem P0 (h:Zb n p.1/\Zb n p.2):Zb n (ax k p):=by
 unfold ax
 split
 ·exact h.1
 ·exact h.2
inductive qE (K:Frag)(vs:ε)(H:Hp)(Q:VK)(E_:XK):Prop
|mk (pA dM:aef)(us:ε)(pins:ν)(u:V)(b:a_)(kM:γ)(M:Β)(N:Nat)(_:vs=[.ref pA,u,.ref dM])(_:H pA=some (.lst us))(_:Paired (ip K H) us pins)(_:eW pins)(_:fD K H pins u b)(_:Mp K H pins dM kM M N)(_:∀(v:V)(H':Hp),au H H' ->gC K H' v (4*N+200) (yQ M b)->Q v H')
theorem BF:aC ["_law_pins_here","_law_bar","_law_motion","_law_here","_law_there","_law_more"] zau (ae FA):=sq
theorem WL (D:Def K mg "_law_longer" FA zau)(bf:mg "range"=none)(i0:Fn P w K mg base (aY P w) 1 "_law_sum" zaa (b8 K eQ))(Lg:Fn P w K mg base (aY P w) 1 "_law_turned" zaK (fO K))(N_:Fn P w K mg base (aY P w) 2 "_law_arm" zan (uZ K))(Li:Fn P w K mg base (aY P w) 2 "_law_dot" zaa (qD K)):
  Fn P w K mg base (aY P w) 3 "_law_longer" zau (qE K):=by
 refine D.oo BF fun H hr h=>?_
 obtain ⟨pA,dM,us,pins,u,b,kM,M,N,rfl,hp,pp,gp,HG,mo,q⟩:=h
 have hN:=mo.hN
 have L2:2<=ael:=by decide
 refine ⟨_,(aa (aK (i:=3) BF.nd (cv (b6 hr) (pv 2) (aF (bD aQ (pv 0) (aF (pv 1)))) (fun _ _=>rfl)))
  (aa (aK (i:=4) BF.nd (cv (b6 hr) (pv 2) (aF (bD aQ (pv 0) (aF (pv 1)))) (fun _ _=>rfl)))
  (aa (me (i:=5) (tn:=["_law_axis"]) (fr:=["_law_there","_law_here"]) (caps:=[4,3]) BF.nd (bK rfl bf (aS ag)) (mW i0 hr (aL (bD (cX (K:=K) rfl) (pv 1) (pv 0)) (mW Lg hr (aS (bD (cX (K:=K) rfl) (pv 2) (pv 0)))))))
  (ah (aE (aT Li hr (aL (bV (aL (aT N_ hr (bE (pv 0) (pv 1) ag)) (aT N_ hr (bE (pv 0) (pv 1) ag)))) (pv 5)))))))),?_⟩
 obtain ⟨ta,i,j,c0,rfl,hb,e1,e2⟩:=id HG
 obtain ⟨c1,l1,sv1,N8,q1,_⟩:=mB pp e1
 obtain ⟨c2,l2,sv2,N9,q2,_⟩:=mB pp e2
 obtain ⟨t1,y1,y1',dg1,et1,m11,m12⟩:=mo.get (Wp e1)
 obtain ⟨t2,y2,y2',dg2,et2,m21,m22⟩:=mo.get (Wp e2)
 have hw1:eG K H (.ref t1) (M b.one.nm):=⟨t1,y1,y1',rfl,bJ.of et1,m11,m12⟩
 have hw2:eG K H (.ref t2) (M b.other.nm):=⟨t2,y2,y2',rfl,bJ.of et2,m21,m22⟩
 have lp:=aV.of (K:=K) hp
 refine ⟨_,rfl,_,rfl,_,rfl,ta,_,_,_,rfl,rfl,hb,rfl,pA,_,_,_,rfl,rfl,lp,N8,c1,_,_,_,rfl,rfl,q1,rfl,dM,_,rfl,dg1,_,rfl,_,rfl,_,rfl,ta,_,_,_,rfl,rfl,hb,rfl,pA,_,_,_,rfl,rfl,lp,N9,c2,_,_,_,rfl,rfl,q2,rfl,dM,_,rfl,dg2,?_⟩
 have z1:=mo.zb _ (Wp e1)
 have z2:=mo.zb _ (Wp e2)
 refine ⟨(2:Int),rfl,by decide,by decide,fun D1 n1=>?_⟩
 refine oY (lo:=0) (n:=2) (cap:=[some (.ref t2),some (.ref t1)]) (fun k v H=>gC K H v (N+N+1) (ax (k:Int) (M b.other.nm)-ax (k:Int) (M b.one.nm))) n1 (by decide) (fun _ _ _ _ _ h0 ks h=>by
   refine gC.aR h fun b xs r=>?_
   rcases r with r|⟨o',r⟩
   ·exact .inl (ks _ _ (fun e=>by rw [e,h0] at r;cases r) r)
   ·exact .inr ⟨o',ks _ _ (fun e=>by rw [e,h0] at r;cases r) r⟩) ?_ ?_
 ·intro k H3 R hk s3 kk
  have ek:(0:Int)+(k:Int)=(k:Int):=aaT _
  rw [ek]
  have Kt:(k:Int)=0\/(k:Int)=1:=by omega
  obtain ⟨a1,xs1,u1,N8,t1,v1,m1⟩:=xi Kt (hw1.same s3)
  obtain ⟨a2,xs2,u2,N9,t2,v2,m2⟩:=xi Kt (hw2.same s3)
  cases N8
  cases N9
  refine ⟨_,rfl,_,rfl,_,_,_,_,rfl,rfl,t2,v2,_,rfl,_,rfl,_,_,_,_,rfl,rfl,t1,v1,?_⟩
  dsimp only [dJ]
  show fO K [_] _ _ E0
  refine qw (dF m1 (P0 z1)) fun p4 H4 s4 n4=>?_
  show b8 K eQ [_,_] _ _ E0
  refine jg ((dF m2 (P0 z2)).same s4) n4 (by omega) fun p5 H5 s5 n5=>?_
  refine kk _ _ (s4.trans s5) ?_
  rw [akh]
  exact n5
 intro ys H3 ly hy s3 hD
 obtain ⟨y1,y2,rfl⟩:∃y1 y2,ys=[y1,y2]:=by
  cases ys with
  | nil=>cases ly
  | cons a l=>
   obtain ⟨b,rfl⟩:=adq.mp (Nat.succ.inj ly)
   exact ⟨a,b,rfl⟩
 have k1:=hy 0 y1 rfl
 have k2:=hy 1 y2 rfl
 refine ⟨_,rfl,_,rfl,pA,us,pins,_,b,0,rfl,s3 _ _ hp,Paired.bL pp fun _ _ z=>z.same s3,gp,HG.same s3,.inl rfl,fun v4 H4 s4 n4=>?_⟩
 have iF:=s3.trans s4
 refine ⟨_,rfl,_,rfl,pA,us,pins,_,b,1,rfl,iF _ _ hp,Paired.bL pp fun _ _ z=>z.same iF,gp,HG.same iF,.inr rfl,fun v5 H5 s5 n5=>⟨L2,?_⟩⟩
 intro l6 m6;generalize eX:upd _ l6 _=H6;have ⟨s6,e6⟩:=nw m6 eX
 have Mq:=s4.trans (s5.trans s6)
 refine ⟨_,rfl,l6,D1,_,_,_,_,_,_,_,_,89,N+N+1,rfl,.inl (aV.of e6),.inl (aV.of (Mq _ _ hD)),(n4.same (s5.trans s6)),n5.same s6,k1.same Mq,k2.same Mq,by omega,fun v H7 s7 n7=>?_⟩
 exact q v H7 (s3.trans (Mq.trans s7)) (n7.up (by omega))
inductive u4 (K:Frag)(vs:ε)(H:Hp)(Q:VK)(E_:XK):Prop
|mk (pA dM:aef)(us:ε)(pins:ν)(kM:γ)(M:Β)(N:Nat)(_:vs=[.ref pA,.ref dM])(_:H pA=some (.lst us))(_:Paired (ip K H) us pins)(_:eW pins)(_:Mp K H pins dM kM M N)(_:(∀p∈pins,∀w∈p.ws,dt w (M p.nm)=0))(_:∀(H':Hp),au H H' ->Q (.bl true) H')
theorem xj:aC ["_law_pins_here","_law_motion","_law_name_here","_law_spot_here","_law_ways_here","_law_way"] zal (ae FC):=sq
theorem WM (D:Def K mg "_law_keeps" FC zal)(Li:Fn P w K mg base (aY P w) 2 "_law_dot" zaa (qD K)):
  Fn P w K mg base (aY P w) 3 "_law_keeps" zal (u4 K):=by
 refine D.op xj fun f cp A outer s H vs Q E hr h=>?_
 obtain ⟨pA,dM,us,pins,kM,M,N,rfl,hp,pp,gp,mo,ke,q⟩:=h
 have hN:=mo.hN
 refine ⟨_,(aa (bC aev rfl (bx (pv 0)) (eY rfl (aZ (bW (i:=2) xj.nd) (aZ (bW (i:=3) xj.nd) (aZ (bW (i:=4) xj.nd) cU)))) (ah (bC aev rfl (bx (pv 4)) (bW (i:=5) xj.nd) (ah (bh (bB gm (aF (aT Li hr (aL (pv 5) (cv (b6 hr) (pv 1) (pv 2) (fun _ _=>rfl))))) ag) (ah (aE cN)) aI)))))
  (ah (aE cN))),?_⟩
 refine ⟨_,rfl,pA,rfl,⟨_,aV.of hp⟩,ck (K:=K) (a:=pA) (xs:=us) (fun i σ H'=>HE fun (o2 o3 o4 o5:ψ)=>σ=[some (.ref pA),some (.ref dM),o2,o3,o4,o5]/\au H H') ⟨none,none,none,none,rfl,au.refl _⟩ (fun i σ H' _ h=>by
   obtain ⟨_,_,_,_,_,s⟩:=h
   exact aV.of (s _ _ hp)) ?_ ?_⟩
 ·rintro i u σ H4 hu ⟨o2,o3,o4,o5,rfl,s4⟩
  obtain ⟨p,ep,xh⟩:=aw pp hu
  have mp:p∈pins:=Wp ep
  obtain ⟨ta,l,sv,ws,rfl,h1,h2,h3,h4⟩:=xh.same s4
  refine ⟨ta,_,rfl,h1,rfl,_,_,rfl,_,_,rfl,_,_,rfl,rfl,?_⟩
  refine ⟨_,rfl,l,rfl,⟨_,aV.of h3⟩,ck (K:=K) (a:=l) (xs:=ws) (fun j σ H'=>∃(o5:ψ),σ=[some (.ref pA),some (.ref dM),some (.str p.nm),some sv,some (.ref l),o5]/\au H4 H') ⟨o5,rfl,au.refl _⟩ (fun j σ H' _ h=>by
     obtain ⟨_,_,s⟩:=h
     exact aV.of (s _ _ h3)) ?_ ?_⟩
  ·rintro j wv σ H5 hwv ⟨o5,rfl,s5⟩
   obtain ⟨wq,ewq,hwq⟩:=aw h4 hwv
   have mw:wq∈p.ws:=Wp ewq
   have zw:=(gp.ws p mp).sz wq mw
   obtain ⟨wa,y1,y2,rfl,uf,b1,b2⟩:=hwq.same s5
   have w8:=s4.trans s5
   obtain ⟨t,v1,v2,dg,et,m1,m2⟩:=(mo.same w8).get mp
   have zp:=mo.zb p mp
   refine ⟨_,rfl,_,rfl,_,rfl,dM,_,rfl,dg,?_⟩
   dsimp only [dJ]
   refine ⟨wa,t,y1,y2,v1,v2,_,_,_,_,22,N,rfl,.inr uf,.inr (bJ.of et),dF b1 (m7 zw.1 (aal _)),dF b2 (m7 zw.2 (aal _)),dF m1 zp.1,dF m2 zp.2,by omega,fun v H6 s6 n6=>?_⟩
   obtain ⟨x,⟨p6,rfl,k1⟩,k2,k3,k4⟩:=n6
   refine ⟨p6,_,_,_,rfl,rfl,k1,iC,rfl,_,rfl,?_⟩
   have e0:x.1=0:=(uU k2).mpr (by rw [k3];exact ke p mp wq mw)
   rw [e0]
   refine bg (fun c=>by simp at c) (fun _=>?_)
   exact ⟨_,rfl,s5.trans s6⟩
  ·rintro σ H5 ⟨o5,rfl,s5⟩
   exact ⟨_,_,_,_,rfl,s4.trans s5⟩
 ·rintro σ H4 ⟨o2,o3,o4,o5,rfl,s4⟩
  exact q H4 s4
structure Found (K:Frag)(H:Hp)(fA:aef)(ls:χ)(F:Nat->Rat×Rat)(B:Nat):Prop where
 hf:H fA=some (.lst (ls.map V.ref))
 nd:ls.Nodup
 nf:fA∉ls
 row:∀(i:Nat)(l:aef),ls[i]?=some l->∃v1 v2,H l=some (.lst [v1,v2])/\gC K H v1 B (F i).1/\gC K H v2 B (F i).2
def KL (ls:χ)(H H':Hp):Prop:=∀b o,b∉ls->H b=some o->H' b=some o
theorem Found.same (h:Found K H fA ls F B)(s:au H H'):Found K H' fA ls F B:=⟨s _ _ h.hf,h.nd,h.nf,fun i l e=>by
 obtain ⟨v1,v2,a,b,c⟩:=h.row i l e
 exact ⟨v1,v2,s _ _ a,b.same s,c.same s⟩⟩
theorem Found.up (h:Found K H fA ls F B)(l:B<=B'):Found K H fA ls F B':=⟨h.hf,h.nd,h.nf,fun i x e=>by
 obtain ⟨v1,v2,a,b,c⟩:=h.row i x e
 exact ⟨v1,v2,a,b.up l,c.up l⟩⟩
theorem Found.aR (h:Found K H fA ls F B)(k:KL ls H H'):bu H H':=fun b xs r=>by
 have key:∀o,H b=some o->(∀ys,o≠.lst ys)->H' b=some o:=fun o e n=>k b o (fun m=>by
  obtain ⟨i,ei⟩:=aaq m
  obtain ⟨v1,v2,a,_⟩:=h.row i b ei
  rw [a] at e
  exact n _ (aaA e).symm) e
 rcases r with r|⟨o',r⟩
 ·exact .inl (key _ r fun ys z=>nomatch z)
 ·exact .inr ⟨o',key _ r fun ys z=>nomatch z⟩
def dZ (F:Nat->Rat×Rat)(k:Nat)(a:Int)(d:Rat):Nat->Rat×Rat:=fun i=>if i=k then (if a=0 then ((F i).1+d,(F i).2) else ((F i).1,(F i).2+d)) else F i
theorem u5 (ha:a=0\/a=1)(hc:c=0\/c=1)(i:Nat):ax c (dZ F k a d i)=ax c (F i)+if i=k/\c=a then d else 0:=by
 unfold dZ ax
 by_cases hi:i=k
 ·subst hi
  rcases ha with rfl|rfl<;>rcases hc with rfl|rfl<;>simp<;>grind
 ·simp [hi]
  grind
inductive yR (K:Frag)(vs:ε)(H:Hp)(Q:VK)(E_:XK):Prop
|mk (fA:aef)(ls:χ)(F:Nat->Rat×Rat)(B:Nat)(k:Nat)(a:Int)(v:V)(m:Nat)(d:Rat)(_:vs=[.ref fA,.int (k:Int),.int a,v])(_:Found K H fA ls F B)(_:k<ls.length)(_:(a=0\/a=1))(_:gC K H v m d)(_:B+m<=130000000)(_:∀(H':Hp),KL ls H H' ->Found K H' fA ls (dZ F k a d) (B+m+1)->Q .cg H')
theorem WN:aC zao zao (ae ET):=sq
theorem WO (D:Def K mg "_law_add" ET zao)(i0:Fn P w K mg base (aY P w) 1 "_law_sum" zaa (b8 K eQ)):
  Fn P w K mg base (aY P w) 2 "_law_add" zao (yR K):=by
 refine D.op WN fun f cp A outer s H vs Q E hr h=>?_
 obtain ⟨fA,ls,F,B,k,a,v,m,d,rfl,hF,hk,ha,nv,le,q⟩:=h
 refine ⟨_,(ah (tH (aT i0 hr (aL (bD aQ (bD aQ (pv 0) (pv 1)) (pv 2)) (pv 3))) (xS (bD aQ (pv 0) (pv 1)) (pv 2) set_list))),?_⟩
 obtain ⟨l,el⟩:∃l,ls[k]?=some l:=⟨_,gE hk⟩
 obtain ⟨v1,v2,hl,n1,n2⟩:=hF.row k l el
 have ek:gh (ls.map V.ref) (k:Int)=some (.ref l):=bP (by rw [aag,el];rfl)
 have lm:l∈ls:=Wp el
 have lf:l≠fA:=fun z=>hF.nf (z▸lm)
 obtain ⟨u,ea,nu⟩:∃u,gh [v1,v2] a=some u/\gC K H u B (ax a (F k)):=by
  rcases ha with rfl|rfl
  ·exact ⟨v1,rfl,n1⟩
  ·exact ⟨v2,rfl,n2⟩
 refine ⟨_,rfl,_,rfl,fA,_,_,_,rfl,rfl,aV.of hF.hf,ek,_,rfl,l,_,_,_,rfl,rfl,aV.of hl,ea,_,rfl,?_⟩
 dsimp only [dJ]
 show b8 K eQ [_,_] _ _ E0
 refine jg nu nv le fun p3 H3 s3 n3=>?_
 obtain ⟨j,ej,hj⟩:∃j,CI [v1,v2].length a=some j/\((a=0/\j=0)\/(a=1/\j=1)):=by
  rcases ha with rfl|rfl
  ·exact ⟨0,rfl,.inl ⟨rfl,rfl⟩⟩
  ·exact ⟨1,rfl,.inr ⟨rfl,rfl⟩⟩
 refine ⟨_,rfl,_,rfl,fA,_,_,_,rfl,rfl,aV.of (s3 _ _ hF.hf),ek,_,rfl,l,_,_,j,rfl,rfl,s3 _ _ hl,ej,?_⟩
 have F3:=hF.same s3
 have kl:KL ls H (upd H3 l (.lst ([v1,v2].set j (.ref p3)))):=fun b o nb e=>by
  rw [ao (fun z=>nb (by rw [z];exact lm))]
  exact s3 _ _ e
 have k3:KL ls H3 (upd H3 l (.lst ([v1,v2].set j (.ref p3)))):=fun b o nb e=>by
  rw [ao (fun z=>nb (by rw [z];exact lm))]
  exact e
 have st:=F3.aR k3
 refine q _ kl ⟨?_,hF.nd,hF.nf,fun i l' e=>?_⟩
 ·rw [ao (aaD lf)]
  exact F3.hf
 ·by_cases c:i=k
  ·subst c
   rw [el] at e
   cases e
   refine ⟨([v1,v2].set j (.ref p3))[0]?.getD .cg,([v1,v2].set j (.ref p3))[1]?.getD .cg,?_,?_,?_⟩
   ·rw [ak]
    rcases hj with ⟨_,rfl⟩|⟨_,rfl⟩<;>rfl
   ·unfold dZ
    rw [aek rfl]
    rcases hj with ⟨rfl,rfl⟩|⟨rfl,rfl⟩
    ·exact n3.aR st
    ·exact ((n1.same s3).aR st).up (by omega)
   ·unfold dZ
    rw [aek rfl]
    rcases hj with ⟨rfl,rfl⟩|⟨rfl,rfl⟩
    ·exact ((n2.same s3).aR st).up (by omega)
    ·exact n3.aR st
  ·obtain ⟨w1,w2,g1,g2,g3⟩:=F3.row i l' e
   have nl:l'≠l:=fun z=>c (dw hF.nd e (z▸el))
   refine ⟨w1,w2,?_,?_,?_⟩
   ·rw [ao nl]
    exact g1
   ·unfold dZ
    rw [aej c]
    exact (g2.aR st).up (by omega)
   ·unfold dZ
    rw [aej c]
    exact (g3.aR st).up (by omega)
structure N' (K:Frag)(H:Hp)(pA bA:aef)(us vs:ε)(pins:ν)(aj:τ):Prop where
 hp:H pA=some (.lst us)
 pp:Paired (ip K H) us pins
 gp:eW pins
 hb:H bA=some (.lst vs)
 pb:Paired (fD K H pins) vs aj
 en:∀b∈aj,b.one.nm≠b.other.nm
 lp:pins.length<=9
 lb:aj.length<=14
theorem N'.same (h:N' K H pA bA us vs pins aj)(s:au H H'):N' K H' pA bA us vs pins aj:=⟨s _ _ h.hp,Paired.bL h.pp fun _ _ z=>z.same s,h.gp,s _ _ h.hb,Paired.bL h.pb fun _ _ z=>z.same s,h.en,h.lp,h.lb⟩
structure LFo (K:Frag)(H:Hp)(tA uA:aef)(ts xs:ε)(pins:ν)(aj:τ)(T:Ι)(U:Α)(N:Nat):Prop where
 ht:H tA=some (.lst ts)
 pt:Paired (fun v (b:a_)=>gC K H v N (T b.nm)) ts aj
 hu:H uA=some (.lst xs)
 pu:Paired (fun v (p:ay)=>∃la ys,v=.ref la/\H la=some (.lst ys)/\Paired (fun v r=>gC K H v N r) ys (U p.nm)) xs pins
 lU:∀p∈pins,(U p.nm).length=p.ws.length
 hN:N<=1000000
theorem KL.same (hn:∀l∈ls,H l=none)(s:au H H6)(k:KL ls H6 H7):au H H7:=fun b o e=>k b o (fun m=>by rw [hn b m] at e;cases e) (s b o e)
def kR (T:Ι)(bs:τ)(a:Int)(p:ay):Rat:=(bs.map fun b=>T b.nm*ax a (mv (dR b) p.nm)).sum
theorem yS :kR T (bs++[b]) a p=kR T bs a p+T b.nm*ax a (mv (dR b) p.nm):=by
 unfold kR
 rw [aax,akM,aaj,aa2,aaP,acs]
 grind
theorem Lj {pins:ν}(nd:(pins.map (·.nm)).Nodup){i j:Nat}(hi:pins[i]?=some p)(hj:pins[j]?=some q)(e:p.nm=q.nm):i=j:=dw nd (x:=q.nm) (by rw [aag,hi,<-e];rfl) (by rw [aag,hj];rfl)
theorem Lk {pins:ν}(nd:(pins.map (·.nm)).Nodup)(hb:b.one.nm≠b.other.nm){i i1 i2:Nat}(hi:pins[i]?=some p)(h1:pins[i1]?=some b.one)(h2:pins[i2]?=some b.other)(t:Rat)(k:Int):
  (if i=i1 then t*(ax k b.other.sp-ax k b.one.sp) else 0)+(if i=i2 then -(t*(ax k b.other.sp-ax k b.one.sp)) else 0)=t*ax k (mv (dR b) p.nm):=by
 have S6:i1≠i2:=fun z=>by rw [z,h2] at h1;exact hb (by rw [aaA h1])
 unfold mv dR
 by_cases c1:i=i1
 ·subst c1
  rw [h1] at hi
  cases hi
  rw [aek rfl,aej S6,aek rfl]
  show _=t*ax k (iW b.one b.other)
  unfold ax iW
  split<;>grind
 ·rw [aej c1,aej (fun z=>c1 (Lj nd hi h1 z))]
  by_cases c2:i=i2
  ·subst c2
   rw [h2] at hi
   cases hi
   rw [aek rfl,aek rfl]
   show _=t*ax k (iW b.other b.one)
   unfold ax iW
   split<;>grind
  ·rw [aej c2,aej (fun z=>c2 (Lj nd hi h2 z))]
   show (0:Rat)+0=t*ax k (0,0)
   unfold ax
   split<;>grind
inductive kX (K:Frag)(vs:ε)(H:Hp)(Q:VK)(E_:XK):Prop
|mk (pA bA tA uA:aef)(us ws ts xs:ε)(pins:ν)(aj:τ)(T:Ι)(U:Α)(N:Nat)(_:vs=[.ref pA,.ref bA,.ref tA,.ref uA])(_:N' K H pA bA us ws pins aj)(_:LFo K H tA uA ts xs pins aj T U N)(_:∀(fA:aef)(ls:χ)(F:Nat->Rat×Rat)(H':Hp),au H H' ->ls.length=pins.length->Found K H' fA ls F (1+92*(N+91))->(∀(i:Nat)(p:ay),pins[i]?=some p->(F i).1=fg aj T U p (·.1)/\(F i).2=fg aj T U p (·.2))->Q (.ref fA) H')
theorem m_:aC ["_law_pins_here","_law_bars_here","_law_pulls","_law_pushes","_law_found","_law_k","_law_axis","_law_draw","_law_j"] zad (ae EU):=sq
theorem WQ (D:Def K mg "_law_forces" EU zad)(aX:mg "len"=none)(bf:mg "range"=none)(Lh:Fn P w K mg base (aY P w) 1 "_law_times" zaa (b8 K my))(Lg:Fn P w K mg base (aY P w) 1 "_law_turned" zaK (fO K))(N_:Fn P w K mg base (aY P w) 2 "_law_arm" zan (uZ K))(Sf:Fn P w K mg base (aY P w) 2 "_law_add" zao (yR K)):
  Fn P w K mg base (aY P w) 3 "_law_forces" zad (kX K):=by
 refine D.oo m_ fun H hr h=>?_
 obtain ⟨pA,bA,tA,uA,us,ws,ts,xs,pins,aj,T,U,N,rfl,fr,fo,q⟩:=h
 have L2:2<=ael:=by decide
 have hN:=fo.hN
 have lp:=fr.lp
 have lb:=fr.lb
 have lu:us.length=pins.length:=aer fr.pp
 have lw:ws.length=aj.length:=aer fr.pb
 refine ⟨_,(aa (me (i:=4) (tn:=zaT) (fr:=[]) (caps:=[]) m_.nd (bx (pv 0)) (bV (aL (aU (aL ag ag)) (aU (aL ag ag)))))
  (aa (bC aev rfl (bK rfl bf (aS (aG aD rfl aX bS (aS (pv 1))))) (bW (i:=5) m_.nd) (ah (bC aev rfl (bK rfl bf (aS ag)) (bW (i:=6) m_.nd) (aa (aK (i:=7) m_.nd (aT Lh hr (aL (bD aQ (pv 2) (pv 5)) (aT N_ hr (bE (pv 0) (bD aQ (pv 1) (pv 5)) (pv 6))))))
    (aa (bq (aT Sf hr (iA (pv 4) (bE (aF (bD aQ (pv 1) (pv 5))) (pv 6) (pv 7)))))
    (ah (bq (aT Sf hr (iA (pv 4) (bE (aF (bD aQ (pv 1) (pv 5))) (pv 6) (aT Lg hr (aS (pv 7)))))))))))))
  (aa (bC aev rfl (bK rfl bf (aS (aG aD rfl aX bS (aS (pv 0))))) (bW (i:=5) m_.nd) (ah (bC aev rfl (bK rfl bf (aS (aG aD rfl aX bS (aS (aF (bD aQ (pv 0) (pv 5))))))) (bW (i:=8) m_.nd) (ah (bC aev rfl (bK rfl bf (aS ag)) (bW (i:=6) m_.nd) (ah (bq (aT Sf hr (iA (pv 4) (bE (pv 5) (pv 6) (aT Lh hr (aL (bD aQ (bD aQ (pv 3) (pv 5)) (pv 8)) (bD jJ (bD aQ (aF (bD aQ (pv 0) (pv 5))) (pv 8)) (pv 6))))))))))))))
  (ah (aE (pv 4)))))),?_⟩
 refine ⟨_,rfl,pA,rfl,⟨_,aV.of fr.hp⟩,fun fA n1=>?_⟩
 refine yw (cap:=[]) (K:=K) (a:=pA) (xs:=us) (fun ys H'=>∃ls:List aef,ys=ls.map V.ref/\ls.Nodup/\fA∉ls/\∀l∈ls,H l=none/\∃p q:aef,H' l=some (.lst [.ref p,.ref q])/\H' p=some (.tup [.int 0,.int 1])/\H' q=some (.tup [.int 0,.int 1])) n1 (by rw [lu];exact aap (show pins.length<=100 by omega) (by decide)) (fun H2 s2=>aV.of (s2 _ _ fr.hp)) ⟨[],rfl,aj2,by simp,fun l h=>by cases h⟩ ?_ ?_
 ·intro i x ys H2 R hx ly hJ s2 hD k
  obtain ⟨ls,rfl,nd,nf,hl⟩:=hJ
  refine ⟨L2,?_⟩
  intro p3 n3;generalize eX:upd _ p3 _=H3;have ⟨s3,e3⟩:=nw n3 eX
  refine ⟨L2,?_⟩
  intro p4 n4;generalize eX:upd _ p4 _=H4;have ⟨s4,e4⟩:=nw n4 eX
  refine ⟨L2,?_⟩
  intro l5 n5;generalize eX:upd _ l5 _=H5;have ⟨s5,e5⟩:=nw n5 eX
  have P1:=s3.trans (s4.trans s5)
  have D5:=P1 _ _ hD
  have D4:=s4 _ _ (s3 _ _ hD)
  refine k _ _ P1 ⟨ls++[l5],by simp,?_,?_,fun l hm=>?_⟩
  ·rw [ab6]
   refine ⟨nd,by simp,fun a ha b hb z=>?_⟩
   have iH :b=l5:=by simpa using hb
   obtain ⟨_,p,q,h1,_⟩:=hl a ha
   rw [z,iH] at h1
   rw [s4 _ _ (s3 _ _ h1)] at n5
   cases n5
  ·intro z
   rcases aau.mp z with z|z
   ·exact nf z
   ·rw [<-aao.mp z,D4] at n5
    cases n5
  ·rcases aau.mp hm with z|z
   ·obtain ⟨h0,p,q,h1,h2,h3⟩:=hl l z
    refine ⟨h0,p,q,?_,?_,?_⟩
    ·rw [ao (fun e:l=fA=>nf (by rw [<-e];exact z))]
     exact P1 _ _ h1
    ·rw [ao (fun e=>by rw [e,hD] at h2;cases h2)]
     exact P1 _ _ h2
    ·rw [ao (fun e=>by rw [e,hD] at h3;cases h3)]
     exact P1 _ _ h3
   ·have z:=aao.mp z
    subst z
    refine ⟨(s2.trans (s3.trans s4)).free n5,p3,p4,?_,?_,?_⟩
    ·rw [ao (fun e=>by rw [e,D4] at n5;cases n5)]
     exact e5
    ·rw [ao (fun e=>by rw [e,hD] at n3;cases n3)]
     exact s5 _ _ (s4 _ _ e3)
    ·rw [ao (fun e=>by rw [e,s3 _ _ hD] at n4;cases n4)]
     exact s5 _ _ e4
 intro ys H2 ly hJ s2 hD
 obtain ⟨ls,rfl,nd,nf,hl⟩:=hJ
 have hn:∀l∈ls,H l=none:=fun l m=>(hl l m).1
 have ll:ls.length=pins.length:=by rw [<-lu,<-ly,aah]
 have z0:∀(p:aef)(H':Hp),H' p=some (.tup [.int 0,.int 1])->gC K H' (.ref p) 1 0:=fun p H' e=>⟨(0,1),⟨p,rfl,bJ.of e⟩,by decide,by decide+kernel,by decide,by decide⟩
 have F0:Found K H2 fA ls (fun _=>(0,0)) (1+0*(4*(N+91))):=⟨hD,nd,nf,fun i l e=>by
  obtain ⟨_,p,q,h1,h2,h3⟩:=hl l (Wp e)
  rw [ads]
  exact ⟨_,_,h1,z0 p _ h2,z0 q _ h3⟩⟩
 have en:((ws.length:Nat):Int).toNat=ws.length:=by omega
 refine ⟨_,rfl,bA,_,rfl,.inl (aV.of (s2 _ _ fr.hb)),((ws.length:Nat):Int),rfl,by omega,by omega,bX (lo:=0) (n:=((ws.length:Nat):Int).toNat) (fun t σ H'=>HE fun (F:Nat->Rat×Rat) (o5 o6 o7:ψ)=>σ=[some (.ref pA),some (.ref bA),some (.ref tA),some (.ref uA),some (.ref fA),o5,o6,o7,none]/\au H H'/\Found K H' fA ls F (1+t*(4*(N+91)))/\∀(i:Nat)(p:ay),pins[i]?=some p->∀a:Int,(a=0\/a=1)->ax a (F i)=kR T (aj.take t) a p) ⟨_,none,none,none,rfl,s2,F0,fun i p _ a _=>?_⟩ ?_ ?_⟩
 ·show ax a (0,0)=0
  unfold ax
  split<;>rfl
 ·rintro t σ H3 ht ⟨F,o5,o6,o7,rfl,s3,F3,hF⟩
  have ek:(0:Int)+(t:Int)=(t:Int):=aaT _
  rw [ek]
  have htw:t<ws.length:=by omega
  obtain ⟨b,eb,HG⟩:=aw fr.pb (gE htw)
  have mb:b∈aj:=Wp eb
  obtain ⟨tv,etv,htv⟩:=aw (bU fo.pt) eb
  have abt:gh ws (t:Int)=some ws[t]:=bP (gE htw)
  have att:gh ts (t:Int)=some tv:=bP etv
  have bt:t*(4*(N+91))<=13*(4*(N+91)):=aaG _ (by omega)
  generalize hB:1+t*(4*(N+91))=B at F3
  refine ⟨(2:Int),rfl,by decide,by decide,bX (lo:=0) (n:=2) (fun k σ H'=>G' fun (F:Nat->Rat×Rat) (o6 o7:ψ)=>σ=[some (.ref pA),some (.ref bA),some (.ref tA),some (.ref uA),some (.ref fA),some (.int (t:Int)),o6,o7,none]/\au H H'/\Found K H' fA ls F (B+k*(2*(N+91)))/\∀(i:Nat)(p:ay),pins[i]?=some p->∀a:Int,(a=0\/a=1)->ax a (F i)=kR T (aj.take t) a p+if a<(k:Int) then T b.nm*ax a (mv (dR b) p.nm) else 0) ⟨F,o6,o7,rfl,s3,by rw [ads];exact F3,fun i p e a ha=>?_⟩ ?_ ?_⟩
  ·rw [hF i p e a ha,aej (by rcases ha with rfl|rfl<;>decide)]
   grind
  ·rintro k σ H4 hk ⟨F,o6,o7,rfl,s4,F4,hF⟩
   have ek:(0:Int)+(k:Int)=(k:Int):=aaT _
   rw [ek]
   have Kt:(k:Int)=0\/(k:Int)=1:=by omega
   have Oa:=fr.same s4
   have bk:k*(2*(N+91))<=1*(2*(N+91)):=aaG _ (by omega)
   obtain ⟨ta,i1,i2,c0,eta,hbt,e1,e2⟩:=HG.same s4
   have Q6:i1<ls.length:=by rw [ll];exact (ir.mp e1).1
   have Up:i2<ls.length:=by rw [ll];exact (ir.mp e2).1
   refine ⟨_,rfl,_,rfl,tA,_,_,_,rfl,rfl,aV.of (s4 _ _ fo.ht),att,_,rfl,_,rfl,_,rfl,bA,_,_,_,rfl,rfl,aV.of Oa.hb,abt,_,rfl,pA,us,pins,_,b,(k:Int),rfl,Oa.hp,Oa.pp,fr.gp,HG.same s4,Kt,fun v5 H5 s5 n5=>?_⟩
   dsimp only [dJ]
   show b8 K my [_,_] _ _ E0
   refine oA ((htv.same s4).same s5) n5 (by omega) fun p6 H6 s6 n6=>?_
   have WR:=s4.trans (s5.trans s6)
   rw [eta] at abt
   have F6:=F4.same (s5.trans s6)
   refine ⟨_,rfl,_,rfl,_,rfl,bA,_,_,_,rfl,rfl,aV.of (WR _ _ fr.hb),abt,ta,_,_,_,rfl,rfl,Ty.au.bI (s5.trans s6) hbt,rfl,_,rfl,_,rfl,fA,ls,F,_,i1,(k:Int),_,_,_,rfl,F6,Q6,Kt,n6,by omega,fun H7 k7 F7=>?_⟩
   have WT:=KL.same hn WR k7
   have n7:=n6.aR (F6.aR k7)
   refine ⟨_,rfl,_,rfl,_,rfl,bA,_,_,_,rfl,rfl,aV.of (WT _ _ fr.hb),abt,ta,_,_,_,rfl,rfl,(F6.aR k7).bI (Ty.au.bI (s5.trans s6) hbt),rfl,_,rfl,_,rfl,?_⟩
   dsimp only [dJ]
   show fO K [_] _ _ E0
   refine qw n7 fun p8 H8 s8 n8=>?_
   have F8:=F7.same s8
   refine ⟨fA,ls,_,_,i2,(k:Int),_,_,_,rfl,F8,Up,Kt,n8,by omega,fun H9 k9 F9=>?_⟩
   have s09:=KL.same hn (WT.trans s8) k9
   refine ⟨_,_,_,rfl,s09,F9.up (by rw [abx];omega),fun i p e a ha=>?_⟩
   rw [u5 Kt ha,u5 Kt ha,hF i p e a ha]
   have bp:=Lk fr.gp.np (fr.en b mb) e e1 e2 (T b.nm) (k:Int)
   by_cases ca:a=(k:Int)
   ·subst ca
    rw [aej (c:=(k:Int)<(k:Int)) (by omega),aek (c:=(k:Int)<((k+1:Nat):Int)) (by omega),<-bp]
    simp only [and_true]
    grind
   ·have c1:¬ (i=i1/\a=(k:Int)):=fun z=>ca z.2
    have c2:¬ (i=i2/\a=(k:Int)):=fun z=>ca z.2
    rw [aej c1,aej c2]
    by_cases cl:a<(k:Int)
    ·rw [aek cl,aek (c:=a<((k+1:Nat):Int)) (by omega)]
     grind
    ·rw [aej cl,aej (c:=a<((k+1:Nat):Int)) (by omega)]
     grind
  ·rintro σ H4 ⟨F,o6,o7,rfl,s4,F4,hF⟩
   refine ⟨F,_,_,_,rfl,s4,F4.up (by rw [abx,<-hB];omega),fun i p e a ha=>?_⟩
   rw [take_snoc eb,yS,hF i p e a ha,aek (by rcases ha with rfl|rfl<;>decide)]
 ·rintro σ H3 ⟨F,o5,o6,o7,rfl,s3,F3,hF⟩
  rw [en,lw] at F3
  rw [en,lw,aaW] at hF
  have bl:aj.length*(4*(N+91))<=14*(4*(N+91)):=aaG _ (by omega)
  generalize hB:1+aj.length*(4*(N+91))=B at F3
  have en2:((us.length:Nat):Int).toNat=us.length:=by omega
  refine ⟨_,rfl,pA,_,rfl,.inl (aV.of (s3 _ _ fr.hp)),((us.length:Nat):Int),rfl,by omega,by omega,bX (lo:=0) (n:=((us.length:Nat):Int).toNat) (fun k σ H'=>S2 fun (F:Nat->Rat×Rat) (o5 o6 o7 o8:ψ)=>σ=[some (.ref pA),some (.ref bA),some (.ref tA),some (.ref uA),some (.ref fA),o5,o6,o7,o8]/\au H H'/\Found K H' fA ls F (B+k*(4*(N+91)))/\∀(i:Nat)(p:ay),pins[i]?=some p->∀a:Int,(a=0\/a=1)->ax a (F i)=kR T aj a p+if i<k then sP (U p.nm) (p.ws.map (ax a)) else 0) ⟨F,o5,o6,o7,none,rfl,s3,by rw [ads];exact F3,fun i p e a ha=>?_⟩ ?_ ?_⟩
  ·rw [hF i p e a ha,aej (by omega)]
   grind
  ·rintro k σ H4 hk ⟨F,o5,o6,o7,o8,rfl,s4,F4,hF⟩
   have ek:(0:Int)+(k:Int)=(k:Int):=aaT _
   rw [ek]
   have hku:k<us.length:=by omega
   obtain ⟨p,ep,xh⟩:=aw fr.pp (gE hku)
   have mp:p∈pins:=Wp ep
   obtain ⟨xv,exv,la,ys,exl,hla,py⟩:=aw (bU fo.pu) ep
   subst exl
   have lup:=fo.lU p mp
   have lwp:=(fr.gp.ws p mp).len
   have ly:ys.length=(U p.nm).length:=aer py
   have akx:gh xs (k:Int)=some (.ref la):=bP exv
   have aku:gh us (k:Int)=some us[k]:=bP (gE hku)
   obtain ⟨pa,l,sv,cA,epa,h1,h2,h3,h4⟩:=xh
   rw [epa] at aku
   have lv:cA.length=p.ws.length:=aer h4
   have kp:k<pins.length:=by omega
   have bk:k*(4*(N+91))<=8*(4*(N+91)):=aaG _ (by omega)
   generalize hB2:B+k*(4*(N+91))=B2 at F4
   have en3:((cA.length:Nat):Int).toNat=cA.length:=by omega
   refine ⟨_,rfl,_,rfl,pA,_,_,_,rfl,rfl,aV.of (s4 _ _ fr.hp),aku,pa,_,_,_,rfl,rfl,Ty.au.bI s4 h1,rfl,l,_,rfl,.inl (aV.of (s4 _ _ h3)),((cA.length:Nat):Int),rfl,by omega,by omega,bX (lo:=0) (n:=((cA.length:Nat):Int).toNat) (fun j σ H'=>HE fun (F:Nat->Rat×Rat) (o6 o7 o8:ψ)=>σ=[some (.ref pA),some (.ref bA),some (.ref tA),some (.ref uA),some (.ref fA),some (.int (k:Int)),o6,o7,o8]/\au H H'/\Found K H' fA ls F (B2+j*(2*(N+91)))/\∀(i:Nat)(p:ay),pins[i]?=some p->∀a:Int,(a=0\/a=1)->ax a (F i)=kR T aj a p+if i<k then sP (U p.nm) (p.ws.map (ax a)) else if i=k then sP ((U p.nm).take j) ((p.ws.take j).map (ax a)) else 0) ⟨F,o6,o7,o8,rfl,s4,by rw [ads];exact F4,fun i p e a ha=>?_⟩ ?_ ?_⟩
   ·rw [hF i p e a ha,List.take_zero,ig]
    split<;>simp
   ·rintro j σ H5 hj ⟨F,o6,o7,o8,rfl,s5,F5,hF⟩
    have ek:(0:Int)+(j:Int)=(j:Int):=aaT _
    rw [ek]
    have hj1:j<cA.length:=by omega
    have hj2:j<ys.length:=by omega
    obtain ⟨x,ex,hx⟩:=aw py (gE hj2)
    obtain ⟨wq,ewq,hwq⟩:=aw h4 (gE hj1)
    have zw:=(fr.gp.ws p mp).sz wq (Wp ewq)
    have axj:gh ys (j:Int)=some ys[j]:=bP (gE hj2)
    have awj:gh cA (j:Int)=some cA[j]:=bP (gE hj1)
    have bj:j*(2*(N+91))<=1*(2*(N+91)):=aaG _ (by omega)
    generalize hB3:B2+j*(2*(N+91))=B3 at F5
    refine ⟨(2:Int),rfl,by decide,by decide,bX (lo:=0) (n:=2) (fun c σ H'=>Mi fun (F:Nat->Rat×Rat) (o6:ψ)=>σ=[some (.ref pA),some (.ref bA),some (.ref tA),some (.ref uA),some (.ref fA),some (.int (k:Int)),o6,o7,some (.int (j:Int))]/\au H H'/\Found K H' fA ls F (B3+c*(N+91))/\∀(i:Nat)(p:ay),pins[i]?=some p->∀a:Int,(a=0\/a=1)->ax a (F i)=(kR T aj a p+if i<k then sP (U p.nm) (p.ws.map (ax a)) else if i=k then sP ((U p.nm).take j) ((p.ws.take j).map (ax a)) else 0)+if i=k/\a<(c:Int) then x*ax a wq else 0) ⟨F,o6,rfl,s5,by rw [ads];exact F5,fun i p e a ha=>?_⟩ ?_ ?_⟩
    ·rw [hF i p e a ha,aej (c:=i=k/\a<((0:Nat):Int)) (fun z=>by rcases ha with rfl|rfl<;>exact aet z.2 (by decide))]
     grind
    ·rintro c σ H6 hc ⟨F,o6,rfl,s6,F6,hF⟩
     have ek:(0:Int)+(c:Int)=(c:Int):=aaT _
     rw [ek]
     have QK:(c:Int)=0\/(c:Int)=1:=by omega
     have bc:c*(N+91)<=1*(N+91):=aaG _ (by omega)
     obtain ⟨wa,zs,u,ewa,uf,awc,nwc⟩:=xi QK (hwq.same s6)
     rw [ewa] at awj
     refine ⟨_,rfl,_,rfl,_,rfl,_,rfl,_,rfl,uA,_,_,_,rfl,rfl,aV.of (s6 _ _ fo.hu),akx,_,rfl,la,_,_,_,rfl,rfl,aV.of (s6 _ _ hla),axj,_,rfl,_,rfl,pA,_,_,_,rfl,rfl,aV.of (s6 _ _ fr.hp),aku,pa,_,_,_,rfl,rfl,Ty.au.bI s6 h1,rfl,_,rfl,l,_,_,_,rfl,rfl,aV.of (s6 _ _ h3),awj,_,rfl,wa,_,_,_,rfl,rfl,uf,awc,?_⟩
     dsimp only [dJ]
     show b8 K my [_,_] _ _ E0
     refine oA (hx.same s6) (dF nwc (m7 (Lf zw) (aal _))) (by omega) fun p7 H7 s7 n7=>?_
     refine ⟨fA,ls,F,_,k,(c:Int),_,_,_,rfl,F6.same s7,by omega,QK,n7,by omega,fun H8 k8 F8=>?_⟩
     refine ⟨_,_,rfl,KL.same hn (s6.trans s7) k8,F8.up (by rw [abx];omega),fun i p' e a ha=>?_⟩
     rw [u5 QK ha,hF i p' e a ha]
     by_cases ci:i=k
     ·by_cases ca:a=(c:Int)
      ·subst ca
       rw [aej (c:=i=k/\(c:Int)<(c:Int)) (fun z=>by omega),aek (c:=i=k/\(c:Int)=(c:Int)) ⟨ci,rfl⟩,aek (c:=i=k/\(c:Int)<((c+1:Nat):Int)) ⟨ci,by omega⟩]
       grind
      ·rw [aej (c:=i=k/\a=(c:Int)) (fun z=>ca z.2)]
       by_cases cl:a<(c:Int)
       ·rw [aek (c:=i=k/\a<(c:Int)) ⟨ci,cl⟩,aek (c:=i=k/\a<((c+1:Nat):Int)) ⟨ci,by omega⟩]
        grind
       ·rw [aej (c:=i=k/\a<(c:Int)) (fun z=>cl z.2),aej (c:=i=k/\a<((c+1:Nat):Int)) (fun z=>by have:=z.2;omega)]
        grind
     ·rw [aej (c:=i=k/\a<(c:Int)) (fun z=>ci z.1),aej (c:=i=k/\a=(c:Int)) (fun z=>ci z.1),aej (c:=i=k/\a<((c+1:Nat):Int)) (fun z=>ci z.1)]
      grind
    ·rintro σ H6 ⟨F,o6,rfl,s6,F6,hF⟩
     refine ⟨F,_,_,_,rfl,s6,F6.up (by rw [abx,<-hB3];omega),fun i p' e a ha=>?_⟩
     rw [hF i p' e a ha]
     by_cases ci:i=k
     ·subst ci
      rw [ep] at e
      cases e
      rw [aej (aa3 _),aek rfl,aej (aa3 _),aek rfl,aek (c:=i=i/\a<((2:Nat):Int)) ⟨rfl,by rcases ha with rfl|rfl<;>decide⟩]
      rw [take_snoc ex,take_snoc ewq,aax,jS _ _ (by rw [aah,aaJ,aaJ];omega),aaj,aa2,eg,ig]
      grind
     ·rw [aej (c:=i=k/\a<((2:Nat):Int)) (fun z=>ci z.1),aej ci,aej ci]
      grind
   ·rintro σ H5 ⟨F,o6,o7,o8,rfl,s5,F5,hF⟩
    rw [en3] at F5 hF
    refine ⟨F,_,_,_,_,rfl,s5,F5.up (by
     have:cA.length*(2*(N+91))<=2*(2*(N+91)):=aaG _ (by omega)
     rw [abx,<-hB2]
     omega),fun i p' e a ha=>?_⟩
    rw [hF i p' e a ha]
    by_cases ci:i=k
    ·subst ci
     rw [ep] at e
     cases e
     rw [aej (aa3 _),aek rfl,aek (aaV _),abe (by omega),abe (by omega)]
    ·rw [aej ci]
     by_cases cl:i<k
     ·rw [aek cl,aek (by omega)]
     ·rw [aej cl,aej (by omega)]
  ·rintro σ H4 ⟨F,o5,o6,o7,o8,rfl,s4,F4,hF⟩
   rw [en2,lu] at F4 hF
   have bp:pins.length*(4*(N+91))<=9*(4*(N+91)):=aaG _ (by omega)
   refine ⟨_,rfl,q fA ls F H4 s4 ll (F4.up (by omega)) fun i p e=>?_⟩
   have hi:=(ir.mp e).1
   have a0:=hF i p e 0 (.inl rfl)
   have a1:=hF i p e 1 (.inr rfl)
   rw [aek hi] at a0 a1
   unfold fg
   unfold kR at a0 a1
   have e0:ax 0=fun p:Rat×Rat=>p.1:=rfl
   have e1:ax 1=fun p:Rat×Rat=>p.2:=rfl
   rw [e0] at a0
   rw [e1] at a1
   exact ⟨a0.trans (Rat.add_comm _ _),a1.trans (Rat.add_comm _ _)⟩
theorem adt:aeV K (.type "int") (.type "int")=some true:=by unfold aeV;rw [aek (by decide)]
theorem adu:aeV K (.type "int") (.type "bool")=some false:=IY ⟨by decide,fun _=>⟨by decide+kernel,by decide+kernel⟩⟩
theorem Ob (x:Int×Int):dD [.v (.int x.1),.v (.int x.2)] [.v (.int x.1),.v (.int x.2)]=true:=by
 simp [dD,jk,kg]
inductive kY (K:Frag)(vs:ε)(H:Hp)(Q:VK)(E_:XK):Prop
|mk (u:V)(r:Rat)(_:vs=[u])(_:fN K H u r)(_:∀H',au H H' ->Q (.bl true) H')
theorem P2:aC ["_law_x","_law_part"] zaX (ae EV):=sq
theorem WU (D:Def K mg "_law_number" EV zaX)(aX:mg "len"=none)(bw:mg "isinstance"=none)(qF:mg "int"=none)(yT:mg "bool"=none)(fP:mg "tuple"=none)
  (nK:Fn P w K mg base (aY P w) 33 "_law_lowest" zas de):Fn P w K mg base (aY P w) 34 "_law_number" zaX (kY K):=by
 refine D.oo P2 fun H hr h=>?_
 obtain ⟨_,r,rfl,⟨p1,rfl,h1⟩,q⟩:=h
 have hp:=cD r
 have hg:=jM r
 generalize qr r=x at h1 hp hg
 refine ⟨_,(aa (bh (PW.pt (iI (df (cC (aG DA rfl bw cu (aL (pv 0) (kq rfl fP ub))))) (gA (bB gm (aG aD rfl aX bS (aS (pv 0))) ag)))) (ah (aE cN)) aI)
  (aa (bC aev rfl (QF (pv 0)) (bW (i:=1) P2.nd) (ah (bh (PW.pt (iI (df (cC (aG fu rfl bw cu (aL (pv 1) (kq rfl qF IZ))))) (gA (cC (aG fu rfl bw cu (aL (pv 1) (kq rfl yT QW))))))) (ah (aE cN)) aI)))
  (ah (aE (tG (fJ mM (aF (pv 0)) ag (gU _)) (tF (fJ (t_ hr.units) (aT nK hr (aL (aF (pv 0)) (aF (pv 0)))) (pv 0) (gU _)))))))),?_⟩
 refine ⟨_,rfl,p1,_,rfl,h1,_,rfl,bg (fun c=>nomatch c) (fun _=>?_)⟩
 refine ⟨_,rfl,p1,_,rfl,.inr h1,rfl,_,rfl,IU rfl ?_⟩
 refine ⟨_,rfl,p1,rfl,⟨_,h1⟩,MU (K:=K) (a:=p1) (xs:=[.int x.1,.int x.2]) (fun i σ H'=>∃o,σ=[some (.ref p1),o]/\H'=H) ⟨none,rfl,rfl⟩ (fun i σ H' _ ⟨o,_,e⟩=>by rw [e];exact h1) ?_ ?_⟩
 ·rintro i z σ H' hi ⟨o,rfl,rfl⟩
  obtain ⟨n,rfl⟩:∃n,z=V.int n:=by
   match i,hi with
   | 0,hi=>exact ⟨_,(aaA hi).symm⟩
   | 1,hi=>exact ⟨_,(aaA hi).symm⟩
  refine ⟨_,rfl,_,_,_,true,rfl,rfl,.int n,adt,_,rfl,bg (fun c=>nomatch c) (fun _=>?_)⟩
  refine ⟨_,rfl,_,_,_,false,rfl,rfl,.int n,adu,_,rfl,bg (fun c=>nomatch c) (fun _=>?_)⟩
  exact ⟨_,rfl,rfl⟩
 ·rintro σ H' ⟨o,rfl,rfl⟩
  refine ⟨_,rfl,p1,_,_,_,rfl,rfl,h1,iD,_,_,rfl,rfl,_,rfl,bg (fun _=>?_) (fun c=>aet (aeD hp) c)⟩
  refine ⟨_,rfl,p1,_,_,_,rfl,rfl,h1,iC,_,rfl,p1,_,_,_,rfl,rfl,h1,iD,_,_,rfl,hp,fun p2 H2 s2 e2=>?_⟩
  rw [oQ hp hg] at e2
  refine ⟨_,rfl,_,_,.inl ⟨oh (q:=x) ⟨p2,rfl,bJ.of e2⟩,oh (q:=x) ⟨p1,rfl,Ty.au.bI s2 h1⟩⟩,rfl,Nc,?_⟩
  rw [Ob x]
  exact q _ s2
theorem Sg:aeV K (.type "tuple") (.type "tuple")=some true:=by unfold aeV;rw [aek (by decide)]
theorem Sh:aeV K (.type "dict") (.type "dict")=some true:=by unfold aeV;rw [aek (by decide)]
theorem adv:aeV K (.type "list") (.type "list")=some true:=by unfold aeV;rw [aek (by decide)]
theorem qG :∀ws:List Str,iw K H (ws.map fun w=>Da.v (.str w)) (ws.map V.str)
 | []=>by unfold iw;trivial
 | w::ws=>by
  rw [aaj,aaj]
  unfold iw
  refine ⟨?_,qG ws⟩
  unfold Is
  exact ⟨rfl,rfl⟩
theorem BG:∀ws:List Str,dD (ws.map fun w=>Da.v (.str w)) (ws.map fun w=>Da.v (.str w))=true
 | []=>by simp [dD]
 | w::ws=>by
  rw [aaj]
  unfold dD
  rw [BG ws]
  simp [jk,kg]
theorem BH:∀ws:List Str,d3 (ws.map fun w=>Da.v (.str w)) (ws.map fun w=>Da.v (.str w))=true
 | []=>by simp [d3]
 | w::ws=>by
  rw [aaj]
  unfold d3
  rw [BH ws]
  simp [alike]
theorem xk:∀ws:List Str,iQ (ws.map fun w=>Da.v (.str w))<=60
 | []=>by simp [iQ]
 | w::ws=>by
  rw [aaj]
  unfold iQ
  have:=xk ws
  simp only [dep]
  omega
theorem u6 {ws:ρ}(e1:H p=some (.lst (ws.map V.str)))(e2:H p2=some (.lst (ws.map V.str)))(q:Q (.bl false) H):IX K (.ref p) (.ref p2) H Q:=by
 refine ⟨ws.map fun w=>Da.v (.str w),ws.map fun w=>Da.v (.str w),.inr ⟨?_,?_⟩,BH ws,xk ws,by rw [BG];exact q⟩
 ·unfold Is
  exact ⟨p,_,rfl,aV.of e1,qG ws⟩
 ·unfold Is
  exact ⟨p2,_,rfl,aV.of e2,qG ws⟩
theorem dz {ys:ε}:gh (x::ys) 0=some x:=bP (xs:=x::ys) (j:=0) rfl
theorem qH {us:ε}{nm:α->Str}{cap:L2.St}(n1:H D1=none)(ha:H a=some (.lst us))(pr:Paired (fun u z=>∃c ys,u=.ref c/\bJ K H c (.str (nm z)::ys)) us zs)(l:zs.length<=1000)(k:∀H',au H H' ->H' D1=some (.lst ((zs.map nm).map V.str))->R (.ref D1) H'):
  lS D1 (b9 0) jm (MV (IJ K) (MK 0) (tC (V.int 0))) (MR K a) (none::cap) H R:=by
 have lu:us.length=zs.length:=aer pr
 refine cy (K:=K) (a:=a) (xs:=us) (fun i v _=>∃z,zs[i]?=some z/\v=.str (nm z)) n1 (by rw [lu];exact aap l (by decide)) (fun H2 s2=>aV.of (s2 _ _ ha)) (fun _ _ _ _ _ _ _ h=>h) ?_ ?_
 ·intro i u H2 R hu s2 k
  obtain ⟨z,ez,c,ys,rfl,h1⟩:=aw pr hu
  exact ⟨_,rfl,c,_,_,_,rfl,rfl,Ty.au.bI s2 h1,dz,k _ _ (au.refl _) ⟨z,ez,rfl⟩⟩
 ·intro ys H2 hy gc s2 hD
  refine k H2 s2 ?_
  rw [hD]
  congr 2
  refine aa0 fun i=>?_
  rw [aay,aag]
  by_cases c:i<ys.length
  ·obtain ⟨p,e1,e2⟩:=gc i ys[i] (gE c)
   rw [gE c,e1,e2]
   rfl
  ·rw [aam (by omega),aam (by omega)]
   rfl
theorem kC {α:Type}{nm:α->Str}{kM:γ}{zs:List α}(h:kM.map (·.1)=zs.map (fun p=>(aaU (nm p):Key))):(kM.map fun kv=>kV kv.1)=(zs.map nm).map V.str:=by
 have:(kM.map fun kv=>kV kv.1)=(kM.map (·.1)).map kV:=by rw [aay];rfl
 rw [this,h,aay,aay]
 rfl
theorem qI {us:ε}{pins:ν}(h:Paired (ip K H) us pins):Paired (fun u (z:ay)=>∃c ys,u=.ref c/\bJ K H c (.str z.nm::ys)) us pins:=Paired.bL h fun _ _ ⟨a,l,s,us,e,h1,_,_,_⟩=>⟨a,_,e,h1⟩
theorem yU {us:ε}{aj:τ}(h:Paired (fD K H pins) us aj):Paired (fun u (z:a_)=>∃c ys,u=.ref c/\bJ K H c (.str z.nm::ys)) us aj:=Paired.bL h fun _ _ ⟨a,i,j,c,e,h1,_,_⟩=>⟨a,_,e,h1⟩
theorem xl {ys:ε}(h:∀(i:Nat)(v:V),ys[i]?=some v->v=.bl true):∃bs:List Bool,ys=bs.map V.bl/\bs.all id=true:=by
 induction ys with
 | nil=>exact ⟨[],rfl,rfl⟩
 | cons y ys ih=>
  obtain ⟨bs,e,h2⟩:=ih fun i v e=>h (i+1) v (by simpa using e)
  exact ⟨true::bs,by rw [h 0 y rfl,e];rfl,by simp [h2]⟩
structure Mr (K:Frag)(H:Hp)(pins:ν)(aj:τ)(dT dU:aef)(kT kU:γ)(T:Ι)(U:Α)(N:Nat):Prop where
 hT:H dT=some (.dK kT)
 hU:H dU=some (.dK kU)
 KW:kT.map (·.1)=aj.map (fun b=>(aaU b.nm:Key))
 KY:kU.map (·.1)=pins.map (fun p=>(aaU p.nm:Key))
 tT:∀b∈aj,∃v,bY kT (.inr b.nm)=some v/\fN K H v (T b.nm)
 tU:∀p∈pins,∃la vs,bY kU (.inr p.nm)=some (.ref la)/\H la=some (.lst vs)/\Paired (fN K H) vs (U p.nm)
 lU:∀p∈pins,(U p.nm).length=p.ws.length
 zT:∀b∈aj,Zb N (T b.nm)
 zU:∀p∈pins,∀u∈U p.nm,Zb N u
 hN:N<=1000000
theorem Mr.same (h:Mr K H pins aj dT dU kT kU T U N)(s:au H H'):Mr K H' pins aj dT dU kT kU T U N:=⟨s _ _ h.hT,s _ _ h.hU,h.KW,h.KY,fun b hb=>by
 obtain ⟨v,a,b⟩:=h.tT b hb
 exact ⟨v,a,b.same s⟩,fun p hp=>by
 obtain ⟨la,vs,a,b,c⟩:=h.tU p hp
 exact ⟨la,vs,a,s _ _ b,Paired.bL c fun _ _ z=>z.same s⟩,h.lU,h.zT,h.zU,h.hN⟩
theorem Mr.adw (h:Mr K H pins aj dT dU kT kU T U N)(hb:b∈aj):∃v,dm H dT (.str b.nm) (some v)/\fN K H v (T b.nm):=by
 obtain ⟨v,a,c⟩:=h.tT b hb
 refine ⟨v,?_,c⟩
 have:=dm.k (k:=.inr b.nm) h.hT
 rw [a] at this
 exact this
theorem Mr.Si (h:Mr K H pins aj dT dU kT kU T U N)(hp:p∈pins):∃la vs,dm H dU (.str p.nm) (some (.ref la))/\H la=some (.lst vs)/\Paired (fN K H) vs (U p.nm):=by
 obtain ⟨la,vs,a,b,c⟩:=h.tU p hp
 refine ⟨la,vs,?_,b,c⟩
 have:=dm.k (k:=.inr p.nm) h.hU
 rw [a] at this
 exact this
inductive yV (K:Frag)(vs:ε)(H:Hp)(Q:VK)(E_:XK):Prop
|mk (pA bA dT dU:aef)(us ws:ε)(pins:ν)(aj:τ)(kT kU:γ)(T:Ι)(U:Α)(N:Nat)(_:vs=[.ref pA,.ref bA,.ref dT,.ref dU])(_:N' K H pA bA us ws pins aj)(_:Mr K H pins aj dT dU kT kU T U N)(_:∀H',au H H' ->Q (.bl true) H')
theorem BI:aC ["_law_pins_here","_law_bars_here","_law_pulls","_law_pushes","_law_name_here","_law_spot_here","_law_ways_here"] zad (ae EW):=sq
theorem WV (D:Def K mg "_law_are_forces" EW zad)(bw:mg "isinstance"=none)(d_:mg "dict"=none)(b7:mg "list"=none)(aX:mg "len"=none)(BJ:mg "all"=none)(Ll:Fn P w K mg base (aY P w) 34 "_law_number" zaX (kY K)):
  Fn P w K mg base (aY P w) 35 "_law_are_forces" zad (yV K):=by
 refine D.op BI fun f cp A outer s H vs Q E hr h=>?_
 obtain ⟨pA,bA,dT,dU,us,ws,pins,aj,kT,kU,T,U,N,rfl,fr,pl,q⟩:=h
 have lp:=fr.lp
 have lb:=fr.lb
 have lw:ws.length=aj.length:=aer fr.pb
 refine ⟨_,(aa (bh (PW.pt (iI (df (cC (aG fu rfl bw cu (aL (pv 2) (kq rfl d_ oT))))) (gA (bB (ua hr.units) (b_ (e_ rfl) rfl b7 gY (aS (pv 2))) (dr (tn:=zaU) (fr:=[]) (caps:=[]) (bx (pv 1)) (bD (cX (K:=K) rfl) (pv 0) ag)))))) (ah (aE cN)) aI)
  (aa (bh (PW.pt (iI (df (cC (aG fu rfl bw cu (aL (pv 3) (kq rfl d_ oT))))) (gA (bB (ua hr.units) (b_ (e_ rfl) rfl b7 gY (aS (pv 3))) (dr (tn:=zaT) (fr:=[]) (caps:=[]) (bx (pv 0)) (bD (cX (K:=K) rfl) (pv 0) ag)))))) (ah (aE cN)) aI)
  (aa (bh (df (cC (aG (sy rfl) rfl BJ Pa (aS (dr (tn:=zaU) (fr:=["_law_pulls"]) (caps:=[2]) (bx (pv 1)) (mW Ll hr (aS (cv (b6 hr) (pv 1) (bD (cX (K:=K) rfl) (pv 0) ag) (fun _ _=>rfl))))))))) (ah (aE cN)) aI)
  (aa (bC aev rfl (bx (pv 0)) (eY rfl (aZ (bW (i:=4) BI.nd) (aZ (bW (i:=5) BI.nd) (aZ (bW (i:=6) BI.nd) cU)))) (aa (bh (PW.pt (iI (df (cC (aG fu rfl bw cu (aL (cv (b6 hr) (pv 3) (pv 4) (fun _ _=>rfl)) (kq rfl b7 gY))))) (gA (bB gm (aG aD rfl aX bS (aS (cv (b6 hr) (pv 3) (pv 4) (fun _ _=>rfl)))) (aG aD rfl aX bS (aS (pv 6))))))) (ah (aE cN)) aI)
   (ah (bh (df (cC (aG (sy rfl) rfl BJ Pa (aS (dr (tn:=zaK) (fr:=[]) (caps:=[]) (bx (cv (b6 hr) (pv 3) (pv 4) (fun _ _=>rfl))) (mW Ll hr (aS (pv 0)))))))) (ah (aE cN)) aI))))
  (ah (aE cN)))))),?_⟩
 refine ⟨_,rfl,_,_,_,true,rfl,rfl,.dK pl.hT,Sh,_,rfl,bg (fun c=>nomatch c) (fun _=>?_)⟩
 refine ⟨_,rfl,dT,_,rfl,.inl pl.hT,?_⟩
 intro l1 n1;generalize eX:upd _ l1 _=H1;have ⟨s1,e1⟩:=nw n1 eX
 rw [kC (nm:=a_.nm) pl.KW] at e1
 have fr1:=fr.same s1
 refine ⟨_,rfl,bA,rfl,⟨_,aV.of fr1.hb⟩,fun D2 n2=>?_⟩
 refine qH (nm:=a_.nm) n2 fr1.hb (yU fr1.pb) (by omega) fun H2 s2 e2=>?_
 refine u6 (s2 _ _ e1) e2 ?_
 refine ⟨_,rfl,bg (fun c=>nomatch c) (fun _=>?_)⟩
 have qe:=s1.trans s2
 refine ⟨_,rfl,_,_,_,true,rfl,rfl,.dK (qe _ _ pl.hU),Sh,_,rfl,bg (fun c=>nomatch c) (fun _=>?_)⟩
 refine ⟨_,rfl,dU,_,rfl,.inl (qe _ _ pl.hU),?_⟩
 intro l3 n3;generalize eX:upd _ l3 _=H3;have ⟨s3,e3⟩:=nw n3 eX
 rw [kC (nm:=ay.nm) pl.KY] at e3
 have yW:=qe.trans s3
 have Mc:=fr.same yW
 refine ⟨_,rfl,pA,rfl,⟨_,aV.of Mc.hp⟩,fun D4 n4=>?_⟩
 refine qH (nm:=ay.nm) n4 Mc.hp (qI Mc.pp) (by omega) fun H4 s4 e4=>?_
 refine u6 (s4 _ _ e3) e4 ?_
 refine ⟨_,rfl,bg (fun c=>nomatch c) (fun _=>?_)⟩
 have iF:=yW.trans s4
 refine ⟨_,rfl,bA,rfl,⟨_,aV.of (iF _ _ fr.hb)⟩,fun D5 n5=>?_⟩
 refine cy (cap:=[some (.ref dT)]) (K:=K) (a:=bA) (xs:=ws) (fun _ v _=>v=.bl true) n5 (by rw [lw];exact aap (show aj.length<=100 by omega) (by decide)) (fun H5 s5=>aV.of (s5 _ _ (iF _ _ fr.hb))) (fun _ _ _ _ _ _ _ h=>h) ?_ ?_
 ·intro i u H5 R hu s5 k
  obtain ⟨b,eb,c,i1,i2,c0,rfl,h1,_⟩:=aw fr.pb hu
  have w8:=iF.trans s5
  obtain ⟨v,dg,nv⟩:=(pl.same w8).adw (Wp eb)
  exact ⟨_,rfl,_,rfl,c,_,_,_,rfl,rfl,Ty.au.bI w8 h1,rfl,dT,_,rfl,dg,v,_,rfl,nv,fun H6 s6=>k _ _ s6 rfl⟩
 intro ys H5 hy gc s5 hD
 obtain ⟨bs,eb,ea⟩:=xl gc
 refine ⟨D5,bs,rfl,by rw [<-eb];exact aV.of hD,?_⟩
 rw [ea]
 refine ⟨_,rfl,bg (fun c=>nomatch c) (fun _=>?_)⟩
 have w8:=iF.trans s5
 refine ⟨_,rfl,pA,rfl,⟨_,aV.of (w8 _ _ fr.hp)⟩,ck (K:=K) (a:=pA) (xs:=us) (fun i σ H'=>G' fun (o4 o5 o6:ψ)=>σ=[some (.ref pA),some (.ref bA),some (.ref dT),some (.ref dU),o4,o5,o6]/\au H H') ⟨none,none,none,rfl,w8⟩ (fun i σ H' _ h=>by
   obtain ⟨_,_,_,_,s⟩:=h
   exact aV.of (s _ _ fr.hp)) ?_ ?_⟩
 ·rintro i u σ H6 hu ⟨o4,o5,o6,rfl,s6⟩
  obtain ⟨p,ep,xh⟩:=aw fr.pp hu
  have mp:p∈pins:=Wp ep
  obtain ⟨ta,l,sv,cA,rfl,h1,h2,h3,h4⟩:=xh.same s6
  refine ⟨ta,_,rfl,h1,rfl,_,_,rfl,_,_,rfl,_,_,rfl,rfl,?_⟩
  obtain ⟨la,xs,dg,et,pu⟩:=(pl.same s6).Si mp
  have lw:cA.length=p.ws.length:=aer h4
  have lx:xs.length=(U p.nm).length:=aer pu
  have lup:=pl.lU p mp
  have lwp:=(fr.gp.ws p mp).len
  refine ⟨_,rfl,_,rfl,dU,_,rfl,dg,_,_,_,true,rfl,rfl,.lst et,adv,_,rfl,bg (fun c=>nomatch c) (fun _=>?_)⟩
  refine ⟨_,rfl,_,rfl,dU,_,rfl,dg,la,_,rfl,.inl (aV.of et),_,rfl,l,_,rfl,.inl (aV.of h3),rfl,_,rfl,bg (fun c=>aet (show (xs.length:Int)=(cA.length:Int) by omega) (fun e=>by rw [e] at c;simp at c)) (fun _=>?_)⟩
  refine ⟨_,rfl,_,rfl,dU,_,rfl,dg,la,rfl,⟨_,aV.of et⟩,fun D7 n7=>?_⟩
  refine cy (cap:=[]) (K:=K) (a:=la) (xs:=xs) (fun _ v _=>v=.bl true) n7 (aap (show xs.length<=100 by omega) (by decide)) (fun H7 s7=>aV.of (s7 _ _ et)) (fun _ _ _ _ _ _ _ h=>h) ?_ ?_
  ·intro j x H7 R hx s7 k
   obtain ⟨r,er,nr⟩:=aw pu hx
   exact ⟨_,rfl,x,r,rfl,nr.same s7,fun H8 s8=>k _ _ s8 rfl⟩
  intro ys H7 hy gc s7 hD
  obtain ⟨bs,eb,ea⟩:=xl gc
  refine ⟨D7,bs,rfl,by rw [<-eb];exact aV.of hD,?_⟩
  rw [ea]
  refine ⟨_,rfl,bg (fun c=>nomatch c) (fun _=>?_)⟩
  exact ⟨_,_,_,rfl,s6.trans s7⟩
 ·rintro σ H6 ⟨o4,o5,o6,rfl,s6⟩
  exact q H6 s6
inductive Lm (K:Frag)(vs:ε)(H:Hp)(Q:VK)(E_:XK):Prop
|mk (pA dM:aef)(us:ε)(pins:ν)(kM:γ)(M:Β)(N:Nat)(_:vs=[.ref pA,.ref dM])(_:H pA=some (.lst us))(_:Paired (ip K H) us pins)(_:pins.length<=100)(_:Mp K H pins dM kM M N)(_:∀H',au H H' ->Q (.bl true) H')
theorem BK:aC ["_law_pins_here","_law_motion","_law_name_here","_law_spot_here","_law_ways_here"] zal (ae EY):=sq
theorem WW (D:Def K mg "_law_is_motion" EY zal)(bw:mg "isinstance"=none)(d_:mg "dict"=none)(b7:mg "list"=none)(fP:mg "tuple"=none)(aX:mg "len"=none)(Ll:Fn P w K mg base (aY P w) 34 "_law_number" zaX (kY K)):
  Fn P w K mg base (aY P w) 35 "_law_is_motion" zal (Lm K):=by
 refine D.op BK fun f cp A outer s H vs Q E hr h=>?_
 obtain ⟨pA,dM,us,pins,kM,M,N,rfl,hp,pp,lp,mo,q⟩:=h
 refine ⟨_,(aa (bh (PW.pt (iI (df (cC (aG fu rfl bw cu (aL (pv 1) (kq rfl d_ oT))))) (gA (bB (ua hr.units) (b_ (e_ rfl) rfl b7 gY (aS (pv 1))) (dr (tn:=zaT) (fr:=[]) (caps:=[]) (bx (pv 0)) (bD (cX (K:=K) rfl) (pv 0) ag)))))) (ah (aE cN)) aI)
  (aa (bC aev rfl (bx (pv 0)) (eY rfl (aZ (bW (i:=2) BK.nd) (aZ (bW (i:=3) BK.nd) (aZ (bW (i:=4) BK.nd) cU)))) (aa (bh (PW.pt (iI (df (cC (aG fu rfl bw cu (aL (cv (b6 hr) (pv 1) (pv 2) (fun _ _=>rfl)) (kq rfl fP ub))))) (gA (bB gm (aG aD rfl aX bS (aS (cv (b6 hr) (pv 1) (pv 2) (fun _ _=>rfl)))) ag)))) (ah (aE cN)) aI)
   (ah (bh (PW.pt (iI (df (cC (aT Ll hr (aS (aF (cv (b6 hr) (pv 1) (pv 2) (fun _ _=>rfl))))))) (gA (df (cC (aT Ll hr (aS (aF (cv (b6 hr) (pv 1) (pv 2) (fun _ _=>rfl)))))))))) (ah (aE cN)) aI))))
  (ah (aE cN)))),?_⟩
 refine ⟨_,rfl,_,_,_,true,rfl,rfl,.dK mo.hM,Sh,_,rfl,bg (fun c=>nomatch c) (fun _=>?_)⟩
 refine ⟨_,rfl,dM,_,rfl,.inl mo.hM,?_⟩
 intro l1 n1;generalize eX:upd _ l1 _=H1;have ⟨s1,e1⟩:=nw n1 eX
 rw [kC (nm:=ay.nm) mo.keys] at e1
 have pp1:Paired (ip K H1) us pins:=Paired.bL pp fun _ _ z=>z.same s1
 refine ⟨_,rfl,pA,rfl,⟨_,aV.of (s1 _ _ hp)⟩,fun D2 n2=>?_⟩
 refine qH (nm:=ay.nm) n2 (s1 _ _ hp) (qI pp1) (by omega) fun H2 s2 e2=>?_
 refine u6 (s2 _ _ e1) e2 ?_
 refine ⟨_,rfl,bg (fun c=>nomatch c) (fun _=>?_)⟩
 have qe:=s1.trans s2
 refine ⟨_,rfl,pA,rfl,⟨_,aV.of (qe _ _ hp)⟩,ck (K:=K) (a:=pA) (xs:=us) (fun i σ H'=>G' fun (o2 o3 o4:ψ)=>σ=[some (.ref pA),some (.ref dM),o2,o3,o4]/\au H H') ⟨none,none,none,rfl,qe⟩ (fun i σ H' _ h=>by
   obtain ⟨_,_,_,_,s⟩:=h
   exact aV.of (s _ _ hp)) ?_ ?_⟩
 ·rintro i u σ H4 hu ⟨o2,o3,o4,rfl,s4⟩
  obtain ⟨p,ep,xh⟩:=aw pp hu
  have mp:p∈pins:=Wp ep
  obtain ⟨ta,l,sv,ws,rfl,h1,h2,h3,h4⟩:=xh.same s4
  refine ⟨ta,_,rfl,h1,rfl,_,_,rfl,_,_,rfl,_,_,rfl,rfl,?_⟩
  obtain ⟨t,v1,v2,dg,et,m1,m2⟩:=(mo.same s4).get mp
  refine ⟨_,rfl,_,rfl,dM,_,rfl,dg,_,_,_,true,rfl,rfl,.tup et,Sg,_,rfl,bg (fun c=>nomatch c) (fun _=>?_)⟩
  refine ⟨_,rfl,_,rfl,dM,_,rfl,dg,t,_,rfl,.inr (bJ.of et),rfl,_,rfl,IU rfl ?_⟩
  refine ⟨_,rfl,_,rfl,dM,_,rfl,dg,t,_,_,_,rfl,rfl,bJ.of et,iC,_,_,rfl,m1,fun H5 s5=>?_⟩
  refine ⟨_,rfl,bg (fun c=>nomatch c) (fun _=>?_)⟩
  obtain ⟨t,v1,v2,dg,et,m1,m2⟩:=(mo.same (s4.trans s5)).get mp
  refine ⟨_,rfl,_,rfl,dM,_,rfl,dg,t,_,_,_,rfl,rfl,bJ.of et,iD,_,_,rfl,m2,fun H6 s6=>?_⟩
  refine ⟨_,rfl,bg (fun c=>nomatch c) (fun _=>?_)⟩
  exact ⟨_,_,_,rfl,s4.trans (s5.trans s6)⟩
 ·rintro σ H4 ⟨o2,o3,o4,rfl,s4⟩
  exact q H4 s4
inductive qJ (K:Frag)(vs:ε)(H:Hp)(Q:VK)(E_:XK):Prop
|mk (pA bA dT dU dL:aef)(us ws:ε)(pins:ν)(aj:τ)(kT kU kL:γ)(T:Ι)(U:Α)(N:Nat)(L:θ)(_:vs=[.ref pA,.ref bA,.ref dT,.ref dU,.ref dL])(_:N' K H pA bA us ws pins aj)(_:Mr K H pins aj dT dU kT kU T U N)(_:H dL=some (.dK kL))(_:Mf K H kL L)(_:mvL L)(_:gB pins aj T U L)(_:∀H',au H H' ->Q (.bl true) H')
theorem tw:aC ["_law_pins_here","_law_bars_here","_law_pulls","_law_pushes","_law_load_here","_law_some","_law_found","_law_k","_law_drawn","_law_axis"] zaf (ae EX):=sq
theorem WX (D:Def K mg "_law_at_rest" EX zaf)(aX:mg "len"=none)(bf:mg "range"=none)(Sj:Fn P w K mg base (aY P w) 3 "_law_forces" zad (kX K))(i0:Fn P w K mg base (aY P w) 1 "_law_sum" zaa (b8 K eQ)):
  Fn P w K mg base (aY P w) 4 "_law_at_rest" zaf (qJ K):=by
 refine D.oo tw fun H hr h=>?_
 obtain ⟨pA,bA,dT,dU,dL,us,ws,pins,aj,kT,kU,kL,T,U,N,L,rfl,fr,pl,hL,pL,zL,rest,q⟩:=h
 have L2:2<=ael:=by decide
 have lp:=fr.lp
 have lb:=fr.lb
 have hN:=pl.hN
 have lu:us.length=pins.length:=aer fr.pp
 have lw:ws.length=aj.length:=aer fr.pb
 refine ⟨_,(aa (me (i:=5) (tn:=zaT) (fr:=["_law_pushes"]) (caps:=[3]) tw.nd (bx (pv 0)) (cv (b6 hr) (pv 1) (bD (cX (K:=K) rfl) (pv 0) ag) (fun _ _=>rfl)))
  (aa (aK (i:=6) tw.nd (aT Sj hr (iA (pv 0) (bE (pv 1) (dr (tn:=zaU) (fr:=["_law_pulls"]) (caps:=[2]) (bx (pv 1)) (cv (b6 hr) (pv 1) (bD (cX (K:=K) rfl) (pv 0) ag) (fun _ _=>rfl))) (pv 5)))))
  (aa (bC aev rfl (bK rfl bf (aS (aG aD rfl aX bS (aS (pv 0))))) (bW (i:=7) tw.nd) (aa (aK (i:=8) tw.nd (wg (b6 hr) (pv 4) (aF (bD aQ (pv 0) (pv 7))) (aU (aL (aU (aL ag ag)) (aU (aL ag ag)))) ⟨rfl,rfl,rfl,rfl⟩))
   (ah (bC aev rfl (bK rfl bf (aS ag)) (bW (i:=9) tw.nd) (ah (bh (bB gm (aF (aT i0 hr (aL (bD aQ (bD aQ (pv 6) (pv 7)) (pv 9)) (bD jJ (pv 8) (pv 9))))) ag) (ah (aE cN)) aI))))))
  (ah (aE cN))))),?_⟩
 refine ⟨_,rfl,pA,rfl,⟨_,aV.of fr.hp⟩,fun D1 n1=>?_⟩
 refine cy (cap:=[some (.ref dU)]) (K:=K) (a:=pA) (xs:=us) (fun i v H'=>∃p la ys,pins[i]?=some p/\v=.ref la/\H la=some (.lst ys)/\Paired (fN K H) ys (U p.nm)) n1 (by rw [lu];exact aap (show pins.length<=100 by omega) (by decide)) (fun H5 s5=>aV.of (s5 _ _ fr.hp)) (fun _ _ _ _ _ _ _ h=>h) ?_ ?_
 ·intro i u H5 R hu s5 k
  obtain ⟨p,ep,c,l,sv,eK,rfl,h1,_⟩:=aw fr.pp hu
  obtain ⟨la,ys,dg,hla,pu⟩:=pl.Si (Wp ep)
  obtain ⟨la',ys',dg',axp,_⟩:=(pl.same s5).Si (Wp ep)
  obtain ⟨la2,ys2,g1,g2,g3⟩:=pl.tU p (Wp ep)
  have dg5:dm H5 dU (.str p.nm) (some (.ref la2)):=by
   have:=dm.k (k:=.inr p.nm) (s5 _ _ pl.hU)
   rw [g1] at this
   exact this
  exact ⟨_,rfl,_,rfl,c,_,_,_,rfl,rfl,Ty.au.bI s5 h1,rfl,dU,_,rfl,dg5,k _ _ (au.refl _) ⟨p,la2,ys2,ep,rfl,g2,g3⟩⟩
 intro xs H2 hx gc s2 hD
 refine ⟨_,rfl,_,rfl,_,rfl,bA,rfl,⟨_,aV.of (s2 _ _ fr.hb)⟩,fun D3 n3=>?_⟩
 refine cy (cap:=[some (.ref dT)]) (K:=K) (a:=bA) (xs:=ws) (fun i v _=>∃b,aj[i]?=some b/\fN K H v (T b.nm)) n3 (by rw [lw];exact aap (show aj.length<=100 by omega) (by decide)) (fun H5 s5=>aV.of (s5 _ _ (s2 _ _ fr.hb))) (fun _ _ _ _ _ _ _ h=>h) ?_ ?_
 ·intro i u H5 R hu s5 k
  obtain ⟨b,eb,c,i1,i2,c0,rfl,h1,_⟩:=aw fr.pb hu
  have w8:=s2.trans s5
  obtain ⟨v,g1,g2⟩:=pl.tT b (Wp eb)
  have dg5:dm H5 dT (.str b.nm) (some v):=by
   have:=dm.k (k:=.inr b.nm) (w8 _ _ pl.hT)
   rw [g1] at this
   exact this
  exact ⟨_,rfl,_,rfl,c,_,_,_,rfl,rfl,Ty.au.bI w8 h1,rfl,dT,_,rfl,dg5,k _ _ (au.refl _) ⟨b,eb,g2⟩⟩
 intro ts H3 ht hrt s3 hT
 have yW:=s2.trans s3
 have fo:LFo K H3 D3 D1 ts xs pins aj T U N:=by
  refine ⟨hT,fT (by omega) fun i v e=>?_,s3 _ _ hD,fT (by omega) fun i v e=>?_,pl.lU,pl.hN⟩
  ·obtain ⟨b,eb,nv⟩:=hrt i v e
   exact ⟨b,eb,dF (nv.same yW) (pl.zT b (Wp eb))⟩
  ·obtain ⟨p,la,ys,ep,rfl,hla,pu⟩:=gc i v e
   have mp:=Wp ep
   refine ⟨p,ep,la,ys,rfl,yW _ _ hla,fT (aer pu) fun j y ey=>?_⟩
   obtain ⟨r,er,nr⟩:=aw pu ey
   exact ⟨r,er,dF (nr.same yW) (pl.zU p mp r (Wp er))⟩
 refine ⟨_,rfl,pA,bA,D3,D1,us,ws,ts,xs,pins,aj,T,U,N,rfl,fr.same yW,fo,fun fA ls F H4 s4 ll hF eF=>?_⟩
 have iF:=yW.trans s4
 have en:((us.length:Nat):Int).toNat=us.length:=by omega
 refine ⟨_,rfl,pA,_,rfl,.inl (aV.of (iF _ _ fr.hp)),((us.length:Nat):Int),rfl,by omega,by omega,bX (lo:=0) (n:=((us.length:Nat):Int).toNat) (fun t σ H'=>G' fun (o7 o8 o9:ψ)=>σ=[some (.ref pA),some (.ref bA),some (.ref dT),some (.ref dU),some (.ref dL),some (.ref D1),some (.ref fA),o7,o8,o9]/\au H4 H') ⟨none,none,none,rfl,au.refl _⟩ ?_ ?_⟩
 ·rintro t σ H5 ht ⟨o7,o8,o9,rfl,s5⟩
  have ek:(0:Int)+(t:Int)=(t:Int):=aaT _
  rw [ek]
  have w8:=iF.trans s5
  have htu:t<us.length:=by omega
  obtain ⟨p,ep,xh⟩:=aw fr.pp (gE htu)
  have mp:=Wp ep
  have atu:gh us (t:Int)=some us[t]:=bP (gE htu)
  obtain ⟨c,l,sv,eK,ec,h1,_,_,_⟩:=xh
  rw [ec] at atu
  refine ⟨_,rfl,dL,rfl,.inl ⟨_,.inl (w8 _ _ hL)⟩,_,rfl,_,rfl,pA,_,_,_,rfl,rfl,aV.of (w8 _ _ fr.hp),atu,c,_,_,_,rfl,rfl,Ty.au.bI w8 h1,dz,L2,?_⟩
  intro p7 n7;generalize eX:upd _ p7 _=H7;have ⟨s7,e7⟩:=nw n7 eX
  refine ⟨L2,?_⟩
  intro p8 n8;generalize eX:upd _ p8 _=H8;have ⟨s8,e8⟩:=nw n8 eX
  refine ⟨L2,?_⟩
  intro p9 n9;generalize eX:upd _ p9 _=H9;have ⟨s9,e9⟩:=nw n9 eX
  have s59:=s7.trans (s8.trans s9)
  have s09:=w8.trans s59
  refine ⟨_,dm.k (k:=.inr p.nm) (s09 _ _ hL),?_⟩
  have hd:eG K H9 ((bY kL (.inr p.nm)).getD (.ref p9)) (mv L p.nm):=(pL.same s09).UP (wZ c_ c_ e9 (s9 _ _ (s8 _ _ e7)) (s9 _ _ e8))
  have zd:=zL p.nm
  generalize (bY kL (.inr p.nm)).getD (.ref p9)=dv at hd ⊢
  obtain ⟨da,u1,u2,rfl,hdq,Mn,hd2⟩:=hd
  refine ⟨(2:Int),rfl,by decide,by decide,bX (lo:=0) (n:=2) (fun k σ H'=>∃(o9:ψ),σ=[some (.ref pA),some (.ref bA),some (.ref dT),some (.ref dU),some (.ref dL),some (.ref D1),some (.ref fA),some (.int (t:Int)),some (.ref da),o9]/\au H9 H') ⟨o9,rfl,au.refl _⟩ ?_ ?_⟩
  ·rintro k σ Pe hk ⟨o9,rfl,ye⟩
   have ek:(0:Int)+(k:Int)=(k:Int):=aaT _
   rw [ek]
   have Kt:(k:Int)=0\/(k:Int)=1:=by omega
   have F10:=hF.same (s5.trans (s59.trans ye))
   obtain ⟨lr,WY⟩:∃lr,ls[t]?=some lr:=⟨_,gE (by omega)⟩
   obtain ⟨w1,w2,hlr,nw1,nw2⟩:=F10.row t lr WY
   obtain ⟨f1,f2⟩:=eF t p ep
   obtain ⟨r1,r2⟩:=rest p mp
   obtain ⟨x,y,X,Y,a1,a2,nx,ny,zy,e0⟩:∃(x y:V)(X Y:Rat),gh [w1,w2] (k:Int)=some x/\gh [u1,u2] (k:Int)=some y/\gC K Pe x (1+92*(N+91)) X/\fN K Pe y Y/\Sz 1000 Y/\X+Y=0:=by
    rcases Kt with e|e
    ·exact ⟨w1,u1,_,_,by rw [e];rfl,by rw [e];rfl,nw1,Mn.same ye,zd.1,by rw [f1];exact r1⟩
    ·exact ⟨w2,u2,_,_,by rw [e];rfl,by rw [e];rfl,nw2,hd2.same ye,zd.2,by rw [f2];exact r2⟩
   have Tc:gh (ls.map V.ref) (t:Int)=some (.ref lr):=bP (by rw [aag,WY];rfl)
   refine ⟨_,rfl,_,rfl,fA,_,_,_,rfl,rfl,aV.of F10.hf,Tc,_,rfl,lr,_,_,_,rfl,rfl,aV.of hlr,a1,_,rfl,_,rfl,da,_,_,_,rfl,rfl,Ty.au.bI ye hdq,a2,?_⟩
   dsimp only [dJ]
   show b8 K eQ [_,_] _ _ E0
   refine jg nx (dF ny (m7 zy (aal _))) (by omega) fun p12 H12 yz S6=>?_
   rw [e0] at S6
   obtain ⟨z,⟨axu,e12,k1⟩,k2,k3,_⟩:=S6
   cases e12
   have z0:z.1=0:=(uU k2).mpr k3
   rw [z0] at k1
   refine ⟨p12,_,_,_,rfl,rfl,k1,iC,rfl,_,rfl,bg (fun c=>by simp at c) (fun _=>?_)⟩
   exact ⟨_,rfl,ye.trans yz⟩
  ·rintro σ Pe ⟨o9,rfl,ye⟩
   exact ⟨_,_,_,rfl,s5.trans (s59.trans ye)⟩
 ·rintro σ H5 ⟨o7,o8,o9,rfl,s5⟩
  exact q H5 (iF.trans s5)
structure xm (K:Frag)(H:Hp)(d:aef)(kvs:γ)(pins:ν)(L:θ):Prop where
 hd:H d=some (.dK kvs)
 pt:Mf K H kvs L
 nk:(kvs.map (·.1)).Nodup
 ks:∀kv∈kvs,∃x∈pins.map (·.nm),kv.1=.inr x
 sz:mvL L
 ll:kvs.length<=100
theorem xm.same (h:xm K H d kvs pins L)(s:au H H'):xm K H' d kvs pins L:=⟨s _ _ h.hd,h.pt.same s,h.nk,h.ks,h.sz,h.ll⟩
theorem xm.at (h:xm K H d kvs pins L){t:Nat}(e:kvs[t]?=some (k,y)):∃x,k=.inr x/\x∈pins.map (·.nm)/\eG K H y (mv L x):=by
 obtain ⟨x,hx,ek⟩:=h.ks _ (Wp e)
 have ek':k=.inr x:=ek
 subst ek'
 refine ⟨x,rfl,hx,?_⟩
 have ev:=jd h.nk e
 rcases h.pt x with ⟨z,_⟩|⟨v,p,z1,z2,z3⟩
 ·rw [ev] at z
  cases z
 ·rw [ev] at z1
  cases z1
  unfold mv
  rw [z2]
  exact z3
theorem Lo {f:Ι}:∀{ks names:ρ},ks.Nodup->names.Nodup->(∀x∈ks,x∈names)->(∀x∈names,x∉ks->f x=0)->(ks.map f).sum=(names.map f).sum:=by
 have adB:∀{f:Ι} {l:ρ},(∀x∈l,f x=0)->(l.map f).sum=0:=fun {f l} h=>by
  induction l with
  | nil=>rfl
  | cons a l ih=>
   rw [aaj,aaP,h a aas,ih fun x hx=>h x (aan _ hx)]
   grind
 have pull:∀{f:Ι} {k:Str} {l:ρ},l.Nodup->k∈l->(l.map f).sum=f k+(l.map fun x=>if x=k then 0 else f x).sum:=fun {f k l} nd hk=>by
  induction l with
  | nil=>cases hk
  | cons a l ih=>
   rw [aaR] at nd
   rw [aaj,aaj,aaP,aaP]
   by_cases c:a=k
   ·subst c
    rw [aek rfl]
    have e:(l.map fun x=>if x=a then 0 else f x)=l.map f:=aaO fun x hx=>aej (fun z=>nd.1 (by rw [<-z];exact hx))
    rw [e]
    grind
   ·have hk':k∈l:=by
     rcases aaL.mp hk with z|z
     ·exact aet z.symm c
     ·exact z
    rw [ih nd.2 hk',aej c]
    grind
 intro ks
 induction ks generalizing f with
 | nil=>
  intro names _ _ _ h
  rw [adB fun x hx=>h x hx (by simp)]
  rfl
 | cons k ks ih=>
  intro names nk nn sub h
  rw [aaR] at nk
  rw [aaj,aaP,pull nn (sub k aas)]
  congr 1
  rw [<-ih (f:=fun x=>if x=k then 0 else f x) nk.2 nn (fun x hx=>sub x (aan _ hx)) fun x hx nx=>?_]
  ·exact aeE List.sum (aaO fun x hx=>(aej (fun z:x=k=>nk.1 (by rw [<-z];exact hx))).symm)
  ·show (if x=k then 0 else f x)=0
   by_cases c:x=k
   ·rw [aek c]
   ·rw [aej c]
    exact h x hx (by
     intro z
     rcases aaL.mp z with z|z
     ·exact c z
     ·exact nx z)
def jW:Key->Str
 | .inr x=>x
 | .inl _=> ""
theorem xm.sum (h:xm K H d kvs pins L)(np:(pins.map (·.nm)).Nodup)(M:Β):(kvs.map fun kv=>dt (mv L (jW kv.1)) (M (jW kv.1))).sum=jA pins L M:=by
 have nk:(kvs.map fun kv=>jW kv.1).Nodup:=by
  have e:(kvs.map fun kv=>jW kv.1)=(kvs.map (·.1)).map jW:=by rw [aay];rfl
  rw [e]
  unfold akb
  rw [adm]
  refine ae_ (fun {a b} ha hb ne e=>ne ?_) h.nk
  obtain ⟨ka,hka,rfl⟩:=aai.mp ha
  obtain ⟨kb,hkb,rfl⟩:=aai.mp hb
  obtain ⟨x,_,ex⟩:=h.ks ka hka
  obtain ⟨y,_,ey⟩:=h.ks kb hkb
  rw [ex,ey] at e ⊢
  exact aeE aaU e
 have s:=Lo (f:=fun x=>dt (mv L x) (M x)) nk np (fun x hx=>by
  obtain ⟨kv,BE,rfl⟩:=aai.mp hx
  obtain ⟨y,hy,ey⟩:=h.ks kv BE
  rw [ey]
  exact hy) fun x hx nx=>by
   rcases h.pt x with ⟨_,z⟩|⟨v,p,z1,_,_⟩
   ·unfold mv
    rw [z]
    exact jf _
   ·exact aet (aai.mpr ⟨_,pM z1,rfl⟩) nx
 rw [aay,aay] at s
 exact s
inductive yX (K:Frag)(vs:ε)(H:Hp)(Q:VK)(E_:XK):Prop
|mk (d dM:aef)(kvs kM:γ)(pins:ν)(L:θ)(M:Β)(N:Nat)(_:vs=[.ref d,.ref dM])(_:xm K H d kvs pins L)(_:(pins.map (·.nm)).Nodup)(_:Mp K H pins dM kM M N)(_:dM≠d)(_:kvs.length<=9)(_:N<=1000000)(_:∀(v:V)(H':Hp),au H H' ->gC K H' v (1+9*(2*N+2002)) (jA pins L M)->Q v H')
theorem xo:aC ["_law_load_here","_law_motion","_law_total","_law_name_here","_law_drawn"] zaA (ae FD):=sq
theorem WZ (D:Def K mg "_law_work" FD zaA)(i0:Fn P w K mg base (aY P w) 1 "_law_sum" zaa (b8 K eQ))(Li:Fn P w K mg base (aY P w) 2 "_law_dot" zaa (qD K)):
  Fn P w K mg base (aY P w) 3 "_law_work" zaA (yX K):=by
 refine D.oo xo fun H hr h=>?_
 obtain ⟨d,dM,kvs,kM,pins,L,M,N,rfl,ld,np,mo,ne,lk,hN,q⟩:=h
 have L2:2<=ael:=by decide
 have sm:=ld.sum np M
 refine ⟨_,(aa (aK (i:=2) xo.nd (aU (aL ag ag)))
  (aa (og (bC aev rfl (kA (pv 0)) (eY rfl (aZ (bW (i:=3) xo.nd) (aZ (bW (i:=4) xo.nd) cU))) (ah (aK (i:=2) xo.nd (aT i0 hr (aL (pv 2) (aT Li hr (aL (pv 4) (cv (b6 hr) (pv 1) (pv 3) (fun _ _=>rfl))))))))))
  (ah (aE (pv 2))))),?_⟩
 refine ⟨L2,?_⟩
 intro t1 n1;generalize eX:upd _ t1 _=H1;have ⟨s1,e1⟩:=nw n1 eX
 have Td:=ld.same s1
 have mo1:=mo.same s1
 have t0:gC K H1 (.ref t1) (1+0*(2*N+2002)) ((kvs.take 0).map fun kv=>dt (mv L (jW kv.1)) (M (jW kv.1))).sum:=by
  rw [ads]
  exact ⟨(0,1),⟨t1,rfl,bJ.of e1⟩,by decide,(show vl ((0,1):Int×Int)=0 by decide+kernel),by decide,by decide⟩
 refine ⟨_,rfl,d,kvs,rfl,Td.hd,fun o=>?_⟩
 have st:∀{H':Hp},bQ d H1 H' ->bu H1 H':=fun {H'} k b xs r=>by
  rcases r with r|⟨o',r⟩
  ·exact .inl (k _ _ (fun e=>by rw [e,Td.hd] at r;cases r) r)
  ·exact .inr ⟨o',k _ _ (fun e=>by rw [e,Td.hd] at r;cases r) r⟩
 have k0:bQ d H1 (upd H1 d (.gi o (.dK kvs))):=fun b o' n e=>by rw [ao n];exact e
 refine ja (d:=d) (o:=o) (kvs:=kvs) (fun t σ H'=>G' fun (tv:V) (o3 o4:ψ)=>σ=[some (.ref d),some (.ref dM),some tv,o3,o4]/\bQ d H1 H'/\H' d=some (.gi o (.dK kvs))/\gC K H' tv (1+t*(2*N+2002)) ((kvs.take t).map fun kv=>dt (mv L (jW kv.1)) (M (jW kv.1))).sum) ⟨.ref t1,none,none,rfl,k0,ak,t0.aR (st k0)⟩ (fun t σ H' _ h=>by
   obtain ⟨_,_,_,_,_,h,_⟩:=h
   exact h) ?_ ?_
 ·rintro t k y σ H6 p7 yH ⟨tv,o3,o4,rfl,k6,NV,nt⟩ n7
  have ht:t<kvs.length:=(ir.mp yH).1
  obtain ⟨x,rfl,hx,hv⟩:=Td.at yH
  obtain ⟨p,mp,rfl⟩:=aai.mp hx
  have s7:=aH n7 (.tup [kV (.inr p.nm),y])
  have e7:(upd H6 p7 (.tup [kV (.inr p.nm),y])) p7=some (.tup [kV (.inr p.nm),y]):=ak
  generalize upd H6 p7 (.tup [kV (.inr p.nm),y])=H7 at s7 e7 ⊢
  have k7:bQ d H1 H7:=fun b o' n e=>s7 _ _ (k6 b o' n e)
  refine ⟨p7,_,rfl,bJ.of e7,rfl,_,_,rfl,_,_,rfl,rfl,?_⟩
  obtain ⟨tm,v1,v2,dg,et,m1,m2⟩:=mo1.tM p mp
  have dg7:dm H7 dM (.str p.nm) (some (.ref tm)):=by
   have:=dm.k (k:=.inr p.nm) (k7 _ _ ne mo1.hM)
   rw [dg] at this
   exact this
  have et7:H7 tm=some (.tup [v1,v2]):=k7 _ _ (fun e=>by rw [e,Td.hd] at et;cases et) et
  obtain ⟨da,u1,u2,rfl,hdq,Mn,hd2⟩:=hv.aR (st k7)
  have zd:=ld.sz p.nm
  have zm:=mo.zb p mp
  refine ⟨_,rfl,_,rfl,_,rfl,_,rfl,dM,_,rfl,dg7,?_⟩
  dsimp only [dJ]
  refine ⟨da,tm,u1,u2,v1,v2,_,_,_,_,1000,N,rfl,.inr hdq,.inr (bJ.of et7),dF Mn (m7 zd.1 (aal _)),dF hd2 (m7 zd.2 (aal _)),dF (m1.aR (st k7)) zm.1,dF (m2.aR (st k7)) zm.2,by omega,fun v8 H8 s8 n8=>?_⟩
  show b8 K eQ [_,_] _ _ E0
  have bt:t*(2*N+2002)<=8*(2*N+2002):=aaG _ (by omega)
  refine jg ((nt.same s7).same s8) n8 (by omega) fun p9 H9 s9 n9=>?_
  refine ⟨_,_,_,rfl,fun b o' n e=>s9 _ _ (s8 _ _ (k7 b o' n e)),s9 _ _ (s8 _ _ (s7 _ _ NV)),?_⟩
  have ew:((kvs.take (t+1)).map fun kv=>dt (mv L (jW kv.1)) (M (jW kv.1))).sum=((kvs.take t).map fun kv=>dt (mv L (jW kv.1)) (M (jW kv.1))).sum+((mv L p.nm).1*(M p.nm).1+(mv L p.nm).2*(M p.nm).2):=by
   rw [take_snoc yH,aax,akM,aaj,aa2,aaP,acs]
   show _+(dt (mv L p.nm) (M p.nm)+0)=_
   unfold dt
   grind
  rw [ew]
  exact n9.up (by rw [abx];omega)
 ·rintro σ H6 ⟨tv,o3,o4,rfl,k6,NV,nt⟩
  refine ⟨d,o,kvs,NV,fun o' u' z=>(by have z':H d=some (.gi o' u'):=z;rw [ld.hd] at z';cases z'),?_⟩
  have s2:au H1 (upd H6 d (.dK kvs)):=fun b o' e=>by
   by_cases n:b=d
   ·subst n
    rw [Td.hd] at e
    rw [ak]
    exact e
   ·rw [ao n]
    exact k6 b o' n e
  have t2:gC K (upd H6 d (.dK kvs)) tv (1+kvs.length*(2*N+2002)) ((kvs.take kvs.length).map fun kv=>dt (mv L (jW kv.1)) (M (jW kv.1))).sum:=nt.aR fun b xs r=>by
   rcases r with r|⟨o',r⟩
   ·exact .inl (by rw [ao (fun e=>by rw [e,NV] at r;cases r)];exact r)
   ·by_cases c:b=d
    ·rw [c,NV] at r
     cases r
    ·exact .inr ⟨o',by rw [ao c];exact r⟩
  generalize upd H6 d (.dK kvs)=H8 at s2 t2 ⊢
  rw [aaW,sm] at t2
  have bt:kvs.length*(2*N+2002)<=9*(2*N+2002):=aaG _ lk
  exact ⟨_,rfl,q tv H8 (s1.trans s2) (t2.up (by omega))⟩
theorem yY {α β:Type}{nm:α->Str}(b0:β){l:List α}(nd:(l.map nm).Nodup)(f:Nat->β):∃T:Str->β,∀(i:Nat)(x:α),l[i]?=some x->T (nm x)=f i:=by
 classical
 refine ⟨fun s=>if h:∃i,(l.map nm)[i]?=some s then f h.choose else b0,fun i x e=>?_⟩
 have e':(l.map nm)[i]?=some (nm x):=by rw [aag,e];rfl
 have h:∃i,(l.map nm)[i]?=some (nm x):=⟨i,e'⟩
 show (if h:∃i,(l.map nm)[i]?=some (nm x) then f h.choose else b0)=f i
 rw [dif_pos h]
 exact aeE f (dw nd h.choose_spec e')
theorem u9 (h:0<b)(h1:t.natAbs<32)(h2:b<32):Sz 5 (vl (t,b)):=yq (aaY h) (intBits_le_iff.mpr (by show _<32;omega)) (intBits_le_iff.mpr (by show _<32;omega))
theorem qK (e:H p=some (.tup [.int t,.int b]))(h:0<b)(h1:t.natAbs<32)(h2:b<32):gC K H (.ref p) 5 (vl (t,b)):=⟨(t,b),⟨p,rfl,bJ.of e⟩,h,rfl,(by show _<=32;omega),(by show _<=32;omega)⟩
theorem ng :∀(n:Nat) {us:ε} {zs:List α},Paired R us zs->Paired R (us.take n) (zs.take n)
 | 0,_,_,_=>by simpa using Paired.nil
 | n+1,_,_,.nil=>by simpa using Paired.nil
 | n+1,_,_,.cons h t=>by
  rw [aj7,aj7]
  exact .cons h (ng n t)
theorem Lp {α:Type}{f:α->Rat}:∀{l:List α},(∀x∈l,Sz k (f x))->Sz (l.length*(k+1)+1) (l.map f).sum
 | [],_=>by
  rw [aa2,acs]
  exact fm (by simp)
 | x::l,h=>by
  rw [aaj,aaP,aaQ]
  refine ((h x aas).add (Lp fun y hy=>h y (aan _ hy))).up ?_
  rw [abx]
  omega
theorem P4 :∀{us ws:Τ},(∀u∈us,Sz k u)->(∀w∈ws,Sz m w)->Sz (us.length*(k+m+1)+1) (sP us ws)
 | [],ws,_,_=>by
  rw [ig]
  exact fm (by simp)
 | u::us,[],_,_=>by
  have:sP (u::us) []=0:=by simp [sP]
  rw [this]
  exact fm (by simp)
 | u::us,w::ws,h1,h2=>by
  rw [eg,aaQ]
  refine (((h1 u aas).mul (h2 w aas)).add (P4 (us:=us) (ws:=ws) (fun y hy=>h1 y (aan _ hy)) fun y hy=>h2 y (aan _ hy))).up ?_
  rw [abx]
  omega
theorem xp (g:fG pins aj)(Te:aj.length<=7)(zT:∀b∈aj,Sz 5 (T b.nm))(zU:∀p∈pins,∀u∈U p.nm,Sz 5 u)(lU:∀p∈pins,(U p.nm).length=p.ws.length)(hp:p∈pins)(hc:∀{n:Nat} {w:Rat×Rat},Sz n w.1/\Sz n w.2->Sz n (c w)):Sz 900 (fg aj T U p c):=by
 unfold fg
 have z1:Sz ((U p.nm).length*(5+22+1)+1) (sP (U p.nm) (p.ws.map c)):=P4 (zU p hp) fun w hw=>by
  obtain ⟨w',Vl,rfl⟩:=aai.mp hw
  exact hc ((g.sz p hp).2.2 w' Vl)
 have z2:Sz (aj.length*(95+1)+1) (aj.map fun b=>T b.nm*c (mv (dR b) p.nm)).sum:=Lp fun b hb=>((zT b hb).mul (hc (K4 g hb p.nm))).up (by decide)
 have l1:=g.lw p hp
 have l2:=g.lb
 have l3:=lU p hp
 have m1:(U p.nm).length*(5+22+1)<=2*28:=aaG 28 (by omega)
 have m2:aj.length*(95+1)<=7*96:=aaG 96 Te
 exact (z1.add z2).up (by omega)
def Lq (aj:τ)(T:Ι)(U:Α)(p:ay):Rat×Rat:=(-(fg aj T U p (·.1)), -(fg aj T U p (·.2)))
theorem BL (h:0<q.2)(e:vl q=r):low (0-q.1) q.2=qr (-r):=by
 rw [f9 (aaY h),<-e]
 congr 1
 unfold vl
 push_cast
 grind
inductive yZ (K:Frag)(vs:ε)(H:Hp)(Q:VK)(E_:XK):Prop
|mk (sA pA bA:aef)(ns:ξ)(us ws:ε)(pins:ν)(aj:τ)(_:vs=[.ref sA,.ref pA,.ref bA])(_:aV K H sA (ns.map V.int))(_:N' K H pA bA us ws pins aj)(_:fG pins aj)(_:aj.length<=7)(_:∀(d:aef)(kvs:γ)(L:θ)(T:Ι)(U:Α)(H':Hp),au H H' ->H d=none->xm K H' d kvs pins L->(∀x,Sz 900 (mv L x).1/\Sz 900 (mv L x).2)->kvs.map (·.1)=pins.map (fun p=>(aaU p.nm:Key))->kvs.length<=9->gB pins aj T U L->Q (.ref d) H')
theorem iz:aC ["_law_script","_law_pins_here","_law_bars_here","_law_pulls","_law_bar","_law_pushes","_law_k","_law_cell","_law_some","_law_found","_law_load_here","_law_x","_law_y"] zaq (ae s_by):=sq
theorem W0 (D:Def K mg "_law_load" s_by zaq)(aX:mg "len"=none)(bf:mg "range"=none)(mz:Fn P w K mg base (aY P w) 1 "_law_cell_at" zav (mx K))(cE:Fn P w K mg base (aY P w) 1 "_law_field" zab du)(Sj:Fn P w K mg base (aY P w) 3 "_law_forces" zad (kX K))(nK:Fn P w K mg base (aY P w) 33 "_law_lowest" zas de):
  Fn P w K mg base (aY P w) 34 "_law_load" zaq (yZ K):=by
 refine D.op iz fun f cp A outer s H vs Q E hr h=>?_
 obtain ⟨sA,pA,bA,ns,us,ws,pins,aj,rfl,hS,fr,g,Te,q⟩:=h
 have nb:=g.nb
 have L2:2<=ael:=by decide
 have lp:=fr.lp
 have lb:=fr.lb
 have lu:us.length=pins.length:=aer fr.pp
 have lw:ws.length=aj.length:=aer fr.pb
 refine ⟨_,(aa (aK (i:=3) iz.nd (bV eZ))
  (aa (bC aev rfl (bx (pv 2)) (bW (i:=4) iz.nd) (ah (bq (gs aeH aeN aeP cQ (pv 3) (aS (aU (aL (aJ dj (aT cE hr (bE (aF (pv 4)) ag ag)) ag) ag)))))))
  (aa (aK (i:=5) iz.nd (bV eZ))
  (aa (bC aev rfl (bK rfl bf (aS (aG aD rfl aX bS (aS (pv 1))))) (bW (i:=6) iz.nd) (aa (aK (i:=7) iz.nd (aT mz hr (aL (pv 0) (aJ cf ag (pv 6)))))
   (aa (aK (i:=8) iz.nd (bV (aL (aU (aL (aJ dj (aT cE hr (bE (pv 7) ag ag)) ag) ag)) (aU (aL (aJ dj (aT cE hr (bE (pv 7) ag ag)) ag) ag)))))
   (ah (bq (gs aeH aeN aeP cQ (pv 5) (aS (cP gX (pv 8) fj (cM (aG aD rfl aX bS (aS (aF (bD aQ (pv 1) (pv 6))))))))))))))
  (aa (aK (i:=9) iz.nd (aT Sj hr (iA (pv 1) (bE (pv 2) (pv 3) (pv 5)))))
  (aa (aK (i:=10) iz.nd fZ)
  (aa (bC aev rfl (bK rfl bf (aS (aG aD rfl aX bS (aS (pv 1))))) (bW (i:=6) iz.nd) (aa (aK (i:=11) iz.nd (aT nK hr (aL (aJ dj ag (aF (mX (bD aQ (pv 9) (pv 6))))) (aF (mX (bD aQ (pv 9) (pv 6)))))))
   (aa (aK (i:=12) iz.nd (aT nK hr (aL (aJ dj ag (aF (mX (bD aQ (pv 9) (pv 6))))) (aF (mX (bD aQ (pv 9) (pv 6)))))))
   (ah (fM (b6 hr) (pv 10) (aF (bD aQ (pv 1) (pv 6))) (aU (aL (pv 11) (pv 12))) rfl)))))
  (ah (aE (pv 10)))))))))),?_⟩
 refine ⟨z0L,?_⟩
 intro lT nT;generalize eX:upd _ lT _=H1;have ⟨s1,eT⟩:=nw nT eX
 have Pu:=s1 _ _ fr.hb
 refine ⟨_,rfl,bA,rfl,⟨_,aV.of Pu⟩,ck (K:=K) (a:=bA) (xs:=ws) (fun i σ H'=>G' fun (o4:ψ) (ts:ε) (rs:Τ)=>σ=[some (.ref sA),some (.ref pA),some (.ref bA),some (.ref lT),o4,none,none,none,none,none,none,none,none]/\au H H'/\H' lT=some (.lst ts)/\Paired (fun v r=>gC K H' v 5 r) ts rs/\rs.length=i/\∀r∈rs,Sz 5 r) ⟨none,[],[],rfl,s1,eT,.nil,rfl,by simp⟩ (fun i σ H' _ h=>by
   obtain ⟨_,_,_,_,s,_⟩:=h
   exact aV.of (s _ _ fr.hb)) ?_ ?_⟩
 ·rintro i u σ H2 hu ⟨o4,ts,rs,rfl,s2,e2,pt,lr,zr⟩
  have hi:=(ir.mp hu).1
  have lt:ts.length=rs.length:=aer pt
  obtain ⟨b,eb,HG⟩:=aw fr.pb hu
  obtain ⟨ta,i1,i2,c0,rfl,hbt,_,_⟩:=HG.same s2
  have f1:=ba (c:=c0) (p:=4001) (m:=19) (by decide)
  refine ⟨_,rfl,.inl ⟨rfl,_,aV.of e2⟩,_,rfl,ta,_,_,_,rfl,rfl,hbt,rfl,_,_,_,rfl,by decide,by decide,by decide,_,_,rfl,rfl,L2,?_⟩
  intro p3 n3;generalize eX:upd _ p3 _=H3;have ⟨s3,e3⟩:=nw n3 eX
  have e23:=s3 _ _ e2
  refine ⟨lT,_,_,rfl,rfl,e23,aap (show ts.length<=100 by omega) (by decide),?_⟩
  have st:bu H3 (upd H3 lT (.lst (ts++[.ref p3]))):=.list e23
  refine ⟨_,ts++[.ref p3],rs++[vl (field c0 4001 19-9,1)],rfl,fun b o z=>?_,ak,cI (Paired.bL pt fun _ _ z=>(z.same s3).aR st) ((qK e3 (by omega) (by omega) (by omega)).aR st),by simp [lr],fun r hr=>?_⟩
  ·rw [ao (aq z nT)]
   exact s3 _ _ (s2 _ _ z)
  ·rcases aau.mp hr with z|z
   ·exact zr r z
   ·rw [aao.mp z]
    exact u9 (by omega) (by omega) (by omega)
 rintro σ H2 ⟨o4,ts,rs,rfl,s2,e2,pt,lr,zr⟩
 rw [lw] at lr
 refine ⟨z0L,?_⟩
 intro lU nU;generalize eX:upd _ lU _=H3;have ⟨s3,eU⟩:=nw nU eX
 have yW:=s2.trans s3
 have en2:((us.length:Nat):Int).toNat=us.length:=by omega
 refine ⟨_,rfl,pA,_,rfl,.inl (aV.of (yW _ _ fr.hp)),((us.length:Nat):Int),rfl,by omega,by omega,bX (lo:=0) (n:=((us.length:Nat):Int).toNat) (fun i σ H'=>S2 fun (o6 o7 o8:ψ) (xs:ε) (HH:List (List Rat))=>σ=[some (.ref sA),some (.ref pA),some (.ref bA),some (.ref lT),o4,some (.ref lU),o6,o7,o8,none,none,none,none]/\au H2 H'/\H' lU=some (.lst xs)/\Paired (fun v rs=>∃la ys,v=.ref la/\la≠lU/\H' la=some (.lst ys)/\Paired (fun v r=>gC K H' v 5 r) ys rs) xs HH/\HH.length=i/\∀(j:Nat)(rs:Τ)(p:ay),HH[j]?=some rs->pins[j]?=some p->rs.length=p.ws.length/\∀r∈rs,Sz 5 r) ⟨none,none,none,[],[],rfl,s3,eU,.nil,rfl,by simp⟩ ?_ ?_⟩
 ·rintro i σ H4 hi ⟨o6,o7,o8,xs,HH,rfl,s4,e4,Py,lr',zz⟩
  have ek:(0:Int)+(i:Int)=(i:Int):=aaT _
  rw [ek]
  have iF:=s2.trans s4
  have lx:xs.length=HH.length:=aer Py
  have W5:i<us.length:=by omega
  obtain ⟨p,ep,xh⟩:=aw fr.pp (gE W5)
  have mp:=Wp ep
  obtain ⟨ta,l,sv,cA,eu,h1,h2,h3,h4⟩:=xh.same iF
  have ai:gh us (i:Int)=some (.ref ta):=bP (by rw [gE W5,eu])
  have lv:cA.length=p.ws.length:=aer h4
  have lwp:=(fr.gp.ws p mp).len
  refine ⟨_,rfl,_,rfl,_,_,rfl,rfl,sA,ns,_,rfl,iF.seq hS,by omega,by omega,?_⟩
  generalize cell ns (24+(i:Int))=c0
  have f1:=ba (c:=c0) (p:=6007) (m:=19) (by decide)
  have f2:=ba (c:=c0) (p:=7001) (m:=19) (by decide)
  refine ⟨_,rfl,_,_,_,rfl,by decide,by decide,by decide,_,_,rfl,rfl,L2,?_⟩
  intro p5 n5;generalize eX:upd _ p5 _=H5;have ⟨s5,e5⟩:=nw n5 eX
  refine ⟨_,rfl,_,_,_,rfl,by decide,by decide,by decide,_,_,rfl,rfl,L2,?_⟩
  intro p6 n6;generalize eX:upd _ p6 _=H6;have ⟨s6,e6⟩:=nw n6 eX
  refine ⟨L2,?_⟩
  intro l7 n7;generalize eX:upd _ l7 _=H7;have ⟨s7,e7⟩:=nw n7 eX
  have W7:=s5.trans (s6.trans s7)
  have e47:=W7 _ _ e4
  refine ⟨_,rfl,.inl ⟨rfl,_,aV.of e47⟩,_,rfl,_,rfl,_,rfl,pA,_,_,_,rfl,rfl,aV.of ((iF.trans W7) _ _ fr.hp),ai,ta,_,_,_,rfl,rfl,Ty.au.bI W7 h1,rfl,l,_,rfl,.inl (aV.of (W7 _ _ h3)),_,rfl,l7,_,rfl,aV.of e7,?_⟩
  rw [oj (show cA.length<=[V.ref p5,V.ref p6].length by show cA.length<=2;omega)]
  intro la n8;generalize eX:upd _ la _=H8;have ⟨s8,e8⟩:=nw n8 eX
  have e48:=s8 _ _ e47
  have S_:=W7.trans s8
  refine ⟨lU,_,_,rfl,rfl,e48,aap (show xs.length<=100 by omega) (by decide),?_⟩
  have st:bu H8 (upd H8 lU (.lst (xs++[.ref la]))):=.list e48
  have Mo:la≠lU:=fun z=>by rw [z,e47] at n8;cases n8
  have two:Paired (fun v r=>gC K H8 v 5 r) [V.ref p5,V.ref p6] [vl (field c0 6007 19-9,1),vl (field c0 7001 19-9,1)]:=.cons (qK (s8 _ _ (s7 _ _ (s6 _ _ e5))) (by decide) (by omega) (by decide)) (.cons (qK (s8 _ _ (s7 _ _ e6)) (by decide) (by omega) (by decide)) .nil)
  refine ⟨_,_,_,xs++[.ref la],HH++[[vl (field c0 6007 19-9,1),vl (field c0 7001 19-9,1)].take cA.length],rfl,fun b o z=>?_,ak,cI (Paired.bL Py fun v rs ⟨la',ys,a,b,c,d⟩=>⟨la',ys,a,b,by rw [ao b];exact S_ _ _ c,Paired.bL d fun _ _ z=>(z.same S_).aR st⟩) ⟨la,_,rfl,Mo,by rw [ao Mo];exact e8,Paired.bL (ng _ two) fun _ _ z=>z.aR st⟩,by simp [lr'],fun j rs p' ej rX =>?_⟩
  ·rw [ao (aq z nU)]
   exact S_ _ _ (s4 _ _ z)
  ·by_cases c:j<HH.length
   ·rw [aar c] at ej
    exact zz j rs p' ej rX
   ·rw [aav (by omega)] at ej
    have ej0:j=i:=by
     by_cases z:j-HH.length=0
     ·omega
     ·rw [aam (by simp;omega)] at ej
      cases ej
    subst ej0
    rw [show j-HH.length=0 by omega] at ej
    cases ej
    rw [ep] at rX
    cases rX
    refine ⟨?_,fun r hr=>?_⟩
    ·rw [aaJ]
     show min cA.length 2=p.ws.length
     omega
    ·have:=aj5 hr
     rcases aaL.mp this with z|z
     ·rw [z]
      exact u9 (by decide) (by omega) (by decide)
     ·rw [aao.mp z]
      exact u9 (by decide) (by omega) (by decide)
 rintro σ H4 ⟨ok,oc,os,xs,HH,rfl,s4,e4,Py,lr',zz⟩
 rw [en2,lu] at lr'
 obtain ⟨T,hT⟩:=yY (nm:=a_.nm) (0:Rat) nb fun i=>rs.getD i 0
 obtain ⟨U,hU⟩:=yY (nm:=ay.nm) ([]:List Rat) fr.gp.np fun i=>HH.getD i []
 have tT:∀(i:Nat)(b:a_),aj[i]?=some b->rs[i]?=some (T b.nm):=fun i b e=>by
  have hi:=(ir.mp e).1
  rw [hT i b e,aaE,gE (by omega)]
  rfl
 have tU:∀(i:Nat)(p:ay),pins[i]?=some p->HH[i]?=some (U p.nm):=fun i p e=>by
  have hi:=(ir.mp e).1
  rw [hU i p e,aaE,gE (by omega)]
  rfl
 have fo:LFo K H4 lT lU ts xs pins aj T U 5:=by
  refine ⟨s4 _ _ e2,fT (by rw [aer pt,lr]) fun i v e=>?_,e4,fT (by rw [aer Py,lr']) fun i v e=>?_,fun p hp=>?_,by decide⟩
  ·obtain ⟨r,er,nr⟩:=aw pt e
   have hi:=(ir.mp er).1
   obtain ⟨b,eb⟩:∃b,aj[i]?=some b:=⟨_,gE (by omega)⟩
   have:=tT i b eb
   rw [er] at this
   exact ⟨b,eb,by rw [<-aaA this];exact nr.same s4⟩
  ·obtain ⟨rs',er,la,ys,a,b,c,d⟩:=aw Py e
   have hi:=(ir.mp er).1
   obtain ⟨p,ep⟩:∃p,pins[i]?=some p:=⟨_,gE (by omega)⟩
   have:=tU i p ep
   rw [er] at this
   exact ⟨p,ep,la,ys,a,c,by rw [<-aaA this];exact d⟩
  ·obtain ⟨i,ei⟩:=aaq hp
   exact (zz i _ p (tU i p ei) ei).1
 have zT:∀b∈aj,Sz 5 (T b.nm):=fun b hb=>by
  obtain ⟨i,ei⟩:=aaq hb
  exact zr _ (Wp (tT i b ei))
 have zU:∀p∈pins,∀u∈U p.nm,Sz 5 u:=fun p hp u hu=>by
  obtain ⟨i,ei⟩:=aaq hp
  exact (zz i _ p (tU i p ei) ei).2 u hu
 have iF:=s2.trans s4
 refine ⟨_,rfl,_,rfl,_,rfl,_,rfl,pA,bA,lT,lU,us,ws,ts,xs,pins,aj,T,U,5,rfl,fr.same iF,fo,fun fA ls F H1 s1 ll hF eF=>?_⟩
 have PU:=iF.trans s1
 obtain ⟨L,hL⟩:=yY (nm:=ay.nm) ((0,0):Rat×Rat) fr.gp.np fun i=>(pins[i]?.map (Lq aj T U)).getD (0,0)
 have eL:∀(i:Nat)(p:ay),pins[i]?=some p->L p.nm=Lq aj T U p:=fun i p e=>by
  rw [hL i p e,e]
  rfl
 intro d nd;generalize eX:upd _ d _=H2;have ⟨s2,e2⟩:=nw nd eX
 have qe:=PU.trans s2
 have enb:((us.length:Nat):Int).toNat=us.length:=by omega
 refine ⟨_,rfl,pA,_,rfl,.inl (aV.of (qe _ _ fr.hp)),((us.length:Nat):Int),rfl,by omega,by omega,bX (lo:=0) (n:=((us.length:Nat):Int).toNat) (fun i σ H'=>HE fun (o5 o6 o7:ψ) (kvs:γ)=>σ=[some (.ref sA),some (.ref pA),some (.ref bA),some (.ref lT),o4,some (.ref lU),o5,oc,os,some (.ref fA),some (.ref d),o6,o7]/\au H1 H'/\H' d=some (.dK kvs)/\kvs.map (·.1)=(pins.take i).map (fun p=>(aaU p.nm:Key))/\∀(j:Nat)(p:ay),(pins.take i)[j]?=some p->∃v,kvs[j]?=some (.inr p.nm,v)/\eG K H' v (L p.nm)) ⟨ok,none,none,[],rfl,s2,e2,by simp,fun j p e=>by simp at e⟩ ?_ ?_⟩
 ·rintro i σ H3 hi ⟨o5,o6,o7,kvs,rfl,s3,e3,ky,tv⟩
  have ek:(0:Int)+(i:Int)=(i:Int):=aaT _
  rw [ek]
  have yW:=PU.trans s3
  have W5:i<us.length:=by omega
  obtain ⟨p,ep,xh⟩:=aw fr.pp (gE W5)
  have mp:=Wp ep
  obtain ⟨ta,lw,sv,cA,eu,h1,_,_,_⟩:=xh.same yW
  have ai:gh us (i:Int)=some (.ref ta):=bP (by rw [gE W5,eu])
  have F3:=hF.same s3
  obtain ⟨lr,WY⟩:∃lr,ls[i]?=some lr:=⟨_,gE (by omega)⟩
  obtain ⟨w1,w2,hlr,⟨q1,⟨a1,rfl,m1⟩,b1,c1,_⟩,⟨q2,⟨a2,rfl,m2⟩,b2,c2,_⟩⟩:=F3.row i lr WY
  obtain ⟨f1,f2⟩:=eF i p ep
  have Tc:gh (ls.map V.ref) (i:Int)=some (.ref lr):=bP (by rw [aag,WY];rfl)
  have lf:=aV.of (K:=K) F3.hf
  have lrq:=aV.of (K:=K) hlr
  refine ⟨_,rfl,_,rfl,fA,_,_,_,rfl,rfl,lf,Tc,lr,_,_,_,rfl,rfl,lrq,rfl,a1,_,_,_,rfl,rfl,m1,iC,_,_,rfl,rfl,_,rfl,_,rfl,fA,_,_,_,rfl,rfl,lf,Tc,lr,_,_,_,rfl,rfl,lrq,rfl,a1,_,_,_,rfl,rfl,m1,iD,_,_,rfl,b1,fun p4 H4 s4 e4=>?_⟩
  rw [BL b1 (c1.trans f1)] at e4
  have lf4:=aV.of (K:=K) (s4 _ _ F3.hf)
  have lr4:=aV.of (K:=K) (s4 _ _ hlr)
  have m24:=Ty.au.bI s4 m2
  refine ⟨_,rfl,_,rfl,fA,_,_,_,rfl,rfl,lf4,Tc,lr,_,_,_,rfl,rfl,lr4,rfl,a2,_,_,_,rfl,rfl,m24,iC,_,_,rfl,rfl,_,rfl,_,rfl,fA,_,_,_,rfl,rfl,lf4,Tc,lr,_,_,_,rfl,rfl,lr4,rfl,a2,_,_,_,rfl,rfl,m24,iD,_,_,rfl,b2,fun p5 H5 s5 e5=>?_⟩
  rw [BL b2 (c2.trans f2)] at e5
  refine ⟨_,rfl,_,rfl,L2,?_⟩
  intro p6 n6;generalize eX:upd _ p6 _=H6;have ⟨s6,e6⟩:=nw n6 eX
  have Mq:=s4.trans (s5.trans s6)
  have e36:=Mq _ _ e3
  have lk:kvs.length=i:=by
   have:=aeE acf ky
   rw [aah,aah,aaJ] at this
   omega
  refine ⟨_,rfl,_,rfl,_,rfl,pA,_,_,_,rfl,rfl,aV.of ((yW.trans Mq) _ _ fr.hp),ai,ta,_,_,_,rfl,rfl,Ty.au.bI Mq h1,dz,d,_,rfl,kz.k (k:=.inr p.nm) e36 (aap (show kvs.length<=100 by omega) (by decide)),?_⟩
  have new:bY kvs (.inr p.nm)=none:=cb (by
   rw [ky]
   intro z
   obtain ⟨p',iY,e'⟩:=aai.mp z
   exact f_ (nm:=ay.nm) fr.gp.np ep iY (by injection e'))
  rw [dI _ new]
  have t6:bu H6 (upd H6 d (.dK (kvs++[(.inr p.nm,.ref p6)]))):=fun b zs r=>by
   rcases r with r|⟨o',r⟩
   ·exact .inl (by rw [ao (fun e=>by rw [e,e36] at r;cases r)];exact r)
   ·exact .inr ⟨o',by rw [ao (fun e=>by rw [e,e36] at r;cases r)];exact r⟩
  have pv:eG K H6 (.ref p6) (L p.nm):=by
   rw [eL i p ep]
   exact ⟨p6,_,_,rfl,bJ.of e6,iy (s6 _ _ (s5 _ _ e4)),iy (s6 _ _ e5)⟩
  refine ⟨_,_,_,kvs++[(.inr p.nm,.ref p6)],rfl,fun b o z=>?_,ak,?_,fun j p' ej=>?_⟩
  ·rw [ao (aq z nd)]
   exact Mq _ _ (s3 _ _ z)
  ·rw [aax,ky,take_snoc ep,aax]
   rfl
  ·rw [take_snoc ep] at ej
   have l0:(pins.take i).length=i:=by rw [aaJ];omega
   by_cases c:j<i
   ·rw [aar (by omega)] at ej
    obtain ⟨v,e1,e2⟩:=tv j p' ej
    exact ⟨v,by rw [aar (by omega)];exact e1,(e2.same Mq).aR t6⟩
   ·have ej0:j=i:=by
     rw [aav (by omega)] at ej
     by_cases z:j-(pins.take i).length=0
     ·omega
     ·rw [aam (by simp only [abH];omega)] at ej
      cases ej
    subst ej0
    rw [aav (by omega),show j-(pins.take j).length=0 by omega] at ej
    cases ej
    exact ⟨.ref p6,by rw [aav (by omega),show j-kvs.length=0 by omega];rfl,pv.aR t6⟩
 ·rintro σ H3 ⟨o5,o6,o7,kvs,rfl,s3,e3,ky,tv⟩
  rw [enb,lu,aaW] at ky tv
  have lk:kvs.length=pins.length:=by
   have:=aeE acf ky
   rw [aah,aah] at this
   exact this
  have nk:(kvs.map (·.1)).Nodup:=by
   rw [ky]
   have:(pins.map fun p=>(aaU p.nm:Key))=(pins.map (·.nm)).map aaU:=by rw [aay];rfl
   rw [this]
   exact List.Pairwise.map _ (fun a b n z=>n (by injection z)) fr.gp.np
  have mvp:∀p∈pins,mv (fun x=>if x∈pins.map (·.nm) then some (L x) else none) p.nm=L p.nm:=fun p hp=>by
   show (if p.nm∈pins.map (·.nm) then some (L p.nm) else none).getD (0,0)=L p.nm
   rw [aek (aai.mpr ⟨p,hp,rfl⟩)]
   rfl
  have z9:∀x,Sz 900 (mv (fun x=>if x∈pins.map (·.nm) then some (L x) else none) x).1/\Sz 900 (mv (fun x=>if x∈pins.map (·.nm) then some (L x) else none) x).2:=fun x=>by
   by_cases c:x∈pins.map (·.nm)
   ·obtain ⟨p,mp,rfl⟩:=aai.mp c
    rw [mvp p mp]
    obtain ⟨i,ei⟩:=aaq mp
    rw [eL i p ei]
    exact ⟨(xp g Te zT zU fo.lU mp (fun h=>h.1)).neg,(xp g Te zT zU fo.lU mp (fun h=>h.2)).neg⟩
   ·show Sz 900 ((if x∈pins.map (·.nm) then some (L x) else none).getD (0,0)).1/\Sz 900 ((if x∈pins.map (·.nm) then some (L x) else none).getD (0,0)).2
    rw [aej c]
    exact ⟨fm (by decide),fm (by decide)⟩
  refine ⟨_,rfl,q d kvs (fun x=>if x∈pins.map (·.nm) then some (L x) else none) T U H3 (PU.trans s3) (PU.free nd) ⟨e3,fun x=>?_,nk,fun kv BE=>?_,fun x=>⟨(z9 x).1.up (by decide),(z9 x).2.up (by decide)⟩,by omega⟩ z9 ky (by omega) fun p hp=>?_⟩
  ·by_cases c:x∈pins.map (·.nm)
   ·obtain ⟨p,mp,rfl⟩:=aai.mp c
    obtain ⟨i,ei⟩:=aaq mp
    obtain ⟨v,a,b⟩:=tv i p ei
    exact .inr ⟨v,L p.nm,jd nk a,aek c,b⟩
   ·refine .inl ⟨cb (fun z=>c ?_),aej c⟩
    rw [ky] at z
    obtain ⟨p,mp,e⟩:=aai.mp z
    exact aai.mpr ⟨p,mp,by injection e⟩
  ·have:kv.1∈kvs.map (·.1):=aai.mpr ⟨kv,BE,rfl⟩
   rw [ky] at this
   obtain ⟨p',mp,e⟩:=aai.mp this
   exact ⟨p'.nm,aai.mpr ⟨p',mp,rfl⟩,e.symm⟩
  ·rw [mvp p hp]
   obtain ⟨i,ei⟩:=aaq hp
   rw [eL i p ei]
   unfold Lq
   constructor<;>grind
inductive BM (K:Frag)(H:Hp)(pins:ν)(aj:τ)(L:θ)(d p:aef)(N:Nat):Prop
|mk (dM:aef)(kM:γ)(M:Β)(_:H p=some (.tup [.str "moves",.ref dM]))(_:dM≠d)(_:Mp K H pins dM kM M N)(_:qp pins aj M)(_:jA pins L M=1)
inductive Lr (K:Frag)(H:Hp)(pins:ν)(aj:τ)(L:θ)(p:aef)(N:Nat):Prop
|mk (dT dU:aef)(kT kU:γ)(T:Ι)(U:Α)(_:H p=some (.tup [.str "rest",.ref dT,.ref dU]))(_:Mr K H pins aj dT dU kT kU T U N)(_:gB pins aj T U L)
theorem xq {kvs:γ}(nd:(kvs.map (·.1)).Nodup)(k:Key):bY kvs.reverse k=bY kvs k:=by
 have nr:(kvs.reverse.map (·.1)).Nodup:=by
  rw [adE]
  exact adA.mpr (adn (fun h=>aaD h) nd)
 by_cases c:k∈kvs.map (·.1)
 ·obtain ⟨v,ev⟩:=dS c
  have m:=pM ev
  obtain ⟨i,ei⟩:=aaq (ai_.mpr m)
  rw [ev,jd nr ei]
 ·rw [cb c,cb (fun z=>c (by rw [adE] at z;exact ai_.mp z))]
theorem xm.rev (h:xm K H d kvs pins L)(e:H d'=some (.dK kvs.reverse)):xm K H d' kvs.reverse pins L:=by
 refine ⟨e,fun nm=>?_,?_,fun kv BE=>h.ks kv (ai_.mp BE),h.sz,by rw [ab9];exact h.ll⟩
 ·rcases h.pt nm with ⟨a,b⟩|⟨v,q,a,b,c⟩
  ·exact .inl ⟨by rw [xq h.nk];exact a,b⟩
  ·exact .inr ⟨v,q,by rw [xq h.nk];exact a,b,c⟩
 ·rw [adE]
  exact adA.mpr (adn (fun h=>aaD h) h.nk)
theorem W9 (e:H' p=some (.tup [.str "moves",.ref dM]))(mo:MoR K H H' pins dM kM M)(mm:qp pins aj M)(wk:jA pins L M=1)(zb:∀p∈pins,Zb N (M p.nm).1/\Zb N (M p.nm).2)(hN:N<=1000000)(hd:H d=some o):BM K H' pins aj L d p N:=
 ⟨dM,kM,M,e,(fun z=>by
  have:=mo.nM
  rw [z,hd] at this
  cases this),⟨mo.hM,mo.keys,mo.tM,zb,by omega⟩,mm,wk⟩
theorem W_ (e:H' p=some (.tup [.str "rest",.ref dT,.ref dU]))(pr:PPR K H H' pins aj dT dU kT kU T U Lx)(rest:gB pins aj T U L)(z1:∀b∈aj,Zb N (T b.nm))(z2:∀p∈pins,∀u∈U p.nm,Zb N u)(hN:N<=1000000):Lr K H' pins aj L p N:=
 ⟨dT,dU,kT,kU,T,U,e,⟨pr.hT,pr.hU,pr.KW,pr.KY,pr.tT,fun q hq=>by
    obtain ⟨vs,a,_,c,d⟩:=pr.tU q hq
    exact ⟨_,vs,a,c,d⟩,pr.lU,z1,z2,hN⟩,rest⟩
def Tells (K:Frag)(H H':Hp)(pins:ν)(aj:τ)(L:θ)(p:aef):Prop:=
 (∃(dM:aef)(kM:γ)(M:Β),H' p=some (.tup [.str "moves",.ref dM])/\MoR K H H' pins dM kM M/\qp pins aj M/\jA pins L M=1/\∀p∈pins,Zb (zL pins.length) (M p.nm).1/\Zb (zL pins.length) (M p.nm).2)\/
 ∃(T:Ι)(U:Α)(Lx:Str->aef)(dT dU:aef)(kT kU:γ),H' p=some (.tup [.str "rest",.ref dT,.ref dU])/\PPR K H H' pins aj dT dU kT kU T U Lx/\gB pins aj T U L/\(∀b∈aj,Zb (zL pins.length) (T b.nm))/\∀p∈pins,∀u∈U p.nm,Zb (zL pins.length) u
theorem Ls (R:vw K H C a pins aj)(g:fG pins aj)(ld:xm K H d kvs pins L)(k:∀(p:aef)(H':Hp),au H H' ->Tells K H H' pins aj L p->Q (.ref p) H'):uS K C [.ref a,.ref d] H Q E:=
 ⟨a,d,pins,aj,kvs,L,rfl,R,g,g.lp,ld.hd,ld.pt,ld.sz,ld.ks,fun M p dM kM H' s e mo mm wk zb=>k p H' s (.inl ⟨dM,kM,M,e,mo,mm,wk,zb⟩),fun T U Lx p dT dU kT kU H' s e pr rest z1 z2=>k p H' s (.inr ⟨T,U,Lx,dT,dU,kT,kU,e,pr,rest,z1,z2⟩)⟩
theorem Tells.told (h:Tells K H H' pins aj L p)(lp:pins.length<=9)(hd:H d=some o):BM K H' pins aj L d p (zL pins.length)\/Lr K H' pins aj L p (zL pins.length):=by
 have z9:=zL9 lp
 rcases h with ⟨dM,kM,M,e,mo,mm,wk,zb⟩|⟨T,U,Lx,dT,dU,kT,kU,e,pr,rest,z1,z2⟩
 ·exact .inl (W9 e mo mm wk zb (by omega) hd)
 ·exact .inr (W_ e pr rest z1 z2 (by omega))
inductive mC (K:Frag)(vs:ε)(H:Hp)(Q:VK)(E_:XK):Prop
|mk (d:aef)(c:Int)(kvs:γ)(pins:ν)(L:θ)(_:vs=[.ref d,.int c])(_:xm K H d kvs pins L)(_:kvs.length<=9)(_:∀(d':aef)(iE :γ)(H':Hp),au H H' ->xm K H' d' iE pins L->Q (.ref d') H')
theorem jq:aC zaw zaw (ae bZ):=sq
theorem jr (D:Def K mg "_law_turned_about" bZ zaw)(b7:mg "list"=none)(d_:mg "dict"=none)(cE:Fn P w K mg base (aY P w) 1 "_law_field" zab du):
  Fn P w K mg base (aY P w) 2 "_law_turned_about" zaw (mC K):=by
 refine D.oo jq fun H hr h=>?_
 obtain ⟨d,c,kvs,pins,L,rfl,ld,lk,q⟩:=h
 refine ⟨_,(aa (bh (bB dq (aT cE hr (bE (pv 1) ag ag)) ag) (ah (aE (b_ (yB rfl) rfl d_ oT (aS (Rk (K:=K) rfl (DO rfl rfl b7 (pv 0)) (zD tI ag)))))) aI)
  (ah (aE (b_ yn rfl d_ oT (aS (pv 0)))))),?_⟩
 refine ⟨_,rfl,_,_,_,rfl,by decide,by decide,by decide,rfl,_,rfl,?_⟩
 refine bg (fun _=>?_) (fun _=>?_)
 ·refine ⟨_,rfl,d,kvs,rfl,ld.hd,fun lI ui HI sI nI eI pI=>?_⟩
  refine ⟨_,rfl,rfl,lI,_,rfl,aV.of eI,?_⟩
  intro lJ nJ;generalize eX:upd _ lJ _=HJ;have ⟨sJ,eJ⟩:=nw nJ eX
  have lui:ui.length=kvs.length:=aer pI
  have nk1:((([]:List (Key×V))++kvs.reverse).map (·.1)).Nodup:=by
   rw [ace,adE]
   exact adA.mpr (adn (fun h=>aaD h) ld.nk)
  refine ⟨lJ,ui.reverse,kvs.reverse,rfl,eJ,by rw [ab9,ab9];exact lui,by rw [ab9];omega,fun j u kv e1 e2=>?_,fun l H' s' n' e'=>?_⟩
  ·have hj:=(ir.mp e1).1
   rw [ab9] at hj
   rw [acL hj] at e1
   rw [acL (by omega),<-lui] at e2
   obtain ⟨S1,e3,p,e4,e5⟩:=aw pI e1
   rw [e2] at e3
   cases e3
   exact ⟨p,e4,sJ _ _ e5⟩
  ·rw [ie _ _ nk1,ace] at e'
   have s5':=sI.trans (sJ.trans s')
   exact q l kvs.reverse H' s5' ((ld.same s5').rev e')
 ·refine ⟨_,rfl,d,kvs,rfl,.inl ld.hd,?_⟩
  intro dh nh;generalize eX:upd _ dh _=H7;have ⟨sh,eh⟩:=nw nh eX
  have Xa:=ld.same sh
  exact q dh kvs H7 sh ⟨eh,Xa.pt,Xa.nk,Xa.ks,Xa.sz,Xa.ll⟩
inductive u_ (K:Frag)(vs:ε)(H:Hp)(Q:VK)(E_:XK):Prop
|mk (pA bA d p:aef)(us ws:ε)(pins:ν)(aj:τ)(kvs:γ)(L:θ)(N:Nat)(_:vs=[.ref pA,.ref bA,.ref d,.ref p])(_:N' K H pA bA us ws pins aj)(_:xm K H d kvs pins L)(_:kvs.length<=9)(_:N<=1000000)(_:BM K H pins aj L d p N)(_:∀H',au H H' ->Q (.bl true) H')
theorem iq:aC ["_law_pins_here","_law_bars_here","_law_load_here","_law_told","_law_bar","_law_total"] zam (ae dW):=sq
theorem va (D:Def K mg "_law_moves" dW zam)(aX:mg "len"=none)(adF:Fn P w K mg base (aY P w) 35 "_law_is_motion" zal (Lm K))(adG:Fn P w K mg base (aY P w) 3 "_law_longer" zau (qE K))(adH:Fn P w K mg base (aY P w) 3 "_law_keeps" zal (u4 K))(adI:Fn P w K mg base (aY P w) 3 "_law_work" zaA (yX K)):
  Fn P w K mg base (aY P w) 36 "_law_moves" zam (u_ K):=by
 refine D.op iq fun f cp A outer s H vs Q E hr h=>?_
 obtain ⟨pA,bA,d,p,us,ws,pins,aj,kvs,L,N,rfl,fr,ld,lk,hN,⟨dM,kM,M,hp,ne,mo,mm,wk⟩,q⟩:=h
 have L2:2<=ael:=by decide
 have lp:=fr.lp
 refine ⟨_,(aa (bh (PW.pt (iI (bB gm (aF (pv 3)) dY) (iI (bB gm (aG aD rfl aX bS (aS (pv 3))) ag) (gA (df (cC (aT adF hr (aL (pv 0) (aF (pv 3)))))))))) (ah (aE cN)) aI)
  (aa (bC aev rfl (bx (pv 1)) (bW (i:=4) iq.nd) (ah (bh (bB gm (aF (aT adG hr (bE (pv 0) (pv 4) (aF (pv 3))))) ag) (ah (aE cN)) aI)))
  (aa (aK (i:=5) iq.nd (aT adI hr (aL (pv 2) (aF (pv 3)))))
  (ah (aE (tG (aT adH hr (aL (pv 0) (aF (pv 3)))) (tF (fJ dq (aF (pv 5)) (aF (pv 5)) (gU _))))))))),?_⟩
 refine ⟨_,rfl,p,_,_,_,rfl,rfl,bJ.of hp,rfl,rfl,_,rfl,bg (fun c=>aet c (by simp [kg])) (fun _=>?_)⟩
 refine ⟨_,rfl,p,_,rfl,.inr (bJ.of hp),rfl,_,rfl,IU rfl ?_⟩
 refine ⟨_,rfl,_,rfl,p,_,_,_,rfl,rfl,bJ.of hp,rfl,pA,dM,us,pins,kM,M,N,rfl,fr.hp,fr.pp,by omega,mo,fun H2 s2=>?_⟩
 refine ⟨_,rfl,bg (fun c=>nomatch c) (fun _=>?_)⟩
 have qe:=s2
 refine ⟨_,rfl,bA,rfl,⟨_,aV.of (qe _ _ fr.hb)⟩,ck (K:=K) (a:=bA) (xs:=ws) (fun i σ H'=>∃(o4:ψ),σ=[some (.ref pA),some (.ref bA),some (.ref d),some (.ref p),o4,none]/\au H H') ⟨none,rfl,qe⟩ (fun i σ H' _ h=>by
   obtain ⟨_,_,s⟩:=h
   exact aV.of (s _ _ fr.hb)) ?_ ?_⟩
 ·rintro i u σ H3 hu ⟨o4,rfl,s3⟩
  obtain ⟨b,eb,HG⟩:=aw fr.pb hu
  have mb:b∈aj:=Wp eb
  have lb:=mm.aj b mb
  have Mc:=fr.same s3
  refine ⟨_,rfl,_,rfl,_,rfl,p,_,_,_,rfl,rfl,bJ.of (s3 _ _ hp),rfl,pA,dM,us,pins,u,b,kM,M,N,rfl,Mc.hp,Mc.pp,fr.gp,HG.same s3,mo.same s3,fun v H4 s4 n4=>?_⟩
  obtain ⟨z,⟨pz,rfl,k1⟩,k2,k3,_⟩:=n4
  rw [lb] at k3
  have e0:z.1=0:=(uU k2).mpr k3
  rw [e0] at k1
  refine ⟨pz,_,_,_,rfl,rfl,k1,iC,rfl,_,rfl,bg (fun h=>by simp at h) (fun _=>?_)⟩
  exact ⟨_,rfl,s3.trans s4⟩
 ·rintro σ H3 ⟨o4,rfl,s3⟩
  have Mc:=fr.same s3
  refine ⟨_,rfl,_,rfl,p,_,_,_,rfl,rfl,bJ.of (s3 _ _ hp),rfl,d,dM,kvs,kM,pins,L,M,N,rfl,ld.same s3,fr.gp.np,mo.same s3,ne,lk,hN,fun v H4 s4 n4=>?_⟩
  obtain ⟨z,⟨pz,rfl,k1⟩,k2,k3,_⟩:=n4
  rw [wk] at k3
  have e0:z.1=z.2:=(RW k2).mpr k3
  rw [e0] at k1
  have iF:=s3.trans s4
  have Oa:=fr.same iF
  refine ⟨_,rfl,_,rfl,p,_,_,_,rfl,rfl,bJ.of (iF _ _ hp),rfl,pA,dM,us,pins,kM,M,N,rfl,Oa.hp,Oa.pp,fr.gp,mo.same iF,mm.Wc,fun H5 s5=>?_⟩
  have k5:=Ty.au.bI s5 k1
  refine ⟨_,rfl,bg (fun _=>?_) (fun c=>aet rfl c)⟩
  refine ⟨_,rfl,pz,_,_,_,rfl,rfl,k5,iC,_,rfl,pz,_,_,_,rfl,rfl,k5,iD,rfl,?_⟩
  rw [show decide (V.int z.2=V.int z.2)=true from aeD rfl]
  exact q _ (iF.trans s5)
theorem y4 {κ:Type}[DecidableEq κ]{kvs:List (κ×V)}{k:κ}{v:V}(h:(bY kvs k).isSome=true):(putK kvs k v).map (·.1)=kvs.map (·.1)/\(putK kvs k v).length=kvs.length:=by
 unfold putK
 rw [fY,h,aek rfl]
 refine ⟨?_,by rw [aah]⟩
 rw [aay]
 refine aaO fun kv _=>?_
 show (if kv.1=k then (kv.1,v) else kv).1=kv.1
 split<;>rfl
inductive oE (K:Frag)(C:aef)(vs:ε)(H:Hp)(Q:VK)(E_:XK):Prop
|mk (fA sA pA bA:aef)(c:Int)(ns:ξ)(us ws:ε)(pins:ν)(aj:τ)(_:vs=[.ref fA,.ref sA,.ref pA,.ref bA,.int c])(_:vw K H C fA pins aj)(_:aV K H sA (ns.map V.int))(_:N' K H pA bA us ws pins aj)(_:fG pins aj)(_:aj.length<=7)(_:∀H',au H H' ->Q (.bl true) H')
theorem tD:aC ["_law_frame_here","_law_script","_law_pins_here","_law_bars_here","_law_cell","_law_load_here","_law_more","_law_here","_law_told","_law_good"] zag (ae FE):=sq
theorem Xb (D:Def K mg "_law_right" FE zag)(aX:mg "len"=none)(bw:mg "isinstance"=none)(fP:mg "tuple"=none)(cE:Fn P w K mg base (aY P w) 1 "_law_field" zab du)(i0:Fn P w K mg base (aY P w) 1 "_law_sum" zaa (b8 K eQ))(adJ:Fn P w K mg base (aY P w) 34 "_law_load" zaq (yZ K))(jX:Fn P w K mg base (aY P w) 2 "_law_turned_about" zaw (mC K))(adK:Fn P w K mg base (aY P w) 39 "rest_of" zaJ (uS K C))(xr:Fn P w K mg base (aY P w) 36 "_law_moves" zam (u_ K))(adL:Fn P w K mg base (aY P w) 35 "_law_are_forces" zad (yV K))(adM:Fn P w K mg base (aY P w) 4 "_law_at_rest" zaf (qJ K)):
  Fn P w K mg base (aY P w) 40 "_law_right" zag (oE K C):=by
 refine D.oo tD fun H hr h=>?_
 obtain ⟨fA,sA,pA,bA,c,ns,us,ws,pins,aj,rfl,R,hS,fr,g,Te,q⟩:=h
 have L2:2<=ael:=by decide
 have lp:=fr.lp
 have lu:us.length=pins.length:=aer fr.pp
 refine ⟨_,(aa (aK (i:=5) tD.nd (aT adJ hr (bE (pv 1) (pv 2) (pv 3))))
  (aa (aK (i:=6) tD.nd (tG (fJ mM (aG aD rfl aX bS (aS (pv 2))) ag (gU _)) (tF (fJ dq (aT cE hr (bE (pv 4) ag ag)) ag (gU _)))))
  (aa (bh (cC (pv 6)) (aa (aK (i:=7) tD.nd (cv (b6 hr) (pv 5) (aF (bD aQ (pv 2) (zD tI ag))) (fun _ _=>rfl)))
   (ah (fM (b6 hr) (pv 5) (aF (bD aQ (pv 2) (zD tI ag))) (aU (aL (aF (pv 7)) (aT i0 hr (aL (aF (pv 7)) (aU (aL ag ag)))))) rfl))) aI)
  (aa (aK (i:=8) tD.nd (aT adK hr (aL (pv 0) (aT jX hr (aL (pv 5) (pv 4))))))
  (aa (bh (df (cC (aG fu rfl bw cu (aL (pv 8) (kq rfl fP ub))))) (ah (aE cN)) aI)
  (aa (bh (PW.pt (oG (cC (pv 6)) (j7 (bB dq (aF (pv 8)) dY)))) (ah (aE (aT xr hr (iA (pv 2) (bE (pv 3) (pv 5) (pv 8)))))) aI)
  (aa (bh (PW.pt (iI (bB gm (aG aD rfl aX bS (aS (pv 8))) ag) (gA (bB gm (aF (pv 8)) dY)))) (ah (aE cN)) aI)
  (aa (aK (i:=9) tD.nd (aT adL hr (iA (pv 2) (bE (pv 3) (aF (pv 8)) (aF (pv 8))))))
  (ah (aE (tG (pv 9) (tF (aT adM hr (iA (pv 2) (iA (pv 3) (bE (aF (pv 8)) (aF (pv 8)) (pv 5))))))))))))))))),?_⟩
 refine ⟨_,rfl,_,rfl,_,rfl,sA,pA,bA,ns,us,ws,pins,aj,rfl,hS,fr,g,Te,fun d kvs L T U H1 s1 nd ld z9 ky lk ar=>?_⟩
 dsimp only [b9]
 refine cn (fun σ' H'=>∃b0:Bool,σ' =[some (.ref fA),some (.ref sA),some (.ref pA),some (.ref bA),some (.int c),some (.ref d),some (.bl b0),none,none,none]/\H'=H1/\(b0=true->0<pins.length)) (fun Nx i5=>?_) ?_
 ·refine ⟨_,rfl,pA,_,rfl,.inl (aV.of (s1 _ _ fr.hp)),_,_,rfl,rfl,_,rfl,?_⟩
  refine bg (fun z=>?_) (fun z=>?_)
  ·have z':(0:Int)<(us.length:Int):=aeJ z
   exact ⟨_,rfl,_,_,_,rfl,by decide,by decide,by decide,rfl,i5 _ _ ⟨_,rfl,rfl,fun _=>by omega⟩⟩
  ·exact i5 _ _ ⟨false,rfl,rfl,fun z=>nomatch z⟩
 rintro σ0 H0 ⟨b0,rfl,e0,hb0⟩
 rw [e0]
 refine cn (fun σ' H'=>G' fun (o7:ψ) (iE :γ) (L':θ)=>σ' =[some (.ref fA),some (.ref sA),some (.ref pA),some (.ref bA),some (.int c),some (.ref d),some (.bl b0),o7,none,none]/\au H H'/\xm K H' d iE pins L'/\iE.length<=9/\(b0=false->∃T U,gB pins aj T U L')) (fun Nx i5=>?_) ?_
 ·refine ⟨_,rfl,_,rfl,?_⟩
  refine bg (fun z=>?_) (fun z=>?_)
  ·obtain ⟨eK,u,eus⟩:∃eK u,us=eK ++[u]:=by
    rcases adx us with e|⟨eK,u,e⟩
    ·rw [e] at lu
     have:=hb0 z
     have l0:([]:List V).length=0:=rfl
     omega
    ·exact ⟨eK,u,by rw [e,ady]⟩
   have hu:us[eK.length]?=some u:=by rw [eus,aav (aal _),Nat.sub_self];rfl
   obtain ⟨p,ep,xh⟩:=aw fr.pp hu
   have mp:=Wp ep
   obtain ⟨ta,l,sv,cA,rfl,h1,_,_,_⟩:=xh.same s1
   have atl:gh us (-1)=some (.ref ta):=by rw [eus];exact IH _ _
   have OM:(aaU p.nm:Key)∈kvs.map (·.1):=by rw [ky];exact aai.mpr ⟨p,mp,rfl⟩
   obtain ⟨v,r,ev,eLp,hv⟩:∃v r,bY kvs (.inr p.nm)=some v/\L p.nm=some r/\eG K H1 v r:=by
    rcases ld.pt p.nm with ⟨h,_⟩|⟨v,r,a,b,c⟩
    ·obtain ⟨v,e⟩:=dS OM
     rw [h] at e
     cases e
    ·exact ⟨v,r,a,b,c⟩
   have dg:dm H1 d (.str p.nm) (some v):=by
    have:=dm.k (k:=.inr p.nm) ld.hd
    rw [ev] at this
    exact this
   have zr:=z9 p.nm
   have emv:mv L p.nm=r:=by
    show (L p.nm).getD (0,0)=r
    rw [eLp]
    rfl
   rw [emv] at zr
   have spq:=aV.of (K:=K) (s1 _ _ fr.hp)
   refine ⟨_,rfl,_,rfl,1,rfl,pA,_,_,_,rfl,rfl,spq,atl,ta,_,_,_,rfl,rfl,h1,dz,d,_,rfl,dg,?_⟩
   obtain ⟨a,u1,u2,rfl,rq,N6,GV⟩:=hv
   refine ⟨_,rfl,a,_,_,_,rfl,rfl,rq,iC,_,rfl,a,_,_,_,rfl,rfl,rq,iD,L2,?_⟩
   intro t2 n2;generalize eX:upd _ t2 _=H2;have ⟨s2,e2⟩:=nw n2 eX
   refine ⟨u2,.ref t2,qr r.2,(1,1),900,1,rfl,GV.same s2,⟨t2,rfl,bJ.of e2⟩,Ld zr.2,⟨by decide,by decide⟩,by decide,fun p3 H3 s3 e3=>?_⟩
   rw [BC] at e3
   refine ⟨L2,?_⟩
   intro p4 n4;generalize eX:upd _ p4 _=H4;have ⟨s4,e4⟩:=nw n4 eX
   have Pz:=s2.trans (s3.trans s4)
   have xG:=Pz _ _ ld.hd
   refine ⟨_,rfl,_,rfl,1,rfl,pA,_,_,_,rfl,rfl,aV.of ((s1.trans Pz) _ _ fr.hp),atl,ta,_,_,_,rfl,rfl,Ty.au.bI Pz h1,dz,d,_,rfl,kz.k (k:=.inr p.nm) xG (aap (show kvs.length<=100 by omega) (by decide)),?_⟩
   obtain ⟨kp,kl⟩:=y4 (kvs:=kvs) (k:=(.inr p.nm:Key)) (v:=.ref p4) (by rw [ev];rfl)
   have st:bu H4 (upd H4 d (.dK (putK kvs (.inr p.nm) (.ref p4)))):=.dict xG
   have ld4:=ld.same Pz
   refine i5 _ _ ⟨_,putK kvs (.inr p.nm) (.ref p4),fun x=>if x=p.nm then some (r.1,r.2+1) else L x,rfl,fun b o e=>?_,⟨ak,fun x=>?_,by rw [kp];exact ld.nk,fun kv BE=>?_,fun x=>?_,by rw [kl];exact ld.ll⟩,by rw [kl];exact lk,fun e=>by rw [z] at e;cases e⟩
   ·rw [ao (aq e nd)]
    exact Pz _ _ (s1 _ _ e)
   ·by_cases c:x=p.nm
    ·subst c
     refine .inr ⟨.ref p4,(r.1,r.2+1),by rw [iS,aek rfl],aek rfl,?_⟩
     have hh:eG K H4 (.ref p4) (r.1,r.2+1):=⟨p4,_,_,rfl,bJ.of e4,N6.same Pz,(iy e3).same s4⟩
     exact hh.aR st
    ·rcases ld4.pt x with ⟨h,h'⟩|⟨w',r',h,h',GX⟩
     ·exact .inl ⟨by rw [iS,aej (fun z=>c (aa4 z))];exact h,by rw [aej c];exact h'⟩
     ·exact .inr ⟨w',r',by rw [iS,aej (fun z=>c (aa4 z))];exact h,by rw [aej c];exact h',GX.aR st⟩
   ·exact DE (fun k=>∃x∈pins.map (·.nm),k=.inr x) ld.ks ⟨p.nm,aai.mpr ⟨p,mp,rfl⟩,rfl⟩ kv BE
   ·by_cases c:x=p.nm
    ·show Sz 1000 ((if x=p.nm then some (r.1,r.2+1) else L x).getD (0,0)).1/\Sz 1000 ((if x=p.nm then some (r.1,r.2+1) else L x).getD (0,0)).2
     rw [aek c]
     exact ⟨zr.1.up (by decide),(zr.2.add (g8 (i:=1) (k:=3) (by decide) (by decide))).up (by decide)⟩
    ·show Sz 1000 ((if x=p.nm then some (r.1,r.2+1) else L x).getD (0,0)).1/\Sz 1000 ((if x=p.nm then some (r.1,r.2+1) else L x).getD (0,0)).2
     rw [aej c]
     exact ld.sz x
  ·exact i5 _ _ ⟨none,kvs,L,rfl,s1,ld,lk,fun _=>⟨T,U,ar⟩⟩
 rintro σ1 H2 ⟨o7,iE,L',rfl,s2,ld2,lk2,ar2⟩
 have R2:=R.same s2
 refine ⟨_,rfl,_,rfl,_,rfl,d,c,iE,pins,L',rfl,ld2,lk2,fun dh kh H3 s3 ldh=>?_⟩
 dsimp only [dJ]
 refine Ls (R2.same s3) g ldh fun p H4 s4 tell=>?_
 dsimp only [b9]
 have PQ:=s3.trans s4
 have iF:=s2.trans PQ
 have Oa:=fr.same iF
 have ld4:=ld2.same PQ
 have z10:=zL9 lp
 have told:=tell.told lp (ld2.same s3).hd
 rcases told with tm|⟨dT,dU,kT,kU,T',U',hp,pl,rest⟩
 ·obtain ⟨dM,kM,M,hp,ne,mo,mm,wk⟩:=id tm
  refine ⟨_,rfl,_,_,_,true,rfl,rfl,.tup hp,Sg,_,rfl,bg (fun c=>nomatch c) (fun _=>?_)⟩
  cases b0 with
  | false=>
   obtain ⟨T',U',ar'⟩:=ar2 rfl
   exact (K8 g ar' mm wk).elim
  | true=>
   refine ⟨_,rfl,_,rfl,bg (fun _=>?_) (fun c=>aet rfl c)⟩
   refine ⟨_,rfl,p,_,_,_,rfl,rfl,bJ.of hp,rfl,rfl,_,rfl,bg (fun _=>?_) (fun c=>aet (by simp [kg]) c)⟩
   exact ⟨_,rfl,_,rfl,_,rfl,_,rfl,pA,bA,d,p,us,ws,pins,aj,iE,L',_,rfl,Oa,ld4,lk2,by omega,tm,fun H5 s5=>q H5 (iF.trans s5)⟩
 ·refine ⟨_,rfl,_,_,_,true,rfl,rfl,.tup hp,Sg,_,rfl,bg (fun c=>nomatch c) (fun _=>?_)⟩
  dsimp only [OQ]
  refine cn (fun σ' H'=>σ' =[some (.ref fA),some (.ref sA),some (.ref pA),some (.ref bA),some (.int c),some (.ref d),some (.bl b0),o7,some (.ref p),none]/\H'=H4) (fun Nx i5=>?_) ?_
  ·refine ⟨_,rfl,_,rfl,bg (fun _=>?_) (fun _=>bg (fun c=>nomatch c) (fun _=>i5 _ _ ⟨rfl,rfl⟩))⟩
   exact ⟨_,rfl,p,_,_,_,rfl,rfl,bJ.of hp,rfl,rfl,_,rfl,bg (fun c=>aet c (by simp [kg];decide+kernel)) (fun _=>i5 _ _ ⟨rfl,rfl⟩)⟩
  rintro σ5 H5 ⟨rfl,e5⟩
  rw [e5]
  refine ⟨_,rfl,p,_,rfl,.inr (bJ.of hp),rfl,_,rfl,bg (fun c=>aet c (by simp)) (fun _=>?_)⟩
  refine ⟨_,rfl,p,_,_,_,rfl,rfl,bJ.of hp,rfl,rfl,_,rfl,bg (fun c=>aet c (by simp [kg])) (fun _=>?_)⟩
  refine ⟨_,rfl,_,rfl,_,rfl,p,_,_,_,rfl,rfl,bJ.of hp,rfl,_,rfl,p,_,_,_,rfl,rfl,bJ.of hp,rfl,pA,bA,dT,dU,us,ws,pins,aj,kT,kU,T',U',_,rfl,Oa,pl,fun H6 s6=>?_⟩
  have WR:=iF.trans s6
  have RS:=s6 _ _ hp
  refine ⟨_,rfl,_,rfl,bg (fun _=>?_) (fun c=>aet rfl c)⟩
  refine ⟨_,rfl,_,rfl,_,rfl,p,_,_,_,rfl,rfl,bJ.of RS,rfl,_,rfl,p,_,_,_,rfl,rfl,bJ.of RS,rfl,_,rfl,?_⟩
  have ld6:=ld4.same s6
  exact ⟨pA,bA,dT,dU,d,us,ws,pins,aj,kT,kU,iE,T',U',_,L',rfl,fr.same WR,pl.same s6,ld6.hd,ld6.pt,ld6.sz,rest,fun H7 s7=>q H7 (WR.trans s7)⟩
abbrev GO (pins:ν):List (Str×Pt):=pins.map fun p=>(p.nm,qX p.sp)
abbrev Xc (pins:ν):List (Str×List (Rat×Rat)):=pins.map fun p=>(p.nm,p.ws)
abbrev vb (aj:τ):List (Str×Str×Str):=aj.map fun b=>(b.nm,b.one.nm,b.other.nm)
inductive iG (K:Frag)(H:Hp)(d e f:aef)(v:V)(p:ay):Prop
|mk (a l:aef)(s:V)(us:ε)(_:v=.ref a)(_:bJ K H a [.str p.nm,s,.ref l])(_:eG K H s p.sp)(_:H l=some (.lst us))(_:iB K H us p.ws)(_:l≠d)(_:l≠e)(_:l≠f)
theorem iG.same (h:iG K H d e f v p)(s:au H H'):iG K H' d e f v p:=by
 obtain ⟨a,l,sv,us,ev,h1,h2,h3,h4,h5,h6,h7⟩:=h
 exact ⟨a,l,sv,us,ev,Ty.au.bI s h1,h2.same s,s _ _ h3,h4.same s,h5,h6,h7⟩
theorem iG.r (h:iG K H d e f v p):ip K H v p:=by
 obtain ⟨a,l,sv,us,ev,h1,h2,h3,h4,_,_,_⟩:=h
 exact ⟨a,l,sv,us,ev,h1,h2,h3,h4⟩
def KO (pP pW pB lP lB lO:aef)(H H':Hp):Prop:=∀b o,b≠pP->b≠pW->b≠pB->b≠lP->b≠lB->b≠lO->H b=some o->H' b=some o
theorem KO.trans (a:KO pP pW pB lP lB lO H H1)(b:KO pP pW pB lP lB lO H1 H2):KO pP pW pB lP lB lO H H2:=fun c o n1 n2 n3 n4 n5 n6 e=>b c o n1 n2 n3 n4 n5 n6 (a c o n1 n2 n3 n4 n5 n6 e)
theorem KO.of (a:au H H1):KO pP pW pB lP lB lO H H1:=fun c o _ _ _ _ _ _ e=>a c o e
structure WS (K:Frag)(H:Hp)(C fA dx pP pW pB lP lB lO:aef)(us vs vo:ε)(pins:ν)(aj outs:τ):Prop where
 fr:∃kP kW kB,dP K H C fA dx pP pW pB (GO pins) (vb aj) kP kW kB/\pR K H (Xc pins) kW/\∀kv∈kW,kv.2≠.ref lP/\kv.2≠.ref lB/\kv.2≠.ref lO
 hp:H lP=some (.lst us)
 pp:Paired (iG K H lP lB lO) us pins
 hb:H lB=some (.lst vs)
 pb:Paired (fD K H pins) vs aj
 ho:H lO=some (.lst vo)
 po:Paired (fD K H pins) vo outs
 gp:eW pins
 go:gO pins (aj++outs)
 lp:pins.length<=9
 lo:aj.length+outs.length<=7
 ne:lP≠lB/\lP≠lO/\lB≠lO
section
variable {H H':Hp}{C fA dx pP pW pB lP lB lO:aef}{us vs vo:ε}{pins:ν}{aj outs:τ}
theorem WS.same (h:WS K H C fA dx pP pW pB lP lB lO us vs vo pins aj outs)(s:au H H'):WS K H' C fA dx pP pW pB lP lB lO us vs vo pins aj outs:=by
 obtain ⟨kP,kW,kB,R,W,n⟩:=h.fr
 exact ⟨⟨kP,kW,kB,R.same s,W.same s,n⟩,s _ _ h.hp,Paired.bL h.pp fun _ _ z=>z.same s,s _ _ h.hb,Paired.bL h.pb fun _ _ z=>z.same s,s _ _ h.ho,Paired.bL h.po fun _ _ z=>z.same s,h.gp,h.go,h.lp,h.lo,h.ne⟩
theorem WS.fa (h:WS K H C fA dx pP pW pB lP lB lO us vs vo pins aj outs):vw K H C fA pins aj:=by
 obtain ⟨kP,kW,kB,R,W,n⟩:=h.fr
 exact ⟨dx,pP,pW,pB,kP,kW,kB,R,W⟩
theorem WS.gb (h:WS K H C fA dx pP pW pB lP lB lO us vs vo pins aj outs):gO pins aj:=⟨by
 have:=h.go.nb
 rw [aax] at this
 exact this.sublist (List.sublist_append_left _ _),fun b hb=>h.go.ends b (aaK _ hb)⟩
theorem WS.g (h:WS K H C fA dx pP pW pB lP lB lO us vs vo pins aj outs):fG pins aj:=Ww h.gp h.gb (by have:=h.lp;omega) (by have:=h.lo;omega)
theorem WS.pr (h:WS K H C fA dx pP pW pB lP lB lO us vs vo pins aj outs):Paired (ip K H) us pins:=Paired.bL h.pp fun _ _ z=>z.r
theorem WS.away (h:WS K H C fA dx pP pW pB lP lB lO us vs vo pins aj outs)(e:H b=some o)(n1:∀kvs,o≠.dK kvs)(n2:∀xs,o≠.lst xs):b≠pP/\b≠pW/\b≠pB/\b≠lP/\b≠lB/\b≠lO:=by
 obtain ⟨kP,kW,kB,R,W,_⟩:=h.fr
 refine ⟨fun z=>?_,fun z=>?_,fun z=>?_,fun z=>?_,fun z=>?_,fun z=>?_⟩
 ·rw [z,R.pl] at e
  exact n1 _ (aaA e).symm
 ·rw [z,R.wy] at e
  exact n1 _ (aaA e).symm
 ·rw [z,R.br] at e
  exact n1 _ (aaA e).symm
 ·rw [z,h.hp] at e
  exact n2 _ (aaA e).symm
 ·rw [z,h.hb] at e
  exact n2 _ (aaA e).symm
 ·rw [z,h.ho] at e
  exact n2 _ (aaA e).symm
theorem WS.fresh (h:WS K H C fA dx pP pW pB lP lB lO us vs vo pins aj outs)(e:H b=none):b≠pP/\b≠pW/\b≠pB/\b≠lP/\b≠lB/\b≠lO:=by
 obtain ⟨kP,kW,kB,R,W,_⟩:=h.fr
 refine ⟨fun z=>?_,fun z=>?_,fun z=>?_,fun z=>?_,fun z=>?_,fun z=>?_⟩
 ·rw [z,R.pl] at e
  cases e
 ·rw [z,R.wy] at e
  cases e
 ·rw [z,R.br] at e
  cases e
 ·rw [z,h.hp] at e
  cases e
 ·rw [z,h.hb] at e
  cases e
 ·rw [z,h.ho] at e
  cases e
theorem KO.at (k:KO pP pW pB lP lB lO H H')(n:b≠pP/\b≠pW/\b≠pB/\b≠lP/\b≠lB/\b≠lO)(e:H b=some o):H' b=some o:=k b o n.1 n.2.1 n.2.2.1 n.2.2.2.1 n.2.2.2.2.1 n.2.2.2.2.2 e
theorem WS.t (h:WS K H C fA dx pP pW pB lP lB lO us vs vo pins aj outs)(k:KO pP pW pB lP lB lO H H'):bu H H':=fun b xs r=>by
 rcases r with r|⟨o',r⟩
 ·exact .inl (k.at (h.away r (fun _ z=>nomatch z) fun _ z=>nomatch z) r)
 ·exact .inr ⟨o',k.at (h.away r (fun _ z=>nomatch z) fun _ z=>nomatch z) r⟩
theorem WS.way (h:WS K H C fA dx pP pW pB lP lB lO us vs vo pins aj outs)(e:H l=some (.lst xs))(n1:l≠lP)(n2:l≠lB)(n3:l≠lO):l≠pP/\l≠pW/\l≠pB/\l≠lP/\l≠lB/\l≠lO:=by
 obtain ⟨kP,kW,kB,R,W,_⟩:=h.fr
 refine ⟨fun z=>?_,fun z=>?_,fun z=>?_,n1,n2,n3⟩
 ·rw [z,R.pl] at e
  cases e
 ·rw [z,R.wy] at e
  cases e
 ·rw [z,R.br] at e
  cases e
theorem WS.Lu (h:WS K H C fA dx pP pW pB lP lB lO us vs vo pins aj outs)(k:KO pP pW pB lP lB lO H H')(y:iG K H lP lB lO v p):iG K H' lP lB lO v p:=by
 obtain ⟨a,l,sv,ws,ev,h1,h2,h3,h4,h5,h6,h7⟩:=y
 have t:=h.t k
 exact ⟨a,l,sv,ws,ev,t.bI h1,h2.aR t,k.at (h.way h3 h5 h6 h7) h3,h4.aR t,h5,h6,h7⟩
theorem WS.wys (h:WS K H C fA dx pP pW pB lP lB lO us vs vo pins aj outs)(k:KO pP pW pB lP lB lO H H')(W:pR K H pw kW)(n:∀kv∈kW,kv.2≠.ref lP/\kv.2≠.ref lB/\kv.2≠.ref lO):pR K H' pw kW:=by
 have t:=h.t k
 refine cF (aer W) fun i p kv e1 e2=>?_
 obtain ⟨S1,e3,z1,l,eK,z2,z3,z4⟩:=aw W e1
 rw [e2] at e3
 cases e3
 have nn:=n _ (Wp e2)
 exact ⟨z1,l,eK,z2,k.at (h.way z3 (fun z=>nn.1 (by rw [z2,z])) (fun z=>nn.2.1 (by rw [z2,z])) (fun z=>nn.2.2 (by rw [z2,z]))) z3,z4.aR t⟩
end
inductive y8 (K:Frag)(C:aef)(vs:ε)(H:Hp)(Q:VK)(E_:XK):Prop
|mk (fA dx pP pW pB lP lB lO:aef)(us cA vo:ε)(pins:ν)(aj outs:τ)(sv:V)(lw:aef)(ws:ε)(p:ay)(_:vs=[.ref fA,.ref lP,.str p.nm,sv,.ref lw])(_:WS K H C fA dx pP pW pB lP lB lO us cA vo pins aj outs)(_:eG K H sv p.sp)(_:H lw=some (.lst ws))(_:iB K H ws p.ws)(_:(lw≠lP/\lw≠lB/\lw≠lO))(_:p.nm∉pins.map (·.nm))(_:p.sp∉pins.map (·.sp))(_:(Sz 44 p.sp.1/\Sz 44 p.sp.2))(_:iZ p.ws)(_:pins.length<=8)(_:∀(eK :ε)(H':Hp),KO pP pW pB lP lB lO H H' ->WS K H' C fA dx pP pW pB lP lB lO eK cA vo (pins++[p]) aj outs->Q .cg H')
theorem qL:aC zae zae (ae cZ):=sq
theorem qM {C CR CF fR:aef}(D:Def K mg "_law_put_pin" cZ zae)(aX:mg "len"=none)
  (GH:mg "Roller"=some (.ref CR)) (GJ:mg "Fixed"=some (.ref CF)) (GK:SS K CF) (GL:Mk K CR fR) (Sb:cO P w K mg base (aY P w) 1 fR WC zaC (oq K CR)) (GN:Binds K WC zaC [])
  (wR:bH P w K mg base (aY P w) 2 CR "ways" zaj (g_ K CR)) (wF:bH P w K mg base (aY P w) 2 CF "ways" zaj (hV K))
  (PY:bH P w K mg base (aY P w) 3 C "put_pin" zat (dc P w K mg base C)) (Tb:uv P w K mg base (aY P w) 3 C "put_pin" zat [.none] (dc P w K mg base C)):
  Fn P w K mg base (aY P w) 4 "_law_put_pin" zae (y8 K C):=by
 refine D.oo qL fun H hr h=>?_
 obtain ⟨fA,dx,pP,pW,pB,lP,lB,lO,us,cA,vo,pins,aj,outs,sv,lw,ws,p,rfl,st,hsv,hlw,hws,⟨nl1,nl2,nl3⟩,Tf,nA,hsz,wk,lp7,q⟩:=h
 have L3:3<=ael:=by decide
 have lu:us.length=pins.length:=aer st.pp
 obtain ⟨kP,kW,kB,R,W,nW⟩:=st.fr
 refine ⟨_,(aa (bq (gs aeH aeN aeP cQ (pv 1) (aS (aU (bE (pv 2) (pv 3) (pv 4))))))
  (ah (bh (bB dq (aG aD rfl aX bS (aS (pv 4))) ag) (ah (bq (z_ (k:=3) (pv 0) hr.mo (wO P w) (bE (pv 2) (aF (pv 3)) (aF (pv 3)))))) (ah (bh (bB dq (aG aD rfl aX bS (aS (pv 4))) ag) (ah (bq (cW (k:=3) (pv 0) hr.mo (wO P w) (iA (pv 2) (bE (aF (pv 3)) (aF (pv 3)) (zI GL Sb hr.mo rfl GH GN .nil (wO P w) (aL (aF (mX (pv 4))) (aF (mX (pv 4)))))))))) (ah (bq (cW (k:=3) (pv 0) hr.mo (wO P w) (iA (pv 2) (bE (aF (pv 3)) (aF (pv 3)) (JE GK rfl GJ))))))))))),?_⟩
 refine ⟨_,rfl,.inl ⟨rfl,_,aV.of st.hp⟩,_,rfl,_,rfl,_,rfl,L3,?_⟩
 intro t1 n1;generalize eX:upd _ t1 _=H1;have ⟨s1,e1⟩:=nw n1 eX
 refine ⟨lP,_,_,rfl,rfl,s1 _ _ st.hp,(by rw [lu];exact aap (show pins.length<=1000 by omega) (by decide)),?_⟩
 have st1:=st.same s1
 have k2:KO pP pW pB lP lB lO H (upd H1 lP (.lst (us++[.ref t1]))):=fun b o _ _ _ n4 _ _ e=>by rw [ao n4];exact s1 _ _ e
 have e2:(upd H1 lP (.lst (us++[.ref t1]))) lP=some (.lst (us++[.ref t1])):=ak
 have nP:pP≠lP:=fun z=>by have h:=R.pl;rw [z,st.hp] at h;cases h
 have Xd:pW≠lP:=fun z=>by have h:=R.wy;rw [z,st.hp] at h;cases h
 have nB:pB≠lP:=fun z=>by have h:=R.br;rw [z,st.hp] at h;cases h
 have nP':pP≠lB:=fun z=>by have h:=R.pl;rw [z,st.hb] at h;cases h
 have nW':pW≠lB:=fun z=>by have h:=R.wy;rw [z,st.hb] at h;cases h
 have Sk:pP≠lO:=fun z=>by have h:=R.pl;rw [z,st.ho] at h;cases h
 have Sl:pW≠lO:=fun z=>by have h:=R.wy;rw [z,st.ho] at h;cases h
 have ot:∀b o,b≠lP->H b=some o->(upd H1 lP (.lst (us++[.ref t1]))) b=some o:=fun b o n e=>by rw [ao n];exact s1 _ _ e
 have nt:t1≠lP:=fun z=>by rw [z,st.hp] at n1;cases n1
 have et:(upd H1 lP (.lst (us++[.ref t1]))) t1=some (.tup [.str p.nm,sv,.ref lw]):=by rw [ao nt];exact e1
 generalize upd H1 lP (.lst (us++[.ref t1]))=H2 at k2 e2 ot et ⊢
 have t2:=st.t k2
 have R2:dP K H2 C fA dx pP pW pB (GO pins) (vb aj) kP kW kB:=R.gJ t2 ((k2.at (st.away R.obj (fun _ z=>nomatch z) fun _ z=>nomatch z) R.obj).trans R.obj.symm) ((ot _ _ nP R.pl).trans R.pl.symm) ((ot _ _ Xd R.wy).trans R.wy.symm) ((ot _ _ nB R.br).trans R.br.symm)
 have W2:=st.wys k2 W nW
 have adT:=ot _ _ nl1 hlw
 have adU:=hsv.aR t2
 have Xe:=hws.aR t2
 obtain ⟨sa,x1,y1,rfl,rq,N6,GV⟩:=id adU
 have fin:∀(hv:V)(H5:Hp)(Q5:VK)(E5:XK),au H2 H5->KH P w K mg base H5 hv p.ws->(∀H',KO pP pW pB lP lB lO H H' ->WS K H' C fA dx pP pW pB lP lB lO (us++[.ref t1]) cA vo (pins++[p]) aj outs->Q5 .cg H')->dc P w K mg base C [.ref fA,.str p.nm,x1,y1,hv] H5 Q5 E5:=fun hv H5 Q5 E5 s5 hY fin=>by
  refine ⟨fA,dx,pP,pW,pB,_,_,kP,kW,_,_,p.nm,x1,y1,hv,qX p.sp,p.ws,rfl,R2.same s5,W2.same s5,by rw [aay,aay];rfl,N6.same s5,GV.same s5,fun z=>Tf ?_,fun z hz e=>nA ?_,?_,hY,fun H' w4 lE k' R' W' nl=>?_⟩
  ·rw [aay] at z
   exact z
  ·obtain ⟨p',iY,e'⟩:=aai.mp hz
   rw [<-e'] at e
   exact aai.mpr ⟨p',iY,acT (g7 (aeE akl e)) (g7 (aeE akm e))⟩
  ·rw [aah]
   omega
  have k0:KO pP pW pB lP lB lO H H':=fun b o m1 m2 m3 m4 m5 m6 e=>k' b o m1 m2 (s5 _ _ (k2 b o m1 m2 m3 m4 m5 m6 e))
  have t0:=st.t k0
  have fr:=st.fresh n1
  refine fin H' k0 ⟨⟨w4,lE,kB,?_,?_,fun kv BE=>?_⟩,k' _ _ (aaD nP) (aaD Xd) (s5 _ _ e2),cI (Paired.bL st.pp fun _ _ z=>st.Lu k0 z) ⟨t1,lw,_,ws,rfl,bJ.of (k' _ _ fr.1 fr.2.1 (s5 _ _ et)),hsv.aR t0,k0.at (st.way hlw nl1 nl2 nl3) hlw,hws.aR t0,nl1,nl2,nl3⟩,k' _ _ (aaD nP') (aaD nW') (s5 _ _ (ot _ _ (aaD st.ne.1) st.hb)),Paired.bL st.pb fun u b z=>?_,k' _ _ (aaD Sk) (aaD Sl) (s5 _ _ (ot _ _ (aaD st.ne.2.1) st.ho)),Paired.bL st.po fun u b z=>?_,st.gp.snoc Tf nA hsz wk,⟨st.go.nb,fun b hb=>?_⟩,by rw [aat];simp;omega,st.lo,st.ne⟩
  ·rw [show GO (pins++[p])=GO pins++[(p.nm,qX p.sp)] from aax]
   exact R'
  ·rw [show Xc (pins++[p])=Xc pins++[(p.nm,p.ws)] from aax]
   exact W'
  ·obtain ⟨l9,e9,n9⟩:=nl
   rw [e9] at BE
   rcases aau.mp BE with h|h
   ·exact nW kv h
   ·rw [aao.mp h]
    refine ⟨fun z=>?_,fun z=>?_,fun z=>?_⟩
    ·injection z with z
     rw [z,s5 _ _ e2] at n9
     cases n9
    ·injection z with z
     rw [z,s5 _ _ (ot _ _ (aaD st.ne.1) st.hb)] at n9
     cases n9
    ·injection z with z
     rw [z,s5 _ _ (ot _ _ (aaD st.ne.2.1) st.ho)] at n9
     cases n9
  ·obtain ⟨a,i,j,c,e,h1,g1,g2⟩:=z
   exact ⟨a,i,j,c,e,t0.bI h1,by rw [aar (ir.mp g1).1];exact g1,by rw [aar (ir.mp g2).1];exact g2⟩
  ·obtain ⟨a,i,j,c,e,h1,g1,g2⟩:=z
   exact ⟨a,i,j,c,e,t0.bI h1,by rw [aar (ir.mp g1).1];exact g1,by rw [aar (ir.mp g2).1];exact g2⟩
  ·obtain ⟨m1,m2,m3⟩:=st.go.ends b hb
   exact ⟨aaK _ m1,aaK _ m2,m3⟩
 have l2:=aV.of (K:=K) adT
 have Sn :ws.length=p.ws.length:=aer hws
 refine ⟨_,rfl,lw,_,rfl,.inl l2,rfl,_,rfl,?_⟩
 rcases wk with hw|⟨wx,wy,hw,wn,_,_⟩|hw
 ·rw [hw] at Sn
  refine bg (fun _=>?_) (fun c=>by rw [Sn] at c;simp at c)
  refine ⟨_,rfl,fA,C,dx,_,_,_,rfl,R2.obj,rfl,Tb,_,rfl,_,rfl,sa,_,_,_,rfl,rfl,rq,iC,_,rfl,sa,_,_,_,rfl,rfl,rq,iD,?_⟩
  dsimp only [dJ]
  exact fin .cg H2 _ _ (au.refl _) (.inl ⟨rfl,hw⟩) fun H' k' W'=>q _ H' k' W'
 ·rw [hw] at Sn Xe
  obtain ⟨w0,rfl⟩:=adq.mp Sn
  have hw0:eG K H2 w0 (wx,wy):=by
   cases Xe with
   | cons h _=>exact h
  obtain ⟨wa,y2,y3,rfl,uf,Np,WE⟩:=hw0
  refine bg (fun c=>by simp at c) (fun _=>?_)
  refine ⟨_,rfl,lw,_,rfl,.inl l2,rfl,_,rfl,bg (fun _=>?_) (fun c=>aet rfl c)⟩
  refine ⟨_,rfl,fA,C,dx,_,_,_,rfl,R2.obj,rfl,PY,_,rfl,_,rfl,sa,_,_,_,rfl,rfl,rq,iC,_,rfl,sa,_,_,_,rfl,rfl,rq,iD,_,rfl,lw,_,_,_,rfl,rfl,l2,rfl,wa,_,_,_,rfl,rfl,uf,iC,_,rfl,lw,_,_,_,rfl,rfl,l2,rfl,wa,_,_,_,rfl,rfl,uf,iD,?_⟩
  intro dO d1 N7 Sd ne1
  have s4:au H2 (upd (upd H2 d1 (.own dO)) dO (.ins CR d1 [])):=fun b o e=>by rw [ao (aq e N7),ao (aq e Sd)];exact e
  have e4:(upd (upd H2 d1 (.own dO)) dO (.ins CR d1 [])) dO =some (.ins CR d1 []):=ak
  generalize upd (upd H2 d1 (.own dO)) dO (.ins CR d1 [])=H4 at s4 e4 ⊢
  refine ⟨dO,d1,y2,y3,wx,wy,rfl,e4,Np.same s4,WE.same s4,wn,fun p5 n5=>⟨rfl,?_⟩⟩
  have zX:p5≠dO :=fun z=>by rw [z,e4] at n5;cases n5
  have s5:au H2 (upd (upd H4 p5 (.tup [y2,y3])) dO (.ins CR d1 [("way",.ref p5)])):=fun b o e=>by
   have z:b≠dO :=fun z=>by rw [z,N7] at e;cases e
   rw [ao z]
   exact aH n5 _ _ _ (s4 _ _ e)
  have e5:(upd (upd H4 p5 (.tup [y2,y3])) dO (.ins CR d1 [("way",.ref p5)])) dO =some (.ins CR d1 [("way",.ref p5)]):=ak
  have t5:(upd (upd H4 p5 (.tup [y2,y3])) dO (.ins CR d1 [("way",.ref p5)])) p5=some (.tup [y2,y3]):=by rw [ao zX,ak]
  generalize upd (upd H4 p5 (.tup [y2,y3])) dO (.ins CR d1 [("way",.ref p5)])=H5 at s5 e5 t5 ⊢
  have Se:eG K H5 (.ref p5) (wx,wy):=kN t5 (Np.same s5) (WE.same s5)
  dsimp only [dJ]
  exact fin (.ref dO) H5 _ _ s5 (.inr ⟨dO,CR,d1,_,zaj,g_ K CR,rfl,e5,BD _,wR,fun H6 e6 t6 Q' an=>⟨dO,d1,p5,(wx,wy),rfl,e6,Se.aR t6,by rw [hw] at an;exact an⟩⟩) fun H' k' W'=>q _ H' k' W'
 ·rw [hw] at Sn
  refine bg (fun c=>by rw [Sn] at c;simp at c) (fun _=>?_)
  refine ⟨_,rfl,lw,_,rfl,.inl l2,rfl,_,rfl,bg (fun c=>by rw [Sn] at c;simp at c) (fun _=>?_)⟩
  refine ⟨_,rfl,fA,C,dx,_,_,_,rfl,R2.obj,rfl,PY,_,rfl,_,rfl,sa,_,_,_,rfl,rfl,rq,iC,_,rfl,sa,_,_,_,rfl,rfl,rq,iD,?_⟩
  intro dO d1 N7 Sd ne1
  have s4:au H2 (upd (upd H2 d1 (.own dO)) dO (.ins CF d1 [])):=fun b o e=>by rw [ao (aq e N7),ao (aq e Sd)];exact e
  have e4:(upd (upd H2 d1 (.own dO)) dO (.ins CF d1 [])) dO =some (.ins CF d1 []):=ak
  generalize upd (upd H2 d1 (.own dO)) dO (.ins CF d1 [])=H4 at s4 e4 ⊢
  dsimp only [dJ]
  exact fin (.ref dO) H4 _ _ s4 (.inr ⟨dO,CF,d1,_,zaj,hV K,rfl,e4,rfl,wF,fun H6 _ _ Q' an=>⟨dO,rfl,by rw [hw] at an;exact an⟩⟩) fun H' k' W'=>q _ H' k' W'
def Oc (pins:ν)(i:Nat)(b:a_):Bool:=decide ((pins[i]?).map (·.nm)=some b.one.nm) || decide ((pins[i]?).map (·.nm)=some b.other.nm)
def Od (pins:ν)(aj:τ)(i:Nat):Bool:= !(aj.any (Oc pins i))
theorem P5 {pins:ν}(np:(pins.map (·.nm)).Nodup){i j:Nat}(e:pins[j]?=some p):(pins[i]?).map (·.nm)=some p.nm ↔ i=j:=by
 constructor
 ·intro h
  have e1:(pins.map (·.nm))[i]?=some p.nm:=by rw [aag];exact h
  have e2:(pins.map (·.nm))[j]?=some p.nm:=by rw [aag,e];rfl
  exact dw np e1 e2
 ·rintro rfl
  rw [e]
  rfl
theorem mD {α:Type}(g:ay->Str×α)(hg:∀p,(g p).1=p.nm):∀{pins:ν} {k:Nat} {p:ay},(pins.map (·.nm)).Nodup->pins[k]?=some p->(pins.map g).filter (fun b=>decide (b.1≠p.nm))=(pins.eraseIdx k).map g
 | q::ps,0,p,nd,e=>by
  cases e
  rw [aaj,aaR] at nd
  rw [aaj,ac9 (by rw [hg];simp),List.eraseIdx_cons_zero,aj8]
  intro b hb
  obtain ⟨r,hr,rfl⟩:=aai.mp hb
  rw [hg]
  exact aeD (fun z=>nd.1 (by rw [<-z];exact aai.mpr ⟨r,hr,rfl⟩))
 | q::ps,k+1,p,nd,e=>by
  rw [aaj,aaR] at nd
  have e':ps[k]?=some p:=by simpa using e
  have ne:q.nm≠p.nm:=fun z=>nd.1 (by rw [z];exact aai.mpr ⟨p,Wp e',rfl⟩)
  rw [aaj,ac2 (by rw [hg];exact aeD ne),ajQ,aaj,mD g hg nd.2 e']
theorem qN {pins:ν}(h:i≠k):(pins.eraseIdx k)[if k<i then i-1 else i]?=pins[i]? :=by
 rw [aa6]
 by_cases c:k<i
 ·rw [aek c,aej (by omega),show i-1+1=i by omega]
 ·rw [aej c,aek (by omega)]
theorem eW.erase (g:eW pins)(k:Nat):eW (pins.eraseIdx k):=by
 have sub:List.Sublist (pins.eraseIdx k) pins:=abM _ _
 exact ⟨g.np.sublist (sub.map _),g.ns.sublist (sub.map _),fun p hp=>g.sz p (sub.subset hp),fun p hp=>g.ws p (sub.subset hp)⟩
theorem xt :∀fs:List Nat,iw K H (fs.map fun i:Nat=>Da.v (.int (i:Int))) (fs.map fun i:Nat=>V.int (i:Int))
 | []=>by
  unfold iw
  trivial
 | i::fs=>by
  show iw K H (_::_) (_::_)
  unfold iw
  refine ⟨?_,xt fs⟩
  unfold Is
  exact ⟨rfl,rfl⟩
theorem P6 :fK [x,y,z,u] (some 1) (some 3)=[y,z]:=rfl
theorem adV :fK [x,y,z,u] (some 3) none=[u]:=rfl
theorem y_ (h:X.K=K)(hc:X.calm=true):ft X (.builtin "any") (Rj K):=by subst h;exact sM hc
inductive vc (K:Frag)(vs:ε)(H:Hp)(Q:VK)(E_:XK):Prop
|mk (lB:aef)(k:Nat)(cA :ε)(pins:ν)(aj:τ)(p:ay)(_:vs=[.ref lB,.int (k:Int)])(_:H lB=some (.lst cA))(_:Paired (fD K H pins) cA aj)(_:aj.length<=8)(_:pins[k]?=some p)(_:(∀b∈aj,p.nm≠b.one.nm/\p.nm≠b.other.nm))(_:∀(xs:ε)(H':Hp),(∀b o,b≠lB->H b=some o->H' b=some o)->H' lB=some (.lst xs)->Paired (fD K H' (pins.eraseIdx k)) xs aj->Q .cg H')
theorem eA:aC ["_law_bars_here","_law_at","_law_k","_law_one","_law_other"] zaD (ae c8):=sq
theorem qO (D:Def K mg "_law_shifted" c8 zaD)(aX:mg "len"=none)(bf:mg "range"=none)(qF:mg "int"=none):Fn P w K mg base (aY P w) 2 "_law_shifted" zaD (vc K):=by
 refine D.oo eA fun H hr h=>?_
 obtain ⟨lB,k,cA,pins,aj,p,rfl,Lv,pb,lb8,ep,free,q⟩:=h
 have L3:3<=ael:=by decide
 have lv:cA.length=aj.length:=aer pb
 refine ⟨_,(ah (bC aev rfl (bK rfl bf (aS (aG aD rfl aX bS (aS (pv 0))))) (bW (i:=2) eA.nd) (aa (tH (cP tN (bD aQ (pv 0) (pv 2)) (cM ag) (cM ag)) (eY rfl (aZ (bW (i:=3) eA.nd) (aZ (bW (i:=4) eA.nd) cU))))
   (ah (tH (aJ tQ (aU (bE (aF (bD aQ (pv 0) (pv 2))) (aJ dj (pv 3) (b_ r6 rfl qF IZ (aS (fJ mM (pv 3) (pv 1) (gU _))))) (aJ dj (pv 4) (b_ r6 rfl qF IZ (aS (fJ mM (pv 4) (pv 1) (gU _))))))) (cP tN (bD aQ (pv 0) (pv 2)) (cM ag) fj)) (xS (pv 0) (pv 2) set_list)))))),?_⟩
 refine ⟨_,rfl,lB,_,rfl,.inl (aV.of Lv),((cA.length:Nat):Int),rfl,by omega,by omega,bX (lo:=0) (n:=((cA.length:Nat):Int).toNat) (fun i σ H'=>HE fun (o7 o8 o9:ψ) (xs:ε)=>σ=[some (.ref lB),some (.int (k:Int)),o7,o8,o9]/\(∀b o,b≠lB->H b=some o->H' b=some o)/\H' lB=some (.lst xs)/\xs.length=cA.length/\(∀(j:Nat)(u:V)(b:a_),j<i->xs[j]?=some u->aj[j]?=some b->fD K H' (pins.eraseIdx k) u b)/\∀j,i<=j->xs[j]?=cA[j]?) ⟨none,none,none,cA,rfl,fun _ _ _ e=>e,Lv,rfl,fun j u b h=>aet h (abj _),fun _ _=>rfl⟩ ?_ ?_⟩
 ·rintro i σ H5 hi ⟨o7,o8,o9,xs,rfl,k5,Ms,lx,don,rest⟩
  have ei:(0:Int)+(i:Int)=(i:Int):=aaT _
  rw [ei]
  have Q6:i<cA.length:=by omega
  obtain ⟨u,eu⟩:∃u,cA[i]?=some u:=⟨_,gE Q6⟩
  obtain ⟨b,eb,a,i1,j1,c0,rfl,Pu,g1,g2⟩:=aw pb eu
  obtain ⟨f1,f2⟩:=free b (Wp eb)
  have t5:bu H H5:=fun b xs r=>by
   rcases r with r|⟨o',r⟩
   ·exact .inl (k5 _ _ (fun z=>by rw [z,Lv] at r;cases r) r)
   ·exact .inr ⟨o',k5 _ _ (fun z=>by rw [z,Lv] at r;cases r) r⟩
  have ha5:bJ K H5 a [.str b.nm,.int (i1:Int),.int (j1:Int),.int c0]:=t5.bI Pu
  have ax:gh xs (i:Int)=some (.ref a):=bP (by rw [rest i (aal _)];exact eu)
  have n1k:i1≠k:=fun z=>by rw [z,ep] at g1;cases g1;exact f1 rfl
  have n2k:j1≠k:=fun z=>by rw [z,ep] at g2;cases g2;exact f2 rfl
  refine ⟨_,rfl,_,rfl,lB,_,_,_,rfl,rfl,aV.of Ms,ax,1,rfl,3,rfl,a,_,rfl,ha5,(by show ¬ (HT.dN 4 0 (some 1)=0/\HT.dN 4 4 (some 3)=4);decide),?_⟩
  rw [P6]
  intro p6 n6;generalize eX:upd _ p6 _=H6;have ⟨s6,e6⟩:=nw n6 eX
  refine ⟨p6,_,rfl,bJ.of e6,rfl,_,_,rfl,_,_,rfl,rfl,?_⟩
  have Xf:=s6 _ _ Ms
  have ha6:=Ty.au.bI s6 ha5
  refine ⟨_,rfl,_,rfl,lB,_,_,_,rfl,rfl,aV.of Xf,ax,a,_,_,_,rfl,rfl,ha6,dz,_,rfl,_,rfl,_,rfl,_,_,rfl,rfl,.inr ⟨_,rfl,_,_,rfl,rfl,?_⟩⟩
  refine ⟨_,rfl,_,rfl,_,rfl,_,_,rfl,rfl,.inr ⟨_,rfl,_,_,rfl,rfl,L3,?_⟩⟩
  intro p7 n7;generalize eX:upd _ p7 _=H7;have ⟨s7,e7⟩:=nw n7 eX
  have Vh:=s7 _ _ Xf
  have ha7:=Ty.au.bI s7 ha6
  refine ⟨_,rfl,_,rfl,lB,_,_,_,rfl,rfl,aV.of Vh,ax,3,rfl,a,_,rfl,ha7,(by show ¬ (HT.dN 4 0 (some 3)=0/\HT.dN 4 4 none=4);decide),?_⟩
  rw [adV]
  intro p8 n8;generalize eX:upd _ p8 _=H8;have ⟨s8,e8⟩:=nw n8 eX
  have e78:=s8 _ _ e7
  have hb8:=s8 _ _ Vh
  refine ⟨p7,p8,_,_,rfl,rfl,bJ.of e78,bJ.of e8,by simp,z4L,fun z=>(nomatch z),fun _=>?_⟩
  intro p9 n9;generalize eX:upd _ p9 _=H9;have ⟨s9,e9⟩:=nw n9 eX
  have hb9:=s9 _ _ hb8
  have ixn:CI xs.length (i:Int)=some i:=Ku (by omega)
  refine ⟨_,rfl,_,rfl,lB,_,_,i,rfl,rfl,hb9,ixn,?_⟩
  have S8:=s6.trans (s7.trans (s8.trans s9))
  have sh:∀m:Nat,((m:Int)-(if decide ((k:Int)<(m:Int))=true then 1 else 0))=(((if k<m then m-1 else m:Nat)):Int):=fun m=>by
   by_cases cm:k<m
   ·rw [aek (aeD (by omega)),aek cm]
    omega
   ·rw [aej (by simpa using cm),aej cm]
    omega
  have k9:∀b o,b≠lB->H5 b=some o->(upd H9 lB (.lst (xs.set i (.ref p9)))) b=some o:=fun b o n e=>by rw [ao n];exact S8 _ _ e
  have np7:p9≠lB:=fun z=>by rw [z,hb8] at n9;cases n9
  have e79:(upd H9 lB (.lst (xs.set i (.ref p9)))) p9=some (.tup [.str b.nm,.int (((if k<i1 then i1-1 else i1:Nat)):Int),.int (((if k<j1 then j1-1 else j1:Nat)):Int),.int c0]):=by
   rw [ao np7,e9,<-sh i1,<-sh j1]
   rfl
  have t9:bu H5 (upd H9 lB (.lst (xs.set i (.ref p9)))):=fun b' ys r=>by
   rcases r with r|⟨o',r⟩
   ·exact .inl (k9 _ _ (fun z=>by rw [z,Ms] at r;cases r) r)
   ·exact .inr ⟨o',k9 _ _ (fun z=>by rw [z,Ms] at r;cases r) r⟩
  refine ⟨_,_,_,xs.set i (.ref p9),rfl,fun b' o' n e=>k9 _ _ n (k5 _ _ n e),ak,by rw [akF];exact lx,fun j u' b' hj PZ vx =>?_,fun j hj=>?_⟩
  ·by_cases cj:j=i
   ·subst cj
    rw [adb (by omega)] at PZ
    cases PZ
    rw [eb] at vx
    cases vx
    exact ⟨p9,_,_,c0,rfl,bJ.of e79,(qN n1k).trans g1,(qN n2k).trans g2⟩
   ·rw [acP (aaD cj)] at PZ
    obtain ⟨a',i',j',c',e',c1,c2,c3⟩:=don j u' b' (by omega) PZ vx
    exact ⟨a',i',j',c',e',t9.bI c1,c2,c3⟩
  ·rw [acP (by omega)]
   exact rest j (by omega)
 ·rintro σ H5 ⟨o7,o8,o9,xs,rfl,k5,Ms,lx,don,rest⟩
  have en:((cA.length:Nat):Int).toNat=cA.length:=by omega
  rw [en] at don
  exact q xs H5 k5 Ms (cF (by omega) fun j u b e1 e2=>don j u b (by have:=(ir.mp e1).1;omega) e1 e2)
theorem qP :∀{us vs:List α} {l m:List β},Paired R us l->Paired R vs m->Paired R (us++vs) (l++m)
 | _,_,_,_,.nil,h=>h
 | _,_,_,_,.cons h t,h'=>.cons h (qP t h')
inductive Lw (K:Frag)(C:aef)(vs:ε)(H:Hp)(Q:VK)(E_:XK):Prop
|mk (fA dx pP pW pB lP lB lO:aef)(us cA vo:ε)(pins:ν)(aj outs:τ)(c:Int)(_:vs=[.ref fA,.ref lP,.ref lB,.ref lO,.int c])(_:WS K H C fA dx pP pW pB lP lB lO us cA vo pins aj outs)(_:(∀H',au H H' ->Q .cg H'))(_:∀(k:Nat)(p:ay)(y:V)(eK Ly Lz:ε)(H':Hp),pins[k]?=some p->KO pP pW pB lP lB lO H H' ->WS K H' C fA dx pP pW pB lP lB lO eK Ly Lz (pins.eraseIdx k) aj outs->iG K H' lP lB lO y p->Q y H')
theorem eE:aC ["_law_frame_here","_law_pins_here","_law_bars_here","_law_out","_law_cell","_law_free","_law_at","_law_gone"] zac (ae c9):=sq
theorem qQ (D:Def K mg "_law_pin_out" c9 zac)(aX:mg "len"=none)(bf:mg "range"=none)(tf:mg "any"=none)(jB:Fn P w K mg base (aY P w) 2 "_law_shifted" zaD (vc K))(cE:Fn P w K mg base (aY P w) 1 "_law_field" zab du)
  (MTk:bH P w K mg base (aY P w) 2 C "take_pin" zaF (h_ K C)):
  Fn P w K mg base (aY P w) 3 "_law_pin_out" zac (Lw K C):=by
 refine D.oo eE fun H hr h=>?_
 obtain ⟨fA,dx,pP,pW,pB,lP,lB,lO,us,cA,vo,pins,aj,outs,c,rfl,st,q0,q⟩:=h
 have L3:3<=ael:=by decide
 have lu:us.length=pins.length:=aer st.pp
 have lv:cA.length=aj.length:=aer st.pb
 have lp8:=st.lp
 have lb8:=st.lo
 have lvo:vo.length=outs.length:=aer st.po
 have pbo:Paired (fD K H pins) (cA ++vo) (aj++outs):=qP st.pb st.po
 obtain ⟨kP,kW,kB,R,W,nW⟩:=st.fr
 refine ⟨_,(aa (Kk (i:=5) eE.nd rfl (adg rfl) (yc:="_law_k") (tn:=["_law_k"]) (fr:=["_law_out","_law_bars_here"]) (caps:=[3,2]) rfl ⟨rfl,rfl,by decide+kernel,by decide+kernel,rfl,⟨(by first|exact adg rfl|exact adZ rfl),⟨(by first|exact adg rfl|exact adZ rfl),trivial⟩⟩,⟨(by first|exact adg rfl|exact adZ rfl),⟨(by first|exact adg rfl|exact adZ rfl),trivial⟩⟩,fun _ _=>rfl,fun _=>rfl,by decide+kernel,by decide+kernel⟩ (bK rfl bf (aS (aG aD rfl aX bS (aS (pv 1))))) (fun _ _ _ _=>(fH (i:=0) (show (["_law_k","_law_out","_law_bars_here"]:List Str).Nodup from by decide+kernel) rfl (adZ rfl))) (fun _ _ _ _=>(QZ (df (cC (aG (y_ (K:=K) rfl rfl) rfl tf Pm (aS (dr (tn:=zaU) (fr:=["_law_k"]) (caps:=[0]) (JI (K:=K) rfl (aJ iP (pv 2) (pv 1))) (fJ (yv (K:=K) rfl) (pv 1) (cP (AI (K:=K) rfl) (pv 0) (cM ag) (cM ag)) rfl)))))))) (fun _ _ _ _=>(pv 0)))
  (aa (bh (bB (t_ hr.units) (pv 5) (bV eZ)) (ah (aE jH)) aI)
  (aa (aK (i:=6) eE.nd (bD aQ (pv 5) (aT cE hr (bE (pv 4) ag (aG aD rfl aX bS (aS (pv 5)))))))
  (aa (aK (i:=7) eE.nd (gs aeH PySem.F.slot_list_pop PySem.F.type_list_pop oM (pv 1) (aS (pv 6))))
  (aa (bq (cW (k:=2) (pv 0) hr.mo (wO P w) (aS (aF (pv 7)))))
  (aa (bq (aT jB hr (aL (pv 2) (pv 6))))
  (aa (bq (aT jB hr (aL (pv 3) (pv 6))))
  (ah (aE (pv 7)))))))))),?_⟩
 refine ⟨_,rfl,lP,_,rfl,.inl (aV.of st.hp),((us.length:Nat):Int),rfl,by omega,by omega,fun lF nF=>?_⟩
 refine wM (n:=us.length) (cap:=[some (.ref lO),some (.ref lB)]) (Od pins (aj++outs)) nF (aap (show us.length<=1000 by omega) (by decide)) (fun i H1 RR hi s1 kk=>?_) (fun i H1 RR r=>⟨_,rfl,r⟩) fun H1 s1 eF=>?_
 ·have Pu:=s1 _ _ st.hb
  have Md:=s1 _ _ st.ho
  refine ⟨_,rfl,_,rfl,lB,lO,_,_,rfl,rfl,Pu,Md,aak (show cA.length+vo.length<=100 by omega) (by decide),?_⟩
  intro lC nC;generalize eX:upd _ lC _=HC;have ⟨sC,hc1⟩:=nw nC eX
  refine ⟨lC,rfl,⟨_,aV.of hc1⟩,fun D2 n2=>?_⟩
  refine cy (cap:=[some (.int (i:Int))]) (K:=K) (a:=lC) (xs:=cA ++vo) (fun j v _=>∀b,(aj++outs)[j]?=some b->v=.bl (Oc pins i b)) n2 (aap (show (cA ++vo).length<=1000 by rw [aat];omega) (by decide)) (fun H2 s2=>aV.of (s2 _ _ hc1)) (fun _ _ _ _ _ _ _ h=>h) ?_ ?_
  ·intro j u H2 R2 hu s2 k2
   obtain ⟨b,eb,a,i1,j1,c0,rfl,h1,g1,g2⟩:=aw pbo hu
   have h2:=Ty.au.bI (s1.trans (sC.trans s2)) h1
   refine ⟨_,rfl,_,rfl,1,rfl,3,rfl,a,_,rfl,h2,(by show ¬ (HT.dN 4 0 (some 1)=0/\HT.dN 4 4 (some 3)=4);decide),?_⟩
   rw [P6]
   intro p3 n3;generalize eX:upd _ p3 _=H3;have ⟨s3,e3⟩:=nw n3 eX
   refine ⟨p3,_,rfl,.inr (bJ.of e3),rfl,rfl,k2 _ _ s3 fun b' vx =>?_⟩
   rw [eb] at vx
   cases vx
   congr 1
   have a1:=P5 st.gp.np (i:=i) g1
   have a2:=P5 st.gp.np (i:=i) g2
   show M_ (.int (i:Int)) [.int (i1:Int),.int (j1:Int)]=Oc pins i b
   unfold Oc M_
   simp only [acH,List.any_nil,kg,aj9]
   have d1:((i1:Int)==(i:Int))=decide ((pins[i]?).map (·.nm)=some b.one.nm):=by
    rw [ab7,decide_eq_true_iff,a1,beq_iff_eq]
    omega
   have d2:((j1:Int)==(i:Int))=decide ((pins[i]?).map (·.nm)=some b.other.nm):=by
    rw [ab7,decide_eq_true_iff,a2,beq_iff_eq]
    omega
   rw [d1,d2]
  ·intro zs H2 lz hz s2 hD
   have lz2:zs.length=(aj++outs).length:=by rw [lz,aat,aat];omega
   have ez:zs=((aj++outs).map (Oc pins i)).map V.bl:=by
    refine aa0 fun j=>?_
    by_cases cj:j<zs.length
    ·obtain ⟨b,eb⟩:∃b,(aj++outs)[j]?=some b:=⟨_,gE (by omega)⟩
     have e1:zs[j]?=some zs[j]:=gE cj
     rw [e1,hz j _ e1 b eb,aag,aag,eb]
     rfl
    ·rw [aam (by omega),aam (by rw [aah,aah];omega)]
   rw [ez] at hD
   refine ⟨D2,_,rfl,aV.of hD,_,rfl,?_⟩
   have:=kk _ (sC.trans s2)
   unfold Od at this
   rw [List.any_map]
   exact this
 have st1:=st.same s1
 have R1:=R.same s1
 have W1:=W.same s1
 generalize ef:(abb us.length).filter (Od pins (aj++outs))=fs at eF
 dsimp only [b9]
 refine cn (fun σ' H'=>σ' =[some (.ref fA),some (.ref lP),some (.ref lB),some (.ref lO),some (.int c),some (.ref lF),none,none]/\au H1 H'/\fs≠[]) (fun Nx i5=>?_) ?_
 ·refine ⟨_,rfl,z0L,?_⟩
  intro l2 n2;generalize eX:upd _ l2 _=H2;have ⟨s2,e2⟩:=nw n2 eX
  refine ⟨fs.map fun i:Nat=>Da.v (.int (i:Int)),[],.inr ⟨?_,?_⟩,by cases fs<;>rfl,?_,_,rfl,?_⟩
  ·unfold Is
   exact ⟨lF,_,rfl,aV.of (s2 _ _ eF),xt fs⟩
  ·unfold Is
   refine ⟨l2,_,rfl,aV.of e2,?_⟩
   unfold iw
   trivial
  ·have:∀l:List Nat,iQ (l.map fun i:Nat=>Da.v (.int (i:Int)))<=60:=fun l=>by
    induction l with
    | nil=>exact aaS _
    | cons i l ih=>
     show max (dep (Da.v (.int (i:Int)))) (iQ (l.map fun i:Nat=>Da.v (.int (i:Int))))<=60
     have:dep (Da.v (.int (i:Int)))=0:=rfl
     omega
   exact this fs
  ·refine bg (fun _=>?_) (fun cc=>?_)
   ·exact q0 _ (s1.trans s2)
   ·refine i5 _ _ ⟨rfl,s2,fun z=>cc ?_⟩
    rw [z]
    rfl
 rintro σ' H2 ⟨rfl,s2,nfs⟩
 have eF2:=s2 _ _ eF
 have ji:=st1.same s2
 have R2:=R1.same s2
 have W2:=W1.same s2
 have lf:0<fs.length:=by
  cases fs with
  | nil=>exact aet rfl nfs
  | cons a l=>exact Nat.succ_pos _
 refine ⟨_,rfl,_,rfl,_,rfl,lF,_,rfl,.inl (aV.of eF2),_,_,_,rfl,by decide,by decide,(by rw [aah];omega),?_⟩
 have fi:=ba (c:=c) (p:=7001) (m:=(((fs.map fun i:Nat=>V.int (i:Int)).length:Nat):Int)) (by rw [aah];omega)
 generalize field c 7001 (((fs.map fun i:Nat=>V.int (i:Int)).length:Nat):Int)=fv at fi ⊢
 rw [aah] at fi
 obtain ⟨fn,rfl⟩:∃n:Nat,fv=(n:Int):=⟨fv.toNat,by omega⟩
 have Tv:fn<fs.length:=by omega
 obtain ⟨k,ek⟩:∃k,fs[fn]?=some k:=⟨_,gE Tv⟩
 have mk:=Wp ek
 rw [<-ef] at mk
 obtain ⟨mk1,mk2⟩:=acW.mp mk
 have hk:k<us.length:=ab_.mp mk1
 have af:gh (fs.map fun i:Nat=>V.int (i:Int)) (fn:Int)=some (.int (k:Int)):=bP (by rw [aag,ek];rfl)
 refine ⟨lF,_,_,_,rfl,rfl,aV.of eF2,af,?_⟩
 obtain ⟨p,ep⟩:∃p,pins[k]?=some p:=⟨_,gE (by omega)⟩
 have mp:=Wp ep
 obtain ⟨y,ey,hy⟩:=aw (bU ji.pp) ep
 have hy:iG K H2 lP lB lO y p:=hy
 have free:∀b∈aj++outs,p.nm≠b.one.nm/\p.nm≠b.other.nm:=fun b hb=>by
  have h1:Oc pins k b=false:=by
   cases hc:Oc pins k b with
   | false=>rfl
   | true=>
    have:((aj++outs).any (Oc pins k))=true:=acw.mpr ⟨b,hb,hc⟩
    unfold Od at mk2
    rw [this] at mk2
    cases mk2
  unfold Oc at h1
  rw [Bool.or_eq_false_iff] at h1
  have e1:(pins[k]?).map (·.nm)=some p.nm:=by rw [ep];rfl
  refine ⟨fun z=>?_,fun z=>?_⟩
  ·exact aet (by rw [e1,z]) (of_decide_eq_false h1.1)
  ·exact aet (by rw [e1,z]) (of_decide_eq_false h1.2)
 refine ⟨_,rfl,.inl ⟨rfl,_,aV.of ji.hp⟩,_,rfl,lP,us,(k:Int),k,y,rfl,rfl,ji.hp,by omega,by omega,yo hk,ey,?_⟩
 have k3:KO pP pW pB lP lB lO H2 (upd H2 lP (.lst (us.eraseIdx k))):=fun b o _ _ _ n4 _ _ e=>by rw [ao n4];exact e
 have e3:(upd H2 lP (.lst (us.eraseIdx k))) lP=some (.lst (us.eraseIdx k)):=ak
 have nP:pP≠lP:=fun z=>by have h:=R2.pl;rw [z,ji.hp] at h;cases h
 have Xd:pW≠lP:=fun z=>by have h:=R2.wy;rw [z,ji.hp] at h;cases h
 have nB:pB≠lP:=fun z=>by have h:=R2.br;rw [z,ji.hp] at h;cases h
 have nP':pP≠lB:=fun z=>by have h:=R2.pl;rw [z,ji.hb] at h;cases h
 have nW':pW≠lB:=fun z=>by have h:=R2.wy;rw [z,ji.hb] at h;cases h
 have nB':pB≠lB:=fun z=>by have h:=R2.br;rw [z,ji.hb] at h;cases h
 have Sk:pP≠lO:=fun z=>by have h:=R2.pl;rw [z,ji.ho] at h;cases h
 have Sl:pW≠lO:=fun z=>by have h:=R2.wy;rw [z,ji.ho] at h;cases h
 have Tg:pB≠lO:=fun z=>by have h:=R2.br;rw [z,ji.ho] at h;cases h
 have ot:∀b o,b≠lP->H2 b=some o->(upd H2 lP (.lst (us.eraseIdx k))) b=some o:=fun b o n e=>by rw [ao n];exact e
 generalize upd H2 lP (.lst (us.eraseIdx k))=H3 at k3 e3 ot ⊢
 have t3:=ji.t k3
 have R3:dP K H3 C fA dx pP pW pB (GO pins) (vb aj) kP kW kB:=R2.gJ t3 ((k3.at (ji.away R2.obj (fun _ z=>nomatch z) fun _ z=>nomatch z) R2.obj).trans R2.obj.symm) ((ot _ _ nP R2.pl).trans R2.pl.symm) ((ot _ _ Xd R2.wy).trans R2.wy.symm) ((ot _ _ nB R2.br).trans R2.br.symm)
 have W3:=ji.wys k3 W2 nW
 have hy3:=ji.Lu k3 hy
 obtain ⟨ta,la,sv,ws,rfl,h1,h2,h3,h4,h5,h6,h7⟩:=id hy3
 refine ⟨_,rfl,fA,C,dx,_,_,_,rfl,R3.obj,rfl,MTk,_,rfl,ta,_,_,_,rfl,rfl,h1,rfl,?_⟩
 dsimp only [dJ]
 refine ⟨fA,dx,pP,pW,pB,GO pins,vb aj,kP,kW,kB,Xc pins,p.nm,rfl,R3,W3,by rw [aay,aay];rfl,by rw [aay];exact aai.mpr ⟨p,mp,rfl⟩,fun b hb=>?_,fun H4 w4 lE k4 R4 W4 sub=>?_⟩
 ·obtain ⟨b',iH,rfl⟩:=aai.mp hb
  exact free b' (aaK _ iH)
 rw [mD (fun p=>(p.nm,qX p.sp)) (fun _=>rfl) st.gp.np ep] at R4
 rw [mD (fun p=>(p.nm,p.ws)) (fun _=>rfl) st.gp.np ep] at W4
 have k24:KO pP pW pB lP lB lO H2 H4:=fun b o m1 m2 m3 m4 m5 m6 e=>k4 b o m1 m2 (k3 b o m1 m2 m3 m4 m5 m6 e)
 have Lv:H4 lB=some (.lst cA):=k4 _ _ (aaD nP') (aaD nW') (ot _ _ (aaD st.ne.1) ji.hb)
 have ho4:H4 lO=some (.lst vo):=k4 _ _ (aaD Sk) (aaD Sl) (ot _ _ (aaD st.ne.2.1) ji.ho)
 have hp4:H4 lP=some (.lst (us.eraseIdx k)):=k4 _ _ (aaD nP) (aaD Xd) e3
 have t24:=ji.t k24
 have pe:∀{us:ε} {l:ν} {j:Nat},Paired (iG K H4 lP lB lO) us l->Paired (iG K H4 lP lB lO) (us.eraseIdx j) (l.eraseIdx j):=fun {us l j} h=>by
  induction h generalizing j with
  | nil=>exact .nil
  | cons x t ih=>
   cases j with
   | zero=>exact t
   | succ j=>exact .cons x ih
 have st4:∀(H5:Hp)(vs5 vo5:ε),(∀b o,b≠lB->b≠lO->H4 b=some o->H5 b=some o)->H5 lB=some (.lst vs5)->Paired (fD K H5 (pins.eraseIdx k)) vs5 aj->H5 lO=some (.lst vo5)->Paired (fD K H5 (pins.eraseIdx k)) vo5 outs->WS K H5 C fA dx pP pW pB lP lB lO (us.eraseIdx k) vs5 vo5 (pins.eraseIdx k) aj outs/\iG K H5 lP lB lO (.ref ta) p/\KO pP pW pB lP lB lO H H5:=fun H5 vs5 vo5 k5 Ms pb5 So po5=>by
  have k25:KO pP pW pB lP lB lO H2 H5:=fun b o m1 m2 m3 m4 m5 m6 e=>k5 b o m5 m6 (k24 b o m1 m2 m3 m4 m5 m6 e)
  have t5:bu H4 H5:=fun b xs r=>by
   rcases r with r|⟨o',r⟩
   ·exact .inl (k5 _ _ (fun z=>by rw [z,Lv] at r;cases r) (fun z=>by rw [z,ho4] at r;cases r) r)
   ·exact .inr ⟨o',k5 _ _ (fun z=>by rw [z,Lv] at r;cases r) (fun z=>by rw [z,ho4] at r;cases r) r⟩
  have py5:∀{z:V} {r:ay},iG K H4 lP lB lO z r->iG K H5 lP lB lO z r:=fun {z r} y=>by
   obtain ⟨a',l',sv',ws',ev',c1,c2,c3,c4,c5,c6,c7⟩:=y
   exact ⟨a',l',sv',ws',ev',t5.bI c1,c2.aR t5,k5 _ _ c6 c7 c3,c4.aR t5,c5,c6,c7⟩
  have nWk:∀kv∈lE,kv.2≠.ref lP/\kv.2≠.ref lB/\kv.2≠.ref lO:=fun kv BE=>nW kv (sub kv BE)
  refine ⟨⟨⟨w4,lE,kB,R4.gJ t5 ((k5 _ _ (fun z=>by have h:=R4.obj;rw [z,Lv] at h;cases h) (fun z=>by have h:=R4.obj;rw [z,ho4] at h;cases h) R4.obj).trans R4.obj.symm) ((k5 _ _ nP' Sk R4.pl).trans R4.pl.symm) ((k5 _ _ nW' Sl R4.wy).trans R4.wy.symm) ((k5 _ _ nB' Tg R4.br).trans R4.br.symm),?_,nWk⟩,k5 _ _ st.ne.1 st.ne.2.1 hp4,Paired.bL (pe (j:=k) (Paired.bL ji.pp fun _ _ z=>ji.Lu k24 z)) fun _ _ z=>py5 z,Ms,pb5,So,po5,st.gp.erase k,⟨st.go.nb,fun b hb=>?_⟩,?_,st.lo,st.ne⟩,py5 (ji.Lu k24 hy),(KO.of (s1.trans s2)).trans k25⟩
  ·refine cF (aer W4) fun i p' kv e1 e2=>?_
   obtain ⟨S1,e3',z1,l,eK,z2,z3,z4⟩:=aw W4 e1
   rw [e2] at e3'
   cases e3'
   exact ⟨z1,l,eK,z2,k5 _ _ (fun z=>(nWk _ (Wp e2)).2.1 (by rw [z2,z])) (fun z=>(nWk _ (Wp e2)).2.2 (by rw [z2,z])) z3,z4.aR t5⟩
  ·obtain ⟨m1,m2,m3⟩:=st.go.ends b hb
   obtain ⟨f1,f2⟩:=free b hb
   have ins:∀r∈pins,p.nm≠r.nm->r∈pins.eraseIdx k:=fun r hr ne=>by
    obtain ⟨i,ei⟩:=aaq hr
    have ik:i≠k:=fun z=>by
     rw [z,ep] at ei
     cases ei
     exact ne rfl
    exact Wp ((qN ik).trans ei)
   exact ⟨ins _ m1 f1,ins _ m2 f2,m3⟩
  ·rw [ab4]
   split<;>omega
 have ne2:=st.ne.2.2
 refine ⟨_,rfl,_,rfl,lB,k,cA,pins,aj,p,rfl,Lv,Paired.bL ji.pb fun _ _ z=>?_,by omega,ep,fun b hb=>free b (aaK _ hb),fun xs H5 k5 Ms pb5=>?_⟩
 ·obtain ⟨a,i,j,c0,e,g1,g2,g3⟩:=z
  exact ⟨a,i,j,c0,e,t24.bI g1,g2,g3⟩
 have So:=k5 _ _ (aaD ne2) ho4
 have t5:bu H4 H5:=fun b xs r=>by
  rcases r with r|⟨o',r⟩
  ·exact .inl (k5 _ _ (fun z=>by rw [z,Lv] at r;cases r) r)
  ·exact .inr ⟨o',k5 _ _ (fun z=>by rw [z,Lv] at r;cases r) r⟩
 refine ⟨_,rfl,_,rfl,lO,k,vo,pins,outs,p,rfl,So,Paired.bL ji.po fun _ _ z=>?_,by omega,ep,fun b hb=>free b (aaN _ hb),fun ys H6 k6 ho6 po6=>?_⟩
 ·obtain ⟨a,i,j,c0,e,g1,g2,g3⟩:=z
  exact ⟨a,i,j,c0,e,t5.bI (t24.bI g1),g2,g3⟩
 have t6:bu H5 H6:=fun b xs r=>by
  rcases r with r|⟨o',r⟩
  ·exact .inl (k6 _ _ (fun z=>by rw [z,So] at r;cases r) r)
  ·exact .inr ⟨o',k6 _ _ (fun z=>by rw [z,So] at r;cases r) r⟩
 obtain ⟨w6,y6,ko⟩:=st4 H6 xs ys (fun b o n1 n2 e=>k6 b o n2 (k5 b o n1 e)) (k6 _ _ ne2 Ms) (Paired.bL pb5 fun _ _ z=>by
  obtain ⟨a,i,j,c0,e,g1,g2,g3⟩:=z
  exact ⟨a,i,j,c0,e,t6.bI g1,g2,g3⟩) ho6 po6
 exact ⟨_,rfl,q k p (.ref ta) _ xs ys H6 ep ko w6 y6⟩
theorem P7 :fK [x,y,z,u] none (some 3)=[x,y,z]:=rfl
section
variable {H H':Hp}{C fA dx pP pW pB lP lB lO:aef}{us vs vo:ε}{pins:ν}{aj outs:τ}
theorem WS.Xg (st:WS K H C fA dx pP pW pB lP lB lO us vs vo pins aj outs){jC kZ:τ}(R:dP K H C fA dx pP pW pB (GO pins) (vb aj) kP kW kB)(W:pR K H (Xc pins) kW)(nW:∀kv∈kW,kv.2≠.ref lP/\kv.2≠.ref lB/\kv.2≠.ref lO)(ko:∀b o,b≠pB->b≠lB->b≠lO->H b=some o->H' b=some o)(R':dP K H' C fA dx pP pW pB (GO pins) (vb jC) kP kW KN)(hb:H' lB=some (.lst Ly))(pb:Paired (fD K H' pins) Ly jC)(ho:H' lO=some (.lst Lz))(po:Paired (fD K H' pins) Lz kZ)(go:gO pins (jC++kZ))(lo:jC.length+kZ.length<=7):KO pP pW pB lP lB lO H H'/\WS K H' C fA dx pP pW pB lP lB lO us Ly Lz pins jC kZ:=by
 have k:KO pP pW pB lP lB lO H H':=fun b o _ _ n3 _ n5 n6 e=>ko b o n3 n5 n6 e
 have nP:lP≠pB:=fun z=>by have h:=R.br;rw [<-z,st.hp] at h;cases h
 exact ⟨k,⟨kP,kW,KN,R',st.wys k W nW,nW⟩,ko _ _ nP st.ne.1 st.ne.2.1 st.hp,Paired.bL st.pp fun _ _ z=>st.Lu k z,hb,pb,ho,po,st.gp,go,st.lp,lo,st.ne⟩
end
theorem gO.perm {l m:τ}(g:gO pins l)(p:l.Perm m):gO pins m:=⟨(p.map _).nodup_iff.mp g.nb,fun b hb=>g.ends b (p.mem_iff.mpr hb)⟩
theorem jY {α:Type}:∀{l:List α} {k:Nat} {x:α},l[k]?=some x->l.Perm (x::l.eraseIdx k)
 | a::l,0,x,h=>by
  cases h
  exact List.Perm.refl _
 | a::l,k+1,x,h=>by
  have h':l[k]?=some x:=by simpa using h
  rw [ajQ]
  exact ((jY h').cons a).trans (List.Perm.swap _ _ _)
theorem fQ :∀{us:List α} {l:List β} {j:Nat},Paired R us l->Paired R (us.eraseIdx j) (l.eraseIdx j)
 | _,_,_,.nil=>.nil
 | _,_,0,.cons _ t=>t
 | _,_,j+1,.cons x t=>.cons x (fQ t)
theorem za:∀{aj:τ} {k:Nat} {b:a_},(aj.map (·.nm)).Nodup->aj[k]?=some b->(vb aj).filter (fun x=>decide (x.1≠b.nm))=vb (aj.eraseIdx k):=fun {aj}=>by
 induction aj with
 | nil=>intro k b _ e;cases e
 | cons q ps ih=>
  intro k p nd e
  rw [aaj,aaR] at nd
  cases k with
  | zero=>
   cases e
   show ((q.nm,q.one.nm,q.other.nm)::vb ps).filter _=vb ps
   rw [ac9 (by simp),aj8]
   intro b hb
   obtain ⟨r,hr,rfl⟩:=aai.mp hb
   exact aeD (fun z=>nd.1 (by rw [<-z];exact aai.mpr ⟨r,hr,rfl⟩))
  | succ k=>
   have e':ps[k]?=some p:=by simpa using e
   have ne:q.nm≠p.nm:=fun z=>nd.1 (by rw [z];exact aai.mpr ⟨p,Wp e',rfl⟩)
   show ((q.nm,q.one.nm,q.other.nm)::vb ps).filter _=(q.nm,q.one.nm,q.other.nm)::vb (ps.eraseIdx k)
   rw [ac2 (by simpa using ne),ih nd.2 e']
inductive ze (K:Frag)(C:aef)(vs:ε)(H:Hp)(Q:VK)(E_:XK):Prop
|mk (fA dx pP pW pB lP lB lO:aef)(us cA vo:ε)(pins:ν)(aj outs:τ)(c:Int)(_:vs=[.ref fA,.ref lP,.ref lB,.ref lO,.int c])(_:WS K H C fA dx pP pW pB lP lB lO us cA vo pins aj outs)(_:(∀H',au H H' ->Q (.bl false) H'))(_:∀(Ly Lz:ε)(jC kZ:τ)(H':Hp),(aj++outs).Perm (jC++kZ)->KO pP pW pB lP lB lO H H' ->WS K H' C fA dx pP pW pB lP lB lO us Ly Lz pins jC kZ->Q (.bl true) H')
theorem gy:aC ["_law_frame_here","_law_pins_here","_law_bars_here","_law_out","_law_cell","_law_kind","_law_bar"] zac (ae ff):=sq
theorem xu (D:Def K mg "_law_deed" ff zac)(aX:mg "len"=none)(cE:Fn P w K mg base (aY P w) 1 "_law_field" zab du)(MTb:bH P w K mg base (aY P w) 1 C "take_bar" zaF (je K C))(Ta:bH P w K mg base (aY P w) 3 C "put_bar" zak (iV K C)):
  Fn P w K mg base (aY P w) 4 "_law_deed" zac (ze K C):=by
 refine D.oo gy fun H hr h=>?_
 obtain ⟨fA,dx,pP,pW,pB,lP,lB,lO,us,cA,vo,pins,aj,outs,c,rfl,st,qf,q⟩:=h
 have L4:4<=ael:=by decide
 have lvb:cA.length=aj.length:=aer st.pb
 have lvo:vo.length=outs.length:=aer st.po
 have lo:=st.lo
 obtain ⟨kP,kW,kB,R,W,nW⟩:=st.fr
 have nPb:pP≠lB:=fun z=>by have h:=R.pl;rw [z,st.hb] at h;cases h
 have nWb:pW≠lB:=fun z=>by have h:=R.wy;rw [z,st.hb] at h;cases h
 have nBb:pB≠lB:=fun z=>by have h:=R.br;rw [z,st.hb] at h;cases h
 have fb:fA≠lB:=fun z=>by have h:=R.obj;rw [z,st.hb] at h;cases h
 have Sk:pP≠lO:=fun z=>by have h:=R.pl;rw [z,st.ho] at h;cases h
 have Sl:pW≠lO:=fun z=>by have h:=R.wy;rw [z,st.ho] at h;cases h
 have Tg:pB≠lO:=fun z=>by have h:=R.br;rw [z,st.ho] at h;cases h
 have fo:fA≠lO:=fun z=>by have h:=R.obj;rw [z,st.ho] at h;cases h
 have ne2:=st.ne.2.2
 refine ⟨_,(aa (aK (i:=5) gy.nd (aT cE hr (bE (pv 4) ag ag)))
  (aa (bh (PW.pt (oG (bB dq (pv 5) ag) (j7 (bB mM (aG aD rfl aX bS (aS (pv 2))) ag)))) (aa (aK (i:=6) gy.nd (gs aeH PySem.F.slot_list_pop PySem.F.type_list_pop oM (pv 2) (aS (aT cE hr (bE (pv 4) ag (aG aD rfl aX bS (aS (pv 2))))))))
   (aa (bq (gs aeH aeN aeP cQ (pv 3) (aS (aJ tQ (cP tN (pv 6) fj (cM ag)) (aU (aS (pv 4)))))))
   (aa (bq (cW (k:=1) (pv 0) hr.mo (wO P w) (aS (aF (pv 6)))))
   (ah (aE cN))))) aI)
  (aa (bh (PW.pt (oG (bB dq (pv 5) ag) (j7 (bB mM (aG aD rfl aX bS (aS (pv 3))) ag)))) (aa (aK (i:=6) gy.nd (gs aeH PySem.F.slot_list_pop PySem.F.type_list_pop oM (pv 3) (aS (aT cE hr (bE (pv 4) ag (aG aD rfl aX bS (aS (pv 3))))))))
   (aa (bq (gs aeH aeN aeP cQ (pv 2) (aS (pv 6))))
   (aa (bq (cW (k:=3) (pv 0) hr.mo (wO P w) (bE (aF (pv 6)) (aF (bD aQ (pv 1) (aF (pv 6)))) (aF (bD aQ (pv 1) (aF (pv 6)))))))
   (ah (aE cN))))) aI)
  (ah (aE cN))))),?_⟩
 refine ⟨_,rfl,_,_,_,rfl,by decide,by decide,by decide,?_⟩
 generalize field c 1009 4=kd
 dsimp only [b9]
 refine cn (fun σ' H'=>σ' =[some (.ref fA),some (.ref lP),some (.ref lB),some (.ref lO),some (.int c),some (.int kd),none]/\H'=H) (fun Nx i5=>?_) ?_
 ·refine ⟨_,rfl,rfl,_,rfl,bg (fun _=>?_) (fun _=>bg (fun c=>nomatch c) (fun _=>i5 _ _ ⟨rfl,rfl⟩))⟩
  refine ⟨_,rfl,lB,_,rfl,.inl (aV.of st.hb),_,_,rfl,rfl,_,rfl,bg (fun cl=>?_) (fun _=>i5 _ _ ⟨rfl,rfl⟩)⟩
  have cl':=aeJ cl
  refine ⟨_,rfl,.inl ⟨rfl,_,aV.of st.hb⟩,_,rfl,_,rfl,lB,_,rfl,.inl (aV.of st.hb),_,_,_,rfl,by decide,by decide,by omega,?_⟩
  have fi:=ba (c:=c) (p:=2003) (m:=((cA.length:Nat):Int)) (by omega)
  generalize field c 2003 ((cA.length:Nat):Int)=fv at fi ⊢
  obtain ⟨k,rfl⟩:∃n:Nat,fv=(n:Int):=⟨fv.toNat,by omega⟩
  have hk:k<cA.length:=by omega
  obtain ⟨b,eb⟩:∃b,aj[k]?=some b:=⟨_,gE (by omega)⟩
  have mb:=Wp eb
  obtain ⟨y,ey,hy⟩:=aw (bU st.pb) eb
  have hy:fD K H pins y b:=hy
  obtain ⟨ta,i,j,c0,rfl,h1,g1,g2⟩:=hy
  refine ⟨lB,cA,(k:Int),k,.ref ta,rfl,rfl,st.hb,by omega,by omega,yo hk,ey,?_⟩
  have ve:∀b o,b≠lB->H b=some o->(upd H lB (.lst (cA.eraseIdx k))) b=some o:=fun b o n e=>by rw [ao n];exact e
  have Pq:(upd H lB (.lst (cA.eraseIdx k))) lB=some (.lst (cA.eraseIdx k)):=ak
  generalize upd H lB (.lst (cA.eraseIdx k))=H2 at ve Pq ⊢
  have k2:KO pP pW pB lP lB lO H H2:=fun b o _ _ _ _ n5 _ e=>ve b o n5 e
  have t2:=st.t k2
  have ID:=ve _ _ (aaD ne2) st.ho
  have h12:=t2.bI h1
  refine ⟨_,rfl,.inl ⟨rfl,_,aV.of ID⟩,_,rfl,3,rfl,ta,_,rfl,h12,(by show ¬ (HT.dN 4 0 none=0/\HT.dN 4 4 (some 3)=4);decide),?_⟩
  rw [P7]
  intro p3 n3;generalize eX:upd _ p3 _=H3;have ⟨s3,e3⟩:=nw n3 eX
  refine ⟨_,rfl,z1L,?_⟩
  intro p4 n4;generalize eX:upd _ p4 _=H4;have ⟨s4,e4⟩:=nw n4 eX
  refine ⟨p3,p4,_,_,rfl,rfl,bJ.of (s4 _ _ e3),bJ.of e4,by simp,L4,fun z=>(nomatch z),fun _=>?_⟩
  intro p5 n5;generalize eX:upd _ p5 _=H5;have ⟨s5,e5⟩:=nw n5 eX
  have P1:=s3.trans (s4.trans s5)
  have So:=P1 _ _ ID
  refine ⟨lO,_,_,rfl,rfl,So,aap (show vo.length<=100 by omega) (by decide),?_⟩
  have vA:∀b o,b≠lO->H2 b=some o->(upd H5 lO (.lst (vo++[.ref p5]))) b=some o:=fun b o n e=>by rw [ao n];exact P1 _ _ e
  have ho6:(upd H5 lO (.lst (vo++[.ref p5]))) lO=some (.lst (vo++[.ref p5])):=ak
  have e6:(upd H5 lO (.lst (vo++[.ref p5]))) p5=some (.tup [.str b.nm,.int (i:Int),.int (j:Int),.int c]):=by
   rw [ao (fun z=>by rw [z,s4 _ _ (s3 _ _ ID)] at n5;cases n5)]
   exact e5
  generalize upd H5 lO (.lst (vo++[.ref p5]))=H6 at vA ho6 e6 ⊢
  have k6:KO pP pW pB lP lB lO H H6:=fun b o _ _ _ _ n5 n6 e=>vA b o n6 (ve b o n5 e)
  have t6:=st.t k6
  have R6:dP K H6 C fA dx pP pW pB (GO pins) (vb aj) kP kW kB:=R.gJ t6 ((vA _ _ fo (ve _ _ fb R.obj)).trans R.obj.symm) ((vA _ _ Sk (ve _ _ nPb R.pl)).trans R.pl.symm) ((vA _ _ Sl (ve _ _ nWb R.wy)).trans R.wy.symm) ((vA _ _ Tg (ve _ _ nBb R.br)).trans R.br.symm)
  refine ⟨_,rfl,fA,C,dx,_,_,_,rfl,R6.obj,rfl,MTb,_,rfl,ta,_,_,_,rfl,rfl,t6.bI h1,dz,?_⟩
  dsimp only [dJ]
  refine ⟨fA,dx,pP,pW,pB,GO pins,vb aj,kP,kW,kB,b.nm,rfl,R6,by rw [aay];exact aai.mpr ⟨b,mb,rfl⟩,fun H7 KN k7 R7=>?_⟩
  rw [za st.gb.nb eb] at R7
  have pm:(aj++outs).Perm (aj.eraseIdx k++(outs++[b])):=((jY eb).append_right outs).trans (by
   have h1:(b::aj.eraseIdx k++outs).Perm ((aj.eraseIdx k++outs)++[b]):=(List.perm_append_singleton _ _).symm
   rw [ab5] at h1
   exact h1)
  have ko:∀x o,x≠pB->x≠lB->x≠lO->H x=some o->H7 x=some o:=fun x o n1 n2 n3 e=>k7 _ _ n1 (vA _ _ n3 (ve _ _ n2 e))
  have t7:bu H H7:=st.t (H':=H7) fun x o _ _ n3 _ n5 n6 e=>ko x o n3 n5 n6 e
  have br:∀{u:V} {x:a_},fD K H pins u x->fD K H7 pins u x:=fun {u x} z=>by
   obtain ⟨a,i,j,c0,e,z1,z2,z3⟩:=z
   exact ⟨a,i,j,c0,e,t7.bI z1,z2,z3⟩
  have p5B:p5≠pB:=fun z=>by rw [z,R6.br] at e6;cases e6
  have le:=ad3 (l:=aj) (i:=k) (by omega)
  obtain ⟨kk,ww⟩:=st.Xg R W nW ko R7 (k7 _ _ (aaD nBb) (vA _ _ ne2 Pq)) (fQ (Paired.bL st.pb fun _ _ z=>br z)) (k7 _ _ (aaD Tg) ho6) (cI (Paired.bL st.po fun _ _ z=>br z) ⟨p5,i,j,c,rfl,bJ.of (k7 _ _ p5B e6),g1,g2⟩) (st.go.perm pm) (by rw [le,aat,abH];omega)
  exact q _ _ _ _ H7 pm kk ww
 rintro σ1 H1 ⟨rfl,e1⟩
 rw [e1]
 refine cn (fun σ' H'=>H'=H) (fun Nx i5=>?_) (fun σ' H' e=>by rw [e];exact qf _ (au.refl _))
 refine ⟨_,rfl,rfl,_,rfl,bg (fun _=>?_) (fun _=>bg (fun c=>nomatch c) (fun _=>i5 _ _ rfl))⟩
 refine ⟨_,rfl,lO,_,rfl,.inl (aV.of st.ho),_,_,rfl,rfl,_,rfl,bg (fun cl=>?_) (fun _=>i5 _ _ rfl)⟩
 have cl':=aeJ cl
 refine ⟨_,rfl,.inl ⟨rfl,_,aV.of st.ho⟩,_,rfl,_,rfl,lO,_,rfl,.inl (aV.of st.ho),_,_,_,rfl,by decide,by decide,by omega,?_⟩
 have fi:=ba (c:=c) (p:=2003) (m:=((vo.length:Nat):Int)) (by omega)
 generalize field c 2003 ((vo.length:Nat):Int)=fv at fi ⊢
 obtain ⟨k,rfl⟩:∃n:Nat,fv=(n:Int):=⟨fv.toNat,by omega⟩
 have hk:k<vo.length:=by omega
 obtain ⟨b,eb⟩:∃b,outs[k]?=some b:=⟨_,gE (by omega)⟩
 have mb:=Wp eb
 obtain ⟨y,ey,hy⟩:=aw (bU st.po) eb
 have hy:fD K H pins y b:=hy
 obtain ⟨ta,i,j,c0,rfl,h1,g1,g2⟩:=id hy
 refine ⟨lO,vo,(k:Int),k,.ref ta,rfl,rfl,st.ho,by omega,by omega,yo hk,ey,?_⟩
 have ve:∀b o,b≠lO->H b=some o->(upd H lO (.lst (vo.eraseIdx k))) b=some o:=fun b o n e=>by rw [ao n];exact e
 have ID:(upd H lO (.lst (vo.eraseIdx k))) lO=some (.lst (vo.eraseIdx k)):=ak
 generalize upd H lO (.lst (vo.eraseIdx k))=H2 at ve ID ⊢
 have Pq:=ve _ _ ne2 st.hb
 refine ⟨_,rfl,.inl ⟨rfl,_,aV.of Pq⟩,_,rfl,lB,_,_,rfl,rfl,Pq,aap (show cA.length<=100 by omega) (by decide),?_⟩
 have vA:∀b o,b≠lB->H2 b=some o->(upd H2 lB (.lst (cA ++[.ref ta]))) b=some o:=fun b o n e=>by rw [ao n];exact e
 have Xf:(upd H2 lB (.lst (cA ++[.ref ta]))) lB=some (.lst (cA ++[.ref ta])):=ak
 generalize upd H2 lB (.lst (cA ++[.ref ta]))=H6 at vA Xf ⊢
 have k6:KO pP pW pB lP lB lO H H6:=fun b o _ _ _ _ n5 n6 e=>vA b o n5 (ve b o n6 e)
 have t6:=st.t k6
 have R6:dP K H6 C fA dx pP pW pB (GO pins) (vb aj) kP kW kB:=R.gJ t6 ((vA _ _ fb (ve _ _ fo R.obj)).trans R.obj.symm) ((vA _ _ nPb (ve _ _ Sk R.pl)).trans R.pl.symm) ((vA _ _ nWb (ve _ _ Sl R.wy)).trans R.wy.symm) ((vA _ _ nBb (ve _ _ Tg R.br)).trans R.br.symm)
 have RS:=vA _ _ st.ne.1 (ve _ _ st.ne.2.1 st.hp)
 have h16:=t6.bI h1
 obtain ⟨c1,la1,sv1,N8,q1,_⟩:=mB st.pr g1
 obtain ⟨c2,la2,sv2,N9,q2,_⟩:=mB st.pr g2
 refine ⟨_,rfl,fA,C,dx,_,_,_,rfl,R6.obj,rfl,Ta,_,rfl,ta,_,_,_,rfl,rfl,h16,dz,_,rfl,_,rfl,ta,_,_,_,rfl,rfl,h16,rfl,lP,_,_,_,rfl,rfl,aV.of RS,N8,c1,_,_,_,rfl,rfl,t6.bI q1,dz,_,rfl,_,rfl,ta,_,_,_,rfl,rfl,h16,rfl,lP,_,_,_,rfl,rfl,aV.of RS,N9,c2,_,_,_,rfl,rfl,t6.bI q2,dz,?_⟩
 dsimp only [dJ]
 have ends:=st.go.ends b (aaN _ mb)
 have pm:(aj++outs).Perm ((aj++[b])++outs.eraseIdx k):=by
  rw [ab5]
  exact (jY eb).append_left aj
 have nob:b.nm∉aj.map (·.nm):=fun z=>by
  have h:=st.go.nb
  rw [aax,ab6] at h
  exact h.2.2 b.nm z b.nm (aai.mpr ⟨b,mb,rfl⟩) rfl
 refine ⟨fA,dx,pP,pW,pB,GO pins,vb aj,kP,kW,kB,b.nm,b.one.nm,b.other.nm,rfl,R6,by rw [aay];exact nob,by rw [aay];exact aai.mpr ⟨_,ends.1,rfl⟩,by rw [aay];exact aai.mpr ⟨_,ends.2.1,rfl⟩,ends.2.2,by rw [aah];omega,fun H7 KN k7 R7=>?_⟩
 have R7':dP K H7 C fA dx pP pW pB (GO pins) (vb (aj++[b])) kP kW KN :=by
  rw [show vb (aj++[b])=vb aj++[(b.nm,b.one.nm,b.other.nm)] from aax]
  exact R7
 have ko:∀x o,x≠pB->x≠lB->x≠lO->H x=some o->H7 x=some o:=fun x o n1 n2 n3 e=>k7 _ _ n1 (vA _ _ n2 (ve _ _ n3 e))
 have t7:bu H H7:=st.t (H':=H7) fun x o _ _ n3 _ n5 n6 e=>ko x o n3 n5 n6 e
 have br:∀{u:V} {x:a_},fD K H pins u x->fD K H7 pins u x:=fun {u x} z=>by
  obtain ⟨a,i,j,c0,e,z1,z2,z3⟩:=z
  exact ⟨a,i,j,c0,e,t7.bI z1,z2,z3⟩
 have le:=ad3 (l:=outs) (i:=k) (by omega)
 obtain ⟨kk,ww⟩:=st.Xg R W nW ko R7' (k7 _ _ (aaD nBb) Xf) (cI (Paired.bL st.pb fun _ _ z=>br z) (br hy)) (k7 _ _ (aaD Tg) (vA _ _ (aaD ne2) ID)) (fQ (Paired.bL st.po fun _ _ z=>br z)) (st.go.perm pm) (by rw [le,aat,abH];omega)
 exact q _ _ _ _ H7 pm kk ww
theorem Oe (r:Rat)(n:Int):eQ (qr r) (n,1)=qr (r+(n:Rat)):=by
 have e:eQ (qr r) (n,1)=((qr r).1+n*(qr r).2,(qr r).2):=by
  unfold eQ
  simp
 have g:aaZ ((qr r).1+n*(qr r).2) (qr r).2=1:=by
  have:=jM r
  rw [<-this]
  simp
 rw [e,pO (q:=((qr r).1+n*(qr r).2,(qr r).2)) (cD r) g]
 congr 1
 have z:=uz (r:=r)
 have v:=fB r
 unfold vl at v ⊢
 push_cast
 grind
theorem Of:∀i:Fin 4,(aeY "far").length+(aeY (toString (i.val:Int))).length<=1000:=by decide+kernel
inductive Sq (K:Frag)(C:aef)(vs:ε)(H:Hp)(Q:VK)(E_:XK):Prop
|mk (fA dx pP pW pB lP lB lO:aef)(us cA vo:ε)(pins:ν)(aj outs:τ)(g:V)(c:Int)(r:Nat)(_:vs=[.ref fA,.ref lP,g,.int c,.int (r:Int)])(_:WS K H C fA dx pP pW pB lP lB lO us cA vo pins aj outs)(_:pins.length<=8)(_:r<4)(_:((g=.cg/\(∀p∈pins,p.nm≠qB (r:Int)/\p.sp.1<((2000003+(r:Int):Int):Rat))/\∀(y:Int)(ws:υ)(eK :ε)(H':Hp),0<=y->y<99->KO pP pW pB lP lB lO H H' ->WS K H' C fA dx pP pW pB lP lB lO eK cA vo (pins++[⟨qB (r:Int),(((2000003+(r:Int):Int):Rat),(y:Rat)),ws⟩]) aj outs->Q .cg H')\/∃p,iG K H lP lB lO g p/\p.nm∉pins.map (·.nm)/\Sz 44 p.sp.1/\Sz 44 p.sp.2/\(∀fv:Int,fv=0\/fv=1->(p.sp.1,p.sp.2+((4000037*fv:Int):Rat))∉pins.map (·.sp)/\Sz 44 (p.sp.2+((4000037*fv:Int):Rat)))/\∀(fv:Int)(ws:υ)(eK :ε)(H':Hp),fv=0\/fv=1->KO pP pW pB lP lB lO H H' ->WS K H' C fA dx pP pW pB lP lB lO eK cA vo (pins++[⟨p.nm,(p.sp.1,p.sp.2+((4000037*fv:Int):Rat)),ws⟩]) aj outs->Q .cg H'))
theorem fq:aC ["_law_frame_here","_law_pins_here","_law_gone","_law_cell","_law_k","_law_name_here","_law_spot_here","_law_ways_here"] zai (ae dB):=sq
theorem rB (D:Def K mg "_law_pin_in" dB zai)(tu:mg "str"=none)(cE:Fn P w K mg base (aY P w) 1 "_law_field" zab du)(RZ:Fn P w K mg base (aY P w) 34 "_law_ways" zaQ (oC K))(i0:Fn P w K mg base (aY P w) 1 "_law_sum" zaa (b8 K eQ))
  (rC:Fn P w K mg base (aY P w) 4 "_law_put_pin" zae (y8 K C)):
  Fn P w K mg base (aY P w) 35 "_law_pin_in" zai (Sq K C):=by
 refine D.op fq fun f cp A outer s H vs Q E hr h=>?_
 obtain ⟨fA,dx,pP,pW,pB,lP,lB,lO,us,cA,vo,pins,aj,outs,g,c,r,rfl,st,lp8,hr4,hg⟩:=h
 have L2:2<=ael:=by decide
 have L3:3<=ael:=by decide
 have lg:(r:Int).natAbs.log2<1920:=aap (akC _) (by show r<1920;omega)
 refine ⟨_,(aa (NF (i:=5) (j:=6) (k:=7) rfl fq.nd rfl rfl rfl (by decide) rfl rfl rfl (bE (aJ gW dY (b_ j8 rfl tu Pb (aS (pv 4)))) (aU (aL (aU (aL (aJ cf ag (pv 4)) ag)) (aU (aL (aT cE hr (bE (pv 3) ag ag)) ag)))) (bV eZ)) rfl)
  (aa (bh (lG (MO (pv 2))) (aa (aK (i:=5) fq.nd (aF (pv 2)))
   (ah (aK (i:=6) fq.nd (aU (aL (aF (aF (pv 2))) (aT i0 hr (aL (aF (aF (pv 2))) (aU (aL (aJ cV ag (aT cE hr (bE (pv 3) ag ag))) ag))))))))) aI)
  (ah (bq (aT rC hr (iA (pv 0) (iA (pv 1) (bE (pv 5) (pv 6) (aT RZ hr (aS (pv 3))))))))))),?_⟩
 have i2:=ba (c:=c) (p:=2003) (m:=99) (by decide)
 refine ⟨_,rfl,_,rfl,lg,_,_,rfl,rfl,aak (Of ⟨r,hr4⟩) (by decide),_,rfl,_,_,rfl,rfl,L2,?_⟩
 intro p1 n1;generalize eX:upd _ p1 _=H1;have ⟨s1,e1⟩:=nw n1 eX
 refine ⟨_,rfl,_,_,_,rfl,by decide,by decide,by decide,L2,?_⟩
 intro p2 n2;generalize eX:upd _ p2 _=H2;have ⟨s2,e2⟩:=nw n2 eX
 refine ⟨L2,?_⟩
 intro p3 n3;generalize eX:upd _ p3 _=H3;have ⟨s3,e3⟩:=nw n3 eX
 refine ⟨z0L,?_⟩
 intro l4 n4;generalize eX:upd _ l4 _=H4;have ⟨s4,e4⟩:=nw n4 eX
 have iF:=s1.trans (s2.trans (s3.trans s4))
 refine ⟨_,_,_,rfl,?_⟩
 dsimp only
 have hpt:eG K H3 (.ref p3) (((2000003+(r:Int):Int):Rat),((field c 2003 99:Int):Rat)):=kN e3 ((qz _ e1).same (s2.trans s3)) ((qz _ e2).same s3)
 refine cn (fun σ' H'=>G' fun (nm:Str) (sp:aef) (pt:Rat×Rat)=>σ' =[some (.ref fA),some (.ref lP),some g,some (.int c),some (.int (r:Int)),some (.str nm),some (.ref sp),some (.ref l4)]/\au H H'/\eG K H' (.ref sp) pt/\nm∉pins.map (·.nm)/\pt∉pins.map (·.sp)/\(Sz 44 pt.1/\Sz 44 pt.2)/\∀(ws:υ)(eK :ε)(H2:Hp),KO pP pW pB lP lB lO H H2->WS K H2 C fA dx pP pW pB lP lB lO eK cA vo (pins++[⟨nm,pt,ws⟩]) aj outs->Q .cg H2) (fun Nx i5=>?_) ?_
 ·refine ⟨_,rfl,_,rfl,?_⟩
  rcases hg with ⟨rfl,hf,q⟩|⟨p,hy,Tf,z1,z2,hfv,q⟩
  ·refine bg (fun cc=>aet cc (by simp)) (fun _=>i5 _ _ ⟨qB (r:Int),p3,_,rfl,iF,hpt.same s4,fun z=>?_,fun z=>?_,⟨?_,?_⟩,fun ws eK H2 k w=>q _ ws eK H2 i2.1 i2.2 k w⟩)
   ·obtain ⟨p',iY,e'⟩:=aai.mp z
    exact (hf p' iY).1 e'
   ·obtain ⟨p',iY,e'⟩:=aai.mp z
    have h1:=(hf p' iY).2
    rw [e'] at h1
    exact aet h1 (Rat.lt_irrefl)
   ·exact g8 (aaB (show _<2097152 by omega) (by decide)) (by decide)
   ·exact g8 (aaB (show _<128 by omega) (by decide)) (by decide)
  ·obtain ⟨ta,la,sv,ws0,rfl,h1,h2,h3,h4,h5,h6,h7⟩:=id hy
   obtain ⟨sa,x1,y1,rfl,rq,N6,GV⟩:=h2
   refine bg (fun _=>?_) (fun cc=>aet (by simp) cc)
   have i3:=ba (c:=c) (p:=3001) (m:=2) (by decide)
   have h14:=Ty.au.bI iF h1
   have hs4:=Ty.au.bI iF rq
   refine ⟨_,rfl,ta,_,_,_,rfl,rfl,h14,dz,_,rfl,ta,_,_,_,rfl,rfl,h14,rfl,sa,_,_,_,rfl,rfl,hs4,iC,_,rfl,ta,_,_,_,rfl,rfl,h14,rfl,sa,_,_,_,rfl,rfl,hs4,iD,_,rfl,_,_,_,rfl,by decide,by decide,by decide,_,_,rfl,rfl,⟨by decide+kernel,aak (intBits_le_64 (by omega) (by omega)) (by decide)⟩,L2,?_⟩
   intro p5 n5;generalize eX:upd _ p5 _=H5;have ⟨s5,e5⟩:=nw n5 eX
   try dsimp only [dJ]
   generalize field c 3001 2=fv at i3 e5 ⊢
   have nb:Ns 22 (4000037*fv,(1:Int)):=⟨by show (4000037*fv).natAbs<=4194304;omega,by show 1<=2^22;decide⟩
   refine ⟨y1,.ref p5,qr p.sp.2,(4000037*fv,1),44,22,rfl,GV.same (iF.trans s5),⟨p5,rfl,bJ.of e5⟩,Ld z2,nb,by decide,fun p6 H6 s6 e6=>?_⟩
   rw [Oe] at e6
   refine ⟨L2,?_⟩
   intro p7 n7;generalize eX:upd _ p7 _=H7;have ⟨s7,e7⟩:=nw n7 eX
   have WT:=iF.trans (s5.trans (s6.trans s7))
   have two:fv=0\/fv=1:=by omega
   exact i5 _ _ ⟨p.nm,p7,(p.sp.1,p.sp.2+((4000037*fv:Int):Rat)),rfl,WT,kN e7 (N6.same WT) ((iy e6).same s7),Tf,(hfv fv two).1,⟨z1,(hfv fv two).2⟩,fun ws eK H2 k w=>q fv ws eK H2 two k w⟩
 rintro σ' H5 ⟨nm,sp,pt,rfl,s5,hp5,Tf,nA,hsz,q⟩
 refine ⟨_,rfl,_,rfl,_,rfl,_,rfl,_,rfl,_,rfl,fun l8 us8 ws H8 wk s8 n8 e8 p8=>?_⟩
 try dsimp only [dJ]
 have fr:=(st.same s5).fresh n8
 exact ⟨fA,dx,pP,pW,pB,lP,lB,lO,us,cA,vo,pins,aj,outs,.ref sp,l8,us8,⟨nm,pt,ws⟩,rfl,st.same (s5.trans s8),hp5.same s8,e8,p8,⟨fr.2.2.2.1,fr.2.2.2.2.1,fr.2.2.2.2.2⟩,Tf,nA,hsz,wk,lp8,fun eK H' k' W'=>q ws eK H' ((KO.of (s5.trans s8)).trans k') W'⟩
theorem unlike (h1: -500002<=a/\a<=500002)(h2: -500002<=b/\b<=500002)(e:a+((4000037*m:Int):Rat)=b+((4000037*n:Int):Rat)):a=b/\m=n:=by
 have c1:((4000037*m:Int):Rat)=4000037*(m:Rat):=by push_cast;rfl
 have c2:((4000037*n:Int):Rat)=4000037*(n:Rat):=by push_cast;rfl
 rw [c1,c2] at e
 have mn:m=n:=by
  rcases adh m n with z|z|z
  ·have:((m+1:Int):Rat)<=(n:Rat):=aaX.mpr (by omega)
   rw [acZ] at this
   have o:((1:Int):Rat)=1:=rfl
   rw [o] at this
   exfalso
   grind
  ·exact z
  ·have:((n+1:Int):Rat)<=(m:Rat):=aaX.mpr (by omega)
   rw [acZ] at this
   have o:((1:Int):Rat)=1:=rfl
   rw [o] at this
   exfalso
   grind
 subst mn
 exact ⟨by grind,rfl⟩
structure xw (pins:ν)(bs:υ)(r:Nat):Prop where
 pr:Paired (fun (p:ay) (b:Rat×Rat)=>∃m:Nat,m<=r/\p.sp=(b.1,b.2+((4000037*(m:Int):Int):Rat))) pins bs
 nd:bs.Nodup
 yb:∀b∈bs, -500002<=b.2/\b.2<=500002
 xb:∀b∈bs,b.1<((2000003+(r:Int):Int):Rat)
 zb:∀b∈bs,Sz 44 b.1/\Sz 19 b.2
 nm:∀p∈pins,∀k:Nat,r<=k->k<4->p.nm≠qB (k:Int)
theorem xw.up (h:xw pins bs r):xw pins bs (r+1):=⟨Paired.bL h.pr fun _ _ ⟨m,a,b⟩=>⟨m,by omega,b⟩,h.nd,h.yb,fun b hb=>by
 have h1:=h.xb b hb
 have h2:((2000003+(r:Int):Int):Rat)<=((2000003+((r+1:Nat):Int):Int):Rat):=aaX.mpr (by omega)
 exact Std.lt_of_lt_of_le h1 h2,h.zb,fun p hp k hk h4=>h.nm p hp k (by omega) h4⟩
theorem xw.erase (h:xw pins bs r):xw (pins.eraseIdx k) (bs.eraseIdx k) r:=
 ⟨fQ h.pr,h.nd.sublist (abM _ _),fun b hb=>h.yb b ((abM _ _).subset hb),fun b hb=>h.xb b ((abM _ _).subset hb),fun b hb=>h.zb b ((abM _ _).subset hb),fun p hp=>h.nm p ((abM _ _).subset hp)⟩
theorem xw.free (h:xw pins bs r)(hb:b∉bs)(hy: -500002<=b.2/\b.2<=500002)(m:Int):(b.1,b.2+((4000037*m:Int):Rat))∉pins.map (·.sp):=fun z=>by
 obtain ⟨p,hp,e⟩:=aai.mp z
 obtain ⟨i,ei⟩:=aaq hp
 obtain ⟨c,ec,n,_,en⟩:=aw h.pr ei
 have mc:=Wp ec
 have e2:(c.1,c.2+((4000037*(n:Int):Int):Rat))=(b.1,b.2+((4000037*m:Int):Rat)):=en.symm.trans e
 have e3:=aeE akl e2
 have e4:=unlike (h.yb c mc) hy (aeE akm e2)
 exact hb (by rw [<-show c=b from acT e3 e4.1];exact mc)
theorem eW.unN (g:eW pins)(e:pins[k]?=some p):p.nm∉(pins.eraseIdx k).map (·.nm):=fun z=>by
 obtain ⟨q,hq,en⟩:=aai.mp z
 obtain ⟨j,ej⟩:=aaq hq
 rw [aa6] at ej
 have e2:(pins.map (·.nm))[k]?=some p.nm:=by rw [aag,e];rfl
 by_cases c:j<k
 ·rw [aek c] at ej
  have e1:(pins.map (·.nm))[j]?=some p.nm:=by rw [aag,ej,<-en];rfl
  have:=dw g.np e1 e2
  omega
 ·rw [aej c] at ej
  have e1:(pins.map (·.nm))[j+1]?=some p.nm:=by rw [aag,ej,<-en];rfl
  have:=dw g.np e1 e2
  omega
theorem Og {bs:υ}(nd:bs.Nodup)(e:bs[k]?=some b):b∉bs.eraseIdx k:=fun z=>by
 obtain ⟨j,ej⟩:=aaq z
 rw [aa6] at ej
 by_cases c:j<k
 ·rw [aek c] at ej
  have:=dw nd ej e
  omega
 ·rw [aej c] at ej
  have:=dw nd ej e
  omega
theorem Sr:∀i j:Fin 4,i≠j->qB (i.val:Int)≠qB (j.val:Int):=by decide+kernel
theorem xw.first (gp:eW pins)(pn:∀p∈pins,(∀f:Fin 4,p.nm≠qB (f.val:Int))/\p.sp.1<=500010/\Sz 19 p.sp.2/\ -500002<=p.sp.2/\p.sp.2<=500002):xw pins (pins.map (·.sp)) 0:=by
 refine ⟨cF (by rw [aah]) fun i p b e1 e2=>⟨0,aal _,?_⟩,gp.ns,fun b hb=>?_,fun b hb=>?_,fun b hb=>?_,fun p hp k _ h4=>(pn p hp).1 ⟨k,h4⟩⟩
 ·rw [aag,e1] at e2
  have e3:p.sp=b:=aaA e2
  rw [<-e3]
  refine acT rfl ?_
  show p.sp.2=p.sp.2+((4000037*((0:Nat):Int):Int):Rat)
  have:((4000037*((0:Nat):Int):Int):Rat)=0:=by decide+kernel
  rw [this,Rat.add_zero]
 ·obtain ⟨p,hp,rfl⟩:=aai.mp hb
  exact (pn p hp).2.2.2
 ·obtain ⟨p,hp,rfl⟩:=aai.mp hb
  have h1:=(pn p hp).2.1
  have h2:(500010:Rat)<((2000003+((0:Nat):Int):Int):Rat):=by decide+kernel
  grind
 ·obtain ⟨p,hp,rfl⟩:=aai.mp hb
  exact ⟨(gp.sz p hp).1,(pn p hp).2.2.1⟩
theorem xw.snoc (h:xw pins bs r)(hb:b∉bs)(hm:m<=r)(hp:p.sp=(b.1,b.2+((4000037*(m:Int):Int):Rat)))(hy: -500002<=b.2/\b.2<=500002)(hx:b.1<((2000003+(r:Int):Int):Rat))(hz:Sz 44 b.1/\Sz 19 b.2)(hn:∀k:Nat,r<=k->k<4->p.nm≠qB (k:Int)):xw (pins++[p]) (bs++[b]) r:=by
 have one:∀{P:Rat×Rat->Prop},(∀c∈bs,P c)->P b->∀c∈bs++[b],P c:=fun {P} h1 h2 c hc=>by
  rcases aau.mp hc with z|z
  ·exact h1 c z
  ·rw [aao.mp z];exact h2
 refine ⟨cI h.pr ⟨m,hm,hp⟩,?_,one h.yb hy,one h.xb hx,one h.zb hz,fun q hq=>?_⟩
 ·rw [ab6]
  refine ⟨h.nd,by simp,fun x hx y hy e=>?_⟩
  rw [aao.mp hy] at e
  exact hb (by rw [<-e];exact hx)
 ·rcases aau.mp hq with z|z
  ·exact h.nm q z
  ·rw [aao.mp z];exact hn
theorem Xh (m fv:Int)(y:Rat):y+((4000037*m:Int):Rat)+((4000037*fv:Int):Rat)=y+((4000037*(m+fv):Int):Rat):=by
 rw [Rat.add_assoc,<-acZ,<-Int.mul_add]
theorem P8 (h:Sz 19 y){m:Nat}(hm:m<=4):Sz 44 (y+((4000037*(m:Int):Int):Rat)):=h.add (g8 (k:=24) (aap (show _<=16000148 by omega) (by decide)) (by decide))
structure ad4 (K:Frag)(H:Hp)(lP lB lO:aef)(g:V)(pins:ν)(bs:υ)(r:Nat)(p:ay)(b:Rat×Rat)(m:Nat):Prop where
 y:iG K H lP lB lO g p
 hm:m<=r
 sp:p.sp=(b.1,b.2+((4000037*(m:Int):Int):Rat))
 nb:b∉bs
 hy: -500002<=b.2/\b.2<=500002
 hx:b.1<((2000003+(r:Int):Int):Rat)
 hz:Sz 44 b.1/\Sz 19 b.2
 nn:p.nm∉pins.map (·.nm)
 nf:∀k:Nat,r<=k->k<4->p.nm≠qB (k:Int)
theorem gD:aC ["_law_script","_law_pins_here","_law_drawn","_law_bars_here","_law_frame_here","_law_out","_law_k","_law_cell","_law_gone"] zaM (ae kE):=sq
theorem Ss (F:nG K "law" "law" kE f fd)(aX:mg "len"=none)(bf:mg "range"=none)
  (mz:Fn P w K mg base (aY P w) 1 "_law_cell_at" zav (mx K)) (cE:Fn P w K mg base (aY P w) 1 "_law_field" zab du)
  (ad5:Fn P w K mg base (aY P w) 35 "_law_pins" zaM (uX K)) (ad6:Fn P w K mg base (aY P w) 3 "_law_bars" zaz (uY K)) (ad7:Fn P w K mg base (aY P w) 4 "_law_frame" zax (qC K C))
  (Su:Fn P w K mg base (aY P w) 40 "_law_right" zag (oE K C)) (zf:Fn P w K mg base (aY P w) 4 "_law_deed" zac (ze K C))
  (rD:Fn P w K mg base (aY P w) 3 "_law_pin_out" zac (Lw K C)) (vf:Fn P w K mg base (aY P w) 35 "_law_pin_in" zai (Sq K C)):
  cO P w K mg base (aY P w) 42 f fd zaM (I_ K):=by
 refine F.okG gD (fun vs H Q E h=>?_) (fun cp A outer s H vs Q E hr h=>?_)
 ·obtain ⟨a,ns,rfl,_⟩:=h
  rfl
 obtain ⟨sA,ns,rfl,hS,hn,hb,q⟩:=h
 have L1:1<=ael:=by decide
 refine ⟨_,(aa (aK (i:=1) gD.nd (aT ad5 hr (aS (pv 0))))
  (aa (aK (i:=2) gD.nd (aT ad6 hr (aL (pv 0) (pv 1))))
  (aa (me (i:=3) (tn:=["_law_k"]) (fr:=["_law_script","_law_drawn"]) (caps:=[0,2]) gD.nd (bK rfl bf (aS (aG aD rfl aX bS (aS (pv 2))))) (aJ (Kn (K:=K) rfl) (bD (o_ (K:=K) rfl) (pv 2) (pv 0)) (aU (aS (mW mz hr (aL (pv 1) (aJ cf ag (pv 0))))))))
  (aa (aK (i:=4) gD.nd (aT ad7 hr (aL (pv 1) (dr (tn:=zaU) (fr:=[]) (caps:=[]) (bx (pv 3)) (cP (AI (K:=K) rfl) (pv 0) fj (cM ag))))))
  (aa (aK (i:=5) gD.nd (bV eZ))
  (aa (bh (df (cC (aT Su hr (iA (pv 4) (iA (pv 0) (bE (pv 1) (pv 3) (aT mz hr (aL (pv 0) ag)))))))) (ah (aE cN)) aI)
  (aa (bC aev rfl (bK rfl bf (aS ag)) (bW (i:=6) gD.nd) (aa (aK (i:=7) gD.nd (aT mz hr (aL (pv 0) (aJ cf ag (pv 6)))))
   (aa (bh (df (cC (aT zf hr (iA (pv 4) (iA (pv 1) (bE (pv 3) (pv 5) (pv 7))))))) (aa (aK (i:=8) gD.nd jH)
    (aa (bh (bB mM (aT cE hr (bE (pv 7) ag ag)) ag) (ah (aK (i:=8) gD.nd (aT rD hr (iA (pv 4) (iA (pv 1) (bE (pv 3) (pv 5) (pv 7))))))) aI)
    (aa (bh (df (cC (aT Su hr (iA (pv 4) (iA (pv 0) (bE (pv 1) (pv 3) (pv 7))))))) (ah (aE cN)) aI)
    (ah (bq (aT vf hr (iA (pv 4) (iA (pv 1) (bE (pv 8) (pv 7) (pv 6)))))))))) aI)
   (ah (bh (df (cC (aT Su hr (iA (pv 4) (iA (pv 0) (bE (pv 1) (pv 3) (pv 7))))))) (ah (aE cN)) aI)))))
  (ah (aE cN))))))))),?_⟩
 refine ⟨_,rfl,sA,ns,rfl,hS,fun lP us pins H1 s1 nP eP pp gp lp pn=>?_⟩
 have lu:us.length=pins.length:=aer pp
 refine ⟨_,rfl,_,rfl,sA,lP,ns,us,pins,rfl,s1.seq hS,eP,lu,gp.np,by omega,fun lD vd aj H2 s2 nD eD pd gb lb=>?_⟩
 have ld:vd.length=aj.length:=aer pd
 have qe:=s1.trans s2
 refine ⟨_,rfl,lD,_,rfl,.inl (aV.of eD),((vd.length:Nat):Int),rfl,by omega,by omega,fun lB nB=>?_⟩
 refine oY (lo:=0) (n:=vd.length) (cap:=[some (.ref sA),some (.ref lD)]) (fun i v H'=>∀b,aj[i]?=some b->fD K H' pins v b) nB (aap (show vd.length<=1000 by omega) (by decide)) (fun i v Ha Hb ys h0 ks hR b eb=>?_) (fun i Ha RR hi sa kk=>?_) fun vs Hb lvs hvs sb eB=>?_
 ·obtain ⟨a,i1,j1,c0,e,z1,z2,z3⟩:=hR b eb
  exact ⟨a,i1,j1,c0,e,(bu.ks h0 ks).bI z1,z2,z3⟩
 ·have eu:vd[i]?=some vd[i]:=gE hi
  obtain ⟨b,eb,ta,i1,j1,ev,h1,g1,g2⟩:=aw pd eu
  rw [aaT]
  have a2:=Ty.au.bI sa h1
  refine ⟨_,rfl,_,rfl,lD,vd,(i:Int),vd[i],rfl,rfl,aV.of (sa _ _ eD),bP eu,_,rfl,_,rfl,_,_,rfl,rfl,sA,ns,_,rfl,sa.seq (qe.seq hS),by omega,by omega,L1,?_⟩
  intro p3 n3;generalize eX:upd _ p3 _=H3;have ⟨s3,e3⟩:=nw n3 eX
  refine ⟨ta,p3,_,_,ev,rfl,Ty.au.bI s3 a2,bJ.of e3,adD _ _,(by show 3+1<=ael;decide),fun z=>aet z (adD _ _),fun _=>?_⟩
  intro p4 n4;generalize eX:upd _ p4 _=H4;have ⟨s4,e4⟩:=nw n4 eX
  refine kk _ _ (s3.trans s4) fun b' vx =>?_
  rw [eb] at vx
  cases vx
  exact ⟨p4,i1,j1,_,rfl,bJ.of e4,g1,g2⟩
 have lvb:vs.length=aj.length:=lvs.trans ld
 have pb:Paired (fD K Hb pins) vs aj:=cF lvb fun i v b e1 e2=>hvs i v e1 b e2
 have eP3:=sb _ _ (s2 _ _ eP)
 refine ⟨_,rfl,_,rfl,lB,rfl,⟨_,aV.of eB⟩,fun l3 n3=>?_⟩
 refine cy (cap:=[]) (K:=K) (a:=lB) (xs:=vs) (fun j v H'=>∀b,aj[j]?=some b->qA K H' pins v b) n3 (aap (show vs.length<=1000 by omega) (by decide)) (fun Ha sa=>aV.of (sa _ _ eB)) (fun i v Ha Hb ys h0 ks hR b eb=>?_) (fun i u Ha RR hu sa kk=>?_) fun v3 Hc lv3 hv3 sc e3=>?_
 ·obtain ⟨a,i1,j1,e,z1,z2,z3⟩:=hR b eb
  exact ⟨a,i1,j1,e,(bu.ks h0 ks).bI z1,z2,z3⟩
 ·obtain ⟨b,eb,ta,i1,j1,c0,ev,h1,g1,g2⟩:=aw pb hu
  refine ⟨_,rfl,3,rfl,ta,_,ev,Ty.au.bI sa h1,(by show ¬ (HT.dN 4 0 none=0/\HT.dN 4 4 (some 3)=4);decide),?_⟩
  rw [P7]
  intro p4 n4;generalize eX:upd _ p4 _=H4;have ⟨s4,e4⟩:=nw n4 eX
  refine kk _ _ s4 fun b' vx =>?_
  rw [eb] at vx
  cases vx
  exact ⟨p4,i1,j1,rfl,bJ.of e4,g1,g2⟩
 have p3:Paired (qA K Hc pins) v3 aj:=cF (lv3.trans lvb) fun i v b e1 e2=>hv3 i v e1 b e2
 have ppc:Paired (ip K Hc) us pins:=Paired.bL pp fun _ _ z=>z.r.same (s2.trans (sb.trans sc))
 try dsimp only [dJ]
 refine ⟨lP,l3,us,v3,pins,aj,rfl,sc _ _ eP3,ppc,e3,p3,gp,gb,by omega,by omega,fun fA dx pP pW pB kP kW kB Hd sd R3 W3 nwq nP3 nW3 nB3=>?_⟩
 refine ⟨z0L,?_⟩
 intro lO nO;generalize eX:upd _ lO _=H3;have ⟨sO,eO⟩:=nw nO eX
 have wI:=s2.trans (sb.trans (sc.trans (sd.trans sO)))
 have yW:=s1.trans wI
 have sd3:=sd.trans sO
 have eBd:=sd3 _ _ (sc _ _ eB)
 have ePd:=sd3 _ _ (sc _ _ eP3)
 have neL:lP≠lB:=aq (s2 _ _ eP) nB
 have neP:lP≠lO:=aq (sd _ _ (sc _ _ eP3)) nO
 have neB:lB≠lO:=aq (sd _ _ (sc _ _ eB)) nO
 have MS:WS K H3 C fA dx pP pW pB lP lB lO us vs [] pins aj []:=by
  refine ⟨⟨kP,kW,kB,R3.same sO,W3.same sO,fun kv h=>⟨nwq kv h _ _ (sc _ _ eP3),nwq kv h _ _ (sc _ _ eB),fun z=>?_⟩⟩,ePd,Paired.bL pp fun u p z=>?_,eBd,Paired.bL pb fun _ _ z=>z.same (sc.trans sd3),eO,.nil,gp,by rw [acB];exact gb,by omega,by rw [acX];omega,neL,neP,neB⟩
  ·obtain ⟨i,ei⟩:=aaq h
   obtain ⟨_,_,_,l,eK,z2,z3,_⟩:=aw (bU W3) ei
   rw [z2] at z
   have:l=lO:=by injection z
   rw [this,nO] at z3
   cases z3
  ·obtain ⟨a,l,sv,xs,e,h1,h2,h3,h4,h5⟩:=z
   exact ⟨a,l,sv,xs,e,Ty.au.bI wI h1,h2.same wI,wI _ _ h3,h4.same wI,h5,(fun y=>by rw [y] at h3;rw [s2 _ _ h3] at nB;cases nB),(fun y=>by rw [y] at h3;rw [sd _ _ (sc _ _ (sb _ _ (s2 _ _ h3)))] at nO;cases nO)⟩
 have s0c:=qe.trans (sb.trans sc)
 have np0:=s0c.free nP3
 have nw0:=s0c.free nW3
 have nb0:=s0c.free nB3
 have ad9:=qe.free nB
 have ad':=(s0c.trans sd).free nO
 have zg:∀{Hx:Hp},KO pP pW pB lP lB lO H Hx->aV K Hx sA (ns.map V.int):=fun {Hx} k=>by
  rcases hS with r|r
  ·have ne:∀{o:HO},H sA=some o->sA≠pP/\sA≠pW/\sA≠pB/\sA≠lP/\sA≠lB/\sA≠lO:=fun {o} e=>⟨aq e np0,aq e nw0,aq e nb0,aq e nP,aq e ad9,aq e ad'⟩
   rcases r with r|⟨o,r⟩
   ·exact .inl (.inl (k.at (ne r) r))
   ·exact .inl (.inr ⟨o,k.at (ne r) r⟩)
  ·exact .inr r
 have ri:∀{Hx:Hp} {us vs vo:ε} {pins:ν} {aj outs:τ} {c:Int} {Q':VK} {E':XK},WS K Hx C fA dx pP pW pB lP lB lO us vs vo pins aj outs->KO pP pW pB lP lB lO H Hx->(∀H',au Hx H' ->Q' (.bl true) H')->oE K C [.ref fA,.ref sA,.ref lP,.ref lB,.int c] Hx Q' E':=fun {Hx us vs vo pins aj outs c Q' E'} st k qq=>⟨fA,sA,lP,lB,c,ns,us,vs,pins,aj,rfl,st.fa,zg k,⟨st.hp,st.pr,st.gp,st.hb,st.pb,fun b hb=>(st.gb.ends b hb).2.2,st.lp,by have:=st.lo;omega⟩,st.g,by have:=st.lo;omega,qq⟩
 have k03:KO pP pW pB lP lB lO H H3:=KO.of yW
 dsimp only [b9]
 refine cn (fun σ' H'=>σ' =[some (.ref sA),some (.ref lP),some (.ref lD),some (.ref lB),some (.ref fA),some (.ref lO),none,none,none]/\au H3 H') (fun Nx i5=>?_) ?_
 ·refine ⟨_,rfl,_,rfl,_,rfl,_,rfl,_,rfl,sA,ns,2,rfl,zg k03,by decide,by decide,?_⟩
  try dsimp only [dJ]
  refine ri MS k03 fun H4 s4=>⟨_,rfl,?_⟩
  refine bg (fun c=>nomatch c) (fun _=>?_)
  exact i5 _ _ ⟨rfl,s4⟩
 rintro σ' H4 ⟨rfl,s4⟩
 refine cn (fun σ' H'=>True) (fun Nx i5=>?_) (fun σ' H' _=>q _)
 refine ⟨(4:Int),rfl,by decide,by decide,bX (lo:=0) (n:=4) (fun i σ H'=>U0 fun (us vs vo:ε) (pins:ν) (aj outs:τ) (bs:υ) (o6 o7 o8:ψ)=>σ=[some (.ref sA),some (.ref lP),some (.ref lD),some (.ref lB),some (.ref fA),some (.ref lO),o6,o7,o8]/\KO pP pW pB lP lB lO H H'/\WS K H' C fA dx pP pW pB lP lB lO us vs vo pins aj outs/\xw pins bs i/\pins.length<=5+i) ⟨us,vs,[],pins,aj,[],_,none,none,none,rfl,k03.trans (KO.of s4),MS.same s4,xw.first gp pn,by omega⟩ ?_ (fun σ H' _=>i5 _ _ trivial)⟩
 rintro i σ H5 hi ⟨us,vs,vo,pins,aj,outs,bs,o6,o7,o8,rfl,k5,MT,be,lp5⟩
 have ei:(0:Int)+(i:Int)=(i:Int):=aaT _
 rw [ei]
 have hi4:i<4:=hi
 refine ⟨_,rfl,_,rfl,_,_,rfl,rfl,sA,ns,_,rfl,zg k5,by omega,by omega,?_⟩
 generalize cell ns (16+(i:Int))=c
 dsimp only [b9]
 refine cn (fun σ' H'=>Ex8 fun (us vs vo:ε) (pins:ν) (aj outs:τ) (bs:υ) (o8:ψ)=>σ' =[some (.ref sA),some (.ref lP),some (.ref lD),some (.ref lB),some (.ref fA),some (.ref lO),some (.int (i:Int)),some (.int c),o8]/\KO pP pW pB lP lB lO H H'/\WS K H' C fA dx pP pW pB lP lB lO us vs vo pins aj outs/\xw pins bs (i+1)/\pins.length<=5+(i+1)) (fun Nx i5=>?_) ?_
 ·refine ⟨_,rfl,_,rfl,_,rfl,_,rfl,_,rfl,fA,dx,pP,pW,pB,lP,lB,lO,us,vs,vo,pins,aj,outs,c,rfl,MT,fun H6 s6=>⟨_,rfl,?_⟩,fun Ly Lz jC kZ H6 pm ko Th=>⟨_,rfl,bg (fun c=>nomatch c) (fun _=>i5 _ _ ⟨us,Ly,Lz,pins,jC,kZ,bs,o8,rfl,k5.trans ko,Th,be.up,by omega⟩)⟩⟩
  refine bg (fun _=>?_) (fun c=>nomatch c)
  have Th:=MT.same s6
  have k6:=k5.trans (KO.of (pP:=pP) (pW:=pW) (pB:=pB) (lP:=lP) (lB:=lB) (lO:=lO) s6)
  refine cn (fun σ' H'=>σ' =[some (.ref sA),some (.ref lP),some (.ref lD),some (.ref lB),some (.ref fA),some (.ref lO),some (.int (i:Int)),some (.int c),some .cg]/\H'=H6) (fun Ny Sv=>Sv _ _ ⟨rfl,rfl⟩) ?_
  rintro σ' H' ⟨rfl,rfl⟩
  refine cn (fun σ' H'=>Ex6 fun (g:V) (us vs vo:ε) (pins:ν) (bs:υ)=>σ' =[some (.ref sA),some (.ref lP),some (.ref lD),some (.ref lB),some (.ref fA),some (.ref lO),some (.int (i:Int)),some (.int c),some g]/\KO pP pW pB lP lB lO H H'/\WS K H' C fA dx pP pW pB lP lB lO us vs vo pins aj outs/\xw pins bs i/\pins.length<=8/\pins.length<=5+i/\(g=.cg\/∃p b m,ad4 K H' lP lB lO g pins bs i p b m)) (fun Ny Sv=>?_) ?_
  ·refine ⟨_,rfl,_,_,_,rfl,by decide,by decide,by decide,_,_,rfl,rfl,_,rfl,bg (fun _=>?_) (fun _=>Sv _ _ ⟨.cg,us,vs,vo,pins,bs,rfl,k6,Th,be,by omega,lp5,.inl rfl⟩)⟩
   refine ⟨_,rfl,_,rfl,_,rfl,_,rfl,_,rfl,fA,dx,pP,pW,pB,lP,lB,lO,us,vs,vo,pins,aj,outs,c,rfl,Th,fun H7 s7=>?_,fun k p y eK Ly Lz H7 ek ko Pd py=>?_⟩
   ·exact Sv _ _ ⟨.cg,us,vs,vo,pins,bs,rfl,k6.trans (KO.of s7),Th.same s7,be,by omega,lp5,.inl rfl⟩
   ·obtain ⟨b,eb,m,hm,nA⟩:=aw be.pr ek
    have mb:=Wp eb
    have le:=ac_ pins k
    exact Sv _ _ ⟨y,eK,Ly,Lz,pins.eraseIdx k,bs.eraseIdx k,rfl,k6.trans ko,Pd,be.erase,by omega,by omega,.inr ⟨p,b,m,py,hm,nA,Og be.nd eb,be.yb b mb,be.xb b mb,be.zb b mb,Th.gp.unN ek,be.nm p (Wp ek)⟩⟩
  rintro σ' H7 ⟨g,us7,vs7,vo7,Xi,bs7,rfl,k7,Pd,Sw,lp8,lp7,alt⟩
  refine cn (fun σ' H'=>σ' =[some (.ref sA),some (.ref lP),some (.ref lD),some (.ref lB),some (.ref fA),some (.ref lO),some (.int (i:Int)),some (.int c),some g]/\au H7 H') (fun Ny Sv=>?_) ?_
  ·refine ⟨_,rfl,_,rfl,_,rfl,_,rfl,_,rfl,ri Pd k7 fun H8 s8=>⟨_,rfl,?_⟩⟩
   exact bg (fun c=>nomatch c) (fun _=>Sv _ _ ⟨rfl,s8⟩)
  rintro σ' H8 ⟨rfl,s8⟩
  have st8:=Pd.same s8
  have k8:=k7.trans (KO.of (pP:=pP) (pW:=pW) (pB:=pB) (lP:=lP) (lB:=lB) (lO:=lO) s8)
  refine ⟨_,rfl,_,rfl,_,rfl,_,rfl,_,rfl,fA,dx,pP,pW,pB,lP,lB,lO,us7,vs7,vo7,Xi,aj,outs,g,c,i,rfl,st8,lp8,hi4,?_⟩
  rcases alt with e|⟨p,b,m,gn⟩
  ·refine .inl ⟨e,fun p hp=>⟨Sw.nm p hp i (aal _) hi4,?_⟩,fun y ws eK H9 y0 y9 ko Ti=>i5 _ _ ⟨eK,vs7,vo7,_,aj,outs,bs7++[(((2000003+(i:Int):Int):Rat),(y:Rat))],_,rfl,k8.trans ko,Ti,?_,?_⟩⟩
   ·obtain ⟨j,ej⟩:=aaq hp
    obtain ⟨b,eb,m,hm,nA⟩:=aw Sw.pr ej
    rw [nA]
    exact Sw.xb b (Wp eb)
   ·refine Sw.up.snoc (m:=0) (fun z=>?_) (aaS _) ?_ ⟨?_,?_⟩ ?_ ⟨?_,?_⟩ fun k h1 h2=>?_
    ·exact aet (Sw.xb _ z) (Rat.lt_irrefl)
    ·refine acT rfl ?_
     show (y:Rat)=(y:Rat)+((4000037*((0:Nat):Int):Int):Rat)
     have:((4000037*((0:Nat):Int):Int):Rat)=0:=by decide+kernel
     rw [this,Rat.add_zero]
    ·show (-500002:Rat)<=(y:Rat)
     have:((-500002:Int):Rat)<=(y:Rat):=aaX.mpr (by omega)
     exact this
    ·show (y:Rat)<=(500002:Rat)
     have:(y:Rat)<=((500002:Int):Rat):=aaX.mpr (by omega)
     exact this
    ·exact adp.mpr (by omega)
    ·exact g8 (aaB (show _<2097152 by omega) (by decide)) (by decide)
    ·exact g8 (aaB (show _<128 by omega) (by decide)) (by decide)
    ·exact Sr ⟨i,hi4⟩ ⟨k,h2⟩ (fun z=>by have:=aeE Fin.val z;dsimp only at this;omega)
   ·rw [aat,abH]
    omega
  ·have spE:∀fv:Int,(fv=0\/fv=1)->∃m':Nat,m' <=i+1/\(m':Int)=(m:Int)+fv:=fun fv h=>by
    have:=gn.hm
    rcases h with h|h
    ·exact ⟨m,by omega,by omega⟩
    ·exact ⟨m+1,by omega,by omega⟩
   have e1:p.sp.1=b.1:=by rw [gn.sp]
   have e2:∀fv:Int,p.sp.2+((4000037*fv:Int):Rat)=b.2+((4000037*((m:Int)+fv):Int):Rat):=fun fv=>by rw [gn.sp];exact Xh _ _ _
   have hm:=gn.hm
   refine .inr ⟨p,gn.y.same s8,gn.nn,by rw [e1];exact gn.hz.1,?_,fun fv h=>⟨?_,?_⟩,fun fv ws eK H9 h ko Ti=>i5 _ _ ⟨eK,vs7,vo7,_,aj,outs,bs7++[b],_,rfl,k8.trans ko,Ti,?_,?_⟩⟩
   ·rw [gn.sp]
    exact P8 gn.hz.2 (by omega)
   ·rw [e1,e2 fv]
    exact Sw.free gn.nb gn.hy _
   ·obtain ⟨m',h1,h2⟩:=spE fv h
    rw [e2 fv,<-h2]
    exact P8 gn.hz.2 (by omega)
   ·obtain ⟨m',h1,h2⟩:=spE fv h
    refine Sw.up.snoc (m:=m') gn.nb h1 ?_ gn.hy ?_ gn.hz fun k h1 h2=>gn.nf k (by omega) h2
    ·show (p.sp.1,p.sp.2+((4000037*fv:Int):Rat))=_
     rw [e1,e2 fv,<-h2]
    ·exact Std.lt_trans gn.hx (adp.mpr (by omega))
   ·rw [aat,abH]
    omega
 rintro σ' H9 ⟨us9,vs9,vo9,Xj,Xk,Xl,bs9,o9,rfl,k9,Ti,be9,lp9⟩
 refine ⟨_,rfl,_,rfl,_,rfl,_,rfl,_,rfl,ri Ti k9 fun Pe ye=>⟨_,rfl,?_⟩⟩
 exact bg (fun c=>nomatch c) (fun _=>⟨us9,vs9,vo9,Xj,Xk,Xl,bs9,_,_,_,rfl,k9.trans (KO.of ye),Ti.same ye,be9,by omega⟩)
end
theorem all_mk {l:PySem.W.OpenLaw}{w:World}{K:Frag}{h:Heap}{mg:ι}{fa:aef}(X:K.In h)(G:h.Ns aex mg)(hfa:mg "law"=some (.ref fa))
  (aee:HXx K "difference_of" yD) (aei:HXx K "lowest_terms" wQ) (aem:HXx K "greatest_shared" DQ) (aeq:HXx K "arm_between" DR) (aeu:HXx K "pair_difference" yE) (aey:HXx K "pair_row" DS) (aeC:HXx K "load_row" DT) (aeG:HXx K "bar_row" DU) (aeK:HXx K "draw_rows" DV) (aeO:HXx K "pulls_and_pushes" DW) (aeS:HXx K "motion_from" DX) (aeW:HXx K "solve_rows" DY) (ae0:HXx K "turned" DZ) (ae4:HXx K "whole_row" D_) (ae8:HXx K "solution_of" D') (afb:HXx K "reduced" EA) (aff:HXx K "first_not_nought" EB) (afj:HXx K "cleared" EC) (afn:HXx K "divided" ED) (afr:HXx K "rest_of" EE) (afv:HXx K "_law_cell_at" EF) (afz:HXx K "_law_field" EG) (afD:HXx K "_law_lowest" EH) (afH:HXx K "_law_sum" EI) (afL:HXx K "_law_times" EJ) (afP:HXx K "_law_turned" EK) (afT:HXx K "_law_name" yF) (afX:HXx K "_law_spot" EL) (af1:HXx K "_law_ways" EM) (af5:HXx K "_law_pins" EN) (af9:HXx K "_law_bars" EO) (agc:HXx K "_law_frame" ER) (agg:HXx K "_law_arm" ES) (agk:HXx K "_law_add" ET) (ago:HXx K "_law_forces" EU) (ags:HXx K "_law_number" EV) (agw:HXx K "_law_are_forces" EW) (agA:HXx K "_law_at_rest" EX) (agE:HXx K "_law_is_motion" EY) (agI:HXx K "_law_dot" EZ) (agM:HXx K "_law_longer" FA) (agQ:HXx K "_law_keeps" FC) (agU:HXx K "_law_work" FD) (agY:HXx K "_law_load" s_by) (jZ:HXx K "_law_turned_about" bZ) (xx:HXx K "_law_moves" dW) (ag2:HXx K "_law_right" FE) (rE:HXx K "_law_put_pin" cZ) (rJ:HXx K "_law_shifted" c8) (rN:HXx K "_law_pin_out" c9) (vh:HXx K "_law_pin_in" dB) (zh:HXx K "_law_deed" ff) (YR:nsIn K aex "law"=some (some (.ref Qg))) (YS:K.lookup Qg=some ⟨ag6,ag7,.func (fnOf "law" "law" (aA kE) (av kE) (ae kE) .none Sx Sy SA SD L6 SE),ag8⟩) (YT:codeIn K L6 "law"=true) (YU:keepIn K (.ref Qg)=true) (ag9:nsIn K aex "MOST_PINS"=some (some (.int 24 arT))) (ag':nsIn K aex "MOST_BARS"=some (some (.int 60 arU))) (aha:nsIn K aex "NOUGHT"=some (some (.ref SF))) (ahb:K.lookup SF=some ⟨.type "tuple",arV,.seq #[.int 0 ahc,.int 1 ahd] arW,arX⟩) (ahe:nsIn K aex "ONE"=some (some (.ref SG))) (ahf:K.lookup SG=some ⟨.type "tuple",arY,.seq #[.int 1 ahg,.int 1 ahh] arZ,ar0⟩) (ahi:nsIn K aex "NO_MOVE"=some (some (.ref SH))) (ahj:K.lookup SH=some ⟨.type "tuple",ar1,.seq #[.ref YV,.ref YW] ar3,ar4⟩) (ahk:K.lookup YV=some ⟨.type "tuple",ar5,.seq #[.int 0 ahl,.int 1 ahm] ar6,ar7⟩) (ahn:K.lookup YW=some ⟨.type "tuple",ar8,.seq #[.int 0 aho,.int 1 ahp] ar9,asa⟩) (vn:nsIn K aex "ValueError"=some none) (YX:nsIn K aex "abs"=some none) (YY:nsIn K aex "all"=some none) (YZ:nsIn K aex "any"=some none) (SI:nsIn K aex "bool"=some none) (SJ:nsIn K aex "dict"=some none) (xD:nsIn K aex "enumerate"=some none) (Y0:nsIn K aex "int"=some none) (vp:nsIn K aex "isinstance"=some none) (Y1:nsIn K aex "len"=some none) (SK:nsIn K aex "list"=some none) (Y2:nsIn K aex "min"=some none) (Ou:nsIn K aex "range"=some none) (Y3:nsIn K aex "str"=some none) (Ov:nsIn K aex "tuple"=some none) (Y4:nsIn K aex "zip"=some none) (ahq:nsIn K aex "YardError"=some (some (.ref ahr))) (ahs:nsIn K aex "NoWay"=some (some (.ref aht))) (ahu:nsIn K aex "PinThere"=some (some (.ref ahv))) (ahw:nsIn K aex "SpotTaken"=some (some (.ref ahx))) (ahy:nsIn K aex "NoPin"=some (some (.ref ahz))) (GP:nsIn K aex "PinBusy"=some (some (.ref GQ))) (ahA:nsIn K aex "BarThere"=some (some (.ref ahB))) (ahC:nsIn K aex "NoBar"=some (some (.ref ahD))) (ahE:nsIn K aex "NoLength"=some (some (.ref ahF))) (ahG:nsIn K aex "TooMany"=some (some (.ref ahH))) (ahI:nsIn K aex "Frame"=some (some (.ref bR))) (ahJ:nsIn K aex "Hold"=some (some (.ref nN))) (ahK:nsIn K aex "Roller"=some (some (.ref jt))) (ahL:nsIn K aex "Fixed"=some (some (.ref mE))) (Y5:afa K bR Str.empty=true) (Y6:afk K bR=true) (Y7:afw K bR=true) (Y8:aeF K (.ref bR) "__setattr__"=some (some (.builtin "object.__setattr__"))) (Y9:afg K bR=true) (Y_:keepIn K (.ref bR)=true) (Y':HXy K bR "__init__" "Frame.__init__" FF) (ahO:aeF K (.ref bR) "put_pin"=some (some (.ref Ow))) (ahP:agv K (.ref Ow)=true) (ahQ:K.lookup Ow=some ⟨asm,asn,.func (fnOf "put_pin" "Frame.put_pin" (aA nH) (av nH) (ae nH) (.ref L8) Qh Qi Qj Qk L9 Ql),aso⟩) (Ze:K.lookup L8=some ⟨asp,ahR,.seq #[.none] asq,ahS⟩) (ahT:codeIn K L9 "Frame.put_pin"=true) (Zf:keepIn K (.ref Ow)=true) (ahU:HXy K bR "put_bar" "Frame.put_bar" FG) (ahY:HXy K bR "check_bar" "Frame.check_bar" FH) (ah2:HXy K bR "check_pin" "Frame.check_pin" FI) (ah6:HXy K bR "take_bar" "Frame.take_bar" FJ) (mF:HXy K bR "take_pin" "Frame.take_pin" cz) (ah':HXy K bR "pins" "Frame.pins" FK) (aid:HXy K bR "bars" "Frame.bars" FL) (aii:HXy K bR "place" "Frame.place" FN) (aim:HXy K bR "ways" "Frame.ways" FO) (aiq:HXy K bR "ends" "Frame.ends" FP) (Zy:afa K nN Str.empty=true) (Zz:afk K nN=true) (ZA:afw K nN=true) (ZC:aeF K (.ref nN) "__setattr__"=some (some (.builtin "object.__setattr__"))) (ZD:afg K nN=true) (ZE:keepIn K (.ref nN)=true) (ZF:aeF K (.ref nN) "__init__"=some (some (.builtin "object.__init__"))) (aiu:HXy K nN "ways" "Hold.ways" NG) (ZI:afa K jt Str.empty=true) (ZJ:afk K jt=true) (ZK:afw K jt=true) (ZL:aeF K (.ref jt) "__setattr__"=some (some (.builtin "object.__setattr__"))) (ZM:afg K jt=true) (ZN:keepIn K (.ref jt)=true) (ZO:HXy K jt "__init__" "Roller.__init__" FQ) (aiA:HXy K jt "ways" "Roller.ways" FR) (ZU:afa K mE Str.empty=true) (ZV:afk K mE=true) (ZW:afw K mE=true) (ZX:aeF K (.ref mE) "__setattr__"=some (some (.builtin "object.__setattr__"))) (ZY:afg K mE=true) (ZZ:keepIn K (.ref mE)=true) (Z0:aeF K (.ref mE) "__init__"=some (some (.builtin "object.__init__"))) (aiE:HXy K mE "ways" "Fixed.ways" FT) (Ma:aeF K (.ref bR) "pin_places"=some none) (SM:aeF K (.ref bR) "pin_ways"=some none) (SN:aeF K (.ref bR) "bar_ends"=some none) (Qm:aeF K (.ref jt) "way"=some none) (ht:l.prog.given.tree=none):
  ∃fd:FuncData,(∀(s:aep)(v:Value),BindsTo s fd ⟨[v],[]⟩ [("_law_script",v)])/\∀base:Heap,K.In base->base.Ns aex mg->cO l.prog w K mg base (aY l.prog w) 42 fa fd ["_law_script"] (I_ K):=by
 have e:=hfa.symm.trans (mg_of X G YR)
 cases e
 obtain ⟨Y',Za,ahM,ahN,Zd⟩:=Y'
 obtain ⟨ahU,ahV,ahW,ahX,Zh⟩:=ahU
 obtain ⟨ahY,ahZ,ah0,ah1,Zj⟩:=ahY
 obtain ⟨ah2,ah3,ah4,ah5,Zl⟩:=ah2
 obtain ⟨ah6,ah7,ah8,ah9,Zn⟩:=ah6
 obtain ⟨mF,mG,mH,mI,gP⟩:=mF
 obtain ⟨ah',aia,aib,aic,Zp⟩:=ah'
 obtain ⟨aid,aie,aif,aih,Zr⟩:=aid
 obtain ⟨aii,aij,aik,ail,Zt⟩:=aii
 obtain ⟨aim,ain,aio,aip,Zv⟩:=aim
 obtain ⟨aiq,air,ais,ait,Zx⟩:=aiq
 obtain ⟨aiu,aiv,aiw,aix,ZH⟩:=aiu
 obtain ⟨ZO,ZP,aiy,aiz,ZR⟩:=ZO
 obtain ⟨aiA,aiB,aiC,aiD,ZT⟩:=aiA
 obtain ⟨aiE,aiF,aiG,aiH,Z2⟩:=aiE
 have aiI:Def K mg _ _ ["one","other"]:=fE X G aee
 have aiJ:Def K mg _ _ ["top","bottom"]:=fE X G aei
 have aiK:Def K mg _ _ ["one","other"]:=fE X G aem
 have aiL:Def K mg _ _ ["F","one","other"]:=fE X G aeq
 have aiM:Def K mg _ _ ["one","other"]:=fE X G aeu
 have aiN:Def K mg _ _ ["F","draws"]:=fE X G aey
 have aiO:Def K mg _ _ ["F","load"]:=fE X G aeC
 have aiP:Def K mg _ _ ["F","one","other"]:=fE X G aeG
 have aiQ:Def K mg _ _ ["F"]:=fE X G aeK
 have aiR:Def K mg _ _ ["F","numbers"]:=fE X G aeO
 have aiS:Def K mg _ _ ["F","numbers"]:=fE X G aeS
 have aiT:Def K mg _ _ ["rows","due","many"]:=fE X G aeW
 have aiU:Def K mg _ _ ["rows","many"]:=fE X G ae0
 have aiV:Def K mg _ _ ["row"]:=fE X G ae4
 have aiW:Def K mg _ _ ["lines","many"]:=fE X G ae8
 have aiX:Def K mg _ _ ["lines","many"]:=fE X G afb
 have aiY:Def K mg _ _ ["lines","column"]:=fE X G aff
 have aiZ:Def K mg _ _ ["line","lead","column"]:=fE X G afj
 have ai0:Def K mg _ _ ["line"]:=fE X G afn
 have ai1:Def K mg _ _ ["F","load"]:=fE X G afr
 have ai2:Def K mg _ _ ["_law_script","_law_k"]:=fE X G afv
 have ai3:Def K mg _ _ ["_law_cell","_law_prime","_law_many"]:=fE X G afz
 have ai4:Def K mg _ _ ["_law_top","_law_bottom"]:=fE X G afD
 have ai5:Def K mg _ _ ["_law_one","_law_other"]:=fE X G afH
 have ai6:Def K mg _ _ ["_law_one","_law_other"]:=fE X G afL
 have ai7:Def K mg _ _ ["_law_one"]:=fE X G afP
 have ai8:Def K mg _ _ ["_law_cell","_law_k"]:=fE X G afT
 have ai9:Def K mg _ _ ["_law_cell","_law_kind"]:=fE X G afX
 have ai':Def K mg _ _ ["_law_cell"]:=fE X G af1
 have aja:Def K mg _ _ ["_law_script"]:=fE X G af5
 have ajb:Def K mg _ _ ["_law_script","_law_pins_here"]:=fE X G af9
 have ajc:Def K mg _ _ ["_law_pins_here","_law_bars_here"]:=fE X G agc
 have ajd:Def K mg _ _ ["_law_pins_here","_law_bar","_law_axis"]:=fE X G agg
 have aje:Def K mg _ _ ["_law_found","_law_k","_law_axis","_law_draw"]:=fE X G agk
 have ajf:Def K mg _ _ ["_law_pins_here","_law_bars_here","_law_pulls","_law_pushes"]:=fE X G ago
 have ajg:Def K mg _ _ ["_law_x"]:=fE X G ags
 have ajh:Def K mg _ _ ["_law_pins_here","_law_bars_here","_law_pulls","_law_pushes"]:=fE X G agw
 have aji:Def K mg _ _ ["_law_pins_here","_law_bars_here","_law_pulls","_law_pushes","_law_load_here"]:=fE X G agA
 have ajj:Def K mg _ _ ["_law_pins_here","_law_motion"]:=fE X G agE
 have ajk:Def K mg _ _ ["_law_one","_law_other"]:=fE X G agI
 have ajl:Def K mg _ _ ["_law_pins_here","_law_bar","_law_motion"]:=fE X G agM
 have ajm:Def K mg _ _ ["_law_pins_here","_law_motion"]:=fE X G agQ
 have ajn:Def K mg _ _ ["_law_load_here","_law_motion"]:=fE X G agU
 have ajo:Def K mg _ _ ["_law_script","_law_pins_here","_law_bars_here"]:=fE X G agY
 have j5:Def K mg _ _ ["_law_load_here","_law_cell"]:=fE X G jZ
 have xE:Def K mg _ _ ["_law_pins_here","_law_bars_here","_law_load_here","_law_told"]:=fE X G xx
 have ajp:Def K mg _ _ ["_law_frame_here","_law_script","_law_pins_here","_law_bars_here","_law_cell"]:=fE X G ag2
 have rS:Def K mg _ _ ["_law_frame_here","_law_pins_here","_law_name_here","_law_spot_here","_law_ways_here"]:=fE X G rE
 have rT:Def K mg _ _ ["_law_bars_here","_law_at"]:=fE X G rJ
 have rV:Def K mg _ _ ["_law_frame_here","_law_pins_here","_law_bars_here","_law_out","_law_cell"]:=fE X G rN
 have vq:Def K mg _ _ ["_law_frame_here","_law_pins_here","_law_gone","_law_cell","_law_k"]:=fE X G vh
 have zq:Def K mg _ _ ["_law_frame_here","_law_pins_here","_law_bars_here","_law_out","_law_cell"]:=fE X G zh
 have fh:vK K bR:=⟨Y5,Y6,Y7,Y8⟩
 have R9:Mk K bR _:=⟨Y9,Y',Za,Y_⟩
 have Z3:=dk (st:=FF) ahM ahN Zd
 have Sa:=Z3.yC (ps:=["self"])
 have ayv:Meth K bR "__init__" _:=⟨Y',Za,Zd⟩
 have ajq:=Nu (st:=nH) ahQ ahT Zf
 have ajr:Binds K (fnOf "put_pin" "Frame.put_pin" (aA nH) (av nH) (ae nH) (.ref L8) Qh Qi Qj Qk L9 Ql) ["self","name","x","y","hold"] []:=fun s us X hl=>by obtain ⟨a,b,c,d,e,rfl⟩:=bl5 (P:=fun us=>∃a b c d e,us=[a,b,c,d,e]) (fun a b c d e=>⟨a,b,c,d,e,rfl⟩) us (by simpa using hl);exact BindsTo.of_defaults rfl (X _ _ Ze) rfl rfl rfl
 have Z4:Binds K (fnOf "put_pin" "Frame.put_pin" (aA nH) (av nH) (ae nH) (.ref L8) Qh Qi Qj Qk L9 Ql) ["self","name","x","y","hold"] [.none]:=fun s us X hl=>by obtain ⟨a,b,c,d,rfl⟩:=bl4 (P:=fun us=>∃a b c d,us=[a,b,c,d]) (fun a b c d=>⟨a,b,c,d,rfl⟩) us (by simpa using hl);exact BindsTo.of_defaults rfl (X _ _ Ze) rfl rfl rfl
 have Z5:Meth K bR "put_pin" Ow:=⟨ahO,ahP,Zf⟩
 have Z6:=dk (st:=FG) ahW ahX Zh
 have ajs:=Z6.yC (ps:=["self","name","one","other"])
 have ajt:Meth K bR "put_bar" _:=⟨ahU,ahV,Zh⟩
 have Z7:=dk (st:=FH) ah0 ah1 Zj
 have aju:=Z7.yC (ps:=["self","name","one","other"])
 have ajv:Meth K bR "check_bar" _:=⟨ahY,ahZ,Zj⟩
 have Z8:=dk (st:=FI) ah4 ah5 Zl
 have ajw:=Z8.yC (ps:=["self","pin"])
 have ajx:Meth K bR "check_pin" _:=⟨ah2,ah3,Zl⟩
 have Z9:=dk (st:=FJ) ah8 ah9 Zn
 have ajy:=Z9.yC (ps:=["self","name"])
 have ajz:Meth K bR "take_bar" _:=⟨ah6,ah7,Zn⟩
 have gQ:=dk (st:=cz) mH mI gP
 have mJ:=gQ.yC (ps:=["self","name"])
 have mK:Meth K bR "take_pin" _:=⟨mF,mG,gP⟩
 have Z_:=dk (st:=FK) aib aic Zp
 have ajA:=Z_.yC (ps:=["self"])
 have ajB:Meth K bR "pins" _:=⟨ah',aia,Zp⟩
 have Z':=dk (st:=FL) aif aih Zr
 have ajC:=Z'.yC (ps:=["self"])
 have ajD:Meth K bR "bars" _:=⟨aid,aie,Zr⟩
 have aaa:=dk (st:=FN) aik ail Zt
 have ajE:=aaa.yC (ps:=["self","pin"])
 have ajF:Meth K bR "place" _:=⟨aii,aij,Zt⟩
 have aab:=dk (st:=FO) aio aip Zv
 have ajG:=aab.yC (ps:=["self","pin"])
 have ajH:Meth K bR "ways" _:=⟨aim,ain,Zv⟩
 have aac:=dk (st:=FP) ais ait Zx
 have ajI:=aac.yC (ps:=["self","bar"])
 have ajJ:Meth K bR "ends" _:=⟨aiq,air,Zx⟩
 have cls_cm:vK K nN:=⟨Zy,Zz,ZA,ZC⟩
 have ayw:SS K nN:=⟨ZD,ZF,ZE⟩
 have ajK:=dk (st:=NG) aiw aix ZH
 have ayx:=ajK.yC (ps:=["self"])
 have ayy:Meth K nN "ways" _:=⟨aiu,aiv,ZH⟩
 have zu:vK K jt:=⟨ZI,ZJ,ZK,ZL⟩
 have GL:Mk K jt _:=⟨ZM,ZO,ZP,ZN⟩
 have aad:=dk (st:=FQ) aiy aiz ZR
 have GN:=aad.yC (ps:=["self","x","y"])
 have ayz:Meth K jt "__init__" _:=⟨ZO,ZP,ZR⟩
 have aae:=dk (st:=FR) aiC aiD ZT
 have ajL:=aae.yC (ps:=["self"])
 have ajM:Meth K jt "ways" _:=⟨aiA,aiB,ZT⟩
 have SO:vK K mE:=⟨ZU,ZV,ZW,ZX⟩
 have GK:SS K mE:=⟨ZY,Z0,ZZ⟩
 have aaf:=dk (st:=FT) aiG aiH Z2
 have ajN:=aaf.yC (ps:=["self"])
 have ajO:Meth K mE "ways" _:=⟨aiE,aiF,Z2⟩
 have RI:=mg_of X G ag9
 have RK:=mg_of X G ag'
 have FW:mg "NOUGHT"=some (.ref SF):=mg_of X G aha
 have RV:mg "ONE"=some (.ref SG):=mg_of X G ahe
 have RL:mg "NO_MOVE"=some (.ref SH):=mg_of X G ahi
 have ayA:mg "YardError"=some (.ref ahr):=mg_of X G ahq
 have ayB:mg "NoWay"=some (.ref aht):=mg_of X G ahs
 have ayC:mg "PinThere"=some (.ref ahv):=mg_of X G ahu
 have ayD:mg "SpotTaken"=some (.ref ahx):=mg_of X G ahw
 have ayE:mg "NoPin"=some (.ref ahz):=mg_of X G ahy
 have Tj:mg "PinBusy"=some (.ref GQ):=mg_of X G GP
 have ayF:mg "BarThere"=some (.ref ahB):=mg_of X G ahA
 have ayG:mg "NoBar"=some (.ref ahD):=mg_of X G ahC
 have ayH:mg "NoLength"=some (.ref ahF):=mg_of X G ahE
 have ayI:mg "TooMany"=some (.ref ahH):=mg_of X G ahG
 have R_:mg "Frame"=some (.ref bR):=mg_of X G ahI
 have ayJ:mg "Hold"=some (.ref nN):=mg_of X G ahJ
 have GH:mg "Roller"=some (.ref jt):=mg_of X G ahK
 have GJ:mg "Fixed"=some (.ref mE):=mg_of X G ahL
 have OJ:mg "ValueError"=none:=mg_none_of X G vn
 have sY:mg "abs"=none:=mg_none_of X G YX
 have BJ:mg "all"=none:=mg_none_of X G YY
 have tf:mg "any"=none:=mg_none_of X G YZ
 have yT:mg "bool"=none:=mg_none_of X G SI
 have d_:mg "dict"=none:=mg_none_of X G SJ
 have dX:mg "enumerate"=none:=mg_none_of X G xD
 have qF:mg "int"=none:=mg_none_of X G Y0
 have bw:mg "isinstance"=none:=mg_none_of X G vp
 have aX:mg "len"=none:=mg_none_of X G Y1
 have b7:mg "list"=none:=mg_none_of X G SK
 have Le:mg "min"=none:=mg_none_of X G Y2
 have bf:mg "range"=none:=mg_none_of X G Ou
 have tu:mg "str"=none:=mg_none_of X G Y3
 have fP:mg "tuple"=none:=mg_none_of X G Ov
 have jz:mg "zip"=none:=mg_none_of X G Y4
 have F:=dk (st:=kE) YS YT YU
 refine ⟨fnOf "law" "law" (aA kE) (av kE) (ae kE) .none Sx Sy SA SD L6 SE,fun s v=>.of_eq rfl,fun base _ _=>?_⟩
 have hM:vX (aY l.prog w):=aY.yd
 have hN:∀H:Hp,bJ K H SF [.int 0,.int 1]:=fun H=>.inr ⟨_,_,_,ahb,rfl,rfl,z2L,.cons ⟨_,rfl⟩ (.cons ⟨_,rfl⟩ .nil)⟩
 have hO:∀H:Hp,bJ K H SG [.int 1,.int 1]:=fun H=>.inr ⟨_,_,_,ahf,rfl,rfl,z2L,.cons ⟨_,rfl⟩ (.cons ⟨_,rfl⟩ .nil)⟩
 have nm:∀{c:aef} {o:Θ} {k0 k1:Tok} {n:Nat} {sl:Ν},K.lookup c=some ⟨.type "tuple",o,.seq #[.int 0 k0,.int 1 k1] n,sl⟩->∀H:Hp,fN K H (.ref c) 0:=fun t H=>⟨_,rfl,by rw [c_];exact .inr ⟨_,_,_,t,rfl,rfl,z2L,.cons ⟨_,rfl⟩ (.cons ⟨_,rfl⟩ .nil)⟩⟩
 have hMo:∀H:Hp,eG K H (.ref SH) (0,0):=fun H=>⟨_,.ref YV,.ref YW,rfl,.inr ⟨_,_,_,ahj,rfl,rfl,z2L,.cons rfl (.cons rfl .nil)⟩,nm ahk H,nm ahn H⟩
 have fc:DF K bR:=⟨fh,Ma,SM,SN⟩
 have G1:=U4 (P:=l.prog) (w:=w) (base:=base) (CX:=aY l.prog w) aiK sY
 have G2:=U5 ht aiJ G1
 have GW:=U7 aiV G1
 have GDv:=U8 ht ai0 G1
 have GCl:=U9 ht aiZ jz G1 GDv
 have GF:=U_ (P:=l.prog) (w:=w) (base:=base) aiY dX
 have GR:=Va aiX bf b7 GF GCl
 have GS:=Vf hN FW aiW tf GR G2
 have ajP:=Vj aiT jz aX GW GS (Vi aiU bf) G2
 have GD:=RG (Vt hM aiI G2)
 have GPD:=Vv hM aiM GD
 have GI:=Vy (P:=l.prog) (w:=w) (mg:=mg) (base:=base) Z3 fc
 have MBs:bH l.prog w K mg base (aY l.prog w) 1 bR "bars" ["self"] (qa K bR):=⟨_,_,fh,ajD,VA Z' fc b7,ajC⟩
 have Tn:bH l.prog w K mg base (aY l.prog w) 1 bR "pins" ["self"] (g9 K bR):=⟨_,_,fh,ajB,VC Z_ fc b7,ajA⟩
 have MCp:bH l.prog w K mg base (aY l.prog w) 1 bR "check_pin" ["self","pin"] (dQ K bR):=⟨_,_,fh,ajx,VE Z8 fc,ajw⟩
 have MCb:bH l.prog w K mg base (aY l.prog w) 2 bR "check_bar" ["self","name","one","other"] (hW K bR):=⟨_,_,fh,ajv,VW Z7 fc RK aX MCp,aju⟩
 have Ta:bH l.prog w K mg base (aY l.prog w) 3 bR "put_bar" ["self","name","one","other"] (iV K bR):=⟨_,_,fh,ajt,VY Z6 fc MCb,ajs⟩
 have okP:=VT (P:=l.prog) (w:=w) (mg:=mg) (base:=base) ajq fc RI aX b7
 have PY:bH l.prog w K mg base (aY l.prog w) 3 bR "put_pin" ["self","name","x","y","hold"] (dc l.prog w K mg base bR):=⟨_,_,fh,Z5,okP,ajr⟩
 have Tb:uv l.prog w K mg base (aY l.prog w) 3 bR "put_pin" ["self","name","x","y","hold"] [.none] (dc l.prog w K mg base bR):=⟨_,_,fh,Z5,okP,Z4⟩
 have MPl:bH l.prog w K mg base (aY l.prog w) 2 bR "place" ["self","pin"] (om K bR):=⟨_,_,fh,ajF,VG aaa fc MCp,ajE⟩
 have ME:bH l.prog w K mg base (aY l.prog w) 1 bR "ends" ["self","bar"] (uM K bR):=⟨_,_,fh,ajJ,VI aac fc,ajI⟩
 have MW:bH l.prog w K mg base (aY l.prog w) 2 bR "ways" ["self","pin"] (qb K bR):=⟨_,_,fh,ajH,VL aab fc b7 MCp,ajG⟩
 have wR:bH l.prog w K mg base (aY l.prog w) 1 jt "ways" ["self"] (g_ K jt):=⟨_,_,zu,ajM,VP aae zu Qm,ajL⟩
 have wF:bH l.prog w K mg base (aY l.prog w) 1 mE "ways" ["self"] (hV K):=⟨_,_,SO,ajO,VR aaf,ajN⟩
 have GRI:=VN (P:=l.prog) (w:=w) (mg:=mg) (base:=base) aad zu Qm
 have GA:=V3 aiL MPl GPD
 have GPR:=V4 hMo RL aiN Tn
 have GBR:=V7 aiP GA GPR
 have GDR:=V9 aiQ Tn MW MBs ME GPR GBR
 have GPP:=V_ aiR aX d_ jz Tn MW MBs
 have GMF:=Wb aiS dX Tn
 have GLR:=V5 aiO Tn GPR
 have GRO:=We hN FW hO RV ai1 aX Tn GDR GLR ajP GMF GPP
 have GC:=Wh (P:=l.prog) (w:=w) (base:=base) (CX:=aY l.prog w) ai2 aX
 have HK:=Wj (P:=l.prog) (w:=w) (base:=base) (CX:=aY l.prog w) ai3
 have GLo:=Wk (w:=w) (base:=base) ht ai4 sY
 have OK:=Wn (P:=l.prog) (w:=w) (base:=base) ai5
 have GTi:=Wq (P:=l.prog) (w:=w) (base:=base) ai6
 have GTu:=Ws (P:=l.prog) (w:=w) (base:=base) ai7
 have GNa:=Wt hM ai8 tu HK
 have GSp:=Wu ai9 HK GLo
 have GWy:=Wv ai' HK GLo
 have GPi:=Wy aja bf Le GC HK GSp GWy GNa OK
 have GBa:=Wz ajb bf aX GC HK GNa
 have GFr:=WA ajc aX R9 R_ GI Sa GH GJ GK GL GRI GN (wR.mono (by decide)) (wF.mono (by decide)) Ta PY Tb
 have GAr:=WI ajd OK GTu
 have GDo:=WK ajk OK GTi
 have GAd:=WO aje OK
 have GFo:=WQ ajf aX bf GTi GTu GAr GAd
 have GNu:=WU ajg aX bw qF yT fP GLo
 have GAF:=WV ajh bw d_ b7 aX BJ GNu
 have GIM:=WW ajj bw d_ b7 fP aX GNu
 have GAR:=WX aji aX bf GFo OK
 have GLg:=WL ajl bf OK GTu GAr GDo
 have GKp:=WM ajm GDo
 have GWk:=WZ ajn OK GDo
 have MTk:bH l.prog w K mg base (aY l.prog w) 2 bR "take_pin" ["self","name"] (h_ K bR):=⟨_,_,fh,mK,kK gQ fc MCp,mJ⟩
 have MTb:bH l.prog w K mg base (aY l.prog w) 1 bR "take_bar" ["self","name"] (je K bR):=⟨_,_,fh,ajz,V0 Z9 fc,ajy⟩
 have GLd:=W0 ajo aX bf GC HK GFo GLo
 have GTa:=jr j5 b7 d_ HK
 have GMv:=va xE aX GIM GLg GKp GWk
 have GRt:=Xb ajp aX bw fP HK OK GLd GTa GRO GMv GAF GAR
 have GPt:=qM rS aX GH GJ GK GL GRI GN (wR.mono (by decide)) (wF.mono (by decide)) PY Tb
 have GSh:=qO (P:=l.prog) (w:=w) (base:=base) rT aX bf qF
 have GPo:=qQ rV aX bf tf GSh HK MTk
 have GDe:=xu zq aX HK MTb Ta
 have GPn:=rB vq tu HK GWy OK GPt
 exact Ss F aX bf GC HK GPi GBa GFr GRt GDe GPo GPn
end T_k33
open PySem PySem.W PyProof.Rows
set_option maxRecDepth 100000 in
set_option maxHeartbeats 0 in
theorem PySem.Challenge.cw_trussyard_k33_asked_behind_deeds_holds : PySem.Challenge.rw_trussyard_k33_asked_behind_deeds.Holds := by
 w_on;o_law;k_head;(case hw=>w_witness2)
 k_fill
 refine Ty.walk (l:=PySem.Challenge.rw_trussyard_k33_asked_behind_deeds) (x:="_law_script") (k:=42) (CX:=fun w=>Ty.aY (PySem.Challenge.rw_trussyard_k33_asked_behind_deeds).prog w) rfl rfl (by first | rfl | decide+kernel) ⟨rfl,by decide,by decide⟩ (fun w h Y=>PySem.W.kIn_of Y) (fun w=>Ty.aY.yd) ?F
 case F=>
  intro w mg fa h KX G Uc
  refine' T_k33.all_mk KX G Uc ⟨?A0,?A1,?A2,?A3⟩ ⟨?A4,?A5,?A6,?A7⟩ ⟨?A8,?A9,?Aa,?Ab⟩ ⟨?Ac,?Ad,?Ae,?Af⟩ ⟨?Ag,?Ah,?Ai,?Aj⟩ ⟨?Ak,?Al,?Am,?An⟩ ⟨?Ao,?Ap,?Aq,?Ar⟩ ⟨?As,?At,?Au,?Av⟩ ⟨?Aw,?Ax,?Ay,?Az⟩ ⟨?B0,?B1,?B2,?B3⟩ ⟨?B4,?B5,?B6,?B7⟩ ⟨?B8,?B9,?Ba,?Bb⟩ ⟨?Bc,?Bd,?Be,?Bf⟩ ⟨?Bg,?Bh,?Bi,?Bj⟩ ⟨?Bk,?Bl,?Bm,?Bn⟩ ⟨?Bo,?Bp,?Bq,?Br⟩ ⟨?Bs,?Bt,?Bu,?Bv⟩ ⟨?Bw,?Bx,?By,?Bz⟩ ⟨?C0,?C1,?C2,?C3⟩ ⟨?C4,?C5,?C6,?C7⟩ ⟨?C8,?C9,?Ca,?Cb⟩ ⟨?Cc,?Cd,?Ce,?Cf⟩ ⟨?Cg,?Ch,?Ci,?Cj⟩ ⟨?Ck,?Cl,?Cm,?Cn⟩ ⟨?Co,?Cp,?Cq,?Cr⟩ ⟨?Cs,?Ct,?Cu,?Cv⟩ ⟨?Cw,?Cx,?Cy,?Cz⟩ ⟨?D0,?D1,?D2,?D3⟩ ⟨?D4,?D5,?D6,?D7⟩ ⟨?D8,?D9,?Da,?Db⟩ ⟨?Dc,?Dd,?De,?Df⟩ ⟨?Dg,?Dh,?Di,?Dj⟩ ⟨?Dk,?Dl,?Dm,?Dn⟩ ⟨?Do,?Dp,?Dq,?Dr⟩ ⟨?Ds,?Dt,?Du,?Dv⟩ ⟨?Dw,?Dx,?Dy,?Dz⟩ ⟨?E0,?E1,?E2,?E3⟩ ⟨?E4,?E5,?E6,?E7⟩ ⟨?E8,?E9,?Ea,?Eb⟩ ⟨?Ec,?Ed,?Ee,?Ef⟩ ⟨?Eg,?Eh,?Ei,?Ej⟩ ⟨?Ek,?El,?Em,?En⟩ ⟨?Eo,?Ep,?Eq,?Er⟩ ⟨?Es,?Et,?Eu,?Ev⟩ ⟨?Ew,?Ex,?Ey,?Ez⟩ ⟨?F0,?F1,?F2,?F3⟩ ⟨?F4,?F5,?F6,?F7⟩ ⟨?F8,?F9,?Fa,?Fb⟩ ⟨?Fc,?Fd,?Fe,?Ff⟩ ⟨?Fg,?Fh,?Fi,?Fj⟩ ⟨?Fk,?Fl,?Fm,?Fn⟩ ⟨?Fo,?Fp,?Fq,?Fr⟩ ?Fs ?Ft ?Fu ?Fv ?Fw ?Fx ?Fy ?Fz ?G0 ?G1 ?G2 ?G3 ?G4 ?G5 ?G6 ?G7 ?G8 ?G9 ?Ga ?Gb ?Gc ?Gd ?Ge ?Gf ?Gg ?Gh ?Gi ?Gj ?Gk ?Gl ?Gm ?Gn ?Go ?Gp ?Gq ?Gr ?Gs ?Gt ?Gu ?Gv ?Gw ?Gx ?Gy ?Gz ?H0 ?H1 ?H2 ?H3 ?H4 ?H5 ⟨?H6,?H7,?H8,?H9,?Ha⟩ ?Hb ?Hc ?Hd ?He ?Hf ?Hg ⟨?Hh,?Hi,?Hj,?Hk,?Hl⟩ ⟨?Hm,?Hn,?Ho,?Hp,?Hq⟩ ⟨?Hr,?Hs,?Ht,?Hu,?Hv⟩ ⟨?Hw,?Hx,?Hy,?Hz,?I0⟩ ⟨?I1,?I2,?I3,?I4,?I5⟩ ⟨?I6,?I7,?I8,?I9,?Ia⟩ ⟨?Ib,?Ic,?Id,?Ie,?If⟩ ⟨?Ig,?Ih,?Ii,?Ij,?Ik⟩ ⟨?Il,?Im,?In,?Io,?Ip⟩ ⟨?Iq,?Ir,?Is,?It,?Iu⟩ ?Iv ?Iw ?Ix ?Iy ?Iz ?J0 ?J1 ⟨?J2,?J3,?J4,?J5,?J6⟩ ?J7 ?J8 ?J9 ?Ja ?Jb ?Jc ⟨?Jd,?Je,?Jf,?Jg,?Jh⟩ ⟨?Ji,?Jj,?Jk,?Jl,?Jm⟩ ?Jn ?Jo ?Jp ?Jq ?Jr ?Js ?Jt ⟨?Ju,?Jv,?Jw,?Jx,?Jy⟩ ?Jz ?K0 ?K1 ?K2 ?K3
  (case A0|A1|A2|A3|A4|A5|A6|A7|A8|A9|Aa|Ab|Ac|Ad|Ae|Af|Ag|Ah|Ai|Aj|Ak|Al|Am|An|Ao|Ap|Aq|Ar|As|At|Au|Av|Aw|Ax|Ay|Az|B0|B1|B2|B3|B4|B5|B6|B7|B8|B9|Ba|Bb|Bc|Bd|Be|Bf|Bg|Bh|Bi|Bj|Bk|Bl|Bm|Bn|Bo|Bp|Bq|Br|Bs|Bt|Bu|Bv|Bw|Bx|By|Bz|C0|C1|C2|C3|C4|C5|C6|C7|C8|C9|Ca|Cb|Cc|Cd|Ce|Cf|Cg|Ch|Ci|Cj|Ck|Cl|Cm|Cn|Co|Cp|Cq|Cr|Cs|Ct|Cu|Cv|Cw|Cx|Cy|Cz|D0|D1|D2|D3|D4|D5|D6|D7|D8|D9|Da|Db|Dc|Dd|De|Df|Dg|Dh|Di|Dj|Dk|Dl|Dm|Dn|Do|Dp|Dq|Dr|Ds|Dt|Du|Dv|Dw|Dx|Dy|Dz|E0|E1|E2|E3|E4|E5|E6|E7|E8|E9|Ea|Eb|Ec|Ed|Ee|Ef|Eg|Eh|Ei|Ej|Ek|El|Em|En|Eo|Ep|Eq|Er|Es|Et|Eu|Ev|Ew|Ex|Ey|Ez|F0|F1|F2|F3|F4|F5|F6|F7|F8|F9|Fa|Fb|Fc|Fd|Fe|Ff|Fg|Fh|Fi|Fj|Fk|Fl|Fm|Fn|Fo|Fp|Fq|Fr|Fs|Ft|Fu|Fv|Fw|Fx|Fy|Fz|G0|G1|G2|G3|G4|G5|G6|G7|G8|G9|Ga|Gb|Gc|Gd|Ge|Gf|Gg|Gh|Gi|Gj|Gk|Gl|Gm|Gn|Go|Gp|Gq|Gr|Gs|Gt|Gu|Gv|Gw|Gx|Gy|Gz|H0|H1|H2|H3|H4|H5|H6|H7|H8|H9|Ha|Hb|Hc|Hd|He|Hf|Hg|Hh|Hi|Hj|Hk|Hl|Hm|Hn|Ho|Hp|Hq|Hr|Hs|Ht|Hu|Hv|Hw|Hx|Hy|Hz|I0|I1|I2|I3|I4|I5|I6|I7|I8|I9|Ia|Ib|Ic|Id|Ie|If|Ig|Ih|Ii|Ij|Ik|Il|Im|In|Io|Ip|Iq|Ir|Is|It|Iu|Iv|Iw|Ix|Iy|Iz|J0|J1|J2|J3|J4|J5|J6|J7|J8|J9|Ja|Jb|Jc|Jd|Je|Jf|Jg|Jh|Ji|Jj|Jk|Jl|Jm|Jn|Jo|Jp|Jq|Jr|Js|Jt|Ju|Jv|Jw|Jx|Jy|Jz|K0|K1|K2=>k_is);(case K3=>rfl)
#print axioms PySem.Challenge.cw_trussyard_k33_asked_behind_deeds_holds
