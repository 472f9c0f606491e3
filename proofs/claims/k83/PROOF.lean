import PyProof.Rows.All
import Wide.All
import OpenK.AllK
import Wide.FinOn
import Lean
import PyProof.EqAt
import PyProof.EqKinds
import PyProof.TupleCall
import PyProof.ZipIter
import PyProof.SumWalkG
import PyProof.ListCopy
import PyProof.ListStr
import PyProof.DictItems
import PyProof.DictWalks
import PyProof.DictTruth
import PyProof.EnumMake
import PyProof.InstStoreFacts
import PyProof.Rows.SortWalk
import PyProof.ListRange
import PyProof.DictValues
import KE.KRevSl
import KE.KDictOf
import PyProof.DictIter
import PyProof.FactsAll.dict_1
import PyProof.AttrMissHeap
import KE.KEqDict
import KE.KDictList
import KE.KItemsList
import PyProof.StrLawsTight
import PyProof.StrCalls2
import PyProof.Rows.StrItems
import PySem.Challenge.RW_trussyard_k83_whole_pieces_laid
set_option Elab.async false
set_option linter.all false
set_option maxRecDepth 100000
set_option compiler.extract_closed false
theorem gE.{u}{α:Type u}{l:List α}(h:i < l.length):l[i]? =some l[i]:=List.getElem?_eq_getElem h
namespace PySem.W.Fast
def tw7308673431416250365:=()
def tw14124439167426609297:=()
def tw10809674582445906159:=()
def tw11461400974441833596:=()
def tw5407871327367604643:=()
def tw7506898071364475971:=()
def tw6923710880442518013:=()
def tw9623869031680371052:=()
def tw8389694728954992584:=()
def tw10032400942569182514:=()
def tw8454300864175174949:=()
def tw10728936586550916183:=()
def tw4889455778002681910:=()
def tw13134820455855063702:=()
def tw9969325040016545892:=()
def tw7248355704570894790:=()
def tw5981663951046826726:=()
def tw7253694550842593990:=()
def tw7096999221292092628:=()
def tw184384809748760838:=()
def tw14180914778377575836:=()
def tw7309795024413793837:=()
def tw1788908313238470059:=()
def tw13155674593043636380:=()
def tw7410032675520639387:=()
def tw15854879860662460022:=()
def tw14007365855643791814:=()
def tw4085462242069600504:=()
def tw11660177099362810353:=()
def tw12170964250892267856:=()
def tw1715769526904794462:=()
def tw6936704921730740120:=()
def tw12190306819819378547:=()
def tw14784845915875828410:=()
def tw2912474831250809743:=()
def tw7923730698674177881:=()
def tw2971636786425432055:=()
def tw13109987966166919885:=()
def tw12873410402328658072:=()
def tw16997993604814963356:=()
def tw1808682959071562643:=()
def tw7631609249013610328:=()
def tw14122434314057446695:=()
def tw16642095324282038269:=()
def tw9613561609298082101:=()
def tw8069873819742177235:=()
def tw15478644198335391480:=()
def tw17191738555136558797:=()
def tw416764188861652672:=()
def tw12037982383917592220:=()
def tw5418880328593866462:=()
def tw2659703525110605572:=()
def tw9859616344731925544:=()
def tw18157717849776962687:=()
def tw14149164734917532664:=()
def tw11707426616784146066:=()
def tw1662000844580448369:=()
def tw6414808856155665819:=()
def tw10366480047502254597:=()
def tw8998039414065424790:=()
def tw5656079675925387771:=()
def tw13964726073357571015:=()
def tw7047351584018626184:=()
def tw9283060280154710726:=()
def tw3693212813140096919:=()
def tw10501640041285521386:=()
def tw8494787759913578100:=()
def tw14357976331815470316:=()
def tw7028431312305929727:=()
def tw2996522155083275919:=()
def tw3524934454285727637:=()
def tw4508363605645332425:=()
def tw6301232619245122025:=()
def tw7333148042079868024:=()
def tw12371089144320541649:=()
def tw7131665081890917649:=()
def tw10523002340411910329:=()
def tw9344302260448832666:=()
def tw5301411023874266522:=()
def tw6559462734306824911:=()
def tw1527538225121356280:=()
def tw13755237494400005170:=()
def tw5682915160800681465:=()
def tw10543533199287289362:=()
def tw7255310474657031677:=()
def tw16392163112815203646:=()
def tw15263627605833155756:=()
def tw2288882237087985505:=()
def tw12164271310208332573:=()
def tw16926029790142234871:=()
def tw16410452093650413388:=()
def tw16075987901087569254:=()
def tw9923185951604920038:=()
def tw4495428749511589398:=()
def tw4351502135588481550:=()
def tw8496004052091687640:=()
def tw12300695755941031436:=()
def tw679042937201266053:=()
def tw6631953979969286810:=()
def tw4752496419330243060:=()
def tw12393456657758959017:=()
def tw3002298124697509709:=()
def tw6830097254253437196:=()
def tw5652965831211116927:=()
def tw3419696866710380401:=()
def tw4852648637933709237:=()
def tw5655981699112618888:=()
def tw14782997697109692210:=()
def tw12208402092957524801:=()
def tw7557664155618250992:=()
def tw8896757848450519950:=()
def tw1459591086338906878:=()
def tw15547199669660081494:=()
def tw3082979129054619340:=()
def tw11923823180394678448:=()
def tw16388333795066803367:=()
def tw2935304645430845744:=()
def tw8678384800146269083:=()
def tw13832379043350511315:=()
def tw10296067579588092687:=()
def tw13700208454950776818:=()
def tw8330963429689564364:=()
def tw4073805553884997489:=()
def tw1769372884036358575:=()
def tw15333124105941630865:=()
def tw12240071484040681137:=()
def tw4357904644394944887:=()
def tw9013711563358038236:=()
def tw17021037987567439530:=()
def tw15989630876774975586:=()
def tw10271890404949789697:=()
def tw13698226865145873309:=()
def tw1128788310898744623:=()
def tw16187049100223784552:=()
def tw10763997651267949955:=()
def tw14151895274577358206:=()
def tw4373535851241794358:=()
def tw3017461581667652716:=()
def tw13794746552562302786:=()
def tw16999079104744890899:=()
def tw315134275893967161:=()
def tw4945312443671760731:=()
def tw3063246438702702052:=()
def tw3804498910953024310:=()
def tw852354492436427628:=()
def tw14398131090536864023:=()
def tw4391527953000116591:=()
def tw11672981674799477231:=()
def tw14615722297971279569:=()
def tw1501762730671244458:=()
def tw2532406476609721216:=()
def tw1876407101976427072:=()
def tw15189251844736290338:=()
def tw4260575848121923464:=()
def tw7874813522851487873:=()
def tw6552625150849984662:=()
def tw748500841168739329:=()
def tw4069010500239616283:=()
def tw1692821061316248921:=()
def tw519532784774380919:=()
def tw13585146842466163121:=()
def tw7013714843770324989:=()
def tw5962009029147970030:=()
def tw842232759207074671:=()
def tw17048270030834906977:=()
def tw737389477967269005:=()
def tw10552084251502656449:=()
def tw15790391965397079874:=()
def tw1033877105673699778:=()
def tw3890844913929857053:=()
def tw15960819200909577636:=()
def tw5637571150532532820:=()
def tw14152737481646068030:=()
def tw11920615240357787235:=()
def tw11900800346722868327:=()
def tw10809998104104232628:=()
def tw7347674362841138947:=()
def tw3673115219312591792:=()
def tw13318279694139299535:=()
def tw17361660462513649789:=()
def tw5549982224174586600:=()
def tw15612624969658588382:=()
def tw6666056979991428797:=()
def tw8582953219880884731:=()
def tw10486292164786385818:=()
def tw14666416041184454599:=()
def tw16712661838966134352:=()
def tw12671858554285170820:=()
def tw8882166822177775176:=()
def tw6521883450245231967:=()
def tw11324906824051527098:=()
def tw6180376250128025150:=()
def tw18416976706050046531:=()
def tw18412208423805268041:=()
def tw11158100546993635963:=()
def tw13305423194145705872:=()
def tw18169233051338704669:=()
def tw6535038264554038428:=()
def tw11656147197430685687:=()
def tw3562176703707581470:=()
def tw13694910138405756645:=()
def tw7642257236880074874:=()
def tw8215100258337587949:=()
def tw2371763205437704259:=()
def tw12441983962811585809:=()
def tw11703987792001627897:=()
def tw73686045237614391:=()
def tw1374651458280754065:=()
def tw13223293901150855479:=()
def tw1796378208329348191:=()
def tw3060723182166969919:=()
def tw10371408524419165259:=()
def tw14120796531708359951:=()
def tw1254524695588196097:=()
def tw6206754396056893466:=()
def tw4350683654670606030:=()
def tw11509183558784791694:=()
def tw8295231503114977370:=()
def tw10874847449473786973:=()
def tw8787162792619119180:=()
def tw14814941587631996907:=()
def tw4815272353210754457:=()
def tw13169490315905335397:=()
def tw7376576565479051811:=()
def tw1784558645615868130:=()
def tw14395502786474826899:=()
def tw4355952434584958993:=()
def tw3327563419364562326:=()
def tw7878065930292717716:=()
def tw8631924990793986941:=()
def tw5412874011617397571:=()
def tw10721161016789469597:=()
def tw18320994567998473745:=()
def tw5848796562103158390:=()
def tw14586824661133867576:=()
def tw5508668018108715852:=()
def tw1052940960524678231:=()
def tw4022899414044335963:=()
def tw1081512550694170977:=()
def tw17788839232916902051:=()
def tw15494467397456679484:=()
def tw237959239064946913:=()
def tw6661424727917277944:=()
def tw9656856925258979837:=()
def tw15635005957445533029:=()
def tw9163765319209636814:=()
def tw16343791173527055523:=()
def tw14908960586921272132:=()
def tw16229715915819342966:=()
def tw10969385833010900441:=()
def tw8814176989952149381:=()
def tw8286642954846032919:=()
def tw17336577818119234869:=()
def tw1943795215274555011:=()
def tw6707850033784626651:=()
def tw14154346847911717572:=()
def tw10160508786415803950:=()
def tw15370660226790323097:=()
def tw5596761120092898829:=()
def tw18157286286538399623:=()
def tw15600651012267511582:=()
def tw7386360032407477160:=()
def tw2672497684408393287:=()
def tw6652051225310639208:=()
def tw7247307773890620863:=()
def tw9020231787001000741:=()
def tw16876728837633176942:=()
def tw4493253473007141735:=()
def tw5541675701337530596:=()
def tw2763762102674035697:=()
def tw11007419922312986763:=()
def tw15249276708840799895:=()
end PySem.W.Fast
open Array renaming length_toList->ai_, getElem?_eq_getElem->alh, toList_extract->anc, append_assoc->ano, toList_inj->aoI, toList->aqo
open Bool renaming false_ne_true->acZ, eq_false_iff->ac4, and_eq_true->ac8, not_eq_true'->aeM, eq_iff_iff->ahF, and_false->aku, and_true->anl, false_and->aph, or_false->aqc, false_or->aqd
open Classical renaming byContradiction->alD
open Int renaming gcd->ae', fmod_nonneg_of_pos->agX, fdiv_eq_of_eq_mul_right->ag9, ne_of_gt->ahM, mul_pos->ahU, fmod_lt_of_pos->akq, fdiv_eq_ediv_of_nonneg->alg, mul_comm->am1, zero_add->am6, mul_assoc->ank, gcd_zero_right->anp, fmod_def->anq, lt_trichotomy->anX, gcd_dvd_right->an9, gcd_dvd_left->aov, gcd_mul_left->aow, gcd_pos_iff->aoV, mul_ne_zero->aoW, natAbs_neg->apS
open List renaming length_map->ir, getElem?_eq_some_iff->Wp, length_append->aae, mem_of_getElem?->aaP, mem_singleton->aaT, getElem?_map->aaU, mem_cons_of_mem->aa2, mem_cons->aa3, mem_cons_self->aa_, mem_append->abh, length_singleton->ac0, map_append->ac1, mem_map->ac3, length_cons->ac5, lookup->ac6, getElem?_eq_none->ac7, not_mem_nil->ac_, getElem?_append_right->ac', map_cons->ada, size_toArray->adb, getElem?_of_mem->ade, mem_append_right->adf, getElem?_append_left->ad_, length_take->aep, drop_eq_getElem_cons->aeD, append_nil->aeL, mem_of_mem_take->aeP, take_of_length_le->ae1, map_map->ae5, length_drop->afh, mem_of_mem_drop->afj, append_assoc->afC, range->afD, mem_filterMap->afE, drop_length->afF, nodup_cons->afK, take_length->afL, all_eq_true->afP, find?_eq_none->af_, mem_append_left->agU, ext_getElem?->agW, find?_cons_of_pos->agZ, find?_cons_of_neg->ag1, find?_cons->ag4, any_cons->ag8, nodup_append->ag_, length_range->ag', mem_iff_getElem->ahh, mem_of_find?_eq_some->ahj, filterMap_cons->ahs, getElem?_take_of_lt->aht, map_take->ahz, mem_filter->ahC, mem_range->ahG, getElem?_set_self->ahH, take_zero->ahO, take_append_drop->ahP, all_cons->ahQ, getElem?_set_ne->ahS, length_nil->ah_, map_eq_nil_iff->ajZ, map_congr_left->aj0, map_nil->akc, all_map->akf, zipWith->akm, lookup_append->akB, extract_eq_drop_take'->ak1, filter_append->ak_, nodup_nil->alf, getElem?_inj->alG, getElem?_replicate->al_, filter_cons_of_pos->amV, filter_cons_of_neg->amW, cons_append->amX, range_succ_eq_map->am2, getElem_cons_drop->am4, drop_of_length_le->am5, of_mem_zip->am7, length_replicate->am9, getElem?_zipWith->am_, eq_nil_or_concat->am', concat_eq_append->ana, drop_zero->ane, getElem?_range->ani, length_zipWith->anj, find?_append->aoa, lookup_cons->aoE, getElem_mem->aoN, nil_append->apa, filter_nil->apb, replicate->apw
open List.cons renaming inj->ahx
open Nat renaming le_trans->aah, le_refl->aaM, lt_of_lt_of_le->aaS, lt_of_le_of_lt->aaW, ne_of_lt->ac9, zero_le->aer, le_succ_of_le->ae_, lt_irrefl->afw, pow_le_pow_right->afI, eq_zero_or_pos->ag3, le_succ->ahf, log2_lt->ahT, le_of_lt->aj_, lt_succ_self->alN, le_of_not_lt->amT, toDigits_of_lt_base->amU, ne_of_gt->amY, le_of_eq->amZ, toDigits->am3, min_eq_left->am8, mul_le_mul_right->anb, digitChar->anm, min_self->an_, zero_add->aok, min_eq_right->aoL, not_lt_zero->ao_, add_le_add->apV
open Nat.succ renaming inj->aqt
open Ne renaming symm->ac2
open Option renaming map_eq_some_iff->ab_, map_eq_none_iff->ahN, isSome_map->alF, isSome_iff_exists->alM, getD_none->aor, none->aqH
open Option.some renaming inj->aaQ
open Or renaming inl->am0, inr->aos
open Prod renaming ext->agV, fst->anf
open Prod.mk renaming inj->ang
open Rat renaming intCast_natCast->aj6, zero_mul->aoc, add_zero->aoi
open Sum renaming inr->afG, inl->anh
open Sum.inr renaming inj->ahR
open PySem.W (Frag nsIn codeIn keepIn fnOf mg_of mg_none_of)
open PySem renaming Addr->abj, wpAny_bind->abk, sizeLine->abl, Shared->abw, model->abx, wpAny->abz, mainGlobals->abA, wpAny_pure->abC, starEach->abF, strLen_append->abG, wpAny_mono->abH, Program->abJ, Around->abM, wpAny_ite_false->abS, eval->abU, bootBuiltins->ab2, compareOp->ab3, excClassObj->acn, intBits_le_64->acp, wpAny_truthy_bool->acq, foldedSetIterable->acr, backTo->acu, wpAny_Call_Name_kw->acv, codeAny->acx, sysModules->acy, wpAny_passesOwn->acD, swapsWith->acM, mem_of_lookup->acP, wpAny_getItem_str_slice->acQ, behindInMarks->acR, wpAny_execs_nil->acS, binaryOp->adg, cLine->adj, codeAny_mono->adl, wpAny_call->ado, codeAny_call_builtin->adq, attributeBase->ads, sliceBounds->adt, tupleKind_room_in1->adw, assignEach->adx, typeIs_str->adz, intBits_mul_le->adB, wpAny_standAt->adF, wpAny_holding->adH, checkBuiltinCall->adJ, Within->adK, letOwnedTupleGo->adN, post_val_or_str->adP, recursionLimit->adR, wpAny_ite_true->adS, sizeLine_eq->adT
open PySem.Heap renaming get?_push_of_some->abr, lt_size->abB, get?_push_size->abI, get?_update_other->abT, get?_update_self->acz, size_push->ady, SameBut->adM
open PySem.W renaming findIn->abt, exmOne->abD, mroIn->abL, hasDictIn->abR, emptyDict->abY, kitOne->abZ, instObj->ab1, clsIn->ab7, plainGet->ab8, makesIn->acb, kia_one->acj, excIn->aco, plainOver->acs, tailIn->acN, hideAll_get->acO, callWith_K->acT, isFn->adv, Looks->adG, hideAll->adL, lookIn->adQ
open PySem.F renaming excBase_ValueError->abE, slot_list_append->abO, type_list_append->abP, plainAttrs_list->abQ, plainAttrs_str->ab5, slot_str_split->adh, type_str_split->adi
open PySem.Paired renaming length->abK, snoc->acA
open PySem.Txt renaming join->abN, split->ab6, startswith->adA, partition->adI
open PySem.PassesOwn renaming never->abW, leaving->acE
open PySem.Builtin.Str renaming strSub->abX, occurrences->acw
open PySem.Str renaming ofString->ab0, empty->ab4
open PyProof.Rows renaming envOfC->aca, callWith_type1->acB, AllBare->adk, kindOf->adm, int_text_len_1921->adD
open PySem.Builtin.List renaming listExtendWith->acC
open PySem.StrLaws renaming glued_eq_join->adn, subAt_one->adC
open PySem.BindsTo renaming of_defaults->adu
open PySem.NumText renaming AllDigits->adE
theorem abn{p:Prop}[Decidable p](h:decide p=true):p:=of_decide_eq_true h
theorem abo{a b:Prop}(h:a)(n:¬a):b:=absurd h n
theorem abp.{u}{c:Prop}[Decidable c](a:¬c){α:Sort u}{t e:α}:ite c t e=e:=if_neg a
theorem abu{p:Prop}[Decidable p](h:p):decide p=true:=decide_eq_true h
theorem abv.{u}{c:Prop}[Decidable c](a:c){α:Sort u}{t e:α}:ite c t e=t:=if_pos a
theorem aby{p:Prop}[Decidable p](h:¬p):decide p=false:=decide_eq_false h
theorem abV.{u,v}{α:Sort u}{β:Sort v}{a b:α}(f:α->β)(h:a=b):f a=f b:=congrArg f h
namespace L2
open PySem PySem.Spec PyProof.Rows
abbrev _root_.γ:=Value->abw->Prop
abbrev _root_.δ:=List (abj×Obj)
abbrev _root_.ζ:=Str->Option Value
abbrev _root_.η:=List Str
abbrev _root_.θ:=List Value
abbrev _root_.ξ:=List abj
abbrev _root_.ο:=List (Str×Str×Str)
abbrev _root_.π:=List Expr
abbrev _root_.ς:=Option abj
abbrev _root_.τ:=Option (Nat×(Rat×Rat))
abbrev _root_.υ:=List (Rat×Rat)
abbrev _root_.Β:=Unit->abw->Prop
abbrev _root_.Δ:=Array (Option Value)
abbrev _root_.Ζ:=Result->abw->Prop
abbrev _root_.Θ:=List Nat
abbrev _root_.Κ:=Option Value
abbrev _root_.Μ:=List (Str×Value)
abbrev Key:=Sum Int Str
abbrev _root_.Ι:=List (List Key×abj×Value)
def D_:Key->Value->Bool
 | .inl k,v=>Value.isInt k v
 | .inr x,v=>Value.isStrOf x v
def awq (w:World):Key->Int
 | .inl k=>hashInt k
 | .inr x=>hashStr w x
theorem c7:∀{k:Key} {v:Value},D_ k v=true->(∃i t,k=anh i/\v=Value.int i t)\/(∃x t,k=afG x/\v=Value.str x t)
 | .inl i,v,h=>by
  obtain ⟨t,e⟩:=Value.isInt_shape (k:=i) (v:=v) h;exact .inl ⟨i,t,rfl,e⟩
 | .inr x,v,h=>by
  obtain ⟨t,e⟩:=Value.isStrOf_shape (x:=x) (v:=v) h;exact .inr ⟨x,t,rfl,e⟩
theorem VA (i:Int)(t:Tok):D_ (.inl i) (.int i t)=true:=by simp [D_,Value.isInt]
theorem VB (x:Str)(t:Tok):D_ (.inr x) (.str x t)=true:=by simp [D_,Value.isStrOf]
theorem ajV (a b:Int):decide ((anh a:Key)=anh b)=(a==b):=by
 by_cases e:a=b
 ·subst e;simp
 ·have h:¬ (anh a:Key)=anh b:=fun q=>e (Sum.inl.inj q)
  rw [aby h];exact (beq_eq_false_iff_ne.mpr e).symm
theorem ajW (a b:Str):decide ((afG a:Key)=afG b)=decide (a=b):=by
 by_cases e:a=b
 ·subst e;simp
 ·have h:¬ (afG a:Key)=afG b:=fun q=>e (ahR q)
  rw [aby h,aby e]
theorem ajX (a:Int)(b:Str):decide ((anh a:Key)=afG b)=false:=aby (fun q=>nomatch q)
theorem ajY (a:Str)(b:Int):decide ((afG a:Key)=anh b)=false:=aby (fun q=>nomatch q)
def cF (prog:abJ)(w:World):PySem.KeyKind prog w Key where
 is:=D_
 hash:=awq w
 inj:=fun v a b ha hb=>by
  rcases c7 ha with ⟨i,t,rfl,rfl⟩|⟨x,t,rfl,rfl⟩
  ·rcases c7 hb with ⟨j,u,rfl,e⟩|⟨y,u,rfl,e⟩
   ·injection e with e1 _;rw [e1]
   ·exact nomatch e
  ·rcases c7 hb with ⟨j,u,rfl,e⟩|⟨y,u,rfl,e⟩
   ·exact nomatch e
   ·injection e with e1 _;rw [e1]
 byValue:=fun k v h=>by
  rcases c7 h with ⟨i,t,rfl,rfl⟩|⟨x,t,rfl,rfl⟩<;>rfl
 pyHash:=fun hv h=>by
  rcases c7 hv with ⟨i,t,rfl,rfl⟩|⟨x,t,rfl,rfl⟩
  ·exact wpAny_pyHash_int h
  ·exact wpAny_pyHash_str h
 eqBool:=fun hu hv h=>by
  rcases c7 hu with ⟨i,t,rfl,rfl⟩|⟨x,t,rfl,rfl⟩
  ·rcases c7 hv with ⟨j,u,rfl,rfl⟩|⟨y,u,rfl,rfl⟩
   ·rw [ajV] at h;exact wpAny_eqBool_int h
   ·rw [ajX] at h;exact SeqAt.EqAt.int_str i t y u _ _ _ _ h
  ·rcases c7 hv with ⟨j,u,rfl,rfl⟩|⟨y,u,rfl,rfl⟩
   ·rw [ajY] at h;exact SeqAt.EqAt.str_int x t j u _ _ _ _ h
   ·rw [ajW] at h;exact wpAny_eqBool_str h
 «strs»:=fun k x t v h=>by
  rcases c7 h with ⟨i,u,rfl,e⟩|⟨y,u,rfl,e⟩
  ·exact nomatch e
  ·injection e with e1 _
   subst e1;cases v<;>rfl
theorem L' (prog:abJ)(w:World)(i:Int)(t:Tok):(cF prog w).is (.inl i) (.int i t)=true:=VA i t
theorem MA (prog:abJ)(w:World)(x:Str)(t:Tok):(cF prog w).is (.inr x) (.str x t)=true:=VB x t
inductive V where
 | bG|bl (b:Bool)|int (i:Int)|str (x:Str)|byt (b:Array UInt8)|flt (b:UInt64)|ref (a:abj)|ty (n:String)
 deriving DecidableEq
abbrev _root_.ε:=List V
abbrev _root_.ι:=List (Key×V)
abbrev _root_.ω:=Option V
abbrev _root_.Ε:=List (List Key×V)
abbrev _root_.Η:=List (Str×V)
def RelV:V->Value->Prop
 | .bG,u=>u=Value.none
 | .bl b,u=>u=Value.bool b
 | .int i,u=>∃t,u=Value.int i t
 | .str x,u=>∃t,u=Value.str x t
 | .byt b,u=>∃t,u=Value.bytes b t
 | .flt b,u=>∃t,u=Value.float b t
 | .ref a,u=>u=Value.ref a
 | .ty n,u=>u=Value.type n
abbrev Vals:List V->List Value->Prop:=Paired RelV
theorem Vals.length {xs:ε}{us:θ}(r:Vals xs us):xs.length=us.length:=abK r
theorem Vals.get:∀{xs:ε} {us:θ} {i:Nat} {x:V},Vals xs us->xs[i]?=some x->∃u,us[i]?=some u/\RelV x u
 | _,_,_,_,.nil,e=>by simp at e
 | _,_,0,_,.cons r _,e=>by simp at e;subst e;exact ⟨_,rfl,r⟩
 | _,_,i+1,x,.cons _ t,e=>by
  obtain ⟨u,h1,h2⟩:=Vals.get (i:=i) (x:=x) t (by simpa using e);exact ⟨u,by simpa using h1,h2⟩
theorem Vals.append:∀{xs ys:ε} {us ws:θ},Vals xs us->Vals ys ws->Vals (xs++ys) (us++ws)
 | _,_,_,_,.nil,s=>s
 | _,_,_,_,.cons r t,s=>.cons r (Vals.append t s)
theorem Vals.take:∀{xs:ε} {us:θ} (n:Nat),Vals xs us->Vals (xs.take n) (us.take n)
 | _,_,0,_=>.nil
 | _,_,_+1,.nil=>.nil
 | _,_,n+1,.cons r t=>.cons r (Vals.take n t)
theorem Vals.drop:∀{xs:ε} {us:θ} (n:Nat),Vals xs us->Vals (xs.drop n) (us.drop n)
 | _,_,0,r=>r
 | _,_,_+1,.nil=>.nil
 | _,_,n+1,.cons _ t=>Vals.drop n t
def kg:Option V->Option Value->Prop
 | some v,some u=>RelV v u
 | none,none=>True
 | _,_=>False
def KV {κ:Type}:List (κ×V)->List (κ×Value)->Prop:=Paired fun (p:κ×V) (q:κ×Value)=>p.1=q.1/\RelV p.2 q.2
def kV:Key->V
 | .inl i=>.int i
 | .inr x=>.str x
inductive HO where
 | lst (xs:ε)
 | tup (xs:ε)
 | dK (kvs:ι)|dT (kvs:Ε)
 | set (S:Int->Bool) (n:Nat)
 | ins (C dx:abj) (fs:Η)
 | own (x:abj)
 | xd (fs:Η)
 | met (f x:abj)
 | rng (lo hi:Int)
 | iT (o:Obj) (u:HO)
 | tbl (ps:Array Value)
 | ext (φ:Heap->Prop)
abbrev Hp:=abj->Option HO
def upd (H:Hp)(a:abj)(o:HO):Hp:=fun b=>if b=a then some o else H b
theorem ai :upd H a o a=some o:=by unfold upd;rw [abv rfl]
theorem ah (h:b≠a):upd H a o b=H b:=by unfold upd;rw [abp h]
theorem an8 {H:Hp}(h:H a=some o)(h':H b=some u)(d:o≠u):a≠b:=by
 intro e;subst e;rw [h] at h';exact d (aaQ h')
theorem aj {H:Hp}(h:H a=some o)(h':H b=none):a≠b:=by
 intro e;subst e;rw [h] at h';cases h'
section
variable (P:abJ)(w:World)
def bX (H:Hp)(h:Heap)(a:abj):HO->Prop
 | .lst xs=>xs.length<=abl/\∃(its:θ)(n:Nat),Vals xs its/\h.get? a=some {cls:=.type "list",data:=.seq its.toArray n}
 | .tup xs=>xs.length<=abl/\∃its:List Value,Vals xs its/\IsTup h a its.toArray
 | .dK kvs=>kvs.length<=abl/\(a==acy)=false/\∃vs,KV kvs vs/\h.DictOf (cF P w) a vs
 | .dT kvs=>kvs.length<=abl/\(a==acy)=false/\∃xs:List (List Key×abj×Value),
   Paired (fun (p:List Key×V) (q:List Key×abj×Value)=>p.1=q.1/\H q.2.1=some (.tup (p.1.map kV))/\RelV p.2 q.2.2) kvs xs/\
   ∃o es ep,h.get? a=some o/\o.ExactDict/\o.data=.dict es ep/\es.toList=xs.map (entryOfKey (tupleKind (cF P w)))/\(xs.map (·.1)).Nodup
 | .set S n=>h.SetOf (intKind P w) a S n
 | .ins C dx fs=>H dx=some (.own a)/\fs.length<=1000/\dx≠a/\h.get? a=some (ab1 C dx)/\
   ∃mA,h.Ns1 dx mA/\(∀f,kg (fs.lookup f) (mA f))/\adK mA (fs.map (·.1))
 | .own _=>∃o,h.get? a=some o
 | .xd fs=>∃mA,h.Ns1 a mA/\∀f,kg (fs.lookup f) (mA f)
 | .rng lo hi=>∃t u v,h.get? a=some {cls:=.type "range",data:=.fields #[.int lo t,.int hi u,.int 1 v]}
 | .iT o u=>h.get? a=some o/\bX H h a u
 | .tbl ps=>h.get? a=some {cls:=.none,data:=.fields ps}
 | .met f x=>h.get? a=some (PySem.W.methodObj (.ref f) (.ref x))
 | .ext φ=>φ h/\(∃o,h.get? a=some o)/\∀h1 h2:Heap,φ h1->(∀o,h1.get? a=some o->h2.get? a=some o)->φ h2
def mh (H:Hp)(h:Heap):Prop:=∀a o,H a=some o->bX P w H h a o
end
section
variable {P:abJ}{w:World}{H H':Hp}{h h':Heap}{a:abj}{o:HO}
theorem bX.lt (x:bX P w H h a o):a<h.objs.size:=by
 cases o with
 | lst xs=>obtain ⟨_,_,_,_,e⟩:=x;exact abB e
 | tup xs=>obtain ⟨_,_,_,p⟩:=x;exact p.lt
 | dK kvs=>obtain ⟨_,_,_,_,o,_,_,e,_⟩:=x;exact abB e
 | dT kvs=>obtain ⟨_,_,_,_,o,_,_,e,_⟩:=x;exact abB e
 | set S n=>obtain ⟨o,_,_,_,e,_⟩:=x;exact abB e
 | ins C dx fs=>obtain ⟨_,_,_,e,_⟩:=x;exact abB e
 | own y=>obtain ⟨_,e⟩:=x;exact abB e
 | xd fs=>obtain ⟨_,⟨_,_,_,e,_⟩,_⟩:=x;exact abB e
 | rng lo hi=>obtain ⟨_,_,_,e⟩:=x;exact abB e
 | iT ob u=>obtain ⟨e,_⟩:=x;exact abB e
 | tbl ps=>exact abB (show h.get? a=some _ from x)
 | met f y=>exact abB (show h.get? a=some _ from x)
 | ext φ=>obtain ⟨_,⟨_,e⟩,_⟩:=x;exact abB e
theorem Paired.bJ :∀{l₁:List α} {l₂:List β},Paired F l₁ l₂->(∀a b,F a b->G a b)->Paired G l₁ l₂
 | _,_,.nil,_=>.nil
 | _,_,.cons r t,f=>.cons (f _ _ r) (Paired.bJ t f)
theorem bX.rW (x:bX P w H h a o)(k:∀b u,(b=a\/H b=some (.own a))->h.get? b=some u->h'.get? b=some u)
  (ho:∀b,H b=some (.own a)->H' b=some (.own a)) (ht:∀b xs,H b=some (.tup xs)->H' b=some (.tup xs)):bX P w H' h' a o:=by
 induction o with
 | lst xs=>obtain ⟨z,its,n,r,e⟩:=x;exact ⟨z,its,n,r,k _ _ (.inl rfl) e⟩
 | tup xs=>obtain ⟨z,its,r,ob,e,c⟩:=x;exact ⟨z,its,r,ob,k _ _ (.inl rfl) e,c⟩
 | dK kvs=>obtain ⟨z,y,vs,r,ob,es,ep,e,c⟩:=x;exact ⟨z,y,vs,r,ob,es,ep,k _ _ (.inl rfl) e,c⟩
 | dT kvs=>
  obtain ⟨z,y,xs,r,ob,es,ep,e,c⟩:=x;exact ⟨z,y,xs,Paired.bJ r fun p q z=>⟨z.1,ht _ _ z.2.1,z.2.2⟩,ob,es,ep,k _ _ (.inl rfl) e,c⟩
 | set S n=>obtain ⟨ob,es,ep,t,e,c⟩:=x;exact ⟨ob,es,ep,t,k _ _ (.inl rfl) e,c⟩
 | ins C dx fs=>
  obtain ⟨d,z,ne,e,mA,⟨od,es,ep,e2,c⟩,r⟩:=x;exact ⟨ho _ d,z,ne,k _ _ (.inl rfl) e,mA,⟨od,es,ep,k _ _ (.inr d) e2,c⟩,r⟩
 | own y=>obtain ⟨ob,e⟩:=x;exact ⟨ob,k _ _ (.inl rfl) e⟩
 | xd fs=>obtain ⟨mA,⟨od,es,ep,e,c⟩,r⟩:=x;exact ⟨mA,⟨od,es,ep,k _ _ (.inl rfl) e,c⟩,r⟩
 | rng lo hi=>obtain ⟨t,u,v,e⟩:=x;exact ⟨t,u,v,k _ _ (.inl rfl) e⟩
 | iT ob u ih=>obtain ⟨e,q⟩:=x;exact ⟨k _ _ (.inl rfl) e,ih q⟩
 | tbl ps=>
  have e:h.get? a=some {cls:=.none,data:=.fields ps}:=x;show h'.get? a=some {cls:=.none,data:=.fields ps};exact k a _ (.inl rfl) e
 | met f y=>
  have e:h.get? a=some (PySem.W.methodObj (.ref f) (.ref y)):=x;show h'.get? a=some (PySem.W.methodObj (.ref f) (.ref y));exact k a _ (.inl rfl) e
 | ext φ=>obtain ⟨p,⟨o,e⟩,st⟩:=x;exact ⟨st _ _ p fun o q=>k _ _ (.inl rfl) q,⟨o,k _ _ (.inl rfl) e⟩,st⟩
theorem mh.lt (x:mh P w H h)(e:H a=some o):a<h.objs.size:=(x a o e).lt
theorem mh.fresh (x:mh P w H h)(e:h.objs.size<=a):H a=none:=by
 cases q:H a with
 | none=>rfl
 | some u=>exact abo (aaS (x.lt q) e) (afw _)
theorem mh.kept (x:mh P w H h)(k:∀b u,h.get? b=some u->h'.get? b=some u):mh P w H h':=fun a o e=>
 (x a o e).rW (fun b u _ q=>k b u q) (fun _ q=>q) fun _ _ q=>q
theorem mh.laid (x:mh P w H h)(k:∀b u,h.get? b=some u->h'.get? b=some u)(hp:h.objs.size<=a)(new:bX P w (upd H a o) h' a o):mh P w (upd H a o) h':=fun b u e=>by
 have hn:=x.fresh hp;by_cases hb:b=a
 ·subst hb;rw [ai] at e;cases e;exact new
 ·rw [ah hb] at e
  exact (x b u e).rW (fun c v _ q=>k c v q) (fun c q=>by rw [ah (aj q hn)];exact q) fun c xs q=>by rw [ah (aj q hn)];exact q
end
def Rd (H:Hp)(a:abj)(u:HO):Prop:=H a=some u\/∃o,H a=some (.iT o u)
theorem Rd.ok (r:Rd H a u)(x:mh P w H h):bX P w H h a u:=by
 rcases r with r|⟨o,r⟩
 ·exact x a u r
 ·obtain ⟨_,q⟩:=x a _ r
  exact q
def Mut:Option HO->Prop
 | some (.lst _)=>True
 | some (.dK _)=>True
 | some (.dT _)=>True
 | some (.set _ _)=>True
 | some (.ins _ _ _)=>True
 | some (.ext _)=>True
 | _=>False
section
variable {P:abJ}{w:World}{H:Hp}{h h':Heap}{x e:abj}{o':HO}
theorem mh.write (ok:mh P w H h)(mu:Mut (H x))(he:e=x\/H e=some (.own x))(k:∀b u,b≠e->h.get? b=some u->h'.get? b=some u)(heo:∃u,h'.get? e=some u)
  (new:bX P w (upd H x o') h' x o'):mh P w (upd H x o') h':=fun b u q=>by
 have an':∀c y,H c=some (.own y)->c≠x:=fun c y r z=>by subst z;rw [r] at mu;exact mu
 have awr:∀c xs,H c=some (.tup xs)->c≠x:=fun c xs r z=>by subst z;rw [r] at mu;exact mu
 by_cases hb:b=x
 ·subst hb;rw [ai] at q;cases q;exact new
 ·rw [ah hb] at q
  by_cases hbe:b=e
  ·have q':H b=some (.own x):=by
    rcases he with z|z
    ·exact abo (hbe.trans z) hb
    ·rw [hbe];exact z
   rw [q] at q';cases q';obtain ⟨v,hv⟩:=heo;exact ⟨v,by rw [hbe];exact hv⟩
  ·refine (ok b u q).rW (fun c v hc r=>k c v ?_ r) (fun c r=>by rw [ah (an' c b r)];exact r) fun c xs r=>by rw [ah (awr c xs r)];exact r
   rcases hc with rfl|hc
   ·exact hbe
   ·rintro rfl
    rcases he with z|z
    ·exact an' c b hc z
    ·rw [hc] at z;cases z;exact hb rfl
end
structure Un (fs ex:ξ)(H H':Hp)(h h':Heap):Prop where
 keep:∀b o,h.get? b=some o->H b=none->b∉fs->b∉ex->h'.get? b=some o
 slot:∀b o,h.get? b=some o->H b=none->b∈fs->b∉ex->∃sl,h'.get? b=some {o with slots:=sl}
 free:∀b o,h.get? b=some o->H b=none->b∉ex->H' b=none
 there:∀b o,h.get? b=some o->b∉ex->∃o',h'.get? b=some o'
 m9:∀b xs,H b=some (.tup xs)->H' b=some (.tup xs)
 mj:∀b o u,H b=some (.iT o u)->H' b=some (.iT o u)
 m_:∀b ps,H b=some (.tbl ps)->∃more,H' b=some (.tbl (ps++more))
section
variable {fs Uo ex ex':ξ}{H H1 H2:Hp}{h h1 h2 h':Heap}{a x e:abj}{o:HO}
theorem Un.any (u:Un fs ex H H1 h h1)(q:h.get? b=some ob)(n:H b=none)(hx:b∉ex):∃sl,h1.get? b=some {ob with slots:=sl}:=by
 by_cases hb:b∈fs
 ·exact u.slot b ob q n hb hx
 ·exact ⟨ob.slots,u.keep b ob q n hb hx⟩
theorem Un.trans (a:Un fs ex H H1 h h1)(b:Un fs ex H1 H2 h1 h2):Un fs ex H H2 h h2 where
 keep:=fun c ob q n hc hx=>b.keep c ob (a.keep c ob q n hc hx) (a.free c ob q n hx) hc hx
 slot:=fun c ob q n hc hx=>by
  obtain ⟨sl,e1⟩:=a.slot c ob q n hc hx;obtain ⟨sl',e2⟩:=b.slot c _ e1 (a.free c ob q n hx) hc hx;exact ⟨sl',e2⟩
 free:=fun c ob q n hx=>by
  obtain ⟨o',e1⟩:=a.there c ob q hx;exact b.free c o' e1 (a.free c ob q n hx) hx
 there:=fun c ob q hx=>by
  obtain ⟨o',e1⟩:=a.there c ob q hx;exact b.there c o' e1 hx
 m9:=fun c xs q=>b.m9 c xs (a.m9 c xs q)
 mj:=fun c ob xs q=>b.mj c ob xs (a.mj c ob xs q)
 m_:=fun c ps q=>by
  obtain ⟨m1,e1⟩:=a.m_ c ps q;obtain ⟨m2,e2⟩:=b.m_ c _ e1;exact ⟨m1++m2,by rw [e2,ano]⟩
theorem Un.kept (k:∀b u,h.get? b=some u->h'.get? b=some u):Un fs ex H H h h':=
 ⟨fun b ob q _ _ _=>k b ob q,fun b ob q _ _ _=>⟨ob.slots,k b ob q⟩,fun _ _ _ n _=>n,fun b ob q _=>⟨ob,k b ob q⟩,fun _ _ q=>q,fun _ _ _ q=>q,fun _ ps q=>⟨#[],by rw [q];simp⟩⟩
theorem Un.refl:Un fs ex H H h h:=Un.kept fun _ _ q=>q
theorem Un.laid (k:∀b u,h.get? b=some u->h'.get? b=some u)(hp:h.objs.size<=a)(hn:H a=none):Un fs ex H (upd H a o) h h' where
 keep:=fun b u q _ _ _=>k b u q
 slot:=fun b u q _ _ _=>⟨u.slots,k b u q⟩
 free:=fun b u q n _=>by rw [ah (ac9 (aaS (abB q) hp))];exact n
 there:=fun b u q _=>⟨u,k b u q⟩
 m9:=fun b xs q=>by rw [ah (aj q hn)];exact q
 mj:=fun b u xs q=>by rw [ah (aj q hn)];exact q
 m_:=fun b ps q=>⟨#[],by rw [ah (aj q hn),q];simp⟩
theorem Un.write (mu:Mut (H x))(he:e=x\/H e=some (.own x))(k:∀b u,b≠e->h.get? b=some u->h'.get? b=some u)(heo:∃u,h'.get? e=some u):Un fs ex H (upd H x o) h h':=by
 have hx:∀b,H b=none->b≠x:=fun b n z=>by subst z;rw [n] at mu;exact mu
 have hb:∀b,H b=none->b≠e:=fun b n z=>by
  subst z
  rcases he with r|r
  ·exact hx b n r
  ·rw [n] at r;cases r
 have hm:∀b u,H b=some u->¬ Mut (some u)->b≠x:=fun b u q nm z=>by subst z;rw [q] at mu;exact nm mu
 refine ⟨fun b u q n _ _=>k b u (hb b n) q,fun b u q n _ _=>⟨u.slots,k b u (hb b n) q⟩,fun b u q n _=>by rw [ah (hx b n)];exact n,fun b u q _=>?_,
  fun b xs q=>by rw [ah (hm b _ q fun z=>z)];exact q,fun b u xs q=>by rw [ah (hm b _ q fun z=>z)];exact q,fun b ps q=>⟨#[],by rw [ah (hm b _ q fun z=>z),q];simp⟩⟩
 by_cases hbe:b=e
 ·subst hbe;exact heo
 ·exact ⟨u,k b u hbe q⟩
theorem Un.mono (u:Un fs ex H H1 h h1)(hs:∀b∈fs,b∈Uo)(hx:∀b∈ex,b∈ex'):Un Uo ex' H H1 h h1:=
 ⟨fun b ob q n hb he=>u.keep b ob q n (fun z=>hb (hs b z)) fun z=>he (hx b z),fun _ _ q n _ he=>u.any q n fun z=>he (hx _ z),fun b ob q n he=>u.free b ob q n fun z=>he (hx b z),fun b ob q he=>u.there b ob q fun z=>he (hx b z),u.m9,u.mj,u.m_⟩
end
def trk (h:Heap)(H:Hp):List abj:=(afD h.objs.size).filter fun a=>(H a).isSome
def GA (h:Heap)(H:Hp):Heap:=adL h (trk h H)
theorem VC (h:Heap)(H:Hp):(GA h H).objs.size=h.objs.size:=PySem.W.hideAll_size _ _
theorem Y1 (e:h.get? b=some o)(n:H b=none):(GA h H).get? b=some o:=
 acO _ e fun hm=>by
  have q:(H b).isSome=true:=(ahC.mp hm).2;rw [n] at q;simp at q
theorem ael (e:(GA h H).get? b=some o):h.get? b=some o/\H b=none:=by
 have e':h.get? b=some o:=PySem.W.of_hideAll (trk h H) e;refine ⟨e',?_⟩;cases q:H b with
 | none=>rfl
 | some x=>
  have hm:b∈trk h H:=ahC.mpr ⟨ahG.mpr (abB e'),by simp [q]⟩;have z:(GA h H).get? b=none:=PySem.W.hideAll_none (trk h H) hm;rw [z] at e;cases e
def aem (g h:Heap)(L:abj):List (abj×Obj):=(afD h.objs.size).filterMap fun a=>if a=L\/(g.get? a).isSome=true then none else (h.get? a).map fun o=>(a,o)
def rest (g h:Heap)(L d:abj):List (abj×Obj):=(aem g h L).filter fun p=>decide (p.1≠d)
structure Mod (K:Frag)(mg:ζ)(base:Heap):Prop where
 kin:K.In base
 glob:base.Ns abA mg
 blt:∃mb,base.Ns builtinsNs mb/\∀x:Str,x≠ "__name__"->mb x=ab2 x
 nolimit:base.NoLimit
 seer:base.NoSeer
structure Cx where
 prog:abJ
 w:World
 K:Frag
 mg:Str->Option Value
 base:Heap
 A:abM
 N:List Str
 s₀:abw
 H₀:Hp
 env:Env
 outer:List Env
 stack:List Env
 ex:List abj
 fn:Str->Bool
 calm:Bool
 pn:List (abj×Obj)
 xe:Value->abw->Prop
def nH (l:List Env):List abj:=l.filterMap (·.frame)
abbrev Cx.fs (X:Cx):List abj:=nH X.outer
def Vis (sc:Scope)(x:Str):Prop:=sc.names.lookup x=some .local\/sc.names.lookup x=some .cell\/sc.names.lookup x=some .free
def Loc (sc:Scope)(x:Str):Prop:=sc.names.lookup x=some .local\/sc.names.lookup x=some .cell
def Look (env:Env)(h:Heap)(m:ζ)(x:Str)(u:Value):Prop:=
 (env.kindOf x=some .local/\m x=some u)\/((env.kindOf x=some .cell\/env.kindOf x=some .free)/\∃c,env.cells.lookup x=some c/\h.IsCell c (some u))
structure Cx.Ok (X:Cx):Prop where
 mod:Mod X.K X.mg X.base
 kind:X.env.scope.kind=.function
 glob:X.env.globals=abA
 blt:X.env.builtins=builtinsNs
 above:X.s₀.heap.objs.size<=X.env.locals
 inj:∀x y c,X.env.cells.lookup x=some c->X.env.cells.lookup y=some c->x=y
 has:∀x,(X.env.kindOf x=some .cell\/X.env.kindOf x=some .free)->∃c,X.env.cells.lookup x=some c
 cab:∀x c,X.fn x=true->X.env.cells.lookup x=some c->X.s₀.heap.objs.size<=c
 hd:X.calm=true->X.A.handled=none
 frames:X.A.frames=some X.stack
 stk:X.stack=X.outer\/(X.stack=X.env::X.outer/\X.env.frame=some X.env.locals)
 exf:∀b∈X.ex,b≠X.env.locals/\∀x c,X.env.cells.lookup x=some c->c≠b
 bs:∀b o,X.base.get? b=some o->X.s₀.heap.get? b=some o/\X.H₀ b=none
 bsz:X.base.objs.size<=X.s₀.heap.objs.size
 VD:∀b o,X.base.get? b=some o->b∉X.ex
 Y2:∀b∈X.ex,b∉X.fs
 uB:X.s₀.heap.FunFrames X.base X.outer
 frf:∀b∈X.fs,X.H₀ b=none
structure Inv (X:Cx)(pins:δ)(σ:List (Option V))(H:Hp)(s:abw):Prop where
 ok:X.Ok
 os:s.os=X.s₀.os
 bare:adk s.gens
 base:Un X.fs X.ex X.H₀ H X.s₀.heap s.heap
 loc:∃m,s.heap.Ns X.env.locals m/\∀(i:Nat)(x:Str)(v:V),X.N[i]?=some x->σ[i]?=some (some v)->Vis X.env.scope x->∃u,RelV v u/\Look X.env s.heap m x u
 cell:∀x c,X.env.cells.lookup x=some c->∃v,s.heap.IsCell c v
 free:H X.env.locals=none
 jN:∀x c,X.env.cells.lookup x=some c->H c=none
 pin:∀p∈X.pn++pins,s.heap.get? p.1=some p.2/\H p.1=none/\p.1≠X.env.locals/\p.1∉X.fs/\∀v,p.2.data≠.cell v
 cg:mh X.prog X.w H s.heap
 len:σ.length=X.N.length
section
variable {X:Cx}{pins:δ}{σ:List (Option V)}{H H':Hp}{s:abw}{h':Heap}
theorem Cx.Ok.awu (ok:X.Ok)(e:X.base.get? b=some o):b∉X.fs:=fun hb=>by
 have:=(ok.uB.mem hb).1;rw [e] at this;cases this
theorem Inv.bs (I:Inv X pins σ H s):∀b o,X.base.get? b=some o->s.heap.get? b=some o/\H b=none:=fun b o e=>
 ⟨I.base.keep b o (I.ok.bs b o e).1 (I.ok.bs b o e).2 (I.ok.awu e) (I.ok.VD b o e),I.base.free b o (I.ok.bs b o e).1 (I.ok.bs b o e).2 (I.ok.VD b o e)⟩
theorem Inv.bk (I:Inv X pins σ H s):∀b o,X.base.get? b=some o->s.heap.get? b=some o:=fun b o e=>(I.bs b o e).1
theorem Inv.mod (I:Inv X pins σ H s):Mod X.K X.mg X.base:=I.ok.mod
theorem Inv.j' (I:Inv X pins σ H s):X.K.In s.heap:=I.ok.mod.kin.keeps I.bk
theorem Inv.nolimit (I:Inv X pins σ H s):s.heap.NoLimit:=I.ok.mod.nolimit.keeps I.bk
theorem Inv.lt (I:Inv X pins σ H s):X.env.locals<s.heap.objs.size:=let ⟨_,hn,_⟩:=I.loc;hn.lt
theorem Inv.sz (I:Inv X pins σ H s):X.s₀.heap.objs.size<=s.heap.objs.size:=aah I.ok.above (aj_ I.lt)
theorem Inv.awv (I:Inv X pins σ H s){a:abj}(h:s.heap.objs.size<=a):a∉X.fs:=fun hb=>by
 obtain ⟨_,o,ho,_⟩:=I.ok.uB.mem hb;exact abo (aaS (abB ho) (aah I.sz h)) (afw _)
theorem Inv.Y3 (I:Inv X pins σ H s):∀x c,X.env.cells.lookup x=some c->c≠X.env.locals:=fun x c e z=>by
 obtain ⟨v,o,ho,hd⟩:=I.cell x c e;obtain ⟨m,⟨o',es,ep,uC,hd',_⟩,_⟩:=I.loc;rw [z,uC] at ho;cases ho;rw [hd'] at hd;cases hd
theorem Inv.uB (I:Inv X pins σ H s):s.heap.FunFrames X.base X.outer:=by
 have all:∀(l:List Env),(∀b∈nH l,b∈X.fs)->X.s₀.heap.FunFrames X.base l->s.heap.FunFrames X.base l:=by
  intro l
  induction l with
  | nil=>intro _ _;trivial
  | cons env r ih=>
   intro hs hl;obtain ⟨hk,⟨L,o,hf,hn,ho,hd⟩,hr⟩:=hl;have hL:L∈X.fs:=hs L (by unfold nH;rw [ahs,hf];exact aa_);obtain ⟨sl,e⟩:=I.base.slot L o ho (I.ok.frf L hL) hL fun z=>I.ok.Y2 L z hL;exact ⟨hk,⟨L,_,hf,hn,e,hd⟩,ih (fun b hb=>hs b (by unfold nH;rw [ahs,hf];exact aa2 _ hb)) hr⟩
 exact all X.outer (fun _ hb=>hb) I.ok.uB
theorem Inv.stack (I:Inv X pins σ H s):s.heap.FunFrames X.base X.stack:=by
 rcases I.ok.stk with e|⟨e,hf⟩
 ·rw [e];exact I.uB
 ·rw [e]
  obtain ⟨m,hn,_⟩:=I.loc;refine .cons (by rw [I.ok.kind];decide) hf hn ?_ I.uB;exact Heap.get?_none_of_le (aah I.ok.bsz I.ok.above)
theorem Inv.GB (I:Inv X pins σ H s):∀b∈nH X.stack,b∈X.env.locals::X.fs:=fun b hb=>by
 rcases I.ok.stk with e|⟨e,hf⟩
 ·rw [e] at hb;exact aa2 _ hb
 ·rw [e] at hb
  unfold nH at hb;rw [ahs,hf] at hb;exact hb
theorem Inv.rX (I:Inv X pins σ H s):∀b∈nH X.stack,H b=none:=fun b hb=>by
 rcases aa3.mp (I.GB b hb) with e|hb
 ·rw [e];exact I.free
 ·obtain ⟨_,o,ho,_⟩:=I.ok.uB.mem hb
  exact I.base.free b o ho (I.ok.frf b hb) fun z=>I.ok.Y2 b z hb
theorem Inv.step {ch:ξ}(I:Inv X pins σ H s)
  (hch:∀b∈ch,(b∈X.ex\/X.s₀.heap.objs.size<=b)/\b≠X.env.locals/\(∀x c,X.env.cells.lookup x=some c->c≠b)/\∀p∈X.pn++pins,p.1≠b)
  (keep:∀b o,b≠X.env.locals->b∉X.fs->b∉ch->s.heap.get? b=some o->H b=none->h'.get? b=some o)
  (slot:∀b o,b≠X.env.locals->b∈X.fs->b∉ch->s.heap.get? b=some o->H b=none->∃sl,h'.get? b=some {o with slots:=sl}) (free:∀b o,b∉ch->s.heap.get? b=some o->H b=none->H' b=none)
  (there:∀b o,b∉ch->s.heap.get? b=some o->∃o',h'.get? b=some o')
  (m9:∀b xs,H b=some (.tup xs)->H' b=some (.tup xs)) (mj:∀b o u,H b=some (.iT o u)->H' b=some (.iT o u)) (m_:∀b ps,H b=some (.tbl ps)->∃more,H' b=some (.tbl (ps++more)))
  (ns:∀m,s.heap.Ns X.env.locals m->h'.Ns X.env.locals m) (cg:mh X.prog X.w H' h') (hg:adk g'):
  Inv X pins σ H' {s with heap:=h',gens:=g',drawn:=d',toks:=t'}:=by
 have neL:∀b o,X.s₀.heap.get? b=some o->b≠X.env.locals:=fun b o e=>ac9 (aaS (abB e) I.ok.above)
 have neC:∀b o,X.s₀.heap.get? b=some o->b∉X.ex->b∉ch:=fun b o e hx hb=>by
  rcases (hch b hb).1 with z|z
  ·exact hx z
  ·exact abo (aaS (abB e) z) (afw _)
 have cellK:∀x c,X.env.cells.lookup x=some c->∀v,s.heap.IsCell c v->h'.IsCell c v:=fun x c e v ⟨o,ho,hd⟩=>by
  have nch:c∉ch:=fun z=>(hch c z).2.2.1 x c e rfl;by_cases hc:c∈X.fs
  ·obtain ⟨sl,q⟩:=slot c o (I.Y3 x c e) hc nch ho (I.jN x c e)
   exact ⟨_,q,hd⟩
  ·exact ⟨o,keep c o (I.Y3 x c e) hc nch ho (I.jN x c e),hd⟩
 refine ⟨I.ok,I.os,hg,⟨fun b o e n hb hx=>?_,fun b o e n hb hx=>?_,fun b o e n hx=>?_,fun b o e hx=>?_,fun b xs e=>m9 b xs (I.base.m9 b xs e),fun b o xs e=>mj b o xs (I.base.mj b o xs e),fun b ps e=>?_⟩,?_,fun x c e=>?_,?_,fun x c e=>?_,fun p hp=>?_,cg,I.len⟩
 ·exact keep b o (neL b o e) hb (neC b o e hx) (I.base.keep b o e n hb hx) (I.base.free b o e n hx)
 ·obtain ⟨sl,e1⟩:=I.base.slot b o e n hb hx
  obtain ⟨sl',e2⟩:=slot b _ (neL b o e) hb (neC b o e hx) e1 (I.base.free b o e n hx);exact ⟨sl',e2⟩
 ·obtain ⟨o',e1⟩:=I.base.there b o e hx
  exact free b o' (neC b o e hx) e1 (I.base.free b o e n hx)
 ·obtain ⟨o',e1⟩:=I.base.there b o e hx
  exact there b o' (neC b o e hx) e1
 ·obtain ⟨m1,e1⟩:=I.base.m_ b ps e
  obtain ⟨m2,e2⟩:=m_ b _ e1;exact ⟨m1++m2,by rw [e2,ano]⟩
 ·obtain ⟨m,hn,hl⟩:=I.loc
  refine ⟨m,ns m hn,fun i x v e1 e2 e3=>?_⟩;obtain ⟨u,r,l⟩:=hl i x v e1 e2 e3;refine ⟨u,r,?_⟩
  rcases l with l|⟨k,c,e,z⟩
  ·exact .inl l
  ·exact .inr ⟨k,c,e,cellK x c e _ z⟩
 ·obtain ⟨v,z⟩:=I.cell x c e
  exact ⟨v,cellK x c e v z⟩
 ·obtain ⟨m,⟨o,_,_,ho,_⟩,_⟩:=I.loc
  exact free _ o (fun z=>(hch _ z).2.1 rfl) ho I.free
 ·obtain ⟨v,o,ho,hd⟩:=I.cell x c e
  exact free c o (fun z=>(hch c z).2.2.1 x c e rfl) ho (I.jN x c e)
 ·obtain ⟨e,n,ne,nf,d⟩:=I.pin p hp
  have nch:p.1∉ch:=fun z=>(hch p.1 z).2.2.2 p hp rfl;exact ⟨keep p.1 p.2 ne nf nch e n,free p.1 p.2 nch e n,ne,nf,d⟩
theorem Inv.un (I:Inv X pins σ H s)(u:Un X.fs [] H H' s.heap h')(cg:mh X.prog X.w H' h'):Inv X pins σ H' {s with heap:=h',toks:=t'}:=by
 obtain ⟨m,⟨o,es,ep,ho,r⟩,_⟩:=id I.loc;obtain ⟨sl,hL⟩:=u.any ho I.free (by simp)
 exact I.step (g':=s.gens) (d':=s.drawn) (ch:=[]) (fun _ z=>nomatch z) (fun b o _ hb _ e n=>u.keep b o e n hb (by simp)) (fun b o _ hb _ e n=>u.slot b o e n hb (by simp)) (fun b o _ e n=>u.free b o e n (by simp)) (fun b o _ e=>u.there b o e (by simp)) u.m9 u.mj u.m_ (fun m' hm=>by
  obtain ⟨o',es',MD,uC,r'⟩:=hm;rw [ho] at uC;cases uC
  exact ⟨_,es',MD,hL,r'⟩) cg I.bare
theorem Inv.call (I:Inv X pins σ H s)(u:Un (nH X.stack) ch H H' s.heap h')(cg:mh X.prog X.w H' h')(hg:adk g')
  (hch:∀b∈ch,(b∈X.ex\/X.s₀.heap.objs.size<=b)/\b≠X.env.locals/\(∀x c,X.env.cells.lookup x=some c->c≠b)/\∀p∈X.pn++pins,p.1≠b):
  Inv X pins σ H' {s with heap:=h',gens:=g',drawn:=d',toks:=t'}:=by
 obtain ⟨m,⟨o,es,ep,ho,r⟩,_⟩:=id I.loc;obtain ⟨sl,hL⟩:=u.any ho I.free fun z=>(hch _ z).2.1 rfl
 exact I.step (ch:=ch) hch (fun b o hL hb hc e n=>u.keep b o e n (fun z=>(aa3.mp (I.GB b z)).elim hL hb) hc) (fun b o _ _ hc e n=>u.any e n hc) (fun b o hc e n=>u.free b o e n hc) (fun b o hc e=>u.there b o e hc) u.m9 u.mj u.m_ (fun m' hm=>by
  obtain ⟨o',es',MD,uC,r'⟩:=hm;rw [ho] at uC;cases uC
  exact ⟨_,es',MD,hL,r'⟩) cg hg
theorem Inv.turned (I:Inv X pins σ H s)(k:∀b o,b≠it->s.heap.get? b=some o->h'.get? b=some o)(hn:H it=none)(hL:it≠X.env.locals)
  (h1:it∈X.ex\/X.s₀.heap.objs.size<=it) (h2:∀x c,X.env.cells.lookup x=some c->c≠it) (h3:∀p∈X.pn++pins,p.1≠it):Inv X pins σ H {s with heap:=h',toks:=t'}:=by
 have nit:∀b u,H b=some u->b≠it:=fun b u e z=>by rw [z,hn] at e;cases e
 refine I.step (g':=s.gens) (d':=s.drawn) (ch:=[it]) (fun b hb=>?_) (fun b o _ _ hc e _=>k b o (fun z=>hc (by simp [z])) e) (fun b o _ _ hc e _=>⟨o.slots,k b o (fun z=>hc (by simp [z])) e⟩) (fun _ _ _ _ n=>n)
  (fun b o hc e=>⟨o,k b o (fun z=>hc (by simp [z])) e⟩) (fun _ _ e=>e) (fun _ _ _ e=>e) (fun b ps e=>⟨#[],by rw [e];simp⟩) (fun m hm=>?_) (fun b u e=>?_) I.bare
 ·have e:b=it:=by simpa using hb
  subst e;exact ⟨h1,hL,h2,h3⟩
 ·obtain ⟨o,es,ep,ho,r⟩:=hm
  exact ⟨o,es,ep,k _ o (ac2 hL) ho,r⟩
 ·refine (I.cg b u e).rW (fun c v hc q=>k c v ?_ q) (fun _ q=>q) fun _ _ q=>q
  rcases hc with z|z
  ·rw [z];exact nit b u e
  ·exact nit c _ z
theorem Inv.tok (I:Inv X pins σ H s)(t:Nat):Inv X pins σ H {s with toks:=t}:=I.un (h':=s.heap) (t':=t) Un.refl I.cg
theorem Inv.kept (I:Inv X pins σ H s)(k:∀b u,s.heap.get? b=some u->h'.get? b=some u):Inv X pins σ H {s with heap:=h',toks:=t'}:=I.un (Un.kept k) (I.cg.kept k)
theorem Inv.laid {a:abj}(I:Inv X pins σ H s)(k:∀b u,s.heap.get? b=some u->h'.get? b=some u)(hp:s.heap.objs.size<=a)(new:bX X.prog X.w (upd H a o) h' a o):
  Inv X pins σ (upd H a o) {s with heap:=h',toks:=t'}:=I.un (Un.laid k hp (I.cg.fresh hp)) (I.cg.laid k hp new)
theorem Inv.write (I:Inv X pins σ H s)(mu:Mut (H x))(he:e=x\/H e=some (.own x))(k:∀b u,b≠e->s.heap.get? b=some u->h'.get? b=some u)(heo:∃u,h'.get? e=some u)
  (new:bX X.prog X.w (upd H x o) h' x o):Inv X pins σ (upd H x o) {s with heap:=h',toks:=t'}:=I.un (Un.write mu he k heo) (I.cg.write mu he k heo new)
theorem Inv.Up (I:Inv X pins σ H s)(h:∀p∈agY,s.heap.get? p.1=some p.2/\H p.1=none/\p.1≠X.env.locals/\p.1∉X.fs/\∀v,p.2.data≠.cell v):Inv X agY σ H s:=
 ⟨I.ok,I.os,I.bare,I.base,I.loc,I.cell,I.free,I.jN,fun p hp=>(abh.mp hp).elim (fun z=>I.pin p (agU _ z)) (h p),I.cg,I.len⟩
theorem xH {N:η}(hN:N.Nodup){i j:Nat}(a:N[i]?=some x)(b:N[j]?=some x):i=j:=by
 obtain ⟨h1,e1⟩:=Wp.mp a;obtain ⟨h2,e2⟩:=Wp.mp b;exact (List.getElem_inj hN).mp (e1.trans e2.symm)
theorem D' {E:γ}{Q:Β}(I:Inv X pins σ H s)(hN:X.N.Nodup)(hi:X.N[i]?=some x)(hx:Loc X.env.scope x)(r:RelV v u)
  (h:∀s',Inv X pins (σ.set i (some v)) H s' ->(∃a,adM a s.heap s'.heap/\(a=X.env.locals\/X.env.cells.lookup x=some a))->Q () s') (hf:X.fn x=true\/X.env.scope.names.lookup x=some .local:=by first|exact .inl rfl|exact .inr rfl|assumption):abz M A (storeName X.env x u) Q E s:=by
 obtain ⟨m,hn,hl⟩:=id I.loc;have Ra:(X.env.scope.kind==.class || (X.env.scope.kind==.module && X.env.locals !=X.env.globals))=false:=by rw [I.ok.kind];rfl
 have hiσ:i < σ.length:=by rw [I.len];exact (Wp.mp hi).1
 have Y3:=I.Y3
 have tracked:∀{a:abj} {h':Heap},(∃o,s.heap.get? a=some o/\H a=none)->adM a s.heap h' ->mh X.prog X.w H h':=fun {a h'} ha hs b ob e=>by
  obtain ⟨_,_,MG⟩:=ha;refine (I.cg b ob e).rW (fun c w' hc q=>(hs.2 c ?_).trans q) (fun _ q=>q) fun _ _ q=>q;rintro rfl
  rcases hc with rfl|hc
  ·rw [MG] at e;cases e
  ·rw [MG] at hc;cases hc
 rcases hx with hk|hk
 ·refine wpAny_storeName_local hk hn (fun h' hn' hs=>?_) Ra
  obtain ⟨oL,_,_,hoL,_⟩:=id hn;refine h _ ⟨I.ok,I.os,I.bare,⟨fun b o e n hb hx=>?_,fun b o e n hb hx=>?_,I.base.free,fun b o e hx=>?_,I.base.m9,I.base.mj,I.base.m_⟩,⟨_,hn',fun j y v' e1 e2 e3=>?_⟩,fun y c e=>?_,I.free,I.jN,fun p hp=>?_,tracked ⟨oL,hoL,I.free⟩ hs,by simpa using I.len⟩ ⟨_,hs,.inl rfl⟩
  ·exact (hs.2 b (ac9 (aaS (abB e) I.ok.above))).trans (I.base.keep b o e n hb hx)
  ·obtain ⟨sl,e1⟩:=I.base.slot b o e n hb hx
   exact ⟨sl,(hs.2 b (ac9 (aaS (abB e) I.ok.above))).trans e1⟩
  ·obtain ⟨o',e1⟩:=I.base.there b o e hx
   exact ⟨o',(hs.2 b (ac9 (aaS (abB e) I.ok.above))).trans e1⟩
  ·by_cases hj:j=i
   ·subst hj
    rw [hi] at e1;cases e1;rw [ahH hiσ] at e2;cases e2;exact ⟨u,r,.inl ⟨hk,by simp⟩⟩
   ·rw [ahS (ac2 hj)] at e2
    obtain ⟨u',r',q⟩:=hl j y v' e1 e2 e3;refine ⟨u',r',?_⟩
    rcases q with ⟨k,e⟩|⟨k,c,e,z⟩
    ·refine .inl ⟨k,?_⟩
     have:y≠x:=fun e=>hj (xH hN e1 (e▸hi));simp [this,e]
    ·exact .inr ⟨k,c,e,z.sameBut hs (Y3 y c e)⟩
  ·obtain ⟨w',z⟩:=I.cell y c e
   exact ⟨w',z.sameBut hs (Y3 y c e)⟩
  ·obtain ⟨e,n,ne,nf,d⟩:=I.pin p hp
   exact ⟨(hs.2 p.1 ne).trans e,n,ne,nf,d⟩
 ·have hfn:X.fn x=true:=by
   rcases hf with z|z
   ·exact z
   ·rw [z] at hk;cases hk
  obtain ⟨c,hc⟩:=I.ok.has x (.inl hk);obtain ⟨w',z⟩:=I.cell x c hc;refine wpAny_storeName_cell I.ok.kind hk hc z (fun h' GD hs=>?_);obtain ⟨oc,hoc,awz⟩:=id z;refine h {s with heap:=h'} ⟨I.ok,I.os,I.bare,⟨fun b o e n hb hx=>?_,fun b o e n hb hx=>?_,I.base.free,fun b o e hx=>?_,I.base.m9,I.base.mj,I.base.m_⟩,⟨m,hn.sameBut hs (ac2 (Y3 x c hc)),fun j y v' e1 e2 e3=>?_⟩,fun y c' e=>?_,I.free,I.jN,fun p hp=>?_,tracked ⟨oc,hoc,I.jN x c hc⟩ hs,by simpa using I.len⟩ ⟨c,hs,.inr hc⟩
  ·exact (hs.2 b (ac9 (aaS (abB e) (I.ok.cab x c hfn hc)))).trans (I.base.keep b o e n hb hx)
  ·obtain ⟨sl,e1⟩:=I.base.slot b o e n hb hx
   exact ⟨sl,(hs.2 b (ac9 (aaS (abB e) (I.ok.cab x c hfn hc)))).trans e1⟩
  ·obtain ⟨o',e1⟩:=I.base.there b o e hx
   exact ⟨o',(hs.2 b (ac9 (aaS (abB e) (I.ok.cab x c hfn hc)))).trans e1⟩
  ·by_cases hj:j=i
   ·subst hj
    rw [hi] at e1;cases e1;rw [ahH hiσ] at e2;cases e2;exact ⟨u,r,.inr ⟨.inl hk,c,hc,GD⟩⟩
   ·rw [ahS (ac2 hj)] at e2
    obtain ⟨u',r',q⟩:=hl j y v' e1 e2 e3;refine ⟨u',r',?_⟩
    rcases q with q|⟨k,c',e,z'⟩
    ·exact .inl q
    ·refine .inr ⟨k,c',e,z'.sameBut hs ?_⟩
     rintro rfl;exact hj (xH hN e1 (I.ok.inj _ _ _ e hc▸hi))
  ·by_cases hcc:c'=c
   ·subst hcc;exact ⟨_,GD⟩
   ·obtain ⟨w2,z2⟩:=I.cell y c' e
    exact ⟨w2,z2.sameBut hs hcc⟩
  ·obtain ⟨e,n,ne,nf,d⟩:=I.pin p hp
   refine ⟨(hs.2 p.1 ?_).trans e,n,ne,nf,d⟩;intro q;rw [q,hoc] at e;have q':oc=p.2:=aaQ e;exact d w' (by rw [<-q'];exact awz)
theorem lF {E:γ}{Q:Β}(I:Inv X pins σ H s)(hN:X.N.Nodup)(hi:X.N[i]?=some x)(hx:Loc X.env.scope x)(r:RelV v u)
  (h:∀s',Inv X pins (σ.set i (some v)) H s' ->Q () s') (hf:X.fn x=true\/X.env.scope.names.lookup x=some .local:=by first|exact .inl rfl|exact .inr rfl|assumption):abz M A (storeName X.env x u) Q E s:=
 D' I hN hi hx r (fun s' I' _=>h s' I') hf
theorem Inv.MI (I:Inv X pins σ H s)(ho:s'.os=s.os)(u:Un (nH X.stack) ch H H' s.heap s'.heap)(cg:mh X.prog X.w H' s'.heap)(hg:adk s'.gens)
  (hch:∀b∈ch,(b∈X.ex\/X.s₀.heap.objs.size<=b)/\b≠X.env.locals/\(∀x c,X.env.cells.lookup x=some c->c≠b)/\∀p∈X.pn++pins,p.1≠b):Inv X pins σ H' s':=by
 obtain ⟨h',g',d',t',o'⟩:=s';have e:o'=s.os:=ho;subst e;exact I.call (g':=g') (t':=t') (d':=d') u cg hg hch
end
abbrev XK:=Value->Option abj->Hp->Prop
abbrev St:=List (Option V)
abbrev VK:=V->Hp->Prop
abbrev _root_.Ν:=V->List V->Hp->VK->Prop
abbrev TE:=St->Hp->VK->Prop
abbrev TT:=St->Hp->(Bool->Hp->Prop)->Prop
abbrev TA:=St->Hp->(List V->Hp->Prop)->Prop
structure Ends where
 nx:St->Hp->Prop
 rt:VK
 bk:St->Hp->Prop:=fun _ _=>False
 ct:St->Hp->Prop:=fun _ _=>False
abbrev TS:=Ends->St->Hp->Prop
def EP (X:Cx)(pins:δ)(σ:St)(Q:VK)(u:Value)(s':abw):Prop:=∃v H',Inv X pins σ H' s'/\RelV v u/\Q v H'
def TP (X:Cx)(pins:δ)(σ:St)(Q:Bool->Hp->Prop)(b:Bool)(s':abw):Prop:=∃H',Inv X pins σ H' s'/\Q b H'
def AP (X:Cx)(pins:δ)(σ:St)(Q:List V->Hp->Prop)(us:θ)(s':abw):Prop:=∃vs H',Inv X pins σ H' s'/\Vals vs us/\Q vs H'
def SP (X:Cx)(pins:δ)(D:Ends)(f:Flow)(s':abw):Prop:=
 match f with
 | .next=>∃σ' H',Inv X pins σ' H' s'/\D.nx σ' H'
 | .brk=>∃σ' H',Inv X pins σ' H' s'/\D.bk σ' H'
 | .cont=>∃σ' H',Inv X pins σ' H' s'/\D.ct σ' H'
 | .ret u=>∃v σ' H',Inv X pins σ' H' s'/\RelV v u/\D.rt v H'
def PE (X:Cx)(e:Expr)(t:TE):Prop:=
 ∀(pins:δ)(s:abw)(σ:St)(H:Hp)(Q:VK),Inv X pins σ H s->t σ H Q->abz (abx X.prog X.w) X.A (abU e X.env) (EP X pins σ Q) X.xe s
def PT (X:Cx)(e:Expr)(t:TT):Prop:=
 ∀(pins:δ)(s:abw)(σ:St)(H:Hp)(Q:Bool->Hp->Prop),Inv X pins σ H s->t σ H Q->abz (abx X.prog X.w) X.A (isTrue e X.env (abU e X.env)) (TP X pins σ Q) X.xe s
def PW (X:Cx)(e:Expr)(t:TT):Prop:=
 ∀(whole:Sem Value)(pins:δ)(s:abw)(σ:St)(H:Hp)(Q:Bool->Hp->Prop),Inv X pins σ H s->t σ H Q->abz (abx X.prog X.w) X.A (isTrue e X.env whole) (TP X pins σ Q) X.xe s
theorem PW.pt (h:PW X e t):PT X e t:=h _
def PA (X:Cx)(es:π)(t:TA):Prop:=
 ∀(pos:Pos)(pins:δ)(s:abw)(σ:St)(H:Hp)(Q:List V->Hp->Prop),Inv X pins σ H s->t σ H Q->abz (abx X.prog X.w) X.A (spliced (acu pos (abF es X.env))) (AP X pins σ Q) X.xe s
def PS (X:Cx)(st:Stmt)(t:TS):Prop:=
 ∀(pins:δ)(s:abw)(σ:St)(H:Hp)(D:Ends),Inv X pins σ H s->t D σ H->abz (abx X.prog X.w) X.A (exec st X.env) (SP X pins D) X.xe s
def PSs (X:Cx)(st:List Stmt)(t:TS):Prop:=
 ∀(pins:δ)(s:abw)(σ:St)(H:Hp)(D:Ends),Inv X pins σ H s->t D σ H->abz (abx X.prog X.w) X.A (execs st X.env) (SP X pins D) X.xe s
theorem du {Q Q':α->abw->Prop}{E:γ}(h:abz M A t Q E s)(hQ:∀a s,Q a s->Q' a s):abz M A t Q' E s:=abH h hQ fun _ _ x=>x
section
variable {X:Cx}
inductive aj1 (i:Nat)(σ:St)(H:Hp)(Q:VK):Prop
|mk (v:_)(_:σ[i]?=some (some v))(_:Q v H)
def tC (v:V):TE:=fun _ H Q=>Q v H
theorem aj2 {pos:Pos}(hN:X.N[i]?=some x)(hv:Vis X.env.scope x)(hd:(x==("__debug__":Str))=false:=by decide)(uD:(x==("__classdict__":Str))=false:=by decide):PE X (.Name x pos) (aj1 i):=by
 intro pins s σ H Q I h;obtain ⟨v,e,h⟩:=h;obtain ⟨m,hn,hl⟩:=I.loc;obtain ⟨u,r,l⟩:=hl i x v hN e hv;have fin:EP X pins σ Q u s:=⟨v,H,I,r,h⟩
 rcases l with ⟨hk,hm⟩|⟨hk,c,hc,hcell⟩
 ·exact wpAny_Name (wpAny_loadName_local I.ok.kind hk hn hm fin) hd
 ·rcases hk with hk|hk
  ·exact wpAny_Name (wpAny_loadName_cell I.ok.kind hk hc hcell fin) hd
  ·exact wpAny_Name (wpAny_loadName_free I.ok.kind hk hc hcell fin uD) hd
theorem ak :PE X (.Constant (.int i) j pos) (tC (.int i)):=fun _ _ _ H _ I h=>wpAny_Constant_int ⟨.int i,H,I.tok _,⟨_,rfl⟩,h⟩
theorem vG :PE X (.Constant (.bool b) j pos) (tC (.bl b)):=fun _ _ _ H _ I h=>Constant_bool ⟨.bl b,H,I,rfl,h⟩
theorem bS :PE X (.Constant .none j pos) (tC .bG):=fun _ _ _ H _ I h=>Constant_none ⟨.bG,H,I,rfl,h⟩
theorem aw :PE X (.Constant (.str x) j pos) (tC (.str x)):=fun _ _ _ H _ I h=>Calls.Constant_str ⟨.str x,H,I.tok _,⟨_,rfl⟩,h⟩
def Gl (X:Cx)(x:Str):Prop:=X.env.kindOf x=some .globalImplicit
theorem iU {E:γ}{σ:St}{Q:γ}(I:Inv X pins σ H s)(hg:Gl X x)(hm:X.mg x=some u)(h:Q u s)
  (hd:(x==("__debug__":Str))=false:=by decide):abz (abx X.prog X.w) X.A (abU (.Name x pos) X.env) Q E s:=
 Calls.Name_function_global I.ok.kind hg (Calls.loadGlobal_global (by rw [I.ok.glob];exact I.mod.glob.keeps I.bk) hm h) hd
theorem uE {E:γ}{σ:St}{pos:Pos}{Q:γ}(I:Inv X pins σ H s)(hg:Gl X x)(hm:X.mg x=none)(hv:ab2 x=some u)(h:Q u s)
  (hn:x≠ "__name__":=by decide) (hd:(x==("__debug__":Str))=false:=by decide):abz (abx X.prog X.w) X.A (abU (.Name x pos) X.env) Q E s:=by
 obtain ⟨mb,h1,h2⟩:=I.mod.blt;exact Calls.Name_function_global I.ok.kind hg (Calls.loadGlobal_builtin (by rw [I.ok.glob];exact I.mod.glob.keeps I.bk) hm (by rw [I.ok.blt];exact h1.keeps I.bk) ((h2 x hn).trans hv) h) hd
theorem fh (hg:Gl X x)(hm:X.mg x=some u)(r:RelV v u)(hd:(x==("__debug__":Str))=false:=by decide):PE X (.Name x pos) (tC v):=
 fun _ _ _ H _ I h=>iU I hg hm ⟨v,H,I,r,h⟩ hd
theorem aen {pos:Pos}(hg:Gl X x)(hm:X.mg x=none)(hv:ab2 x=some u)(r:RelV v u)(hn:x≠ "__name__":=by decide)(hd:(x==("__debug__":Str))=false:=by decide):PE X (.Name x pos) (tC v):=
 fun _ _ _ H _ I h=>uE I hg hm hv ⟨v,H,I,r,h⟩ hn hd
variable {a b:Expr}{ta tb:TE}{pos:Pos}
def PC (X:Cx)(op:CmpOp)(a b:Expr)(t:TE):Prop:=
 ∀(pins:δ)(s:abw)(σ:St)(H:Hp)(Q:VK),Inv X pins σ H s->t σ H Q->
  abz (abx X.prog X.w) X.A (abU a X.env) (fun v s₁=>abz (abx X.prog X.w) X.A (abU b X.env) (fun u s₂=>abz (abx X.prog X.w) X.A (ab3 op v u) (EP X pins σ Q) X.xe s₂) X.xe s₁) X.xe s
inductive tB_ (Q:(Bool->Hp->Prop))(x:V)(H1:Hp):Prop
|mk (c:_)(_:x=.bl c)(_:Q c H1)
def tB (t:TE):TT:=fun σ H Q=>t σ H fun x H1=>tB_ Q x H1
theorem Y4 (h:PC X op a b t)(h1:acR op b=false:=by first|exact nobehind _ (by decide) (by decide)|rfl):PE X (.Compare a [op] [b] pos) t:=fun pins s σ H Q I hw=>wpAny_Compare1 (h pins s σ H Q I hw) h1
theorem kU (h:PC X op a b t)(h1:acR op b=false:=by first|exact nobehind _ (by decide) (by decide)|rfl):PT X (.Compare a [op] [b] pos) (tB t):=by
 intro pins s σ H Q I hw;refine wpAny_isTrue_Compare1 (du (h pins s σ H _ I hw) fun v s1 h1=>du h1 fun u s2 h2=>du h2 fun c s3 ⟨x,H1,I1,r1,q1⟩=>?_) h1;obtain ⟨d,rfl,q⟩:=q1;cases r1;exact acq ⟨H1,I1,q⟩
theorem gi (h:PE X e t)(he:∀whole,isTrue e X.env whole=(do let v <- whole;standAt e.pos;holding [v] (truthy v)):=by intro _;rfl):PT X e (tB t):=by
 intro pins s σ H Q I hw;refine isTrue_plain (du (h pins s σ H _ I hw) fun v s1 ⟨x,H1,I1,r1,q1⟩=>?_) (he _);obtain ⟨d,rfl,q⟩:=q1;cases r1;exact acq ⟨H1,I1,q⟩
variable {tA tB':TT}{rest:π}
def awA (t u:TT):TT:=fun σ H Q=>t σ H fun c H1=>if c=true then u σ H1 Q else Q false H1
def tOr (t u:TT):TT:=fun σ H Q=>t σ H fun c H1=>if c=true then Q true H1 else u σ H1 Q
def awB (t:TT):TT:=fun σ H Q=>t σ H fun c H1=>Q (!c) H1
theorem iV (ha:PT X a tA):PW X (.BoolOp .And [a] pos) tA:=by
 intro wh pins s σ H Q I h;refine isTrue_and (du (ha pins s σ H Q I h) fun c s1 e=>?_);cases c with
 | true=>exact isTrue_and_nil e
 | false=>exact e
theorem mn (ha:PT X a tA):PW X (.BoolOp .Or [a] pos) tA:=by
 intro wh pins s σ H Q I h;refine isTrue_or (du (ha pins s σ H Q I h) fun c s1 e=>?_);cases c with
 | false=>exact isTrue_or_nil e
 | true=>exact e
theorem jO (ha:PT X a tA)(hb:PW X (.BoolOp .And (b::rest) pos) tB'):PW X (.BoolOp .And (a::b::rest) pos) (awA tA tB'):=by
 intro wh pins s σ H Q I h;refine isTrue_and (du (ha pins s σ H _ I h) fun c s1 ⟨H1,I1,q1⟩=>?_);cases c with
 | true=>exact hb wh pins s1 σ H1 Q I1 q1
 | false=>exact ⟨H1,I1,q1⟩
theorem pZ (ha:PT X a tA)(hb:PW X (.BoolOp .Or (b::rest) pos) tB'):PW X (.BoolOp .Or (a::b::rest) pos) (tOr tA tB'):=by
 intro wh pins s σ H Q I h;refine isTrue_or (du (ha pins s σ H _ I h) fun c s1 ⟨H1,I1,q1⟩=>?_);cases c with
 | true=>exact ⟨H1,I1,q1⟩
 | false=>exact hb wh pins s1 σ H1 Q I1 q1
theorem h9 (ha:PT X a tA):PT X (.UnaryOp .Not a pos) (awB tA):=by
 intro pins s σ H Q I h;exact isTrue_not (ha pins s σ H (fun c H1=>Q (!c) H1) I h)
def aod (ta tb:TE):TE:=fun σ H Q=>ta σ H fun x H1=>∃c,x=.bl c/\if c=true then tb σ H1 Q else Q (.bl false) H1
def awC (ta tb:TE):TE:=fun σ H Q=>ta σ H fun x H1=>∃c,x=.bl c/\if c=true then Q (.bl true) H1 else tb σ H1 Q
inductive Y5 (Q:VK)(x:V)(H1:Hp):Prop
|mk (c:_)(_:x=.bl c)(_:Q (.bl (!c)) H1)
def aoe (ta:TE):TE:=fun σ H Q=>ta σ H fun x H1=>Y5 Q x H1
theorem uF (h:PE X a t):PE X (.BoolOp op [a] pos) t:=fun pins s σ H Q I hw=>BoolOp_one (h pins s σ H Q I hw)
theorem xI (ha:PE X a ta)(hb:PE X (.BoolOp .And (b::rest) pos) tb):PE X (.BoolOp .And (a::b::rest) pos) (aod ta tb):=by
 intro pins s σ H Q I h;refine BoolOp_and (du (ha pins s σ H _ I h) fun v s1 ⟨x,H1,I1,r1,q1⟩=>?_);obtain ⟨c,rfl,q1⟩:=q1;cases r1;refine acq ?_;cases c with
 | true=>exact hb pins s1 σ H1 Q I1 q1
 | false=>exact ⟨.bl false,H1,I1,rfl,q1⟩
theorem aof (ha:PE X a ta)(hb:PE X (.BoolOp .Or (b::rest) pos) tb):PE X (.BoolOp .Or (a::b::rest) pos) (awC ta tb):=by
 intro pins s σ H Q I h;refine BoolOp_or (du (ha pins s σ H _ I h) fun v s1 ⟨x,H1,I1,r1,q1⟩=>?_);obtain ⟨c,rfl,q1⟩:=q1;cases r1;refine acq ?_;cases c with
 | false=>exact hb pins s1 σ H1 Q I1 q1
 | true=>exact ⟨.bl true,H1,I1,rfl,q1⟩
theorem Y6 (ha:PE X a ta):PE X (.UnaryOp .Not a pos) (aoe ta):=by
 intro pins s σ H Q I h;refine UnaryOp_ (du (ha pins s σ H _ I h) fun v s1 ⟨x,H1,I1,r1,q1⟩=>?_);obtain ⟨c,rfl,q1⟩:=q1;cases r1;exact not_of (acq ⟨.bl (!c),H1,I1,rfl,q1⟩)
def tIf (t:TT)(ta tb:TE):TE:=fun σ H Q=>t σ H fun c H1=>if c=true then ta σ H1 Q else tb σ H1 Q
theorem fF (hc:PT X c tA)(ha:PE X a ta)(hb:PE X b tb):PE X (.IfExp c a b pos) (tIf tA ta tb):=by
 intro pins s σ H Q I h;refine wpAny_IfExp (du (hc pins s σ H _ I h) fun d s1 ⟨H1,I1,q1⟩=>?_);cases d with
 | true=>exact ha pins s1 σ H1 Q I1 q1
 | false=>exact hb pins s1 σ H1 Q I1 q1
end
def aZ (K:Frag)(H:Hp)(a:abj)(xs:ε):Prop:=
 Rd H a (.lst xs)\/
  ∃(o:Obj)(its:Array Value)(n:Nat),K.lookup a=some o/\o.cls=.type "list"/\o.dict=none/\o.data=.seq its n/\its.size<=abl/\Vals xs its.toList
def dG (K:Frag)(H:Hp)(a:abj)(xs:ε):Prop:=
 Rd H a (.tup xs)\/
  ∃(o:Obj)(its:Array Value)(n:Nat),K.lookup a=some o/\o.cls=.type "tuple"/\o.data=.seq its n/\its.size<=abl/\Vals xs its.toList
def awD:Value->Option V
 | .none=>some .bG
 | .bool b=>some (.bl b)
 | .int i _=>some (.int i)
 | .str x _=>some (.str x)
 | .bytes b _=>some (.byt b)
 | .float b _=>some (.flt b)
 | .ref a=>some (.ref a)
 | .type n=>some (.ty n)
 | _=>none
theorem RelV.abs (r:RelV x u):awD u=some x:=by
 cases x with
 | bG=>cases r;rfl
 | bl _=>cases r;rfl
 | int _=>obtain ⟨t,rfl⟩:=r;rfl
 | str _=>obtain ⟨t,rfl⟩:=r;rfl
 | byt _=>obtain ⟨t,rfl⟩:=r;rfl
 | flt _=>obtain ⟨t,rfl⟩:=r;rfl
 | ref _=>cases r;rfl
 | ty _=>cases r;rfl
theorem RelV.inj (r:RelV x u)(q:RelV y u):x=y:=aaQ (r.abs.symm.trans q.abs)
theorem Vals.inj:∀{xs ys:ε} {us:θ},Vals xs us->Vals ys us->xs=ys
 | _,_,_,.nil,.nil=>rfl
 | _,_,_,.cons r t,.cons r' t'=>by rw [r.inj r',Vals.inj t t']
section
variable {X:Cx}{pins:δ}{σ:St}{H:Hp}{s:abw}{a:abj}{xs ys:ε}
theorem aZ.of {K:Frag}(h:H a=some (.lst xs)):aZ K H a xs:=.inl (.inl h)
theorem dG.of {K:Frag}(h:H a=some (.tup xs)):dG K H a xs:=.inl (.inl h)
theorem Inv.list (I:Inv X pins σ H s)(h:aZ X.K H a xs):∃its:List Value,Vals xs its/\PlainL s.heap a its.toArray/\xs.length<=abl:=by
 rcases h with h|⟨o,its,n,hk,hc,hd,hs,hz,r⟩
 ·obtain ⟨z,its,n,r,e⟩:=h.ok I.cg
  exact ⟨its,r,⟨_,n,e,rfl,rfl,rfl⟩,z⟩
 ·refine ⟨its.toList,r,⟨o,n,I.j' a o hk,hc,hd,by simpa using hs⟩,?_⟩
  have e:=r.length;simp only [ai_] at e;omega
theorem Inv.tuple (I:Inv X pins σ H s)(h:dG X.K H a xs):∃its:List Value,Vals xs its/\IsTup s.heap a its.toArray/\xs.length<=abl:=by
 rcases h with h|⟨o,its,n,hk,hc,hs,hz,r⟩
 ·obtain ⟨z,its,r,p⟩:=h.ok I.cg
  exact ⟨its,r,p,z⟩
 ·refine ⟨its.toList,r,⟨o,I.j' a o hk,hc,n,by simpa using hs⟩,?_⟩
  have e:=r.length;simp only [ai_] at e;omega
theorem Inv.nI (I:Inv X pins σ H s)(h:aZ X.K H a xs)(h':aZ X.K H a ys):xs=ys:=by
 obtain ⟨its,r,⟨o,n,e,_,_,d⟩,_⟩:=I.list h;obtain ⟨its',r',⟨o',n',e',_,_,d'⟩,_⟩:=I.list h';rw [e] at e';cases e';rw [d] at d';injection d' with d1 _
 have:its=its':=by simpa using abV aqo d1
 subst this;exact r.inj r'
theorem Inv.EA (I:Inv X pins σ H s)(h:dG X.K H a xs)(h':dG X.K H a ys):xs=ys:=by
 obtain ⟨its,r,⟨o,e,_,n,d⟩,_⟩:=I.tuple h;obtain ⟨its',r',⟨o',e',_,n',d'⟩,_⟩:=I.tuple h';rw [e] at e';cases e';rw [d] at d';injection d' with d1 _
 have:its=its':=by simpa using abV aqo d1
 subst this;exact r.inj r'
end
abbrev Cx.rY (X:Cx)(E:γ):Cx:={X with xe:=E}
abbrev Cx.wm (X:Cx):Cx:=X.rY fun _ _=>False
theorem Cx.Ok.rY {X:Cx}(ok:X.Ok)(E:γ):(X.rY E).Ok:=
 ⟨ok.mod,ok.kind,ok.glob,ok.blt,ok.above,ok.inj,ok.has,ok.cab,ok.hd,ok.frames,ok.stk,ok.exf,ok.bs,ok.bsz,ok.VD,ok.Y2,ok.uB,ok.frf⟩
theorem Cx.Ok.jo {X:Cx}(ok:(X.rY E).Ok):X.Ok:=
 ⟨ok.mod,ok.kind,ok.glob,ok.blt,ok.above,ok.inj,ok.has,ok.cab,ok.hd,ok.frames,ok.stk,ok.exf,ok.bs,ok.bsz,ok.VD,ok.Y2,ok.uB,ok.frf⟩
section
variable {X:Cx}{pins:δ}{σ:St}{H:Hp}{s:abw}{E:γ}
theorem Inv.rY (I:Inv X pins σ H s)(E:γ):Inv (X.rY E) pins σ H s:=⟨I.ok.rY E,I.os,I.bare,I.base,I.loc,I.cell,I.free,I.jN,I.pin,I.cg,I.len⟩
theorem Inv.jo (I:Inv (X.rY E) pins σ H s):Inv X pins σ H s:=⟨I.ok.jo,I.os,I.bare,I.base,I.loc,I.cell,I.free,I.jN,I.pin,I.cg,I.len⟩
theorem SP.jo (h:SP (X.rY E) pins D f s'):SP X pins D f s':=by
 cases f with
 | next=>obtain ⟨σ',H',I,q⟩:=h;exact ⟨σ',H',I.jo,q⟩
 | brk=>obtain ⟨σ',H',I,q⟩:=h;exact ⟨σ',H',I.jo,q⟩
 | cont=>obtain ⟨σ',H',I,q⟩:=h;exact ⟨σ',H',I.jo,q⟩
 | ret u=>obtain ⟨v,σ',H',I,r,q⟩:=h;exact ⟨v,σ',H',I.jo,r,q⟩
theorem PSs.wm {st:List Stmt}(h:PSs X.wm st t):PSs X st t:=fun pins s σ H D I hw=>
 abH (h pins s σ H D (I.rY _) hw) (fun _ _ q=>q.jo) fun _ _ z=>False.elim z
end
section
variable {X:Cx}{st:Stmt}{rest:List Stmt}{t u:TS}{e:Expr}{te:TE}{pos:Pos}
def aog:TS:=fun D σ H=>D.nx σ H
def awE (t u:TS):TS:=fun D σ H=>t {D with nx:=u D} σ H
theorem aG:PSs X [] aog:=fun _ _ σ H _ I h=>acS ⟨σ,H,I,h⟩
theorem ag (h1:PS X st t)(h2:PSs X rest u):PSs X (st::rest) (awE t u):=by
 intro pins s σ H D I h;refine wpAny_execs_cons (du (h1 pins s σ H {D with nx:=u D} I h) fun f s1 q=>?_);cases f with
 | next=>
  obtain ⟨σ',H',I',q⟩:=q;exact h2 pins s1 σ' H' D I' q
 | ret v=>exact q
 | brk=>exact q
 | cont=>exact q
theorem ae (h1:PS X st t):PSs X [st] t:=by
 intro pins s σ H D I h;refine wpAny_execs_cons (du (h1 pins s σ H D I h) fun f s1 q=>?_);cases f with
 | next=>exact acS q
 | ret v=>exact q
 | brk=>exact q
 | cont=>exact q
theorem Inv.quiet {σ:St}(I:Inv X pins σ H s):interactive X.env=false:=by simp [interactive,I.ok.kind]
def aoh (te:TE):TS:=fun D σ H=>te σ H fun _ H1=>D.nx σ H1
theorem bg (he:PE X e te)(hs:acM e none pos.line X.env=pure false:=by rfl):PS X (.Expr e pos) (aoh te):=by
 intro pins s σ H D I h;exact wpAny_Expr_any (du (he pins s σ H _ I h) fun v s1 ⟨x,H1,I1,r1,q1⟩=>⟨σ,H1,I1,q1⟩) I.quiet hs
def awF (te:TE):TS:=fun D σ H=>te σ H D.rt
theorem aH (he:PE X e te):PS X (.Return (some e) pos) (awF te):=by
 intro pins s σ H D I h;exact wpAny_Return_some (du (he pins s σ H _ I h) fun v s1 ⟨x,H1,I1,r1,q1⟩=>⟨x,σ,H1,I1,r1,q1⟩)
def awG (c:TT)(t u:TS):TS:=fun D σ H=>c σ H fun b H1=>if b=true then t D σ H1 else u D σ H1
theorem aS (hc:PT X c tc)(ha:PSs X a t)(hb:PSs X b u):PS X (.If c a b pos) (awG tc t u):=by
 intro pins s σ H D I h;refine wpAny_If (du (hc pins s σ H _ I h) fun d s1 ⟨H1,I1,q1⟩=>?_);cases d with
 | true=>exact ha pins s1 σ H1 D I1 q1
 | false=>exact hb pins s1 σ H1 D I1 q1
def aj3:TS:=fun _ _ _=>False
theorem MJ:PS X st aj3:=fun _ _ _ _ _ _ h=>h.elim
end
abbrev TG:=V->St->Hp->(St->Hp->Prop)->Prop
abbrev TGs:=List V->St->Hp->(St->Hp->Prop)->Prop
def PG (X:Cx)(target:Expr)(t:TG):Prop:=
 ∀(pins:δ)(s:abw)(σ:St)(H:Hp)(v:V)(u:Value)(Q:St->Hp->Prop),Inv X pins σ H s->RelV v u->t v σ H Q->
  abz (abx X.prog X.w) X.A (assign target X.env u) (fun _ s'=>∃σ' H',Inv X pins σ' H' s'/\Q σ' H') X.xe s
def PGs (X:Cx)(ts:π)(t:TGs):Prop:=
 ∀(pins:δ)(s:abw)(σ:St)(H:Hp)(vs:ε)(us:θ)(Q:St->Hp->Prop),Inv X pins σ H s->Vals vs us->t vs σ H Q->
  abz (abx X.prog X.w) X.A (assignInOrder ((adx ts X.env).map (·.2)) us) (fun _ s'=>∃σ' H',Inv X pins σ' H' s'/\Q σ' H') X.xe s
section
variable {X:Cx}{pos:Pos}
def fj (i:Nat):TG:=fun v σ H Q=>Q (σ.set i (some v)) H
theorem mq (hN:X.N.Nodup)(hi:X.N[i]?=some x)(hx:Loc X.env.scope x)(hf:X.fn x=true\/X.env.scope.names.lookup x=some .local:=by first|exact .inl rfl|exact .inr rfl|assumption):PG X (.Name x pos) (fj i):=by
 intro pins s σ H v u Q I r h;exact wpAny_assign_Name (lF I hN hi hx r (fun s' I'=>⟨_,H,I',h⟩) hf)
def aoj:TGs:=fun vs σ H Q=>vs=[]/\Q σ H
def Y7 (t:TG)(u:TGs):TGs:=fun vs σ H Q=>∃v r,vs=v::r/\t v σ H fun σ' H'=>u r σ' H' Q
theorem jB:PGs X [] aoj:=by
 intro pins s σ H vs us Q I r h;obtain ⟨e,h⟩:=h;subst e;cases r;exact assignInOrder_nil ⟨σ,H,I,h⟩
theorem cb (h1:PG X e t)(h2:PGs X es u)
  (hs:(adx (e::es) X.env).map (·.2)=assign e X.env::(adx es X.env).map (·.2):=by rfl):PGs X (e::es) (Y7 t u):=by
 intro pins s σ H vs us Q I r h;obtain ⟨v,vr,e1,h⟩:=h;subst e1;cases r with
 | cons r rr=>
  rw [hs];refine assignInOrder_cons (du (h1 pins s σ H _ _ _ I r h) fun _ s1 ⟨σ1,H1,I1,q1⟩=>?_);exact h2 pins s1 σ1 H1 _ _ Q I1 rr q1
inductive aeo (K:Frag)(n:Nat)(t:TGs)(v:V)(σ:St)(H:Hp)(Q:(St->Hp->Prop)):Prop
|mk (a xs:_)(_:v=.ref a)(_:dG K H a xs)(_:xs.length=n)(_:t xs σ H Q)
theorem mv {k:Nat}(hc:X.calm=true)(h:PGs X es t)
  (hn:(adx es X.env).length=n:=by rfl) (hst:(adx es X.env).findIdx? (·.1)=none:=by rfl):PG X (.Tuple es k pos) (aeo X.K n t):=by
 intro pins s σ H v u Q I r hw;obtain ⟨a,xs,e1,hq,hl,hw⟩:=hw;subst e1;cases r;obtain ⟨its,rv,ht,hz⟩:=I.tuple hq;refine assign_Tuple_tuple (I.ok.hd hc) ht (by simp [hn,<-hl,rv.length]) hst fun h' hx=>?_;have I1:Inv X pins σ H {s with heap:=h'}:=I.kept (t':=s.toks) fun b o e=>hx b o (ac9 (abB e)) e;exact h pins _ σ H xs _ Q I1 (by simpa using rv) hw
def VE (te:TE)(g:TG):TS:=fun D σ H=>te σ H fun x H1=>g x σ H1 D.nx
theorem aj4 (hN:X.N.Nodup)(hi:X.N[i]?=some x)(hx:Loc X.env.scope x)(he:PE X e te)(hs:acM e (some (.Name x pos')) pos.line X.env=pure false:=by rfl)(hf:X.fn x=true\/X.env.scope.names.lookup x=some .local:=by first|exact .inl rfl|exact .inr rfl|assumption):
  PS X (.Assign [.Name x pos'] e pos) (VE te (fj i)):=by
 intro pins s σ H D I h;refine wpAny_Assign_Name (du (he pins s σ H _ I h) fun v s1 ⟨y,H1,I1,r1,q1⟩=>?_) hs;exact lF I1 hN hi hx r1 (fun s2 I2=>⟨_,H1,I2,q1⟩) hf
inductive ag0 (i:Nat)(j:Nat)(D:Ends)(σ:St)(vs:ε)(H1:Hp):Prop
|mk (v w:_)(_:vs=[v,w])(_:D.nx ((σ.set i (some v)).set j (some w)) H1)
def awH (i j:Nat)(ta:TA):TS:=fun D σ H=>ta σ H fun vs H1=>ag0 i j D σ vs H1
theorem aj5 (hc:X.calm=true)(hN:X.N.Nodup)(hi:X.N[i]?=some x)(hj:X.N[j]?=some y)(hij:i≠j)
  (hx:X.env.scope.names.lookup x=some .local) (hy:X.env.scope.names.lookup y=some .local) (ha:PA X [a,b] ta)
  (hw:swappedStores [.Tuple [.Name x px,.Name y py] kt pt] (.Tuple [a,b] k2 pt2) X.env=pure (some [x,y]))
  (hs:swapsWithSole [.Tuple [.Name x px,.Name y py] kt pt] (.Tuple [a,b] k2 pt2) pos.line X.env=pure false:=by rfl):
  PS X (.Assign [.Tuple [.Name x px,.Name y py] kt pt] (.Tuple [a,b] k2 pt2) pos) (awH i j ta):=by
 intro pins s σ H D I h;rw [exec_Assign_arm];refine abk (adF ?_);rw [hs];refine abk (abC ?_);rw [abp (by decide)];refine abk (Tuple_ (du (ha _ pins s σ H _ I h) fun us s1 ⟨vs,H1,I1,r1,q1⟩=>?_));obtain ⟨v,w,e1,q1⟩:=q1;subst e1
 obtain ⟨u1,u2,rfl,rv,EB⟩:∃u1 u2,us=[u1,u2]/\RelV v u1/\RelV w u2:=by
  cases r1 with
  | cons p q=>
   cases q with
   | cons p' q'=>
    cases q';exact ⟨_,_,rfl,p,p'⟩
 refine wpAny_newObj_type ?_ (by show 2<=abl;decide);have I2:Inv X pins σ H1 {s1 with heap:=s1.heap.push {cls:=.type "tuple",data:=.seq [u1,u2].toArray}}:=I1.kept (t':=s1.toks) fun b o e=>abr _ e;rw [hw];refine abk (abC ?_);show abz (abx X.prog X.w) X.A (do rule "assign.swapped-stores";let items <- unpackItems (.ref s1.heap.objs.size) 2 none;assignInOrder [fun v=>bindName X.env y v,fun v=>bindName X.env x v] items.reverse;pure Flow.next) _ _ _;refine abk (wpAny_rule (abk (unpackItems_tuple (items:= #[u1,u2]) (I.ok.hd hc) (IsTup.new s1.heap _) fun h' hx'=>?_)));have I3:=I2.kept (h':=h') (t':=s1.toks) fun b o e=>hx' b o (ac9 (abB e)) e;show abz _ _ (assignInOrder [fun v=>bindName X.env y v,fun v=>bindName X.env x v] [u2,u1] >>=fun _=>pure Flow.next) _ _ _;refine abk (assignInOrder_cons (wpAny_bindName (lF I3 hN hj (.inl hy) EB (fun s2 I4=>?_) (.inr hy))));refine assignInOrder_cons (wpAny_bindName (lF I4 hN hi (.inl hx) rv (fun s3 I5=>assignInOrder_nil (abC ?_)) (.inr hx)));rw [List.set_comm _ _ (ac2 hij)] at I5;exact ⟨_,H1,I5,q1⟩
def Rb (c:TT)(tb:TS):TS:=fun D σ H=>∃W:Nat->St->Hp->Prop,(∃m,W m σ H)/\∀m σ H,W m σ H->
 c σ H fun b H1=>if b=true then ∃N:St->Hp->Prop,(∀σ' H',N σ' H' ->∃m',m'<m/\W m' σ' H')/\tb {D with nx:=N,ct:=N,bk:=D.nx} σ H1 else D.nx σ H1
theorem xJ (hp:PassesOwn (abx X.prog X.w) X.A X.env X.xe)(hc:PT X c tc)(hb:PSs X body tb):PS X (.While c body [] pos) (Rb tc tb):=by
 intro pins s σ H D I h;obtain ⟨W,⟨m0,w0⟩,turn⟩:=h;refine wpAny_While (codeAny_whileLoop (fun n s'=>∃σ' H',Inv X pins σ' H' s'/\W n σ' H') ?_ m0 ⟨σ,H,I,w0⟩);rintro n s1 ⟨σ1,H1,I1,w1⟩;refine acD hp (du (hc pins s1 σ1 H1 _ I1 (turn n σ1 H1 w1)) fun b s2 ⟨H2,I2,q2⟩=>?_);cases b with
 | true=>
  obtain ⟨N,hN,q2⟩:=q2;rw [abv rfl];refine acD hp (du (hb pins s2 σ1 H2 _ I2 q2) fun f s3 q3=>?_);cases f with
  | next=>
   obtain ⟨σ3,H3,I3,n3⟩:=q3;obtain ⟨m',hm,w3⟩:=hN σ3 H3 n3;exact ⟨m',hm,σ3,H3,I3,w3⟩
  | cont=>
   obtain ⟨σ3,H3,I3,n3⟩:=q3;obtain ⟨m',hm,w3⟩:=hN σ3 H3 n3;exact ⟨m',hm,σ3,H3,I3,w3⟩
  | brk=>exact q3
  | ret v=>exact q3
 | false=>
  rw [abp acZ];exact acS ⟨σ1,H2,I2,q2⟩
end
structure It where
 go:Nat->Hp->Prop
 yld:Nat->Hp->V->Hp->Prop
 stop:Nat->Hp->Prop
def wq (X:Cx)(pins:δ)(H:Hp)(b:abj):Prop:=
 H b=none/\b≠X.env.locals/\b∉X.fs/\(b∈X.ex\/X.s₀.heap.objs.size<=b)/\(∀x c,X.env.cells.lookup x=some c->c≠b)/\∀p∈X.pn++pins,p.1≠b
theorem Inv.GF {σ:St}{b:abj}(I:Inv X pins σ H s)(hb:s.heap.objs.size<=b)(hn:H' b=none):wq X pins H' b:=by
 refine ⟨hn,amY (aaS I.lt hb),I.awv hb,.inr (aah I.sz hb),fun x c e z=>?_,fun p hp z=>?_⟩
 ·obtain ⟨v,q⟩:=I.cell x c e
  exact abo (aaS q.lt (by rw [z];exact hb)) (afw _)
 ·exact abo (aaS (abB (I.pin p hp).1) (by rw [z];exact hb)) (afw _)
structure Turn (P:abJ)(w:World)(K:Frag)(tg:Expr)(J:It)(fp:ξ)(it:abj)(tn:Nat->Heap->Prop):Prop where
 mem:it∈fp
 obj:∀i h,tn i h->∀b∈fp,∃o,h.get? b=some o/\∀v,o.data≠.cell v
 keep:∀i h h',tn i h->(∀b∈fp,∀o,h.get? b=some o->h'.get? b=some o)->tn i h'
 item:∀(X:Cx),X.prog=P->X.w=w->X.K=K->X.calm=true->∀(i:Nat)(pins:δ)(s:abw)(σ:St)(H:Hp)(E:γ),Inv X pins σ H s->(∀b∈fp,wq X pins H b)->tn i s.heap->J.go i H->
  abz (abx P w) X.A (pyNext (.ref it)) (fun r s1=>∃u,r=some u/\
   abz (abx P w) X.A (adN tg (.ref it) u) (fun _ s2=>∃x H',Inv X pins σ H' s2/\RelV x u/\J.yld i H x H'/\tn (i+1) s2.heap/\∀b∈fp,H' b=none) E s1) E s
 done:∀(X:Cx),X.prog=P->X.w=w->X.K=K->X.calm=true->∀(i:Nat)(pins:δ)(s:abw)(σ:St)(H:Hp)(E:γ),Inv X pins σ H s->(∀b∈fp,wq X pins H b)->tn i s.heap->J.stop i H->
  abz (abx P w) X.A (pyNext (.ref it)) (fun r s1=>r=none/\Inv X pins σ H s1) E s
 self:∀(A:abM)(i:Nat)(s:abw)(Q:γ)(E:γ),tn i s.heap->Q (.ref it) s->abz (abx P w) A (pyIter (.ref it)) Q E s
abbrev TI:=St->Hp->(It->Hp->Prop)->Prop
def PIE (X:Cx)(pins:δ)(σ:St)(tg:Expr)(R:It->Hp->Prop)(itv:Value)(s2:abw):Prop:=
 ∃(it:abj)(fp:ξ)(tn:Nat->Heap->Prop)(J:It)(H':Hp),itv=.ref it/\Inv X pins σ H' s2/\Turn X.prog X.w X.K tg J fp it tn/\tn 0 s2.heap/\(∀b∈fp,wq X pins H' b)/\R J H'
def PI (X:Cx)(tg iter:Expr)(wi:TI):Prop:=
 ∀(pins:δ)(s:abw)(σ:St)(H:Hp)(R:It->Hp->Prop),Inv X pins σ H s->wi σ H R->
  abz (abx X.prog X.w) X.A (abU iter X.env) (fun v s1=>abz (abx X.prog X.w) X.A (pyIter v) (PIE X pins σ tg R) X.xe s1) X.xe s
theorem Uq            (ho : s.heap.get? it = some o) (hc : o.cls = .type n) (hd : o.data = .fields vs)
    (hn : ["enumerate", "zip", "dict_itemiterator", "dict_reverseitemiterator", "odict_iterator", "itertools.zip_longest", "itertools.pairwise"].contains n = false) (hQ : Q () s) : abz M A (adN tg (.ref it) u) Q E s := by
  unfold adN
  cases tg<;>first
    | exact abC hQ
    | (cases u<;>first
        | exact abC hQ
        | (refine abk (wpAny_load ho ?_)
           rw [hc, hd];show abz M A (if (["enumerate", "zip", "dict_itemiterator", "dict_reverseitemiterator", "odict_iterator", "itertools.zip_longest", "itertools.pairwise"].contains n && vs[0]? == some (rawInt _)) = true then _ else _) Q E s;rw [abp (by intro h; rw [hn, aph] at h; cases h)]
           exact abC hQ))
def Itl (K:Frag)(a:abj):It:=
 ⟨fun i H=>∃xs x,aZ K H a xs/\xs[i]?=some x,fun i H x H'=>H'=H/\∀xs,aZ K H a xs->xs[i]?=some x,fun i H=>∃xs,aZ K H a xs/\xs.length<=i⟩
def Itt (K:Frag)(a:abj):It:=
 ⟨fun i H=>∃xs x,dG K H a xs/\xs[i]?=some x,fun i H x H'=>H'=H/\∀xs,dG K H a xs->xs[i]?=some x,fun i H=>∃xs,dG K H a xs/\xs.length<=i⟩
def Itr (lo:Int)(n:Nat):It:=⟨fun i _=>i<n,fun i H x H'=>H'=H/\x=.int (lo+i),fun i _=>n<=i⟩
theorem VF {K:Frag}(a it:abj):Turn P w K tg (Itl K a) [it] it (fun i h=>h.IsListIter it a i) where
 mem:=by simp
 obj:=fun i h st b hb=>by
  have e:b=it:=by simpa using hb
  subst e;obtain ⟨o,e,c,d⟩:=st;exact ⟨o,e,fun v z=>by rw [d] at z;cases z⟩
 keep:=fun i h h' st k=>st.at fun o e=>k it (by simp) o e
 item:=by
  intro X hP hw hK hc i pins s σ H E I hf st hg;subst hP hw hK;obtain ⟨xs,x,hq,hx⟩:=hg;obtain ⟨its,rv,p,hz⟩:=I.list hq;obtain ⟨u,hu,ru⟩:=rv.get hx;obtain ⟨f0,f1,f2,f3,f4,f5⟩:=hf it (by simp);refine wpAny_pyNext_list_item st p.isList (x:=u) (by simpa using hu) fun h' Y8 sb=>?_;have I1:Inv X pins σ H {s with heap:=h'}:=I.turned (t':=s.toks) (fun b o hb e=>(sb.2 b hb).trans e) f0 f1 f3 f4 f5;obtain ⟨o,e,c,d⟩:=id Y8;exact ⟨u,rfl,Uq (s:={s with heap:=h'}) e c d (by decide) ⟨x,H,I1,ru,⟨rfl,fun ys hy=>by rw [I.nI hy hq];exact hx⟩,Y8,fun b hb=>(hf b hb).1⟩⟩
 done:=by
  intro X hP hw hK hc i pins s σ H E I hf st hg;subst hP hw hK;obtain ⟨xs,hq,hx⟩:=hg;obtain ⟨its,rv,p,hz⟩:=I.list hq;obtain ⟨f0,f1,f2,f3,f4,f5⟩:=hf it (by simp);have hl:=rv.length;exact wpAny_pyNext_list_end (I.ok.hd hc) st p.isList (by simp;omega) fun h' eb=>⟨rfl,I.turned (t':=s.toks) (fun b o hb e=>eb b o hb e) f0 f1 f3 f4 f5⟩
 self:=fun _ _ _ _ _ st h=>wpAny_pyIter_listiter st h
theorem Rc {K:Frag}(a it:abj):Turn P w K tg (Itt K a) [it] it (fun i h=>h.IsTupleIter it a i) where
 mem:=by simp
 obj:=fun i h st b hb=>by
  have e:b=it:=by simpa using hb
  subst e;obtain ⟨o,e,c,d⟩:=st;exact ⟨o,e,fun v z=>by rw [d] at z;cases z⟩
 keep:=fun i h h' st k=>st.at fun o e=>k it (by simp) o e
 item:=by
  intro X hP hw hK hc i pins s σ H E I hf st hg;subst hP hw hK;obtain ⟨xs,x,hq,hx⟩:=hg;obtain ⟨its,rv,p,hz⟩:=I.tuple hq;obtain ⟨u,hu,ru⟩:=rv.get hx;obtain ⟨f0,f1,f2,f3,f4,f5⟩:=hf it (by simp);refine wpAny_pyNext_tuple_item st (show s.heap.IsTuple a its.toArray from p) (x:=u) (by simpa using hu) fun h' Y8 sb=>?_;have I1:Inv X pins σ H {s with heap:=h'}:=I.turned (t':=s.toks) (fun b o hb e=>(sb.2 b hb).trans e) f0 f1 f3 f4 f5;obtain ⟨o,e,c,d⟩:=id Y8;exact ⟨u,rfl,Uq (s:={s with heap:=h'}) e c d (by decide) ⟨x,H,I1,ru,⟨rfl,fun ys hy=>by rw [I.EA hy hq];exact hx⟩,Y8,fun b hb=>(hf b hb).1⟩⟩
 done:=by
  intro X hP hw hK hc i pins s σ H E I hf st hg;subst hP hw hK;obtain ⟨xs,hq,hx⟩:=hg;obtain ⟨its,rv,p,hz⟩:=I.tuple hq;obtain ⟨f0,f1,f2,f3,f4,f5⟩:=hf it (by simp);have hl:=rv.length;exact wpAny_pyNext_tuple_end (I.ok.hd hc) st (show s.heap.IsTuple a its.toArray from p) (by simp;omega) fun h' eb=>⟨rfl,I.turned (t':=s.toks) (fun b o hb e=>eb b o hb e) f0 f1 f3 f4 f5⟩
 self:=fun _ _ _ _ _ st h=>wpAny_pyIter_tupleiter st h
theorem Rf {K:Frag}(it:abj)(lo:Int)(n:Nat):Turn P w K tg (Itr lo n) [it] it (fun i h=>IsRangeIter h it (lo+(i:Nat)*1) ((n:Int)-(i:Nat)) 1) where
 mem:=by simp
 obj:=fun i h st b hb=>by
  have e:b=it:=by simpa using hb
  subst e
  exact ⟨_,st,fun v z=>by
   have z':Data.fields _=Data.cell v:=z
   cases z'⟩
 keep:=fun i h h' st k=>k it (by simp) _ st
 item:=by
  intro X hP hw hK hc i pins s σ H E I hf st hg;subst hP hw hK;obtain ⟨f0,f1,f2,f3,f4,f5⟩:=hf it (by simp);have W:=Walks.range (prog:=X.prog) (w:=X.w) (I.ok.hd hc) it lo 1 n;refine W.item i s _ _ hg st fun v h' tk hv Y8 kk=>?_;obtain ⟨t,rfl⟩:=hv;have I1:Inv X pins σ H {s with heap:=h',toks:=tk}:=I.turned (fun b o hb e=>kk b o (by simpa using hb) e) f0 f1 f3 f4 f5;refine ⟨_,rfl,Uq (s:={s with heap:=h',toks:=tk}) (n:="range_iterator") Y8 rfl rfl (by decide) ⟨.int (lo+i),H,I1,⟨t,?_⟩,⟨rfl,rfl⟩,Y8,fun b hb=>(hf b hb).1⟩⟩;rw [Int.mul_one]
 done:=by
  intro X hP hw hK hc i pins s σ H E I hf st hg;subst hP hw hK;obtain ⟨f0,f1,f2,f3,f4,f5⟩:=hf it (by simp);exact wpAny_pyNext_range_end (I.ok.hd hc) st (by have:n<=i:=hg;omega) fun h' eb=>⟨rfl,I.turned (t':=s.toks) (fun b o hb e=>eb b o hb e) f0 f1 f3 f4 f5⟩
 self:=fun _ _ _ _ _ st h=>wpAny_pyIter_rangeiter st h
section
variable {X:Cx}{tg:Expr}
inductive Y9 (K:Frag)(R:(It->Hp->Prop))(x:V)(H1:Hp):Prop
|mk (a:_)(_:x=.ref a)(_:(∃xs,aZ K H1 a xs))(_:R (Itl K a) H1)
def aol (K:Frag)(tl:TE):TI:=fun σ H R=>tl σ H fun x H1=>Y9 K R x H1
inductive ag2 (K:Frag)(R:(It->Hp->Prop))(x:V)(H1:Hp):Prop
|mk (a:_)(_:x=.ref a)(_:(∃xs,dG K H1 a xs))(_:R (Itt K a) H1)
def awL (K:Frag)(tl:TE):TI:=fun σ H R=>tl σ H fun x H1=>ag2 K R x H1
theorem cJ (hl:PE X l tl):PI X tg l (aol X.K tl):=by
 intro pins s σ H R I h;refine du (hl pins s σ H _ I h) fun v s1 ⟨x,H1,I1,r1,q1⟩=>?_;obtain ⟨a,e,⟨xs,hq⟩,q⟩:=q1;subst e;cases r1;obtain ⟨its,rv,p,hz⟩:=I1.list hq;refine wpAny_pyIter_list p.isList ?_;refine ⟨s1.heap.objs.size,[s1.heap.objs.size],_,_,H1,rfl,I1.kept (t':=s1.toks) fun b o e=>abr _ e,VF a _,⟨_,abI _ rfl,rfl,rfl⟩,fun b hb=>?_,q⟩;have e:b=s1.heap.objs.size:=by simpa using hb
 subst e;exact I1.GF (aaM _) (I1.cg.fresh (aaM _))
theorem aj7 (hl:PE X l tl):PI X tg l (awL X.K tl):=by
 intro pins s σ H R I h;refine du (hl pins s σ H _ I h) fun v s1 ⟨x,H1,I1,r1,q1⟩=>?_;obtain ⟨a,e,⟨xs,hq⟩,q⟩:=q1;subst e;cases r1;obtain ⟨its,rv,p,hz⟩:=I1.tuple hq;refine wpAny_pyIter_tuple (show s1.heap.IsTuple a its.toArray from p) ?_;refine ⟨s1.heap.objs.size,[s1.heap.objs.size],_,_,H1,rfl,I1.kept (t':=s1.toks) fun b o e=>abr _ e,Rc a _,⟨_,abI _ rfl,rfl,rfl⟩,fun b hb=>?_,q⟩;have e:b=s1.heap.objs.size:=by simpa using hb
 subst e;exact I1.GF (aaM _) (I1.cg.fresh (aaM _))
theorem Y_ {σ:St}{E:γ}{lo hi:Int}(I:Inv X pins σ H s)(h1: -(2^62)<=lo)(h2:lo<2^62)(h3: -(2^62)<=hi)(h4:hi<2^62)
  (q:R (Itr lo (hi-lo).toNat) H):abz (abx X.prog X.w) X.A (pyIter (.ref s.heap.objs.size)) (PIE X pins σ tg R) E {s with heap:=s.heap.push {cls:=.type "range",data:=.fields #[.int lo t,.int hi u,.int 1 v]},toks:=tk}:=by
 refine wpAny_pyIter_range (IsRange.new ..) (small_one h1 h2 h3 h4) ?_;have I1:Inv X pins σ H {s with heap:=s.heap.push {cls:=.type "range",data:=.fields #[.int lo t,.int hi u,.int 1 v]},toks:=tk}:=I.kept fun b o e=>abr _ e
 refine ⟨(s.heap.push {cls:=.type "range",data:=.fields #[.int lo t,.int hi u,.int 1 v]}).objs.size,[(s.heap.push {cls:=.type "range",data:=.fields #[.int lo t,.int hi u,.int 1 v]}).objs.size],_,_,H,rfl,
  I1.kept (t':=tk) fun b o e=>abr _ e,Rf _ lo (hi-lo).toNat,?_,fun b hb=>?_,q⟩
 ·have e1:lo+((0:Nat):Int)*1=lo:=by simp
  have e2:(((hi-lo).toNat:Nat):Int)-((0:Nat):Int)=Builtin.Range.rangeSize lo hi 1:=by rw [rangeSize_one];split<;>omega
  show IsRangeIter _ _ (lo+((0:Nat):Int)*1) ((((hi-lo).toNat:Nat):Int)-((0:Nat):Int)) 1;rw [e1,e2];exact abI _ rfl
 ·have e:b=(s.heap.push {cls:=.type "range",data:=.fields #[.int lo t,.int hi u,.int 1 v]}).objs.size:=by simpa using hb
  subst e;exact I1.GF (aaM _) (I1.cg.fresh (aaM _))
inductive Y' (R:(It->Hp->Prop))(vs:ε)(H1:Hp):Prop
|mk (j:Int)(_:vs=[.int j])(_: -(2^62)<=j)(_:j<2^62)(_:R (Itr 0 j.toNat) H1)
def aom (ta:TA):TI:=fun σ H R=>ta σ H fun vs H1=>Y' R vs H1
theorem jI (hg:Gl X "range")(hm:X.mg "range"=none)(ha:PA X [a] ta)(hs:abF [a] X.env=[(false,abU a X.env)]:=by rfl):PI X tg (.Call (.Name "range" p) [a] [] pos) (aom ta):=by
 intro pins s σ H R I h;refine Call_ (uE I hg hm boot_range (acB (du (ha pos pins s σ H _ I h) fun us s1 ⟨vs,H1,I1,r1,q1⟩=>?_) hs rfl));obtain ⟨j,e,q1,q2,q⟩:=q1;subst e;cases r1 with
 | cons r rr=>
  cases rr;obtain ⟨t,rfl⟩:=r;exact call_range_1 (Y_ I1 (by omega) (by omega) q1 q2 (by simpa using q))
def awM (wi:TI)(g:TG)(tb:TS):TS:=fun D σ H=>wi σ H fun J H1=>∃W:Nat->Nat->St->Hp->Prop,(∃m,W 0 m σ H1)/\∀i m σ H,W i m σ H->
 (J.stop i H/\D.nx σ H)\/(J.go i H/\∃N:St->Hp->Prop,(∀σ' H',N σ' H' ->∃m',m'<m/\W (i+1) m' σ' H')/\∀x H',J.yld i H x H' ->g x σ H' fun σ2 H2=>tb {D with nx:=N,ct:=N,bk:=D.nx} σ2 H2)
def xK (fp:ξ)(h:Heap):List (abj×Obj):=fp.filterMap fun b=>(h.get? b).map fun o=>(b,o)
theorem mw (hb:b∈fp)(e:h.get? b=some o):(b,o)∈xK fp h:=afE.mpr ⟨b,hb,by rw [e];rfl⟩
theorem VG (hp:p∈xK fp h):p.1∈fp/\h.get? p.1=some p.2:=by
 obtain ⟨b,hb,e⟩:=afE.mp hp;cases q:h.get? b with
 | none=>rw [q] at e;cases e
 | some o=>
  rw [q] at e;have e':(b,o)=p:=aaQ e;subst e';exact ⟨hb,q⟩
theorem Inv.pinned {σ:St}(I:Inv X pins σ H s)(hf:∀b∈fp,wq X pins H b)(ho:∀b∈fp,∃o,s.heap.get? b=some o/\∀v,o.data≠.cell v):Inv X (pins++xK fp s.heap) σ H s:=
 I.Up fun p hp=>(abh.mp hp).elim (fun z=>I.pin p (adf _ z)) fun z=>by
  obtain ⟨hb,e⟩:=VG z;obtain ⟨f0,f1,f2,_⟩:=hf p.1 hb;obtain ⟨o,e',d⟩:=ho p.1 hb;rw [e] at e';cases e';exact ⟨e,f0,f1,f2,d⟩
theorem Inv.nJ {σ:St}(I:Inv X (pins++pl) σ H s):Inv X pins σ H s:=I.Up fun p hp=>I.pin p (adf _ (agU _ hp))
theorem dU (hp:PassesOwn (abx X.prog X.w) X.A X.env X.xe)(hc:X.calm=true)(hi:PI X tg iter wi)(hg:PG X tg g)(hb:PSs X body tb)
  (hs:∀x,acr iter X.env x=pure x:=by intro _;rfl):PS X (.For tg iter body [] pos) (awM wi g tb):=by
 intro pins s σ H D I h;refine wpAny_For (du (hi pins s σ H _ I h) fun v s1 h1=>du h1 fun itv s2 h2=>?_) hs;obtain ⟨it,fp,tn,J,H2,e,I2,T,st2,f2,W,⟨m0,w0⟩,turn⟩:=h2;subst e;have stat:∀{H':Hp},(∀b∈fp,H' b=none)->∀b∈fp,wq X pins H' b:=fun hn b hb=>⟨hn b hb,(f2 b hb).2⟩;refine codeAny_forLoop_any (fun n s'=>∃i σ' H',Inv X pins σ' H' s'/\tn i s'.heap/\(∀b∈fp,H' b=none)/\W i n σ' H') ?_ m0 ⟨0,σ,H2,I2,st2,fun b hb=>(f2 b hb).1,w0⟩;rintro n s3 ⟨i,σ3,H3,I3,st3,fr3,w3⟩
 rcases turn i n σ3 H3 w3 with ⟨stop,qn⟩|⟨go,N,hN,step⟩
 ·refine acD hp (du (T.done X rfl rfl rfl hc i pins s3 σ3 H3 X.xe I3 (stat fr3) st3 stop) fun r s4 ⟨hr,I4⟩=>?_)
  subst hr;exact acS ⟨σ3,H3,I4,qn⟩
 ·refine acD hp (du (T.item X rfl rfl rfl hc i pins s3 σ3 H3 X.xe I3 (stat fr3) st3 go) fun r s4 ⟨u,hr,h4⟩=>?_)
  subst hr;refine acD hp (du h4 fun _ s5 ⟨x,H5,I5,r5,y5,st5,fr5⟩=>?_);have I5':=I5.pinned (stat fr5) (T.obj _ _ st5);refine acD hp (du (hg _ s5 σ3 H5 x u _ I5' r5 (step x H5 y5)) fun _ s6 ⟨σ6,H6,I6,q6⟩=>?_);refine acD hp (du (hb _ s6 σ6 H6 _ I6 q6) fun f s7 q7=>?_)
  have again:∀{σ7:St} {H7:Hp},Inv X (pins++xK fp s5.heap) σ7 H7 s7->N σ7 H7->∃m,m<n/\∃i σ' H',Inv X pins σ' H' s7/\tn i s7.heap/\(∀b∈fp,H' b=none)/\W i m σ' H':=fun {σ7 H7} I7 n7=>by
   obtain ⟨m',hm,w7⟩:=hN σ7 H7 n7;refine ⟨m',hm,i+1,σ7,H7,I7.nJ,T.keep _ _ _ st5 fun b hb o e=>(I7.pin (b,o) (adf _ (adf _ (mw hb e)))).1,fun b hb=>?_,w7⟩;obtain ⟨o,e,d⟩:=T.obj _ _ st5 b hb;exact (I7.pin (b,o) (adf _ (adf _ (mw hb e)))).2.1
  cases f with
  | next=>obtain ⟨σ7,H7,I7,n7⟩:=q7;exact again I7 n7
  | cont=>obtain ⟨σ7,H7,I7,n7⟩:=q7;exact again I7 n7
  | brk=>obtain ⟨σ7,H7,I7,q7⟩:=q7;exact ⟨σ7,H7,I7.nJ,q7⟩
  | ret v=>obtain ⟨x7,σ7,H7,I7,r7,q7⟩:=q7;exact ⟨x7,σ7,H7,I7.nJ,r7,q7⟩
end
theorem eG {K:Frag}{g:TG}{tb:TS}{D:Ends}(Pv:Nat->St->Hp->Prop)(h0:Pv 0 σ H)(hl:∀i σ H,i<=xs.length->Pv i σ H->aZ K H a xs)
  (hs:∀i x σ H,xs[i]?=some x->Pv i σ H->g x σ H fun σ2 H2=>tb {D with nx:=Pv (i+1),ct:=Pv (i+1),bk:=D.nx} σ2 H2) (hd:∀σ H,Pv xs.length σ H->D.nx σ H):
  ∃W:Nat->Nat->St->Hp->Prop,(∃m,W 0 m σ H)/\∀i m σ H,W i m σ H->
   ((Itl K a).stop i H/\D.nx σ H)\/((Itl K a).go i H/\∃N:St->Hp->Prop,(∀σ' H',N σ' H' ->∃m',m'<m/\W (i+1) m' σ' H')/\∀x H',(Itl K a).yld i H x H' ->g x σ H' fun σ2 H2=>tb {D with nx:=N,ct:=N,bk:=D.nx} σ2 H2):=by
 refine ⟨fun i m σ H=>m=xs.length-i/\i<=xs.length/\Pv i σ H,⟨xs.length,by simp,aer _,h0⟩,?_⟩;rintro i m σ H ⟨rfl,hi,p⟩;have q:=hl i σ H hi p;by_cases AQ:i<xs.length
 ·refine .inr ⟨⟨xs,xs[i],q,by simp [AQ]⟩,Pv (i+1),fun σ' H' p'=>⟨xs.length-(i+1),by omega,rfl,AQ,p'⟩,fun x H' y=>?_⟩
  obtain ⟨e,y⟩:=y;subst e;exact hs i x σ _ (y xs q) p
 ·have e:i=xs.length:=by omega
  subst e;exact .inl ⟨⟨xs,q,aaM _⟩,hd σ H p⟩
theorem aeq {K:Frag}{g:TG}{tb:TS}{D:Ends}(Pv:Nat->St->Hp->Prop)(h0:Pv 0 σ H)(hl:∀i σ H,i<=xs.length->Pv i σ H->dG K H a xs)
  (hs:∀i x σ H,xs[i]?=some x->Pv i σ H->g x σ H fun σ2 H2=>tb {D with nx:=Pv (i+1),ct:=Pv (i+1),bk:=D.nx} σ2 H2) (hd:∀σ H,Pv xs.length σ H->D.nx σ H):
  ∃W:Nat->Nat->St->Hp->Prop,(∃m,W 0 m σ H)/\∀i m σ H,W i m σ H->
   ((Itt K a).stop i H/\D.nx σ H)\/((Itt K a).go i H/\∃N:St->Hp->Prop,(∀σ' H',N σ' H' ->∃m',m'<m/\W (i+1) m' σ' H')/\∀x H',(Itt K a).yld i H x H' ->g x σ H' fun σ2 H2=>tb {D with nx:=N,ct:=N,bk:=D.nx} σ2 H2):=by
 refine ⟨fun i m σ H=>m=xs.length-i/\i<=xs.length/\Pv i σ H,⟨xs.length,by simp,aer _,h0⟩,?_⟩;rintro i m σ H ⟨rfl,hi,p⟩;have q:=hl i σ H hi p;by_cases AQ:i<xs.length
 ·refine .inr ⟨⟨xs,xs[i],q,by simp [AQ]⟩,Pv (i+1),fun σ' H' p'=>⟨xs.length-(i+1),by omega,rfl,AQ,p'⟩,fun x H' y=>?_⟩
  obtain ⟨e,y⟩:=y;subst e;exact hs i x σ _ (y xs q) p
 ·have e:i=xs.length:=by omega
  subst e;exact .inl ⟨⟨xs,q,aaM _⟩,hd σ H p⟩
theorem oY {lo:Int}{g:TG}{tb:TS}{D:Ends}(Pv:Nat->St->Hp->Prop)(h0:Pv 0 σ H)
  (hs:∀i σ H,i<n->Pv i σ H->g (.int (lo+i)) σ H fun σ2 H2=>tb {D with nx:=Pv (i+1),ct:=Pv (i+1),bk:=D.nx} σ2 H2) (hd:∀σ H,Pv n σ H->D.nx σ H):
  ∃W:Nat->Nat->St->Hp->Prop,(∃m,W 0 m σ H)/\∀i m σ H,W i m σ H->
   ((Itr lo n).stop i H/\D.nx σ H)\/((Itr lo n).go i H/\∃N:St->Hp->Prop,(∀σ' H',N σ' H' ->∃m',m'<m/\W (i+1) m' σ' H')/\∀x H',(Itr lo n).yld i H x H' ->g x σ H' fun σ2 H2=>tb {D with nx:=N,ct:=N,bk:=D.nx} σ2 H2):=by
 refine ⟨fun i m σ H=>m=n-i/\i<=n/\Pv i σ H,⟨n,by simp,aer _,h0⟩,?_⟩;rintro i m σ H ⟨rfl,hi,p⟩;by_cases AQ:i<n
 ·refine .inr ⟨AQ,Pv (i+1),fun σ' H' p'=>⟨n-(i+1),by omega,rfl,AQ,p'⟩,fun x H' y=>?_⟩
  obtain ⟨e,y⟩:=y;subst e y;exact hs i σ _ AQ p
 ·have e:i=n:=by omega
  subst e;exact .inl ⟨aaM _,hd σ H p⟩
theorem xM (Pv:St->Hp->Prop)(μ:St->Hp->Nat)(h0:Pv σ H)
  (hs:∀σ H,Pv σ H->c σ H fun b H1=>if b=true then tb {D with nx:=fun σ' H'=>Pv σ' H'/\μ σ' H' < μ σ H,ct:=fun σ' H'=>Pv σ' H'/\μ σ' H' < μ σ H,bk:=D.nx} σ H1 else D.nx σ H1)
  (mono:∀σ H Q Q',(∀b H1,Q b H1->Q' b H1)->c σ H Q->c σ H Q'):Rb c tb D σ H:=by
 refine ⟨fun m σ H=>m=μ σ H/\Pv σ H,⟨_,rfl,h0⟩,?_⟩;rintro m σ H ⟨rfl,p⟩;refine mono σ H _ _ (fun b H1 q=>?_) (hs σ H p);cases b with
 | true=>exact ⟨_,fun σ' H' ⟨p',l⟩=>⟨_,l,rfl,p'⟩,q⟩
 | false=>exact q
abbrev R2:=V->V->Hp->VK->Prop
def pJ (X:Cx)(f:Value->Value->Sem Value)(r:R2):Prop:=
 ∀(pins:δ)(s:abw)(σ:St)(H:Hp)(x y:V)(v u:Value)(Q:VK),Inv X pins σ H s->RelV x v->RelV y u->r x y H Q->
  abz (abx X.prog X.w) X.A (f v u) (EP X pins σ Q) X.xe s
def UnR (X:Cx)(f:Value->Sem Value)(r:V->Hp->VK->Prop):Prop:=
 ∀(pins:δ)(s:abw)(σ:St)(H:Hp)(x:V)(v:Value)(Q:VK),Inv X pins σ H s->RelV x v->r x H Q->
  abz (abx X.prog X.w) X.A (f v) (EP X pins σ Q) X.xe s
def mR (X:Cx)(f:Value)(r:List V->Hp->VK->Prop):Prop:=
 ∀(pins:δ)(s:abw)(σ:St)(H:Hp)(xs:ε)(us:θ)(Q:VK),Inv X pins σ H s->Vals xs us->r xs H Q->
  abz (abx X.prog X.w) X.A (call f us) (EP X pins σ Q) X.xe s
def tOp (r:R2)(ta tb:TE):TE:=fun σ H Q=>ta σ H fun x H1=>tb σ H1 fun y H2=>r x y H2 Q
def tUn (r:V->Hp->VK->Prop)(ta:TE):TE:=fun σ H Q=>ta σ H fun x H1=>r x H1 Q
inductive rI (C:Int->Int->Prop)(g:Int->Int->V)(x:V)(y:V)(H:Hp)(Q:VK):Prop
|mk (i j:_)(_:x=.int i)(_:y=.int j)(_:C i j)(_:Q (g i j) H)
inductive rI0 (g:Int->Int->V)(x:V)(y:V)(H:Hp)(Q:VK):Prop
|mk (i j:_)(_:x=.int i)(_:y=.int j)(_:Q (g i j) H)
inductive rU (g:Int->V)(x:V)(H:Hp)(Q:VK):Prop
|mk (i:_)(_:x=.int i)(_:Q (g i) H)
section
variable {X:Cx}{a b c:Expr}{ta tb tc:TE}{pos:Pos}
theorem aj8 (ha:PE X a ta)(hb:PE X b tb){σ:St}{R:V->V->Hp->Prop}(I:Inv X pins σ H s)
  (h:ta σ H fun x H1=>tb σ H1 fun y H2=>R x y H2) {Q:γ} {f:Value->Value->Sem Value}
  (hf:∀v u s2 x y H2,Inv X pins σ H2 s2->RelV x v->RelV y u->R x y H2->abz (abx X.prog X.w) X.A (f v u) Q X.xe s2):
  abz (abx X.prog X.w) X.A (abU a X.env) (fun v s₁=>abz (abx X.prog X.w) X.A (abU b X.env) (fun u s₂=>abz (abx X.prog X.w) X.A (f v u) Q X.xe s₂) X.xe s₁) X.xe s:=by
 refine du (ha pins s σ H _ I h) fun v s1 ⟨x,H1,I1,r1,q1⟩=>?_;refine du (hb pins s1 σ H1 _ I1 q1) fun u s2 ⟨y,H2,I2,r2,q2⟩=>?_;exact hf v u s2 x y H2 I2 r1 r2 q2
theorem aD (ho:pJ X (adg op) r)(ha:PE X a ta)(hb:PE X b tb):PE X (.BinOp a op b pos) (tOp r ta tb):=by
 intro pins s σ H Q I h;exact wpAny_BinOp (aj8 ha hb I h fun v u s2 x y H2 I2 rx ry q=>ho pins s2 σ H2 x y v u Q I2 rx ry q)
theorem ML (ho:UnR X (unaryOp op) r)(ha:PE X a ta):PE X (.UnaryOp op a pos) (tUn r ta):=by
 intro pins s σ H Q I h;exact UnaryOp_ (du (ha pins s σ H _ I h) fun v s1 ⟨x,H1,I1,r1,q1⟩=>ho pins s1 σ H1 x v Q I1 r1 q1)
theorem opI {g:Int->Int->Int}
  (rule:∀(i j:Int)(t u:Tok)(s:abw)(Q:γ)(E:γ),C i j->Q (.int (g i j) s.toks) {s with toks:=s.toks+1}->abz (abx X.prog X.w) X.A (f (.int i t) (.int j u)) Q E s):
  pJ X f (rI C fun i j=>.int (g i j)):=by
 intro pins s σ H x y v u Q I rx ry h;obtain ⟨i,j,rfl,rfl,hc,q⟩:=h;obtain ⟨t,rfl⟩:=rx;obtain ⟨t',rfl⟩:=ry;exact rule i j t t' s _ _ hc ⟨.int (g i j),H,I.tok _,⟨_,rfl⟩,q⟩
theorem aon {g:Int->Int->Int}
  (rule:∀(i j:Int)(t u:Tok)(s:abw)(Q:γ)(E:γ),Q (.int (g i j) s.toks) {s with toks:=s.toks+1}->abz (abx X.prog X.w) X.A (f (.int i t) (.int j u)) Q E s):
  pJ X f (rI0 fun i j=>.int (g i j)):=by
 intro pins s σ H x y v u Q I rx ry h;obtain ⟨i,j,rfl,rfl,q⟩:=h;obtain ⟨t,rfl⟩:=rx;obtain ⟨t',rfl⟩:=ry;exact rule i j t t' s _ _ ⟨.int (g i j),H,I.tok _,⟨_,rfl⟩,q⟩
theorem aes {g:Int->Int->Bool}
  (rule:∀(i j:Int)(t u:Tok)(s:abw)(Q:γ)(E:γ),Q (.bool (g i j)) s->abz (abx X.prog X.w) X.A (f (.int i t) (.int j u)) Q E s):
  pJ X f (rI0 fun i j=>.bl (g i j)):=by
 intro pins s σ H x y v u Q I rx ry h;obtain ⟨i,j,rfl,rfl,q⟩:=h;obtain ⟨t,rfl⟩:=rx;obtain ⟨t',rfl⟩:=ry;exact rule i j t t' s _ _ ⟨.bl (g i j),H,I,rfl,q⟩
def aoo (i j:Int):Prop:=0<=j/\j<=1000000/\i.natAbs<2^64
theorem dW:pJ X (adg .Add) (rI0 fun i j=>.int (i+j)):=aon fun _ _ _ _ _ _ _ q=>add_int q
theorem Za:pJ X (adg .Sub) (rI0 fun i j=>.int (i-j)):=aon fun _ _ _ _ _ _ _ q=>sub_int q
theorem aet:pJ X (adg .Mod) (rI (fun _ j=>j≠0) fun i j=>.int (i.fmod j)):=opI fun _ _ _ _ _ _ _ hc q=>mod_int' hc q
theorem GG:pJ X (adg .Pow) (rI aoo fun i j=>.int (i^j.toNat)):=opI fun _ _ _ _ _ _ _ hc q=>pow_int_small hc.1 hc.2.1 hc.2.2 q
theorem unI {g:Int->Int}
  (rule:∀(i:Int)(t:Tok)(s:abw)(Q:γ)(E:γ),Q (.int (g i) s.toks) {s with toks:=s.toks+1}->abz (abx X.prog X.w) X.A (f (.int i t)) Q E s):
  UnR X f (rU fun i=>.int (g i)):=by
 intro pins s σ H x v Q I rx h;obtain ⟨i,rfl,q⟩:=h;obtain ⟨t,rfl⟩:=rx;exact rule i t s _ _ ⟨.int (g i),H,I.tok _,⟨_,rfl⟩,q⟩
theorem xN:UnR X (unaryOp .USub) (rU fun i=>.int (-i)):=unI fun _ _ _ _ _ q=>neg_int q
end
def aop:V->V->Bool
 | .bG,.bG=>true | .bG,.int _=>true | .int _,.bG=>true | .bG,.bl _=>true | .bl _,.bG=>true | .bG,.str _=>true | .str _,.bG=>true
 | .int _,.int _=>true | .bl _,.bl _=>true | .str _,.str _=>true | .byt _,.byt _=>true
 | .int _,.str _=>true | .str _,.int _=>true | .bl _,.str _=>true | .str _,.bl _=>true
 | _,_=>false
def rEq:R2:=fun x y H Q=>aop x y=true/\Q (.bl (decide (x=y))) H
def rNe:R2:=fun x y H Q=>aop x y=true/\Q (.bl (!decide (x=y))) H
theorem Ur :decide (V.int i=V.int j)=(i==j):=by
 rw [ahF];simp
theorem Zb :decide (V.bl i=V.bl j)=(i==j):=by
 rw [ahF];simp
theorem Us :decide (V.str i=V.str j)=(i==j):=by
 rw [ahF];simp
theorem Ut :decide (V.byt i=V.byt j)=(i.toList==j.toList):=by
 rw [ahF];cases i;cases j;simp
section
variable {X:Cx}{a b c:Expr}{ta tb tc:TE}{pos:Pos}
theorem bW {σ:St}(I:Inv X pins σ H s)(q:Q (.bl k) H)(e:k=k'):EP X pins σ Q (.bool k') s:=by
 subst e;exact ⟨.bl k,H,I,rfl,q⟩
theorem cn:pJ X (ab3 .Eq) rEq:=by
 intro pins s σ H x y v u Q I rx ry h;obtain ⟨hs,q⟩:=h;cases x with
 | bG=>
  cases rx;cases y with
  | bG=>cases ry;exact PySem.EqNone.eq_none_none (bW I q (by simp))
  | bl j=>cases ry;exact PySem.EqNone.eq_none_bool (bW I q (by simp))
  | int j=>obtain ⟨t',rfl⟩:=ry;exact PySem.EqNone.eq_none_int (bW I q (by simp))
  | str j=>obtain ⟨t',rfl⟩:=ry;exact PySem.EqNone.eq_none_str (bW I q (by simp))
  | _=>exact abo (show false=true from hs) acZ
 | bl i=>
  cases rx;cases y with
  | bG=>cases ry;exact PySem.EqNone.eq_bool_none (bW I q (by simp))
  | bl j=>cases ry;exact eq_bool (bW I q Zb)
  | str j=>obtain ⟨t',rfl⟩:=ry;exact PySem.EqMixed.eq_bool_str (bW I q (by simp))
  | _=>exact abo (show false=true from hs) acZ
 | int i=>
  obtain ⟨t,rfl⟩:=rx;cases y with
  | bG=>cases ry;exact PySem.EqNone.eq_int_none (bW I q (by simp))
  | int j=>obtain ⟨t',rfl⟩:=ry;exact eq_int (bW I q Ur)
  | str j=>obtain ⟨t',rfl⟩:=ry;exact PySem.EqMixed.eq_int_str (bW I q (by simp))
  | _=>exact abo (show false=true from hs) acZ
 | str i=>
  obtain ⟨t,rfl⟩:=rx;cases y with
  | bG=>cases ry;exact PySem.EqNone.eq_str_none (bW I q (by simp))
  | bl j=>cases ry;exact PySem.EqMixed.eq_str_bool (bW I q (by simp))
  | int j=>obtain ⟨t',rfl⟩:=ry;exact PySem.EqMixed.eq_str_int (bW I q (by simp))
  | str j=>obtain ⟨t',rfl⟩:=ry;exact eq_str (bW I q Us)
  | _=>exact abo (show false=true from hs) acZ
 | byt i=>
  obtain ⟨t,rfl⟩:=rx;cases y with
  | byt j=>obtain ⟨t',rfl⟩:=ry;exact PySem.W.eq_bytes (bW I q Ut)
  | _=>exact abo (show false=true from hs) acZ
 | _=>cases y<;>exact abo (show false=true from hs) acZ
theorem nL:pJ X (ab3 .NotEq) rNe:=by
 intro pins s σ H x y v u Q I rx ry h;obtain ⟨hs,q⟩:=h;cases x with
 | bG=>
  cases rx;cases y with
  | bG=>cases ry;exact PySem.EqNone.ne_none_none (bW I q (by simp))
  | bl j=>cases ry;exact PySem.EqNone.ne_none_bool (bW I q (by simp))
  | int j=>obtain ⟨t',rfl⟩:=ry;exact PySem.EqNone.ne_none_int (bW I q (by simp))
  | str j=>obtain ⟨t',rfl⟩:=ry;exact PySem.EqNone.ne_none_str (bW I q (by simp))
  | _=>exact abo (show false=true from hs) acZ
 | bl i=>
  cases rx;cases y with
  | bG=>cases ry;exact PySem.EqNone.ne_bool_none (bW I q (by simp))
  | bl j=>cases ry;exact ne_bool (bW I q (abV not Zb))
  | str j=>obtain ⟨t',rfl⟩:=ry;exact PySem.EqMixed.ne_bool_str (bW I q (by simp))
  | _=>exact abo (show false=true from hs) acZ
 | int i=>
  obtain ⟨t,rfl⟩:=rx;cases y with
  | bG=>cases ry;exact PySem.EqNone.ne_int_none (bW I q (by simp))
  | int j=>obtain ⟨t',rfl⟩:=ry;exact ne_int (bW I q (abV not Ur))
  | str j=>obtain ⟨t',rfl⟩:=ry;exact PySem.EqMixed.ne_int_str (bW I q (by simp))
  | _=>exact abo (show false=true from hs) acZ
 | str i=>
  obtain ⟨t,rfl⟩:=rx;cases y with
  | bG=>cases ry;exact PySem.EqNone.ne_str_none (bW I q (by simp))
  | bl j=>cases ry;exact PySem.EqMixed.ne_str_bool (bW I q (by simp))
  | int j=>obtain ⟨t',rfl⟩:=ry;exact PySem.EqMixed.ne_str_int (bW I q (by simp))
  | str j=>obtain ⟨t',rfl⟩:=ry;exact ne_str (bW I q (abV not Us))
  | _=>exact abo (show false=true from hs) acZ
 | byt i=>
  obtain ⟨t,rfl⟩:=rx;cases y with
  | byt j=>obtain ⟨t',rfl⟩:=ry;exact PySem.W.ne_bytes (bW I q (abV not Ut))
  | _=>exact abo (show false=true from hs) acZ
 | _=>cases y<;>exact abo (show false=true from hs) acZ
theorem vH:pJ X (ab3 .Lt) (rI0 fun i j=>.bl (decide (i<j))):=aes fun _ _ _ _ _ _ _ q=>lt_int q
theorem EC:pJ X (ab3 .LtE) (rI0 fun i j=>.bl (decide (i<=j))):=aes fun _ _ _ _ _ _ _ q=>le_int q
theorem Uu:pJ X (ab3 .Gt) (rI0 fun i j=>.bl (decide (j<i))):=aes fun _ _ _ _ _ _ _ q=>gt_int q
theorem ED:pJ X (ab3 .GtE) (rI0 fun i j=>.bl (decide (j<=i))):=aes fun _ _ _ _ _ _ _ q=>ge_int q
theorem uG:pJ X (ab3 .In) (fun x y H Q=>∃i j,x=.str i/\y=.str j/\Q (.bl (!(acw j i 0 j.length 1).isEmpty)) H):=by
 intro pins s σ H x y v u Q I rx ry h;obtain ⟨i,j,rfl,rfl,q⟩:=h;obtain ⟨t,rfl⟩:=rx;obtain ⟨t',rfl⟩:=ry;exact in_str (bW I q rfl)
theorem iC:pJ X (ab3 .Is) (fun x y H Q=>y=.bG/\Q (.bl (decide (x=.bG))) H):=by
 intro pins s σ H x y v u Q I rx ry h;obtain ⟨rfl,q⟩:=h;cases ry;refine is_none_gen (bW I q ?_)
 cases x<;>first
  | (cases rx;rfl)
  | (obtain ⟨t,rfl⟩:=rx;rfl)
theorem oZ:pJ X (ab3 .IsNot) (fun x y H Q=>y=.bG/\Q (.bl (!decide (x=.bG))) H):=by
 intro pins s σ H x y v u Q I rx ry h;obtain ⟨rfl,q⟩:=h;cases ry;refine isnot_none_gen (bW I q ?_)
 cases x<;>first
  | (cases rx;rfl)
  | (obtain ⟨t,rfl⟩:=rx;rfl)
theorem qF (b:Expr)(h:op≠.In:=by decide)(h2:op≠.NotIn:=by decide):acR op b=false:=by
 have e1:(op==CmpOp.In)=false:=by cases op<;>first|rfl|exact abo rfl h
 have e2:(op==CmpOp.NotIn)=false:=by cases op<;>first|rfl|exact abo rfl h2
 cases b<;>simp [acR,e1,e2]
theorem jC (ho:pJ X (ab3 op) r)(ha:PE X a ta)(hb:PE X b tb)(hm:acR op b=false):PE X (.Compare a [op] [b] pos) (tOp r ta tb):=by
 intro pins s σ H Q I h;exact wpAny_Compare1 (aj8 ha hb I h fun v u s2 x y H2 I2 rx ry q=>ho pins s2 σ H2 x y v u Q I2 rx ry q) hm
inductive Zc (Q:(Bool->Hp->Prop))(x:V)(H':Hp):Prop
|mk (k:_)(_:x=.bl k)(_:Q k H')
def Zd (t:TE):TT:=fun σ H Q=>t σ H fun x H'=>Zc Q x H'
theorem xa (ho:pJ X (ab3 op) r)(ha:PE X a ta)(hb:PE X b tb)(hm:acR op b=false):PT X (.Compare a [op] [b] pos) (Zd (tOp r ta tb)):=by
 intro pins s σ H Q I h
 refine wpAny_isTrue_Compare1 (du (ha pins s σ H _ I h) fun v s1 ⟨x,H1,I1,r1,q1⟩=>du (hb pins s1 σ H1 _ I1 q1) fun u s2 ⟨y,H2,I2,r2,q2⟩=>
  du (ho pins s2 σ H2 x y v u _ I2 r1 r2 q2) fun c s3 ⟨z,H3,I3,r3,k,e,q3⟩=>?_) hm
 subst e;cases r3;exact acq ⟨H3,I3,q3⟩
def aj9 (r r':R2)(ta tb tc:TE):TE:=fun σ H Q=>ta σ H fun x H1=>tb σ H1 fun y H2=>r x y H2 fun z H3=>∃k,z=.bl k/\
 (if k=true then tc σ H3 fun w' H4=>r' y w' H4 Q else Q (.bl false) H3)
theorem xO (ho:pJ X (ab3 op) r)(uC :pJ X (ab3 op') r')(ha:PE X a ta)(hb:PE X b tb)(hc:PE X c tc)
  (hm:lastMarks [op,op'] [b,c]=false:=by with_unfolding_all rfl):PT X (.Compare a [op,op'] [b,c] pos) (Zd (aj9 r r' ta tb tc)):=by
 intro pins s σ H Q I h
 refine isTrue_chain (du (ha pins s σ H _ I h) fun v s1 ⟨x,H1,I1,r1,q1⟩=>test_link (du (hb pins s1 σ H1 _ I1 q1) fun u s2 ⟨y,H2,I2,r2,q2⟩=>
  du (ho pins s2 σ H2 x y v u _ I2 r1 r2 q2) fun d s3 ⟨z,H3,I3,r3,k,e,q3⟩=>?_)) hm
 subst e;cases r3;refine acq ?_;cases k with
 | false=>
  obtain ⟨k',e',q'⟩:=q3;cases e';exact ite_ff ⟨H3,I3,q'⟩
 | true=>
  refine ite_tt (test_last (du (hc pins s3 σ H3 _ I3 q3) fun w' s4 ⟨z',H4,I4,r4,q4⟩=>du (uC pins s4 σ H4 y z' u w' _ I4 r2 r4 q4) fun d' s5 ⟨z2,H5,I5,r5,k2,e2,q5⟩=>?_));subst e2;cases r5;exact acq ⟨H5,I5,q5⟩
theorem xP:(abl:Nat)<2^63:=by rw [adT];decide
theorem bx:pJ X (adg .Add) (fun x y H Q=>∃i j,x=.str i/\y=.str j/\i.length+j.length<=abl/\Q (.str (i++j)) H):=by
 intro pins s σ H x y v u Q I rx ry h;obtain ⟨i,j,rfl,rfl,hz,q⟩:=h;obtain ⟨t,rfl⟩:=rx;obtain ⟨t',rfl⟩:=ry;exact add_str (fun t' tk=>⟨.str (i++j),H,I.tok _,⟨_,rfl⟩,q⟩) hz
theorem vals1 {us:θ}(r:Vals [x] us):∃u,us=[u]/\RelV x u:=by
 cases r with
 | cons r1 r2=>cases r2;exact ⟨_,rfl,r1⟩
theorem vals2 {us:θ}(r:Vals [x,y] us):∃u w',us=[u,w']/\RelV x u/\RelV y w':=by
 cases r with
 | cons r1 r2=>
  cases r2 with
  | cons r3 r4=>cases r4;exact ⟨_,_,rfl,r1,r3⟩
theorem MM:mR X (.builtin "abs") (fun xs H Q=>∃i,xs=[.int i]/\Q (.int (if i<0 then -i else i)) H):=by
 intro pins s σ H xs us Q I r h;obtain ⟨i,rfl,q⟩:=h;obtain ⟨u,rfl,t,rfl⟩:=vals1 r;exact call_abs_int fun u tk=>⟨.int (if i<0 then -i else i),H,I.tok _,⟨_,rfl⟩,q⟩
theorem cG:mR X (.type "str") (fun xs H Q=>∃i,xs=[.int i]/\i.natAbs.log2<1920/\Q (.str (toString i)) H):=by
 intro pins s σ H xs us Q I r h;obtain ⟨i,rfl,hz,q⟩:=h;obtain ⟨u,rfl,t,rfl⟩:=vals1 r;exact PySem.P.str_of_int hz ⟨.str _,H,I.tok _,⟨_,rfl⟩,q⟩
end
structure Rg (h:Heap)(x dx C:abj)(mA:ζ):Prop where
 obj:h.get? x=some (ab1 C dx)
 ns:h.Ns1 dx mA
 ne:dx≠x
theorem EE {h:Heap}{mA:ζ}(n:h.Ns1 dx mA):∃od,h.get? dx=some od/\∀name,adQ name od=some (mA name):=by
 obtain ⟨o,es,ep,ho,hd,hk,_,hm⟩:=n;refine ⟨o,ho,fun name=>?_⟩;have e:=hm name;unfold nsFind findBy at e;rw [<-Array.find?_toList] at e;unfold adQ;rw [hd];dsimp only;split
 ·rename_i y q
  rw [q] at e;exact abV some e
 ·rename_i q
  rw [q] at e
  have a:es.toList.any (·.refKey)=false:=by
   rw [List.any_eq_false];intro y hy;obtain ⟨z,t,aj'⟩:=hk y (Array.mem_toList_iff.mp hy);simp [DictEntry.refKey,aj']
  have a':¬ es.toList.any (·.refKey)=true:=by rw [a];exact acZ
  rw [abp a'];exact abV some e
theorem Rg.look (I:Rg h x dx C mA):∃od,PySem.W.InstAt h x (ab1 C dx) C (some od)/\∀name,adQ name od=some (mA name):=
 let ⟨od,ho,hl⟩:=EE I.ns
 ⟨od,⟨I.obj,rfl,rfl,ho⟩,hl⟩
section
variable {prog:abJ}{w:World}{A:abM}{E:γ}{s:abw}{K:Frag}{x dx C f:abj}{mA:ζ}{name:Str}{v:Value}
theorem get_map {Q:γ}(X:K.In s.heap)(I:Rg s.heap x dx C mA)(hg:ab8 K C name=true)(hh:abR K C=true)
  (ha:abt K (.ref C) name=some none) (hv:mA name=some v) (hv':PySem.W.handedIn v=true) (h:Q v {s with toks:=s.toks+1}):
  abz (abx prog w) A (getAttr (.ref x) name expr) Q E s:=by
 obtain ⟨od,J,hl⟩:=I.look;exact PySem.W.get_value X J (PySem.W.plainGet_of hg).1 (PySem.W.findObj_own hh ha rfl (by rw [hl,hv])) hv' h
theorem Ze (X:K.In s.heap)(I:Rg s.heap x dx C mA)(hg:ab8 K C name=true)
  (hf:abt K (.ref C) name=some (some (.ref f))) (ht:adv K (.ref f)=true) (hv:mA name=none) (h:Q (.ref f,[.ref x]) s):
  abz (abx prog w) A (getMethod (.ref x) name pl) Q E s:=by
 obtain ⟨od,J,hl⟩:=I.look;exact PySem.W.method_fn X J (PySem.W.plainGet_of hg).1 (PySem.W.plainGet_of hg).2 hf (beq_iff_eq.mp ht) (by show (adQ name od).map (·.isSome)=some false;rw [hl,hv];rfl) h
theorem aeu {ns:η}{Q:Β}(X:K.In s.heap)(I:Rg s.heap x dx C mA)
  (hs:abt K (.ref C) "__setattr__"=some (some (.builtin "object.__setattr__"))) (hp:acs K C=true) (ht:PySem.W.takerIn K C name=some none) (hh:abR K C=true)
  (hw:adK mA ns) (hsz:ns.length<=abl)
  (h:∀h',Rg h' x dx C (fun y=>if y=name then some v else mA y)->adM dx s.heap h' ->Q () {s with heap:=h',toks:=s.toks+2}):
  abz (abx prog w) A (setAttr (.ref x) name v) Q E s:=by
 obtain ⟨od,J,hl⟩:=I.look;refine PySem.W.set_plain X J hs (PySem.W.osa_open (s:={s with toks:=s.toks+1}) (r:=none) X J hp ht fun b=>?_);obtain ⟨cd,hc,hd'⟩:=PySem.W.any_some hh;have hx:s.heap.get? x=some ⟨.ref C,some dx,.plain, #[]⟩:=I.obj;refine abk (abC (abk (abk (wpAny_loadPart hx (abk (PySem.W.Looks.here (s:={s with toks:=s.toks+1}) (PySem.W.looks_clsIn X hc) ?_))))));rw [hd'];refine abC (a:=some dx) (abk (abC (abk ?_)));refine wpAny_nsSet1 (s:={s with toks:=s.toks+1}) I.ns fun h' QH Yq=>?_;obtain ⟨oD,esD,epD,hoD,hdD,hcD⟩:=QH.count (PySem.Within.cons name v hw);refine abk (wpAny_lookBehind hoD (by rw [hdD];exact pastItsLine_dict (aah hcD (by rw [ac5];omega))) ?_);exact abC (h _ ⟨(Yq.2 _ (ac2 I.ne)).trans I.obj,QH,I.ne⟩ Yq)
theorem Zf {R:Ζ}{vs:θ}{kw:Μ}(X:K.In s.heap)(hm:acb K C=true)
  (hi:abt K (.ref C) "__init__"=some (some (.ref f))) (hf:PySem.W.typeIn K (.ref f)=some (.type "function"))
  (h:acx (abx prog w) (A.under (.builtin "type.__call__" ⟨.ref C::vs,kw⟩)) (.call (.ref f) ⟨.ref (s.heap.objs.size+1)::vs,kw⟩) (PySem.W.InitBack (s.heap.objs.size+1) R)
   {s with heap:=(s.heap.push abY).push (ab1 C s.heap.objs.size)}):
  acx (abx prog w) A (.call (.ref C) ⟨vs,kw⟩) R s:=by
 obtain ⟨hh,g,d,t,os⟩:=s;exact PySem.W.make_core (PySem.W.makes_of X hm) (PySem.W.looks_findIn X hi) (fun self=>PySem.W.bind_fn X self hf) (.inl rfl) h
theorem VH {R:Ζ}(X:K.In s.heap)(hm:acb K C=true)
  (hi:abt K (.ref C) "__init__"=some (some (.builtin "object.__init__")))
  (hb:∀self,adG (abx prog w) s.heap (bindSpecial (.builtin "object.__init__") self) (.builtin "object.__init__",[self]))
  (h:acx (abx prog w) (A.under (.builtin "type.__call__" ⟨[.ref C],[]⟩)) (.call (.builtin "object.__init__") ⟨[.ref (s.heap.objs.size+1)],[]⟩) (PySem.W.InitBack (s.heap.objs.size+1) R)
   {s with heap:=(s.heap.push abY).push (ab1 C s.heap.objs.size)}):
  acx (abx prog w) A (.call (.ref C) ⟨[],[]⟩) R s:=by
 obtain ⟨hh,g,d,t,os⟩:=s;exact PySem.W.make_core (PySem.W.makes_of X hm) (PySem.W.looks_findIn X hi) hb (.inr ⟨rfl,rfl⟩) h
end
def dH (f:Str)(v:V):List (Str×V)->List (Str×V)
 | []=>[(f,v)]
 | (g,x)::r=>if g=f then (g,v)::r else (g,x)::dH f v r
theorem nM (f g:Str)(v:V):∀fs:List (Str×V),(dH f v fs).lookup g=if g=f then some v else fs.lookup g
 | []=>by
  show ac6 g [(f,v)]=_;by_cases h:g=f
  ·have hb:(g==f)=true:=beq_iff_eq.mpr h
   simp only [ac6,hb,abv h]
  ·have hb:(g==f)=false:=beq_eq_false_iff_ne.mpr h
   simp only [ac6,hb,abp h]
 | (k,x)::r=>by
  have ih:=nM f g v r;rw [show dH f v ((k,x)::r)=(if k=f then (k,v)::r else (k,x)::dH f v r) from rfl];by_cases hk:k=f
  ·rw [abv hk]
   by_cases h:g=k
   ·have hb:(g==k)=true:=beq_iff_eq.mpr h
    simp only [ac6,hb,abv (h.trans hk)]
   ·have hb:(g==k)=false:=beq_eq_false_iff_ne.mpr h
    simp only [ac6,hb,abp (fun e:g=f=>h (e.trans hk.symm))]
  ·rw [abp hk]
   by_cases h:g=k
   ·have hb:(g==k)=true:=beq_iff_eq.mpr h
    simp only [ac6,hb,abp (fun e:g=f=>hk (h.symm.trans e))]
   ·have hb:(g==k)=false:=beq_eq_false_iff_ne.mpr h
    simp only [ac6,hb];exact ih
theorem uH (f:Str)(v:V):∀fs:List (Str×V),f∈(dH f v fs).map (·.1)/\∀g,g∈fs.map (·.1)->g∈(dH f v fs).map (·.1)
 | []=>⟨by simp [dH],fun g h=>by simp at h⟩
 | (k,x)::r=>by
  obtain ⟨i1,i2⟩:=uH f v r;rw [show dH f v ((k,x)::r)=(if k=f then (k,v)::r else (k,x)::dH f v r) from rfl];by_cases hk:k=f
  ·rw [abv hk]
   subst hk;exact ⟨by simp,fun g h=>by simpa using h⟩
  ·rw [abp hk]
   refine ⟨?_,fun g h=>?_⟩
   ·rw [ada]
    exact aa2 _ i1
   ·rw [ada] at h ⊢
    rcases aa3.mp h with e|e
    ·exact aa3.mpr (.inl e)
    ·exact aa2 _ (i2 g e)
theorem vI (f:Str)(v:V):∀fs:List (Str×V),(dH f v fs).length<=fs.length+1
 | []=>by simp [dH]
 | (k,x)::r=>by
  have ih:=vI f v r;rw [show dH f v ((k,x)::r)=(if k=f then (k,v)::r else (k,x)::dH f v r) from rfl];by_cases hk:k=f
  ·rw [abv hk,ac5,ac5];omega
  ·rw [abp hk,ac5,ac5];omega
theorem kg.some_of {o:Κ}(r:kg (some v) o):∃u,o=some u/\RelV v u:=by
 cases o with
 | none=>exact (show False from r).elim
 | some u=>exact ⟨u,rfl,r⟩
theorem kg.none_of {o:Κ}(r:kg none o):o=none:=by
 cases o with
 | none=>rfl
 | some u=>exact (show False from r).elim
theorem EF (r:RelV v u):PySem.W.handedIn u=true:=by
 cases v with
 | bG=>cases (show u=Value.none from r);rfl
 | bl b=>cases (show u=Value.bool b from r);rfl
 | int i=>obtain ⟨t,e⟩:=(show ∃t,u=Value.int i t from r);cases e;rfl
 | str x=>obtain ⟨t,e⟩:=(show ∃t,u=Value.str x t from r);cases e;rfl
 | byt b=>obtain ⟨t,e⟩:=(show ∃t,u=Value.bytes b t from r);cases e;rfl
 | flt b=>obtain ⟨t,e⟩:=(show ∃t,u=Value.float b t from r);cases e;rfl
 | ref a=>cases (show u=Value.ref a from r);rfl
 | ty n=>cases (show u=Value.type n from r);rfl
section
variable {P:abJ}{w:World}{H H':Hp}{h h':Heap}{a C dx:abj}{fs Uo :Η}
theorem xc (cg:mh P w H h)(e:H a=some (.ins C dx fs)):∃mA,Rg h a dx C mA/\(∀f,kg (fs.lookup f) (mA f))/\adK mA (fs.map (·.1))/\fs.length<=1000/\H dx=some (.own a):=by
 obtain ⟨d,z,ne,ob,mA,n,r,q⟩:=(show bX P w H h a (.ins C dx fs) from cg a _ e);exact ⟨mA,⟨ob,n,ne⟩,r,q,z,d⟩
end
structure xQ (K:Frag)(C:abj):Prop where
 pg:ab8 K C ab4=true
 hd:abR K C=true
 po:acs K C=true
 sa:abt K (.ref C) "__setattr__"=some (some (.builtin "object.__setattr__"))
theorem xQ.get {K:Frag}(c:xQ K C)(f:Str):ab8 K C f=true:=c.pg
def dQ (K:Frag)(C:abj)(f:Str):Prop:=abt K (.ref C) f=some none
theorem dQ.aot {K:Frag}(n:dQ K C f):PySem.W.takerIn K C f=some none:=by
 unfold PySem.W.takerIn;rw [show abt K (.ref C) f=some none from n];rfl
structure Meth (K:Frag)(C:abj)(m:Str)(f:abj):Prop where
 at_:abt K (.ref C) m=some (some (.ref f))
 fn:adv K (.ref f)=true
 kp:keepIn K (.ref f)=true
section
variable {X:Cx}{pins:δ}{σ:St}{H:Hp}{s:abw}{a C dx:abj}{fs:Η}{f:Str}{v:V}{A:abM}{E:γ}
theorem xR {Q:γ}(I:Inv X pins σ H s)(e:H a=some (.ins C dx fs))(c:xQ X.K C)(n:dQ X.K C f)(l:fs.lookup f=some v)
  (h:∀u s',Inv X pins σ H s' ->RelV v u->Q u s'):abz (abx X.prog X.w) A (getAttr (.ref a) f b) Q E s:=by
 obtain ⟨mA,O,r,_,_,_⟩:=xc I.cg e;obtain ⟨u,hu,ru⟩:=kg.some_of (v:=v) (o:=mA f) (by rw [<-l];exact r f);exact get_map I.j' O (c.get f) c.hd n hu (EF ru) (h u _ (I.tok _) ru)
theorem xS (I:Inv X pins σ H s)(e:H a=some (.ins C dx fs))(c:xQ X.K C)(k:Meth X.K C m g)(l:fs.lookup m=none)
  (h:Q (.ref g,[.ref a]) s):abz (abx X.prog X.w) A (getMethod (.ref a) m pl) Q E s:=by
 obtain ⟨mA,O,r,_,_,_⟩:=xc I.cg e;have hn:mA m=none:=kg.none_of (by rw [<-l];exact r m);exact Ze I.j' O (c.get m) k.at_ k.fn hn h
theorem xT {Q:Β}(I:Inv X pins σ H s)(e:H a=some (.ins C dx fs))(c:xQ X.K C)(n:dQ X.K C f)(hl:fs.length<1000)(ry:RelV y u)
  (h:∀s',Inv X pins σ (upd H a (.ins C dx (dH f y fs))) s' ->Q () s'):abz (abx X.prog X.w) A (setAttr (.ref a) f u) Q E s:=by
 obtain ⟨mA,O,r,wi,_,ho⟩:=xc I.cg e;have hz:(fs.map (·.1)).length<=abl:=by rw [ir,adT];omega
 refine aeu I.j' O c.sa c.po n.aot c.hd wi hz fun h' O' sb=>h _ ?_;have hd:∃o,h'.get? dx=some o:=let ⟨o,_,_,e',_⟩:=O'.ns;⟨o,e'⟩;refine I.write (x:=a) (e:=dx) (by rw [e];exact True.intro) (.inr ho) (fun b q hb z=>(sb.2 b hb).trans z) hd ?_;refine ⟨by rw [ah O.ne];exact ho,?_,O.ne,O'.obj,_,O'.ns,fun g=>?_,fun g hg=>?_⟩
 ·have:=vI f y fs;omega
 ·show kg ((dH f y fs).lookup g) (if g=f then some u else mA g)
  rw [nM];by_cases q:g=f
  ·rw [abv q,abv q];exact ry
  ·rw [abp q,abp q];exact r g
 ·by_cases q:g=f
  ·rw [q];exact (uH f y fs).1
  ·refine (uH f y fs).2 g (wi g fun z=>hg ?_)
   show (if g=f then some u else mA g)=none;rw [abp q];exact z
theorem Inv.made (I:Inv X pins σ H s):Inv X pins σ (upd (upd H s.heap.objs.size (.own (s.heap.objs.size+1))) (s.heap.objs.size+1) (.ins C s.heap.objs.size []))
  {s with heap:=(s.heap.push abY).push (ab1 C s.heap.objs.size)}:=by
 have e1:(s.heap.push abY).get? s.heap.objs.size=some abY:=abI s.heap rfl
 have e2:((s.heap.push abY).push (ab1 C s.heap.objs.size)).get? (s.heap.objs.size+1)=some (ab1 C s.heap.objs.size):=by
  have:=abI (s.heap.push abY) (o:=ab1 C s.heap.objs.size) rfl
  rwa [ady] at this
 have e3:(s.heap.push abY).Ns s.heap.objs.size (fun _=>none):=⟨abY, #[],_,e1,rfl,(fun e he=>abo he (by simp)),fun _=>rfl⟩;have I1:=I.laid (a:=s.heap.objs.size) (o:=.own (s.heap.objs.size+1)) (h':=s.heap.push abY) (t':=s.toks) (fun b u q=>abr _ q) (aaM _) ⟨_,e1⟩;refine I1.laid (a:=s.heap.objs.size+1) (o:=.ins C s.heap.objs.size []) (t':=s.toks) (fun b u q=>abr _ q) (amZ (ady _ _)) ?_;have ne:s.heap.objs.size≠s.heap.objs.size+1:=ac9 (alN _);refine ⟨by rw [ah ne,ai],aer _,ne,e2,fun _=>none,(Heap.Ns1.of_empty e3).at fun o q=>abr _ q,fun _=>True.intro,fun y hy=>abo rfl hy⟩
theorem Uv {Q:γ}(hb:ads e f env (abU e env)=abU e env)
  (h:abz (abx prog w) A (abU e env) (fun o s₁=>abz (abx prog w) A (getAttr o f true) Q E s₁) E s):abz (abx prog w) A (abU (.Attribute e f pos) env) Q E s:=
 Attribute_any_ h (by rw [arm_eval_Attribute,hb])
end
inductive ag5 (K:Frag)(f:Str)(Q:VK)(x:V)(H1:Hp):Prop
|mk (a C dx fs v:_)(_:x=.ref a)(_:H1 a=some (.ins C dx fs))(_:xQ K C)(_:dQ K C f)(_:fs.lookup f=some v)(_:Q v H1)
def awP (K:Frag)(ta:TE)(f:Str):TE:=fun σ H Q=>ta σ H fun x H1=>ag5 K f Q x H1
inductive ag6 (K:Frag)(f:Str)(D:Ends)(σ:St)(y:V)(x:V)(H2:Hp):Prop
|mk (a C dx fs:_)(_:x=.ref a)(_:H2 a=some (.ins C dx fs))(_:xQ K C)(_:dQ K C f)(_:fs.length<1000)(_:D.nx σ (upd H2 a (.ins C dx (dH f y fs))))
def awQ (K:Frag)(ta tv:TE)(f:Str):TS:=fun D σ H=>tv σ H fun y H1=>ta σ H1 fun x H2=>ag6 K f D σ y x H2
def aou (X:Cx)(op:Operator)(rd:V->V->Hp->VK->Prop):Prop:=
 ∀(pins:δ)(s:abw)(σ:St)(H:Hp)(x y:V)(u v:Value)(Q:VK),Inv X pins σ H s->RelV x u->RelV y v->rd x y H Q->abz (abx X.prog X.w) X.A (inplaceOp op u v) (EP X pins σ Q) X.xe s
inductive MQ (K:Frag)(tv:TE)(rd:V->V->Hp->VK->Prop)(f:Str)(D:Ends)(σ:St)(x:V)(H1:Hp):Prop
|mk (a C dx fs v:_)(_:x=.ref a)(_:H1 a=some (.ins C dx fs))(_:xQ K C)(_:dQ K C f)(_:fs.lookup f=some v)(_:tv σ H1 fun y H2=>rd v y H2 fun z H3=>∃dx' Uo,H3 a=some (.ins C dx' Uo)/\Uo.length<1000/\D.nx σ (upd H3 a (.ins C dx' (dH f z Uo))))
def aev (K:Frag)(ta tv:TE)(rd:V->V->Hp->VK->Prop)(f:Str):TS:=fun D σ H=>ta σ H fun x H1=>MQ K tv rd f D σ x H1
section
variable {X:Cx}{o e value:Expr}{f:Str}{pos pos' MR:Pos}{ta tv:TE}
theorem bo (he:PE X e ta)(hb:ads e f X.env (abU e X.env)=abU e X.env):PE X (.Attribute e f pos) (awP X.K ta f):=by
 intro pins s σ H Q I h;refine Uv hb (du (he pins s σ H _ I h) fun u s1 ⟨x,H1,I1,rx,a,C,dx,fs,v,ex,ea,c,n,l,q⟩=>?_);subst ex;obtain rfl:u=Value.ref a:=rx;exact xR I1 ea c n l fun u' s2 I2 ru=>⟨v,H1,I2,ru,q⟩
theorem gM (ha:PE X o ta)(hv:PE X value tv)(hs:acM value (some (.Attribute o f pos')) pos.line X.env=pure false):PS X (.Assign [.Attribute o f pos'] value pos) (awQ X.K ta tv f):=by
 intro pins s σ H D I h;refine plainObj_wpAny_Assign_Attribute (du (hv pins s σ H _ I h) fun u s1 ⟨y,H1,I1,ry,q⟩=>du (ha pins s1 σ H1 _ I1 q) fun ov s2 ⟨x,H2,I2,rx,a,C,dx,fs,ex,ea,c,n,l,q2⟩=>?_) hs;subst ex;obtain rfl:ov=Value.ref a:=rx;exact xT I2 ea c n l ry fun s3 I3=>⟨σ,_,I3,q2⟩
theorem VI (ha:PE X o ta)(hv:PE X value tv)(hop:aou X op rd):PS X (.AugAssign (.Attribute o f MR) op value pos) (aev X.K ta tv rd f):=by
 intro pins s σ H D I h;refine wpAny_AugAssign_AttributeAny (du (ha pins s σ H _ I h) fun ov s1 ⟨x,H1,I1,rx,a,C,dx,fs,v,ex,ea,c,n,l,q⟩=>?_);subst ex;obtain rfl:ov=Value.ref a:=rx;refine xR I1 ea c n l fun u s2 I2 ru=>du (hv pins s2 σ H1 _ I2 q) fun w3 s3 ⟨y,H2,I3,ry,q3⟩=>du (hop pins s3 σ H2 v y u w3 _ I3 ru ry q3) fun w4 s4 ⟨z,H3,I4,rz,dx',Uo,ea',l',q4⟩=>?_;exact xT I4 ea' c n l' rz fun s5 I5=>⟨σ,_,I5,q4⟩
def awT:V->V->Hp->VK->Prop:=fun x y H Q=>∃i j,x=.int i/\y=.int j/\Q (.int (i+j)) H
theorem aka:aou X .Add awT:=by
 rintro pins s σ H x y u v Q I rx ry ⟨i,j,rfl,rfl,q⟩;obtain ⟨t,rfl⟩:=(show ∃t,u=Value.int i t from rx);obtain ⟨t',rfl⟩:=(show ∃t',v=Value.int j t' from ry);exact PyProof.Rows.iadd_int ⟨.int (i+j),H,I.tok _,⟨_,rfl⟩,q⟩
end
section
variable {X:Cx}{pins:δ}{σ:St}{H:Hp}{s:abw}{A:abM}{E:γ}{Q:γ}{c:Value}{b:Bool}
inductive rZ (K:Frag)(H:Hp):V->Value->Prop where
 | bG:rZ K H .bG (.type "NoneType")
 | bl (x:Bool):rZ K H (.bl x) (.type "bool")
 | int (i:Int):rZ K H (.int i) (.type "int")
 | str (x:Str):rZ K H (.str x) (.type "str")
 | flt (x:UInt64):rZ K H (.flt x) (.type "float")
 | lst {a:abj} {xs:ε} (e:H a=some (.lst xs)):rZ K H (.ref a) (.type "list")
 | iT {a:abj} {o:Obj} {xs:ε} (e:H a=some (.iT o (.lst xs))):rZ K H (.ref a) (.type "list")
 | tup {a:abj} {xs:ε} (e:H a=some (.tup xs)):rZ K H (.ref a) (.type "tuple")
 | dK {a:abj} {kvs:ι} (e:H a=some (.dK kvs)):rZ K H (.ref a) (.type "dict")
 | dT {a:abj} {kvs:Ε} (e:H a=some (.dT kvs)):rZ K H (.ref a) (.type "dict")
 | ins {a C dx:abj} {fs:Η} (e:H a=some (.ins C dx fs)) (cl:xQ K C) (ha:abt K (.ref C) "__class__"=some (some (.builtin "object.__class__")))
   (hn:PySem.W.specialIn K (.builtin "object.__class__") "__get__"=some (some (.builtin "getset_descriptor.__get__"))) (htk:PySem.W.takesIn K (.builtin "object.__class__")=some true)
   (hm:abL K C (.type "object")=some true):rZ K H (.ref a) (.ref C)
theorem VJ (I:Inv X pins σ H s)(rx:RelV x u)(ty:rZ X.K H x t)(e:abZ X.K t c=some b)(h:∀tk,Q (.bool b) {s with toks:=tk}):
  abz (abx X.prog X.w) A (call (.builtin "isinstance") [u,c]) Q E s:=by
 cases ty with
 | bG=>cases (show u=Value.none from rx);exact acj PySem.W.kitx_none I.j' True.intro e (fun z=>nomatch z) h
 | bl y=>cases (show u=Value.bool y from rx);exact acj PySem.W.kitx_bool I.j' True.intro e (fun z=>nomatch z) h
 | int i=>obtain ⟨t,q⟩:=(show ∃t,u=Value.int i t from rx);cases q;exact acj PySem.W.kitx_int I.j' True.intro e (fun z=>nomatch z) h
 | str y=>obtain ⟨t,q⟩:=(show ∃t,u=Value.str y t from rx);cases q;exact acj PySem.W.kitx_str I.j' True.intro e (fun z=>nomatch z) h
 | flt y=>obtain ⟨t,q⟩:=(show ∃t,u=Value.float y t from rx);cases q;exact acj PySem.W.kitx_float I.j' True.intro e (fun z=>nomatch z) h
 | @lst a xs ea=>
  cases (show u=Value.ref a from rx);obtain ⟨_,_,n,_,h1⟩:=(show bX X.prog X.w H s.heap a (.lst xs) from I.cg a _ ea);exact acj PySem.W.kitx_list I.j' ⟨_,h1,rfl⟩ e (fun z=>nomatch z) h
 | @iT a ob xs ea=>
  cases (show u=Value.ref a from rx);obtain ⟨_,_,_,n,_,h1⟩:=(show bX X.prog X.w H s.heap a (.iT ob (.lst xs)) from I.cg a _ ea);exact acj PySem.W.kitx_list I.j' ⟨_,h1,rfl⟩ e (fun z=>nomatch z) h
 | @tup a xs ea=>
  cases (show u=Value.ref a from rx);obtain ⟨_,_,_,p⟩:=(show bX X.prog X.w H s.heap a (.tup xs) from I.cg a _ ea);obtain ⟨o,h1,h2,_⟩:=p;exact acj PySem.W.kitx_tuple I.j' ⟨o,h1,h2⟩ e (fun z=>nomatch z) h
 | @dK a kvs ea=>
  cases (show u=Value.ref a from rx);obtain ⟨_,_,vs,_,p⟩:=(show bX X.prog X.w H s.heap a (.dK kvs) from I.cg a _ ea);obtain ⟨o,es,ep,h1,h2,_⟩:=p;exact acj PySem.W.kitx_dict I.j' ⟨o,h1,h2.1⟩ e (fun z=>nomatch z) h
 | @dT a kvs ea=>
  cases (show u=Value.ref a from rx);obtain ⟨_,_,xs,_,o,es,ep,h1,h2,_⟩:=(show bX X.prog X.w H s.heap a (.dT kvs) from I.cg a _ ea);exact acj PySem.W.kitx_dict I.j' ⟨o,h1,h2.1⟩ e (fun z=>nomatch z) h
 | @ins a C dx fs ea cl ha hn htk hm=>
  cases (show u=Value.ref a from rx);obtain ⟨mA,O,_⟩:=xc I.cg ea;obtain ⟨od,J,_⟩:=O.look;exact acj (PySem.W.kitx_own (cl.get _) cl.hd ha hn htk hm) I.j' J e (fun z=>nomatch z) h
end
structure cV (k:Nat)(A:abM):Prop where
 hd:A.handled=none
 dp:A.depth+3*k+5<adR
 un:A.units+16*k+200<adj
theorem cV.mono (r:cV k A)(h:j<=k):cV j A:=⟨r.hd,by have:=r.dp;omega,by have:=r.un;omega⟩
theorem cV.deeper (r:cV (k+1) A)(env:Env):cV k (A.deeper env):=
 ⟨r.hd,by have:=r.dp;show A.depth+1+3*k+5<_;omega,by have:=r.un;show A.units+3+16*k+200<_;omega⟩
theorem Rh {A:abM}{us:θ}{kw:Μ}:(A.under (.builtin "type.__call__" ⟨.ref C::us,kw⟩)).depth=A.depth+1:=by
 first|rfl|simp [Around.under,Code.weight,Code.isCreation,Code.isGuard,Code.isCaller,Code.frames,Code.isFrame,guardIds]
theorem Ri {A:abM}{us:θ}{kw:Μ}:(A.under (.builtin "type.__call__" ⟨.ref C::us,kw⟩)).units=A.units+1:=by
 first|rfl|simp [Around.under,Code.cUnits,Code.frames,Code.isFrame]
theorem cV.make (r:cV (k+1) A)(C:abj)(us:θ)(kw:Μ):cV k (A.under (.builtin "type.__call__" ⟨.ref C::us,kw⟩)):=
 ⟨r.hd,by have:=r.dp;rw [Rh];omega,by have:=r.un;rw [Ri];omega⟩
theorem cV.depth (r:cV k A):A.depth<adR:=by have:=r.dp;omega
theorem cV.units (r:cV k A):A.units+64<adj:=by have:=r.un;omega
def Rj:TA:=fun _ H Q=>Q [] H
def vJ (ta:TE)(tr:TA):TA:=fun σ H Q=>ta σ H fun x H1=>tr σ H1 fun xs H2=>Q (x::xs) H2
section
variable {X:Cx}{e:Expr}{es:π}{te:TE}{t:TA}{pos:Pos}
theorem h_:PA X [] Rj:=fun _ _ _ _ H Q I h=>Calls.spliced_nil ⟨[],H,I,.nil,h⟩
theorem aew (ha:PE X e te)(hr:PA X es t)(hs:abF (e::es) X.env=(false,abU e X.env)::abF es X.env:=by rfl):PA X (e::es) (vJ te t):=by
 intro pos pins s σ H Q I h;rw [hs];show abz _ _ (spliced ((false,abU e X.env)::acu pos (abF es X.env))) _ _ s;refine Calls.spliced_cons (du (ha pins s σ H _ I h) fun u s1 ⟨x,H1,I1,r1,q1⟩=>?_);exact du (hr pos pins s1 σ H1 _ I1 q1) fun us s2 ⟨xs,H2,I2,r2,q2⟩=>⟨x::xs,H2,I2,.cons r1 r2,q2⟩
def awU (t:TA):TE:=fun σ H Q=>t σ H fun xs H1=>xs.length<=abl/\∀p,H1 p=none->Q (.ref p) (upd H1 p (.tup xs))
def awV (t:TA):TE:=fun σ H Q=>t σ H fun xs H1=>xs.length<=abl/\∀p,H1 p=none->Q (.ref p) (upd H1 p (.lst xs))
theorem aX (h:PA X es t):PE X (.Tuple es x1 pos) (awU t):=by
 intro pins s σ H Q I hq;refine wpAny_Tuple_spliced (du (h pos pins s σ H _ I hq) fun us s1 ⟨xs,H1,I1,r,z,q⟩=>⟨by rw [<-r.length];exact z,?_⟩);have hf:H1 s1.heap.objs.size=none:=I1.cg.fresh (aaM _);refine ⟨.ref s1.heap.objs.size,upd H1 s1.heap.objs.size (.tup xs),I1.laid (t':=s1.toks) (fun b u e=>abr _ e) (aaM _) ?_,rfl,q _ hf⟩;exact ⟨z,us,r,⟨_,abI _ rfl,rfl,_,rfl⟩⟩
theorem bY (h:PA X es t):PE X (.List es pos) (awV t):=by
 intro pins s σ H Q I hq;refine wpAny_List_spliced (du (h pos pins s σ H _ I hq) fun us s1 ⟨xs,H1,I1,r,z,q⟩=>⟨by rw [<-r.length];exact z,?_⟩);have hf:H1 s1.heap.objs.size=none:=I1.cg.fresh (aaM _);refine ⟨.ref s1.heap.objs.size,upd H1 s1.heap.objs.size (.lst xs),I1.laid (t':=s1.toks) (fun b u e=>abr _ e) (aaM _) ?_,rfl,q _ hf⟩;exact ⟨z,us,0,r,abI _ rfl⟩
end
abbrev Sp:=List V->Hp->VK->XK->Prop
abbrev uI:=List Env->Hp->abw->XK->Value->abw->Prop
structure Rk (P:abJ)(w:World)(K:Frag)(mg:ζ)(base:Heap)(A:abM)(outer:List Env)(s:abw)(H:Hp):Prop where
 frames:A.frames=some outer
 mod:Mod K mg base
 bs:∀b o,base.get? b=some o->s.heap.get? b=some o/\H b=none
 bsz:base.objs.size<=s.heap.objs.size
 uB:s.heap.FunFrames base outer
 frf:∀b∈nH outer,H b=none
 cg:mh P w H s.heap
 bare:adk s.gens
def CE (outer:List Env)(P:abJ)(w:World)(H:Hp)(s:abw)(Q:VK)(u:Value)(s':abw):Prop:=
 ∃v H',s'.os=s.os/\adk s'.gens/\Un (nH outer) [] H H' s.heap s'.heap/\mh P w H' s'.heap/\RelV v u/\Q v H'
def CR (CX:uI)(outer:List Env)(P:abJ)(w:World)(H:Hp)(s:abw)(Q:VK)(E:XK)(r:Result)(s':abw):Prop:=
 match r with
 | .ok (.ret u)=>CE outer P w H s Q u s'
 | .ok _=>False
 | .error e=>CX outer H s E e s'
structure bT (P:abJ)(w:World)(K:Frag)(mg:ζ)(base:Heap)(CX:uI)(k:Nat)(f:abj)(fd:FuncData)(ps:η)(sp:Sp):Prop where
 len:∀vs H Q E,sp vs H Q E->vs.length=ps.length
 run:∀(A:abM)(outer:List Env)(s:abw)(H:Hp)(args:Args)(us:θ)(vs:ε)(Q:VK)(E:XK),cV k A->Rk P w K mg base A outer s H->BindsTo s fd args (ps.zip us)->Vals vs us->sp vs H Q E->
  acx (abx P w) A (.call (.ref f) args) (CR CX outer P w H s Q E) s
theorem bT.mono {K:Frag}(F:bT P w K mg base CX j f fd ps sp)(h:j<=k):
  bT P w K mg base CX k f fd ps sp:=⟨F.len,fun A outer s H args us vs Q E hr=>F.run A outer s H args us vs Q E (hr.mono h)⟩
theorem bT.imp {K:Frag}(F:bT P w K mg base CX k f fd ps sp)
  (h:∀vs H Q E,sp' vs H Q E->sp vs H Q E):bT P w K mg base CX k f fd ps sp':=
 ⟨fun vs H Q E q=>F.len vs H Q E (h _ _ _ _ q),fun A outer s H args us vs Q E hr he hb hv hs=>F.run A outer s H args us vs Q E hr he hb hv (h _ _ _ _ hs)⟩
theorem Rk.make {K:Frag}(e:Rk P w K mg base A outer s H)(C:abj)(us:θ)(kw:Μ):
  Rk P w K mg base (A.under (.builtin "type.__call__" ⟨.ref C::us,kw⟩)) outer s H:=⟨by first|exact e.frames|(simpa [Around.under,Code.envs,Code.isFrame,pushEnvs] using e.frames),e.mod,e.bs,e.bsz,e.uB,e.frf,e.cg,e.bare⟩
section
variable {X:Cx}{pins:δ}{σ:St}{H:Hp}{s s':abw}
theorem Inv.aex (I:Inv X pins σ H s):Rk X.prog X.w X.K X.mg X.base X.A X.stack s H:=
 ⟨I.ok.frames,I.ok.mod,I.bs,aah I.ok.bsz I.sz,I.stack,I.rX,I.cg,I.bare⟩
theorem Inv.after (I:Inv X pins σ H s)(h:CE X.stack X.prog X.w H s Q u s'):EP X pins σ Q u s':=by
 obtain ⟨v,H',os,bare,un,cg,r,q⟩:=h;obtain ⟨hh,g,d,t,os'⟩:=s';obtain rfl:os'=s.os:=os;exact ⟨v,H',I.call (h':=hh) (g':=g) (d':=d) (t':=t) (ch:=[]) un cg bare (fun b z=>abo z (by simp)),r,q⟩
end
def Uw (sp:Sp)(dvs:ε)(E:XK)(t:TA):TE:=fun σ H Q=>t σ H fun vs H1=>sp (vs++dvs) H1 Q E
def ag7 (C:abj)(sp:Sp)(dvs:ε)(E:XK)(t:TA):TE:=fun σ H Q=>t σ H fun vs H1=>∀x dx,H1 x=none->H1 dx=none->dx≠x->
 sp (.ref x::(vs++dvs)) (upd (upd H1 dx (.own x)) x (.ins C dx [])) (fun v H2=>v=.bG/\Q (.ref x) H2) E
def Binds (K:Frag)(fd:FuncData)(ps:η)(ds:θ):Prop:=
 ∀(s:abw)(us:θ),K.In s.heap->(us++ds).length=ps.length->BindsTo s fd ⟨us,[]⟩ (ps.zip (us++ds))
theorem Binds.all {K:Frag}(h:∀us:List Value,us.length=ps.length->bindArgs fd ⟨us,[]⟩=pure (ps.zip us)):Binds K fd ps []:=fun s us _ hl=>by
 rw [aeL] at hl ⊢;exact .of_eq (h us hl)
def Passes (CX:uI)(X:Cx)(E:XK):Prop:=∀(pins:δ)(σ:St)(H:Hp)(s:abw)(e:Value)(s':abw),Inv X pins σ H s->CX X.stack H s E e s' ->X.xe e s'
section
variable {X:Cx}{CX:uI}{k:Nat}{f C:abj}{fd:FuncData}{ps:η}{sp:Sp}{dvs:ε}{ds:θ}{E:XK}{x m:Str}{p pos apos:Pos}{e o:Expr}{es:π}{ta:TE}{t:TA}
theorem Rm {σ:St}{us:θ}{vs:ε}(F:bT X.prog X.w X.K X.mg X.base CX k f fd ps sp)(hr:cV k X.A)(hb:Binds X.K fd ps ds)(hd:Vals dvs ds)(hx:Passes CX X E)
  (I:Inv X pins σ H s) (r:Vals vs us) (h:sp (vs++dvs) H Q E):abz (abx X.prog X.w) X.A (call (.ref f) us) (EP X pins σ Q) X.xe s:=by
 have r2:Vals (vs++dvs) (us++ds):=r.append hd;have hl:(us++ds).length=ps.length:=by rw [<-r2.length];exact F.len _ _ _ _ h
 refine ado (adl (F.run X.A X.stack s H ⟨us,[]⟩ (us++ds) (vs++dvs) Q E hr I.aex (hb s us I.j' hl) r2 h) fun r s' hq=>?_);cases r with
 | error e=>exact hx pins σ H s e s' I hq
 | ok fl=>
  cases fl with
  | ret u=>exact I.after hq
  | next=>exact False.elim hq
  | brk=>exact False.elim hq
  | cont=>exact False.elim hq
theorem aey (F:bT X.prog X.w X.K X.mg X.base CX k f fd ps sp)(hr:cV k X.A)(hg:Gl X x)(hm:X.mg x=some (.ref f))(hk:keepIn X.K (.ref f)=true)(hb:Binds X.K fd ps ds)(hd:Vals dvs ds)(hx:Passes CX X E)
  (ha:PA X (e::es) t) (AU:(x==("__debug__":Str))=false:=by decide) (he:abF (e::es) X.env=(false,abU e X.env)::abF es X.env:=by rfl) (EG:(acu pos (abF es X.env)).any (·.1)=false:=by rfl):
  PE X (.Call (.Name x p) (e::es) [] pos) (Uw sp dvs E t):=by
 intro pins s σ H Q I h;refine acv (iU I hg hm ?_ AU);refine acT (h₀:=X.base) I.ok.mod.kin hk (du (ha pos pins s σ H _ I h) fun us s1 ⟨vs,H1,I1,r,q⟩=>⟨I1.j',?_⟩) he EG;exact Rm F hr hb hd hx I1 r q
structure Mk (K:Frag)(C f:abj):Prop where
 makes:acb K C=true
 init:abt K (.ref C) "__init__"=some (some (.ref f))
 fn:adv K (.ref f)=true
 kp:keepIn K (.ref C)=true
theorem MT {σ:St}{us:θ}{vs:ε}(M:Mk X.K C f)(F:bT X.prog X.w X.K X.mg X.base CX k f fd ps sp)(hr:cV (k+1) X.A)(hb:Binds X.K fd ps ds)(hd:Vals dvs ds)
  (hx:Passes CX X E) (I:Inv X pins σ H s) (r:Vals vs us)
  (h:∀x dx,H x=none->H dx=none->dx≠x->sp (.ref x::(vs++dvs)) (upd (upd H dx (.own x)) x (.ins C dx [])) (fun v H2=>v=.bG/\Q (.ref x) H2) E):
  abz (abx X.prog X.w) X.A (call (.ref C) us) (EP X pins σ Q) X.xe s:=by
 have hq:=h (s.heap.objs.size+1) s.heap.objs.size (I.cg.fresh (ahf _)) (I.cg.fresh (aaM _)) (ac9 (alN _));have I2:=Inv.made (C:=C) I;have r2:Vals (V.ref (s.heap.objs.size+1)::(vs++dvs)) (Value.ref (s.heap.objs.size+1)::(us++ds)):=.cons rfl (r.append hd)
 have hl:(Value.ref (s.heap.objs.size+1)::us++ds).length=ps.length:=by
  have e:=r2.length;rw [F.len _ _ _ _ hq] at e;exact e.symm
 refine ado (Zf (f:=f) I.j' M.makes M.init (beq_iff_eq.mp M.fn) (adl (F.run _ X.stack _ _ ⟨Value.ref (s.heap.objs.size+1)::us,[]⟩ (Value.ref (s.heap.objs.size+1)::(us++ds)) _ _ E (hr.make C us [])
  (I2.aex.make C us []) (hb _ (Value.ref (s.heap.objs.size+1)::us) I2.j' hl) r2 hq) fun r s' Rn =>?_))
 cases r with
 | error e=>exact hx pins σ _ _ e s' I2 Rn
 | ok fl=>
  cases fl with
  | ret u=>
   obtain ⟨v,H',I3,rv,ev,q3⟩:=I2.after Rn;subst ev;exact ⟨rv,⟨V.ref (s.heap.objs.size+1),H',I3,rfl,q3⟩⟩
  | next=>exact False.elim Rn
  | brk=>exact False.elim Rn
  | cont=>exact False.elim Rn
theorem GH (M:Mk X.K C f)(F:bT X.prog X.w X.K X.mg X.base CX k f fd ps sp)(hr:cV (k+1) X.A)(hg:Gl X x)(hm:X.mg x=some (.ref C))(hb:Binds X.K fd ps ds)(hd:Vals dvs ds)(hx:Passes CX X E)
  (ha:PA X (e::es) t) (AU:(x==("__debug__":Str))=false:=by decide) (he:abF (e::es) X.env=(false,abU e X.env)::abF es X.env:=by rfl) (EG:(acu pos (abF es X.env)).any (·.1)=false:=by rfl):
  PE X (.Call (.Name x p) (e::es) [] pos) (ag7 C sp dvs E t):=by
 intro pins s σ H Q I h;refine acv (iU I hg hm ?_ AU);refine acT (h₀:=X.base) I.ok.mod.kin M.kp (du (ha pos pins s σ H _ I h) fun us s1 ⟨vs,H1,I1,r,q⟩=>⟨I1.j',?_⟩) he EG;exact MT M F hr hb hd hx I1 r q
theorem xU (M:Mk X.K C f)(F:bT X.prog X.w X.K X.mg X.base CX k f fd ps sp)(hr:cV (k+1) X.A)(hg:Gl X x)(hm:X.mg x=some (.ref C))(hb:Binds X.K fd ps ds)(hd:Vals dvs ds)(hx:Passes CX X E)
  (AU:(x==("__debug__":Str))=false:=by decide):PE X (.Call (.Name x p) [] [] pos) (ag7 C sp dvs E Rj):=by
 intro pins s σ H Q I h;refine acv (iU I hg hm ?_ AU);exact PySem.W.callWith_K0 I.j' M.kp (MT (us:=[]) M F hr hb hd hx I .nil h)
end
structure aC (N P:η)(sc:Scope):Prop where
 kind:sc.kind=.function
 co:sc.isCoroutine=false
 gen:sc.isGenerator=false
 nd:N.Nodup
 pre:N.take P.length=P
 par:∀x∈P,sc.names.lookup x=some .local\/sc.names.lookup x=some .cell
 akb:∀y∈sc.names,y.2≠.free
theorem EH {adm:Str->Option NameKind}:∀{binds:Μ} {m:ζ},(∀v,(x,v)∉binds)->bindL adm binds m x=m x
 | [],_,_=>rfl
 | (n,v)::r,m,h=>by
  unfold bindL;rw [EH fun w hw=>h w (aa2 _ hw)];split
  ·have:x≠n:=by rintro rfl;exact h v aa_
   simp [this]
  ·rfl
theorem EI {adm:Str->Option NameKind}:∀{binds:Μ} {m:ζ},(∀v,(x,v)∉binds)->bindC adm binds m x=m x
 | [],_,_=>rfl
 | (n,v)::r,m,h=>by
  unfold bindC;rw [EI fun w hw=>h w (aa2 _ hw)];split
  ·rfl
  ·have:x≠n:=by rintro rfl;exact h v aa_
   simp [this]
theorem EJ {adm:Str->Option NameKind}:∀{P:η} {vs:θ} {i:Nat} {m:ζ},P.Nodup->P[i]?=some x->vs[i]?=some v->adm x=some .local->
  bindL adm (P.zip vs) m x=some v
 | [],_,_,_,_,h,_,_=>by simp at h
 | _::_,[],_,_,_,_,h,_=>by simp at h
 | p::P,w::vs,0,m,nd,h1,h2,hk=>by
  simp at h1 h2;subst h1;subst h2;show bindL adm ((p,w)::P.zip vs) m p=_;unfold bindL;rw [EH fun v hv=>(afK.mp nd).1 (am7 hv).1,abv hk];simp
 | p::P,w::vs,i+1,m,nd,h1,h2,hk=>by
  show bindL adm ((p,w)::P.zip vs) m x=_;unfold bindL;exact EJ (i:=i) (afK.mp nd).2 (by simpa using h1) (by simpa using h2) hk
theorem EK {adm:Str->Option NameKind}:∀{P:η} {vs:θ} {i:Nat} {m:ζ},P.Nodup->P[i]?=some x->vs[i]?=some v->adm x≠some .local->
  bindC adm (P.zip vs) m x=some v
 | [],_,_,_,_,h,_,_=>by simp at h
 | _::_,[],_,_,_,_,h,_=>by simp at h
 | p::P,w::vs,0,m,nd,h1,h2,hk=>by
  simp at h1 h2;subst h1;subst h2;show bindC adm ((p,w)::P.zip vs) m p=_;unfold bindC;rw [EI fun v hv=>(afK.mp nd).1 (am7 hv).1,abp hk];simp
 | p::P,w::vs,i+1,m,nd,h1,h2,hk=>by
  show bindC adm ((p,w)::P.zip vs) m x=_;unfold bindC;exact EK (i:=i) (afK.mp nd).2 (by simpa using h1) (by simpa using h2) hk
def start (N:η)(vs:ε):St:=vs.map some++apw (N.length-vs.length) none
def kh (CX:uI)(P:abJ)(w:World)(K:Frag)(mg:ζ)(base:Heap)(N:η)(qual:Str)(scope:Scope)(f:abj)(cd:Value)(A:abM)(outer:List Env)(s:abw)(H:Hp)(E:XK):Cx where
 prog:=P
 w:=w
 K:=K
 mg:=mg
 base:=base
 A:=A.deeper (aca qual scope s.heap.objs.size f cd)
 N:=N
 s₀:=s
 H₀:=H
 env:=aca qual scope s.heap.objs.size f cd
 outer:=outer
 stack:=aca qual scope s.heap.objs.size f cd::outer
 ex:=[]
 calm:=true
 fn:=fun _=>true
 pn:=[]
 xe:=fun e s'=>abz (abx P w) (A.deeper (aca qual scope s.heap.objs.size f cd)) (leaving (aca qual scope s.heap.objs.size f cd) e) (fun _ s''=>CX outer H s E e s'') (fun e' s''=>CX outer H s E e' s'') s'
theorem MU {sc:Scope}(h:sc.names.lookup x=some .cell):∃c,(cellsFrom n sc.names []).lookup x=some c:=by
 have q:=PySem.W.cellsFrom_some sc.names n [] (.inl h);exact alM.mp q
theorem VL {K:Frag}{us:θ}{vs:ε}
  (S:aC N ps scope) (hd:A.handled=none) (e0:Rk P w K mg base A outer s H) (hl:vs.length=ps.length) (r:Vals vs us)
  (x:InCallC s s.heap.objs.size (bindL (aca qual scope s.heap.objs.size f cd).kindOf (ps.zip us) fun _=>none) (cellsFrom (s.heap.objs.size+1) scope.names []) (bindC (aca qual scope s.heap.objs.size f cd).kindOf (ps.zip us) fun _=>none) s1):
  Inv (kh CX P w K mg base N qual scope f cd A outer s H E) [] (start N vs) H s1:=by
 have EG:ps.length<=N.length:=by have:=abV List.length S.pre;rw [aep] at this;omega
 obtain ⟨h1,tk,rfl,hk⟩:=x.done;have noA:∀b:abj,b∉(kh CX P w K mg base N qual scope f cd A outer s H E).ex:=fun b z=>abo (show b∈([]:List abj) from z) (by simp)
 refine ⟨⟨e0.mod,S.kind,rfl,rfl,aaM _,fun y z c h1 h2=>?_,fun y hy=>?_,fun y c _ h=>?_,fun _=>hd,Around.frames_deeper e0.frames,.inr ⟨rfl,rfl⟩,fun b z=>abo z (noA b),e0.bs,e0.bsz,fun b _ _=>noA b,fun b z=>abo z (noA b),e0.uB,e0.frf⟩,
  rfl,e0.bare,Un.kept hk,⟨_,x.toInCall.ns,fun i y v h1 h2 h3=>?_⟩,fun y c h=>⟨_,x.cell y c h⟩,e0.cg.fresh (aaM _),fun y c h=>?_,fun p hp=>abo (show p∈([]:List (abj×Obj)) from hp) (by simp),e0.cg.kept hk,?_⟩
 ·exact name_of_addr x.apart (acP h1) (acP h2)
 ·have hy:scope.names.lookup y=some .cell\/scope.names.lookup y=some .free:=hy
  rcases hy with hy|hy
  ·exact MU hy
  ·exact abo rfl (S.akb _ (acP hy))
 ·exact aj_ (x.above y c (acP h))
 ·have hi:i<vs.length:=by
   unfold start at h2;by_cases hi:i<vs.length
   ·exact hi
   ·rw [ac' (by simpa using hi)] at h2
    rw [al_] at h2;split at h2<;>cases h2
  have ha:vs[i]?=some v:=by
   unfold start at h2;rw [ad_ (by simpa using hi),aaU] at h2;cases e:vs[i]? with
   | none=>rw [e] at h2;cases h2
   | some a=>rw [e] at h2;cases h2;rfl
  obtain ⟨u,hu,rv⟩:=r.get ha
  have hp:ps[i]?=some y:=by
   rw [<-S.pre,aht (by omega)];exact h1
  have ndP:ps.Nodup:=by rw [<-S.pre];exact S.nd.sublist (List.take_sublist _ _)
  refine ⟨u,rv,?_⟩
  rcases S.par y (aaP hp) with k|k
  ·exact .inl ⟨k,EJ ndP hp hu k⟩
  ·obtain ⟨c,e⟩:=MU (n:=s.heap.objs.size+1) k
   refine .inr ⟨.inl k,c,e,?_⟩;have q:=x.cell y c e;rw [EK ndP hp hu (by show scope.names.lookup y≠_;rw [k];decide)] at q;exact q
 ·exact e0.cg.fresh (aj_ (x.above y c (acP h)))
 ·unfold start
  show _=N.length;rw [aae,ir,am9];omega
theorem xV {K:Frag}{dV kV doc pm cdv ct oc:Value}{an od:ς}
  {qG:Δ}   (lk:K.lookup f=some ⟨oc,od,.func (fnOf name qual params body scope dV kV doc pm an cdv ct),qG⟩) (uD:codeIn K cdv qual=true) (S:aC N ps scope)
  (len:∀vs H Q E,sp vs H Q E->vs.length=ps.length)
  (gv:∀(A:abM)(outer:List Env)(s:abw)(H:Hp)(vs:ε)(Q:VK)(E:XK),cV k (A.deeper (aca qual scope s.heap.objs.size f cdv))->sp vs H Q E->
   ∃t,PSs (kh CX P w K mg base N qual scope f cdv A outer s H E) body t/\t {nx:=fun _ H'=>Q .bG H',rt:=Q} (start N vs) H):
  bT P w K mg base CX (k+1) f (fnOf name qual params body scope dV kV doc pm an cdv ct) ps sp:=by
 refine ⟨len,fun A outer s H args us vs Q E hr e0 hb r EL=>?_⟩;have hl:=len _ _ _ _ EL;have KX:K.In s.heap:=e0.mod.kin.keeps fun b o e=>(e0.bs b o e).1;have lim:s.heap.NoLimit:=e0.mod.nolimit.keeps fun b o e=>(e0.bs b o e).1
 have aox:∀y∈ps.zip us,scope.names.lookup y.1=some .local\/(scope.names.lookup y.1=some .cell/\((cellsFrom (s.heap.objs.size+1) scope.names []).lookup y.1).isSome=true):=fun ⟨n,v⟩ hy=>by
  rcases S.par n (am7 hy).1 with q|q
  ·exact .inl q
  ·exact .inr ⟨q,PySem.W.cellsFrom_some _ _ _ (.inl q)⟩
 refine codeAny_call_function hr.depth (KX _ _ lk) rfl S.co S.gen rfl (PySem.W.codeRec_of KX uD) (hb _ _ _ _ ?_);refine wpAny_newFunctionEnv_cells S.kind aox fun env he s1 x=>?_;subst he;refine ⟨lim.keeps x.toInCall.keep,codeAny_func ?_⟩;obtain ⟨t,ht,hq⟩:=gv A outer s H vs Q E (hr.deeper _) EL;have I:Inv (kh CX P w K mg base N qual scope f cdv A outer s H E) [] (start N vs) H s1:=VL S hr.hd e0 hl r x;refine abH (ht [] s1 (start N vs) H _ I hq) (fun fl s' hs=>?_) fun e s' hs=>hs
 have fin:∀{σ' :St} {H':Hp} {v:V} {u:Value},Inv (kh CX P w K mg base N qual scope f cdv A outer s H E) [] σ' H' s' ->RelV v u->Q v H' ->CE outer P w H s Q u s':=
  fun {σ' H' v u} J rv q=>⟨v,H',J.os,J.bare,J.base,J.cg,rv,q⟩
 cases fl with
 | ret u=>
  obtain ⟨v,σ',H',J,rv,q⟩:=hs;exact fin J rv q
 | next=>
  obtain ⟨σ',H',J,q⟩:=hs;exact fin (v:=V.bG) (u:=Value.none) J rfl q
 | brk=>
  obtain ⟨_,_,_,q⟩:=hs;exact False.elim q
 | cont=>
  obtain ⟨_,_,_,q⟩:=hs;exact False.elim q
section
variable {X:Cx}{x:Str}{p pos:Pos}{e:Expr}{es:π}{t:TA}{id T:String}{r:List V->Hp->VK->Prop}
def tCB (r:List V->Hp->VK->Prop)(t:TA):TE:=fun σ H Q=>t σ H fun vs H1=>r vs H1 Q
theorem a8 (hc:mR X (.builtin id) r)(hg:Gl X x)(hm:X.mg x=none)(hv:ab2 x=some (.builtin id))(ha:PA X (e::es) t)(hn:x≠ "__name__":=by decide)(AU:(x==("__debug__":Str))=false:=by decide)
  (he:abF (e::es) X.env=(false,abU e X.env)::abF es X.env:=by rfl) (EG:(acu pos (abF es X.env)).any (·.1)=false:=by rfl):PE X (.Call (.Name x p) (e::es) [] pos) (tCB r t):=by
 intro pins s σ H Q I h;refine acv (uE I hg hm hv ?_ hn AU);exact PyProof.Rows.callWith_builtin1 (du (ha pos pins s σ H _ I h) fun us s1 ⟨vs,H1,I1,r1,q1⟩=>hc pins s1 σ H1 vs us Q I1 r1 q1) he EG
theorem cB (hc:mR X (.type T) r)(hg:Gl X x)(hm:X.mg x=none)(hv:ab2 x=some (.type T))(ha:PA X (e::es) t)(hn:x≠ "__name__":=by decide)(AU:(x==("__debug__":Str))=false:=by decide)
  (he:abF (e::es) X.env=(false,abU e X.env)::abF es X.env:=by rfl) (EG:(acu pos (abF es X.env)).any (·.1)=false:=by rfl):PE X (.Call (.Name x p) (e::es) [] pos) (tCB r t):=by
 intro pins s σ H Q I h;refine acv (uE I hg hm hv ?_ hn AU);exact acB (du (ha pos pins s σ H _ I h) fun us s1 ⟨vs,H1,I1,r1,q1⟩=>hc pins s1 σ H1 vs us Q I1 r1 q1) he EG
end
end L2
namespace HT
open PySem PyProof.Rows
section
variable {prog:abJ}{w:World}{A:abM}{E:γ}{s:abw}
def qH (n d:Nat):Option Int->Nat
 | none=>d
 | some v=>if v<0 then (v+(n:Int)).toNat else min v.toNat n
end
end HT
namespace L2
open PySem PySem.Spec PyProof.Rows
abbrev TO:=St->Hp->(Option Int->Hp->Prop)->Prop
def PO (X:Cx)(e:Option Expr)(t:TO):Prop:=
 ∀(pins:δ)(s:abw)(σ:St)(H:Hp)(Q:Option Int->Hp->Prop),Inv X pins σ H s->t σ H Q->
  abz (abx X.prog X.w) X.A (evalPart e X.env) (fun u s'=>∃o H',Inv X pins σ H' s'/\IsPart u o/\Q o H') X.xe s
def aez:TO:=fun _ H Q=>Q none H
inductive Zg (Q:(Option Int->Hp->Prop))(x:V)(H1:Hp):Prop
|mk (i:_)(_:x=.int i)(_:Q (some i) H1)
def aoy (t:TE):TO:=fun σ H Q=>t σ H fun x H1=>Zg Q x H1
section
variable {X:Cx}{e:Expr}{te:TE}{lo hi:Option Expr}{tl th:TO}{pos p2:Pos}
theorem o_:PO X none aez:=by
 intro pins s σ H Q I h;rw [evalPart_none];exact abC ⟨none,H,I,.none,h⟩
theorem iW (h:PE X e te):PO X (some e) (aoy te):=by
 intro pins s σ H Q I hw;rw [evalPart_some];refine du (h pins s σ H _ I hw) fun u s1 ⟨x,H1,I1,r1,q1⟩=>?_;obtain ⟨i,rfl,q⟩:=q1;obtain ⟨t,rfl⟩:=r1;exact ⟨some i,H1,I1,.int i t,q⟩
def SlR (X:Cx)(r:V->Option Int->Option Int->Hp->VK->Prop):Prop:=
 ∀(pins:δ)(s:abw)(σ:St)(H:Hp)(x:V)(v vl vu:Value)(lo hi:Option Int)(sl:abj)(Q:VK),Inv X pins σ H s->RelV x v->s.heap.IsSliceOf sl vl vu .none->IsPart vl lo->IsPart vu hi->r x lo hi H Q->
  ∃T id,typeLookup (.type T) "__getitem__"=pure (some (.builtin id))/\s.TypeIs v T/\abz (abx X.prog X.w) X.A (getItem v (.ref sl)) (EP X pins σ Q) X.xe s
def tSl (r:V->Option Int->Option Int->Hp->VK->Prop)(te:TE)(tl th:TO):TE:=fun σ H Q=>te σ H fun x H1=>tl σ H1 fun l H2=>th σ H2 fun u H3=>r x l u H3 Q
theorem jb (hr:SlR X r)(he:PE X e te)(hl:PO X lo tl)(hu:PO X hi th):PE X (.Subscript e (.Slice lo hi none p2) pos) (tSl r te tl th):=by
 intro pins s σ H Q I h;refine Subscript_ (du (he pins s σ H _ I h) fun v s1 ⟨x,H1,I1,r1,q1⟩=>?_);refine wpAny_Slice (du (hl pins s1 σ H1 _ I1 q1) fun vl s2 ⟨l,H2,I2,pl,q2⟩=>du (hu pins s2 σ H2 _ I2 q2) fun vu s3 ⟨u,H3,I3,pu,q3⟩=>?_);rw [evalPart_none];refine abC ?_;have I4:Inv X pins σ H3 {s3 with heap:=s3.heap.push {cls:=.type "slice",data:=.fields #[vl,vu,.none]}}:=I3.kept (t':=s3.toks) fun b ob q=>abr _ q;obtain ⟨T,id,hT,ht,hg⟩:=hr pins {s3 with heap:=s3.heap.push {cls:=.type "slice",data:=.fields #[vl,vu,.none]}} σ H3 x v vl vu l u s3.heap.objs.size Q I4 r1 (Heap.IsSliceOf.new ..) pl pu q3;show abz (abx X.prog X.w) X.A (subscriptTail e (.Slice lo hi none p2) v (.ref s3.heap.objs.size)) (EP X pins σ Q) X.xe {s3 with heap:=s3.heap.push {cls:=.type "slice",data:=.fields #[vl,vu,.none]}};exact tail_any (ops:=[.ref s3.heap.objs.size,v]) ht hT hg (by with_unfolding_all rfl)
def r8 (xs:ε)(lo hi:Option Int):List V:=(xs.drop (HT.qH xs.length 0 lo)).take (HT.qH xs.length xs.length hi-HT.qH xs.length 0 lo)
theorem MV (xs:ε)(lo hi:Option Int):(r8 xs lo hi).length<=xs.length:=by
 unfold r8;rw [aep,afh];omega
end
def ixN (n:Nat)(i:Int):Option Nat:=if 0<=i then (if i<n then some i.toNat else none) else if -(n:Int)<=i then some (i+n).toNat else none
def ng {α:Type}(xs:List α)(i:Int):Option α:=(ixN xs.length i).bind fun j=>xs[j]?
theorem aeA (h:ixN n i=some j):seqIndex? i n=some j/\j<n/\ -(n:Int)<=i/\i<n:=by
 unfold ixN at h;by_cases h0:0<=i
 ·rw [abv h0] at h
  by_cases h1:i<n
  ·rw [abv h1] at h
   have e:i.toNat=j:=aaQ h;exact ⟨by rw [seqIndex_of h0 h1,e],by omega,by omega,h1⟩
  ·rw [abp h1] at h;cases h
 ·rw [abp h0] at h
  by_cases h1: -(n:Int)<=i
  ·rw [abv h1] at h
   have e:(i+n).toNat=j:=aaQ h;exact ⟨by rw [seqIndex_neg (by omega) h1,e],by omega,h1,by omega⟩
  ·rw [abp h1] at h;cases h
theorem xg {v:α}(h:ng xs i=some v):∃j,seqIndex? i xs.length=some j/\xs[j]?=some v/\j<xs.length/\ -(xs.length:Int)<=i/\i<xs.length:=by
 unfold ng at h;cases e:ixN xs.length i with
 | none=>rw [e] at h;cases h
 | some j=>
  rw [e] at h;obtain ⟨h1,h2,h3,h4⟩:=aeA e;exact ⟨j,h1,h,h2,h3,h4⟩
theorem ar {j:Nat}{v:α}(h:xs[j]?=some v):ng xs (j:Int)=some v:=by
 have hj:j<xs.length:=(Wp.mp h).1
 have e:ixN xs.length (j:Int)=some j:=by
  unfold ixN;rw [abv (by omega),abv (by omega)];simp
 unfold ng;rw [e];exact h
theorem ia (xs:List α)(v:α):ng (xs++[v]) (-1)=some v:=by
 have hl:(xs++[v]).length=xs.length+1:=by simp
 have e:ixN (xs++[v]).length (-1)=some xs.length:=by
  unfold ixN;rw [hl,abp (by decide),abv (by omega)];congr 1;omega
 unfold ng;rw [e];show (xs++[v])[xs.length]?=some v;simp
def Ux (b:Expr):Prop:=∀o i,subscripted b false o i=operate [o,i] (getItem o i)
def IxR (X:Cx)(r:R2):Prop:=
 ∀(value slice:Expr)(pins:δ)(s:abw)(σ:St)(H:Hp)(x y:V)(v u:Value)(Q:VK),Inv X pins σ H s->RelV x v->RelV y u->r x y H Q->
  subscripted slice false v u=operate [v,u] (getItem v u)->abz (abx X.prog X.w) X.A (subscriptTail value slice v u) (EP X pins σ Q) X.xe s
def MtR (X:Cx)(id:String)(r:Ν):Prop:=
 ∀(pins:δ)(s:abw)(σ:St)(H:Hp)(x:V)(xs:ε)(v:Value)(us:θ)(Q:VK),Inv X pins σ H s->RelV x v->Vals xs us->r x xs H Q->
  abz (abx X.prog X.w) X.A (call (.builtin id) (v::us)) (EP X pins σ Q) X.xe s
section
variable {X:Cx}{a b:Expr}{ta tb:TE}{pos:Pos}
theorem Zh (hr:IxR X r)(ha:PE X a ta)(hb:PE X b tb)(hs:Ux b):PE X (.Subscript a b pos) (tOp r ta tb):=by
 intro pins s σ H Q I h;exact Subscript_ (aj8 ha hb I h fun v u s2 x y H2 I2 rx ry q=>hr a b pins s2 σ H2 x y v u Q I2 rx ry q (hs _ _))
inductive aeB (K:Frag)(x:V)(y:V)(H:Hp)(Q:VK):Prop
|mk (p xs i v:_)(_:x=.ref p)(_:y=.int i)(_:aZ K H p xs)(_:ng xs i=some v)(_:Q v H)
inductive aeC (K:Frag)(x:V)(y:V)(H:Hp)(Q:VK):Prop
|mk (p xs i v:_)(_:x=.ref p)(_:y=.int i)(_:dG K H p xs)(_:ng xs i=some v)(_:Q v H)
inductive aoz (x:V)(y:V)(H:Hp)(Q:VK):Prop
|mk (z i c:_)(_:x=.str z)(_:y=.int i)(_:z.length<=abl)(_:ng z.cps.toList i=some c)(_:Q (.str ⟨#[c]⟩) H)
theorem dw:IxR X (aeB X.K):=by
 intro value slice pins s σ H x y v u Q I rx ry h hs;obtain ⟨p,xs,i,z,rfl,rfl,hq,he,q⟩:=h;cases rx;obtain ⟨t,rfl⟩:=ry;obtain ⟨its,r,pl,hz⟩:=I.list hq;obtain ⟨j,h1,h2,h3,h4,h5⟩:=xg he;obtain ⟨w,ew,EB⟩:=r.get h2;have hl:=r.length;have hn:=xP;have fin:EP X pins σ Q w s:=⟨z,H,I,EB,q⟩;by_cases h0:0<=i
 ·have hj:i.toNat=j:=by
   rw [seqIndex_of h0 h5] at h1;exact aaQ h1
  exact item_listR pl.isList h0 (by omega) (by rw [hj];simpa using ew) fin hs
 ·have hj:(i+(its.toArray.size:Int)).toNat=j:=by
   rw [seqIndex_neg (by omega) h4] at h1;rw [adb,<-hl];exact aaQ h1
  exact subscriptTail_builtinR (x:=w) pl.isList.typeIs slot_list_getitem.lookup
   (wpAny_getItem_list_neg (Q:=fun r s'=>r=w/\EP X pins σ Q r s') pl.isList (by omega) (by rw [adb]<;>omega) (by omega) (by rw [hj];simpa using ew) ⟨rfl,fin⟩) hs
theorem Zi:IxR X (aeC X.K):=by
 intro value slice pins s σ H x y v u Q I rx ry h hs;obtain ⟨p,xs,i,z,rfl,rfl,hq,he,q⟩:=h;cases rx;obtain ⟨t,rfl⟩:=ry;obtain ⟨its,r,pl,hz⟩:=I.tuple hq;obtain ⟨j,h1,h2,h3,h4,h5⟩:=xg he;obtain ⟨w,ew,EB⟩:=r.get h2;have hl:=r.length;have hn:=xP;have fin:EP X pins σ Q w s:=⟨z,H,I,EB,q⟩
 exact subscriptTail_builtinR (x:=w) pl.typeIs slot_tuple_getitem.lookup
  (getItem_tuple (j:=j) (Q:=fun r s'=>r=w/\EP X pins σ Q r s') pl (by omega) (by omega) (by rw [adb,<-hl];exact h1) (by simpa using ew) ⟨rfl,fin⟩) hs
theorem Zj:IxR X aoz:=by
 intro value slice pins s σ H x y v u Q I rx ry h hs;obtain ⟨z,i,c,rfl,rfl,hz,he,q⟩:=h;obtain ⟨t,rfl⟩:=rx;obtain ⟨t',rfl⟩:=ry;obtain ⟨j,h1,h2,h3,h4,h5⟩:=xg he;have hl:z.cps.toList.length=z.length:=by simp [Str.length]
 rw [hl] at h1 h4 h5;have hn:=xP
 exact tail_any (adz s z t) slot_str_getitem.lookup (getItem_str (c:=c) (by
  have e1:decide (i < -(2^63:Int))=false:=aby (by omega);have e2:decide (i≥2^63)=false:=aby (by omega)
  rw [e1,e2,aqc]) (by rw [h1];simpa using h2) ⟨.str ⟨#[c]⟩,H,I.tok _,⟨_,rfl⟩,q⟩) hs
theorem GJ (lo hi:Option Int)(n:Nat):(adt lo hi none n).1=((HT.qH n 0 lo:Nat):Int)/\(adt lo hi none n).2.1=((HT.qH n n hi:Nat):Int)/\(adt lo hi none n).2.2=1:=by
 refine ⟨?_,?_,rfl⟩
 ·cases lo with
  | none=>simp [adt,HT.qH]
  | some i=>
   simp only [adt,HT.qH,aor,show (1:Int) > 0 by decide,if_true];by_cases h:i<0
   ·simp only [h,if_true]<;>omega
   ·simp only [h,if_false]<;>omega
 ·cases hi with
  | none=>simp [adt,HT.qH]
  | some i=>
   simp only [adt,HT.qH,aor,show (1:Int) > 0 by decide,if_true];by_cases h:i<0
   ·simp only [h,if_true]<;>omega
   ·simp only [h,if_false]<;>omega
theorem AV (its:θ)(lo hi:Option Int):slicePick its.toArray lo hi none=((its.drop (HT.qH its.length 0 lo)).take (HT.qH its.length its.length hi-HT.qH its.length 0 lo)).toArray:=by
 obtain ⟨h1,h2,h3⟩:=GJ lo hi its.toArray.size;unfold slicePick;rw [h1,h2,h3];simp only [sliceRange_one,pick_run,adb]<;>rfl
inductive aoA (K:Frag)(x:V)(lo:Option Int)(hi:Option Int)(H:Hp)(Q:VK):Prop
|mk (a xs:_)(_:x=.ref a)(_:aZ K H a xs)(_:∀p,H p=none->Q (.ref p) (upd H p (.lst (r8 xs lo hi))))
theorem mx:SlR X (aoA X.K):=by
 intro pins s σ H x v vl vu lo hi sl Q I rx hs pl pu h;obtain ⟨a,xs,rfl,hx,q⟩:=h;cases rx;obtain ⟨its,r,ht,hz⟩:=I.list hx;have hlen:=r.length;refine ⟨"list",_,slot_list_getitem.lookup,ht.isList.typeIs,wpAny_getItem_list_slice ht.isList hs pl pu .none (by simp) ?_ (by rw [adb]<;>omega)⟩;rw [AV,<-hlen];refine ⟨.ref s.heap.objs.size,_,I.laid (t':=s.toks) (o:=.lst (r8 xs lo hi)) (fun b ob q=>abr _ q) (aaM _) ?_,rfl,q _ (I.cg.fresh (aaM _))⟩;exact ⟨aah (MV xs lo hi) hz,_,0,(r.drop (HT.qH xs.length 0 lo)).take (HT.qH xs.length xs.length hi-HT.qH xs.length 0 lo),abI _ rfl⟩
def mS:V->Bool
 | .bG=>true
 | .bl _=>true
 | .int _=>true
 | .str _=>true
 | _=>false
def AR:V->V->Bool
 | .bG,.bG=>true
 | .bl a,.bl b=>a==b
 | .bl a,.int b=>(if a then 1 else 0)==b
 | .int a,.bl b=>a==(if b then 1 else 0)
 | .int a,.int b=>a==b
 | .str a,.str b=>a==b
 | _,_=>false
theorem Zk (ry:RelV y u)(rx:RelV x v)(fy:mS y=true)(fx:mS x=true):SeqAt.EqAt A s u v (AR y x):=by
 cases y with
 | bG=>
  cases ry;cases x with
  | bG=>cases rx;exact SeqAt.EqAt.same _
  | bl b=>cases rx;exact SeqAt.EqAt.none_bool b
  | int b=>obtain ⟨t,rfl⟩:=rx;exact SeqAt.EqAt.none_int b t
  | str b=>obtain ⟨t,rfl⟩:=rx;exact SeqAt.EqAt.none_str b t
  | _=>exact abo (show false=true from fx) acZ
 | bl a=>
  cases ry;cases x with
  | bG=>cases rx;exact SeqAt.EqAt.bool_none a
  | bl b=>cases rx;exact SeqAt.EqAt.bool_bool a b
  | int b=>obtain ⟨t,rfl⟩:=rx;exact SeqAt.EqAt.bool_int a b t
  | str b=>obtain ⟨t,rfl⟩:=rx;exact SeqAt.EqAt.bool_str a b t
  | _=>exact abo (show false=true from fx) acZ
 | int a=>
  obtain ⟨t',rfl⟩:=ry;cases x with
  | bG=>cases rx;exact SeqAt.EqAt.int_none a t'
  | bl b=>cases rx;exact SeqAt.EqAt.int_bool a t' b
  | int b=>obtain ⟨t,rfl⟩:=rx;exact SeqAt.EqAt.int_int a t' b t
  | str b=>obtain ⟨t,rfl⟩:=rx;exact SeqAt.EqAt.int_str a t' b t
  | _=>exact abo (show false=true from fx) acZ
 | str a=>
  obtain ⟨t',rfl⟩:=ry;cases x with
  | bG=>cases rx;exact SeqAt.EqAt.str_none a t'
  | bl b=>cases rx;exact SeqAt.EqAt.str_bool a t' b
  | int b=>obtain ⟨t,rfl⟩:=rx;exact SeqAt.EqAt.str_int a t' b t
  | str b=>obtain ⟨t,rfl⟩:=rx;exact SeqAt.EqAt.str_str a t' b t
  | _=>exact abo (show false=true from fx) acZ
 | _=>exact abo (show false=true from fy) acZ
def eqU (x:V)(u:Value):Bool:=match u with
 | .none=>AR .bG x
 | .bool b=>AR (.bl b) x
 | .int i _=>AR (.int i) x
 | .str z _=>AR (.str z) x
 | _=>false
theorem Zl (r:RelV y u)(f:mS y=true):eqU x u=AR y x:=by
 cases y with
 | bG=>cases r;rfl
 | bl b=>cases r;rfl
 | int i=>obtain ⟨t,rfl⟩:=r;rfl
 | str z=>obtain ⟨t,rfl⟩:=r;rfl
 | _=>exact abo (show false=true from f) acZ
theorem GK :∀{xs:ε} {us:θ},Vals xs us->xs.all mS=true->us.any (eqU x)=xs.any fun y=>AR y x
 | _,_,.nil,_=>rfl
 | y::xs,u::us,.cons r t,f=>by
  rw [ahQ,ac8] at f;rw [ag8,ag8,Zl r f.1,GK t f.2]
theorem xW (rx:RelV x v)(fx:mS x=true):∀{xs:ε} {us:θ},Vals xs us->xs.all mS=true->∀u∈us,SeqAt.EqAt A s u v (eqU x u)
 | _,_,.nil,_=>fun u hu=>by cases hu
 | y::xs,u::us,.cons r t,f=>fun u' hu=>by
  rw [ahQ,ac8] at f
  rcases aa3.mp hu with rfl|hu
  ·rw [Zl r f.1];exact Zk r rx f.1 fx
  ·exact xW rx fx t f.2 u' hu
def inV (x:V)(xs:ε):Bool:=xs.any fun y=>AR y x
inductive rIn (K:Frag)(neg:Bool)(x:V)(y:V)(H:Hp)(Q:VK):Prop
|mk (p xs:_)(_:y=.ref p)(_:(aZ K H p xs\/dG K H p xs))(_:mS x=true)(_:xs.all mS=true)(_:Q (.bl (if neg then !inV x xs else inV x xs)) H)
theorem EM:pJ X (ab3 .In) (rIn X.K false):=by
 intro pins s σ H x y v u Q I rx ry h;obtain ⟨p,xs,rfl,hq,fx,fs,q⟩:=h;cases ry
 rcases hq with hq|hq
 ·obtain ⟨its,r,pl,hz⟩:=I.list hq
  refine SeqAt.in_listAt (eqU x) pl.isList (fun w hw=>xW rx fx r fs w (by simpa using hw)) ⟨.bl _,H,I,rfl,?_⟩;rw [show its.toArray.any (eqU x)=its.any (eqU x) by simp,GK r fs];exact q
 ·obtain ⟨its,r,pl,hz⟩:=I.tuple hq
  refine SeqAt.in_tupleAt (eqU x) pl (fun w hw=>xW rx fx r fs w (by simpa using hw)) ⟨.bl _,H,I,rfl,?_⟩;rw [show its.toArray.any (eqU x)=its.any (eqU x) by simp,GK r fs];exact q
theorem bh:mR X (.builtin "len") (fun xs H Q=>∃p ys,xs=[.ref p]/\(aZ X.K H p ys\/dG X.K H p ys)/\Q (.int ys.length) H):=by
 intro pins s σ H xs us Q I r h;obtain ⟨p,ys,rfl,hq,q⟩:=h;obtain ⟨u,rfl,rx⟩:=vals1 r;cases rx;have hn:=xP
 rcases hq with hq|hq
 ·obtain ⟨its,r',pl,hz⟩:=I.list hq
  have hlen:=r'.length;exact Calls.call_len_list pl.isList (by simp only [adb]<;>omega) ⟨.int ys.length,H,I.tok _,⟨s.toks+1,by rw [adb,hlen]⟩,q⟩
 ·obtain ⟨its,r',pl,hz⟩:=I.tuple hq
  have hlen:=r'.length;exact len_tuple pl (by simp only [adb]<;>omega) ⟨.int ys.length,H,I.tok _,⟨s.toks+1,by rw [adb,hlen]⟩,q⟩
theorem mB:mR X (.builtin "len") (fun xs H Q=>∃z,xs=[.str z]/\z.length<=abl/\Q (.int z.length) H):=by
 intro pins s σ H xs us Q I r h;obtain ⟨z,rfl,hz,q⟩:=h;obtain ⟨u,rfl,t,rfl⟩:=vals1 r;have hn:=xP;exact len_str (by omega) ⟨.int z.length,H,I.tok _,⟨_,rfl⟩,q⟩
def tyV (K:Frag)(T:String)(x:V)(H:Hp):Prop:=match x with
 | .str _=>T="str"
 | .int _=>T="int"
 | .ref p=>(T="list"/\∃xs,aZ K H p xs)\/(T="tuple"/\∃o,K.lookup p=some o/\o.cls=.type "tuple"/\o.dict=none)\/
   (T="dict"/\((∃kvs,H p=some (.dK kvs))\/∃kvs,H p=some (.dT kvs)))\/(T="set"/\∃S n,H p=some (.set S n))
 | _=>False
theorem Zm {σ:St}(I:Inv X pins σ H s)(r:RelV x v)(ty:tyV X.K T x H):
  s.TypeIs v T/\∀a,v=.ref a->∃ob,s.heap.get? a=some ob/\ob.dict=none:=by
 cases x with
 | str z=>
  obtain ⟨t,rfl⟩:=r;cases (show T="str" from ty);exact ⟨adz s z t,fun _ e=>nomatch e⟩
 | int i=>
  obtain ⟨t,rfl⟩:=r;cases (show T="int" from ty);exact ⟨typeIs_int s i t,fun _ e=>nomatch e⟩
 | ref p=>
  cases r
  rcases ty with ⟨rfl,xs,hq⟩|⟨rfl,o,hk,hc,hd⟩|⟨rfl,hk⟩|⟨rfl,S,n,hk⟩
  ·obtain ⟨its,_,pl,_⟩:=I.list hq
   refine ⟨pl.isList.typeIs,fun a e=>?_⟩;cases e;obtain ⟨o,n,e,c,hd,_⟩:=pl;exact ⟨o,e,hd⟩
  ·refine ⟨⟨o,I.j' p o hk,hc⟩,fun a e=>?_⟩
   cases e;exact ⟨o,I.j' _ o hk,hd⟩
  ·have z:∃o,s.heap.get? p=some o/\o.ExactDict:=by
    rcases hk with ⟨kvs,hk⟩|⟨kvs,hk⟩
    ·obtain ⟨_,_,_,_,o,_,_,e,ex,_⟩:=I.cg p _ hk
     exact ⟨o,e,ex⟩
    ·obtain ⟨_,_,_,_,o,_,_,e,ex,_⟩:=I.cg p _ hk
     exact ⟨o,e,ex⟩
   obtain ⟨o,e,ex⟩:=z;refine ⟨⟨o,e,ex.1⟩,fun a e2=>?_⟩;cases e2;exact ⟨o,e,ex.2.1⟩
  ·obtain ⟨o,_,_,_,e,ex,_⟩:=I.cg p _ hk
   refine ⟨⟨o,e,ex.1⟩,fun a e2=>?_⟩;cases e2;exact ⟨o,e,ex.2.1⟩
 | _=>exact False.elim ty
def tBM (K:Frag)(T:String)(r:Ν)(to:TE)(t:TA):TE:=fun σ H Q=>to σ H fun x H1=>tyV K T x H1/\t σ H1 fun xs H2=>r x xs H2 Q
variable {o e:Expr}{es:π}{to:TE}{t:TA}{name:Str}{apos ki:Pos}{T id:String}{r:Ν}
theorem gA (pa:PlainAttrs T)(slot:Slot T name id)(hty:typeOf (.builtin id)=pure (.type "method_descriptor"))(hm:MtR X id r)(ho:PE X o to)(ha:PA X (e::es) t)
  (xX:ads o name X.env (abU o X.env)=abU o X.env:=by rfl)
  (awX:((acu ki (abF (e::es) X.env)).all (fun x=> !x.1) && (backToKw ki (keywordEach [] X.env)).all (fun x=>x.1.isSome)
   && decide ((e::es).length+([]:List Keyword).length+(if ([]:List Keyword).isEmpty then 0 else 1)<30))=true:=by rfl)
  (Zn:(apos.endLine==ki.line)=true:=by rfl) (hs:abF (e::es) X.env=(false,abU e X.env)::abF es X.env:=by rfl) (akd:(acu ki (abF es X.env)).any (·.1)=false:=by rfl):
  PE X (.Call (.Attribute o name apos) (e::es) [] ki) (tBM X.K T r to t):=by
 intro pins s σ H Q I h;refine wpAny_Call_method_late xX awX Zn rfl (du (ho pins s σ H _ I h) fun v s1 ⟨x,H1,I1,r1,ty,q1⟩=>?_);obtain ⟨h1,h2⟩:=Zm I1 r1 ty;refine ⟨T,id,pa,slot,hty,h1,h2,?_⟩;have hA:=ha ki pins s1 σ H1 _ I1 q1;rw [hs] at hA ⊢;refine Calls.callWith_builtin (by show (false || (acu ki (abF es X.env)).any (·.1))=false;rw [akd]<;>rfl) (Calls.evalArgs_plain ?_);exact du hA fun us s2 ⟨vs,H2,I2,r2,q2⟩=>hm pins s2 σ H2 x vs v us Q I2 r1 r2 q2
end
def MtM (X:Cx)(id:String)(r:Ν):Prop:=
 ∀(pins:δ)(s:abw)(σ:St)(H:Hp)(x:V)(xs:ε)(v:Value)(us:θ)(Q:VK),Inv X pins σ H s->RelV x v->Vals xs us->r x xs H Q->
  abz (abx X.prog X.w) X.A (call (.builtin id) (v::us)) (EP X pins σ Q) X.xe s
theorem Vals.one:∀{x:V} {us:θ},Vals [x] us->∃u,us=[u]/\RelV x u
 | _,_,.cons r .nil=>⟨_,rfl,r⟩
section
variable {X:Cx}{pins:δ}{σ:St}{H:Hp}{s:abw}{l b:abj}{xs ys zs:ε}
theorem Inv.awY {its its':θ}(I:Inv X pins σ H s)(hH:H l=some (.lst xs))
  (e:s.heap.get? l=some {cls:=.type "list",data:=.seq its.toArray n}) (hf:f its.toArray=its'.toArray) (hv:Vals ys its') (hz:ys.length<=abl):
  Inv X pins σ (upd H l (.lst ys)) {s with heap:=s.heap.update l (Obj.mapSeq f),toks:=t'}:=by
 have q:=PySem.IsL.update e f;rw [hf] at q;refine I.write (x:=l) (e:=l) (by rw [hH];exact trivial) (.inl rfl) (fun b' u hb hu=>(abT s.heap (Obj.mapSeq f) (ac2 hb)).trans hu) ⟨_,q⟩ ?_;exact ⟨hz,its',_,hv,q⟩
theorem Inv.aoB {its:θ}(I:Inv X pins σ H s)(hv:Vals ys its)(hz:ys.length<=abl):
  Inv X pins σ (upd H s.heap.objs.size (.lst ys)) {s with heap:=s.heap.push {cls:=.type "list",data:=.seq its.toArray},toks:=t'}:=
 I.laid (fun _ _ q=>abr _ q) (aaM _) ⟨hz,its,0,hv,abI _ rfl⟩
theorem Inv.fresh (I:Inv X pins σ H s):H s.heap.objs.size=none:=I.cg.fresh (aaM _)
theorem Inv.ake (I:Inv X pins σ H s)(hH:H l=some (.lst xs)):xs.length<=abl/\∃(its:θ)(n:Nat),Vals xs its/\xs.length=its.length/\s.heap.get? l=some {cls:=.type "list",data:=.seq its.toArray n}:=by
 obtain ⟨z,its,n,r,e⟩:=I.cg l _ hH;exact ⟨z,its,n,r,r.length,e⟩
end
section
variable {X:Cx}
inductive Uy (x:V)(vs:ε)(H:Hp)(Q:VK):Prop
|mk (l xs y:_)(_:x=.ref l)(_:vs=[y])(_:H l=some (.lst xs))(_:xs.length<abl)(_:Q .bG (upd H l (.lst (xs++[y]))))
theorem dc:MtM X "list.append" Uy:=by
 intro pins s σ H x vs v us Q I rx rv h;obtain ⟨l,xs,y,rfl,rfl,hH,hz,q⟩:=h;cases rx;obtain ⟨u,rfl,ru⟩:=rv.one;obtain ⟨z,its,n,r,hl,e⟩:=I.ake hH;refine call_meets F.slot_list_append ⟨_,e,rfl⟩ F.entry_list_append (F.args_list_append_2 _ _) (PySem.list_append l its.toArray n u (by rw [adb];omega)) ⟨e,?_⟩;refine ⟨.bG,_,I.awY (its':=its++[u]) hH e (by simp) (r.append (.cons ru .nil)) ?_,rfl,q⟩;rw [aae,ac0];omega
inductive aoC (x:V)(y:V)(H:Hp)(Q:VK):Prop
|mk (l b xs zs:_)(_:x=.ref l)(_:y=.ref b)(_:H l=some (.lst xs))(_:H b=some (.lst zs))(_:xs.length+zs.length<=abl)(_:∀p,H p=none->Q (.ref p) (upd H p (.lst (xs++zs))))
theorem mC:pJ X (adg .Add) aoC:=by
 intro pins s σ H x y v u Q I rx ry h;obtain ⟨l,b,xs,zs,rfl,rfl,hH,hB,hz,q⟩:=h;cases rx;cases ry;obtain ⟨z,its,n,r,hl,e⟩:=I.ake hH;obtain ⟨z2,nO,n2,r2,hl2,e2⟩:=I.ake hB;refine PySem.P.add_list e e2 ?_ (by rw [adb,adb];omega);have ea:its.toArray++nO.toArray=(its++nO).toArray:=by simp
 rw [ea];exact ⟨.ref _,_,I.aoB (t':=s.toks) (r.append r2) (by rw [aae];omega),rfl,q _ I.fresh⟩
end
end L2
namespace Att
open PySem PySem.W PySem.Calls PyProof.Rows
theorem wt :∀(ns:List Int)(vs:θ),WellAll P h vs (ns.map WData.int)->IntsAre vs ns:=by
 intro ns
 induction ns with
 | nil=>
  intro vs w;rw [akc] at w;cases w;exact .nil
 | cons n ns ih=>
  intro vs w;rw [ada] at w;cases w with
  | cons a b=>
   cases a;exact .cons _ _ (ih _ b)
theorem VM {l:OpenLaw}(hn:l.most=some n){vals:θ}
  (aeE:l.row.toRowW.claim.pre args=true) (hwl:WellAll P h vals args):
  ∃a vs ns,vals=[Value.ref a]/\args=[WData.list (ns.map WData.int)]/\h.get? a=some {cls:=.type "list",data:=.seq vs.toArray}/\IntsAre vs ns/\ns.length<=n:=by
 have hsh:WShape.hasAll [] args [.list .int]=true:=(pre_splitW aeE).1;have hc:l.pre.holds [] {args:=args}=true:=(pre_splitW aeE).2;obtain ⟨d,r,rfl,h1,h2⟩:=hasAllW_cons hsh;obtain rfl:=hasAllW_nil h2;obtain ⟨xs,rfl,h3⟩:=hasW_list h1;obtain ⟨ns,rfl⟩:=items_int h3
 have hlen:ns.length<=n:=by
  unfold OpenLaw.pre at hc
  have h4:(WTm.not (.lt (.lit (.int (n:Int))) (.len (.arg 0)))).holds [] {args:=[.list (ns.map .int)]}=true:=by
   have h4:=(holds_andW hc).1;rw [hn] at h4;exact h4
  have h5:=condW_of h4 (w_not (w_lt w_lit (w_len_list (w_arg rfl))));rw [ir] at h5;refine amT fun q=>?_;have q':(n:Int)<((ns.length:Nat):Int):=by omega
  first
   | (rw [abu q'] at h5;exact abo h5 (by decide))
   | (simp at h5;omega)
 cases hwl with
 | cons w1 w2=>
  cases w2;cases w1 with
  | list ho akg=>exact ⟨_,_,ns,rfl,rfl,ho,wt ns _ akg,hlen⟩
theorem VN (l:OpenLaw)(args:List WData):l.row.toRowW.claim.post args (.bool true) args=true:=
 postW_of (r:=l.row.toRowW) (X:=(true==true))
  (show WShape.has [] (.bool true) .bool=true by first|rfl|decide|simp [WShape.has,WShape.arms,WShape.armsAll])
  (show (WTm.eq .res (.lit (.bool true))).value [] {args:=args,res:=some (.bool true),after:=args}=some (.bool (true==true)) from w_eq_bool (w_res rfl) w_lit) rfl
end Att
namespace L2
open PySem PySem.Spec PyProof.Rows
theorem EN:∀{vs:θ} {ns:List Int},IntsAre vs ns->Vals (ns.map V.int) vs
 | _,_,.nil=>.nil
 | _,_,.cons n t h=>.cons ⟨t,rfl⟩ (EN h)
def aoD (H:Hp):Prop:=∀b,H b=none\/∃o xs,H b=some (.iT o (.lst xs))
theorem Zo {K:Frag}{mg mb:ζ}{vs:θ}
  (KX:K.In s₁.heap) (hns:s₁.heap.Ns abA mg) (hb:s₁.heap.Ns builtinsNs mb) (hbb:∀x:Str,x≠ "__name__"->mb x=ab2 x) (aw0:s₁.heap.NoLimit) (aeF:s₁.heap.NoSeer) (hg:s₁.gens= #[])
  (ha:s₁.heap.get? a=some {cls:=.type "list",data:=.seq vs.toArray}) (hi:IntsAre vs ns) (hl:ns.length<=abl) (hr:cV k callerA)
  (F:∀base:Heap,K.In base->base.Ns abA mg->bT P w K mg base CX k fa fd [x] sp) (aoF:∀(s:abw)(u:Value),BindsTo s fd ⟨[u],[]⟩ [(x,u)])
  (EL:∀H:Hp,aoD H->aZ K H a (ns.map V.int)->sp [.ref a] H (fun v _=>v=.bl true) fun _ _ _=>False)
  (hCX:∀H e s',CX [] H s₁ (fun _ _ _=>False) e s' ->False):
  acx (abx P w) callerA (.call (.ref fa) ⟨[.ref a],[]⟩) (fun r s'=>r=.ok (.ret (.bool true))/\OldK s₁.heap s'.heap/\s'.os=s₁.os/\adk s'.gens) s₁:=by
 have rv:=EN hi;have aw1:=hi.length
 have core:∀H:Hp,aoD H->aZ K H a (ns.map V.int)->mh P w H s₁.heap->(∀b,H b≠none->b=a)->(H a≠none->K.lookup a=none)->
   acx (abx P w) callerA (.call (.ref fa) ⟨[.ref a],[]⟩) (fun r s'=>r=.ok (.ret (.bool true))/\OldK s₁.heap s'.heap/\s'.os=s₁.os/\adk s'.gens) s₁:=by
  intro H hO hS cg hA hK;have GL:∀{b:abj} {o:Obj},s₁.heap.get? b=some o->H b=none->(GA s₁.heap H).get? b=some o:=fun e n=>Y1 e n
  have noA:∀{b:abj} {o:Obj} {es:Array DictEntry} {ep:Nat},s₁.heap.get? b=some o->o.data=.dict es ep->H b=none:=fun {b o es ep} e d=>by
   cases q:H b with
   | none=>rfl
   | some u=>
    have e':b=a:=hA b (by rw [q];simp);subst e';rw [ha] at e;cases e;have d':Data.seq vs.toArray _=Data.dict es ep:=d;cases d'
  have nsK:∀{b:abj} {m:ζ},s₁.heap.Ns b m->(GA s₁.heap H).Ns b m:=fun {b m} ⟨o,es,ep,e,d,r⟩=>⟨o,es,ep,GL e (noA e d),d,r⟩
  have hKb:K.In (GA s₁.heap H):=fun b o e=>GL (KX b o e) (by
   cases q:H b with
   | none=>rfl
   | some u=>
    have e':b=a:=hA b (by rw [q];simp);subst e'
    rw [hK (by rw [q];simp)] at e;cases e)
  have hM:Mod K mg (GA s₁.heap H):=⟨hKb,nsK hns,⟨mb,nsK hb,hbb⟩,let ⟨mc,h1,h2⟩:=aw0;⟨mc,nsK h1,h2⟩,
   ⟨let ⟨mc,h1,h2⟩:=aeF.statics;⟨mc,nsK h1,h2⟩,let ⟨mc,h1,h2⟩:=aeF.mods;⟨mc,nsK h1,h2⟩,let ⟨mc,h1,h2⟩:=aeF.imp;⟨mc,nsK h1,h2⟩,
    let ⟨mg',bm,ob,h1,h2,h3,h4,h5⟩:=aeF.main;⟨mg',bm,ob,nsK h1,h2,GL h3 (by
     cases q:H bm with
     | none=>rfl
     | some u=>
      have e':bm=a:=hA bm (by rw [q];simp);subst e';rw [ha] at h3;cases h3;have h4':Value.type "list"=Value.type "module":=h4;injection h4' with e9
      exact abo e9 (by decide)),h4,h5⟩⟩⟩
  have e0:Rk P w K mg (GA s₁.heap H) callerA [] s₁ H:=⟨rfl,hM,fun b o e=>ael e,amZ (VC _ _),trivial,fun b hb=>abo (show b∈([]:List abj) from hb) (by simp),cg,.of_eq hg⟩;refine adl ((F _ hKb (nsK hns)).run callerA [] s₁ H ⟨[.ref a],[]⟩ [.ref a] [.ref a] _ _ hr e0 (aoF s₁ (.ref a)) (.cons rfl .nil) (EL H hO hS)) fun r s' h=>?_;cases r with
  | error e=>exact (hCX H e s' h).elim
  | ok fl=>
   cases fl with
   | next=>exact False.elim h
   | brk=>exact False.elim h
   | cont=>exact False.elim h
   | ret u=>
    obtain ⟨v,H',os,bare,un,VO,r',q⟩:=h;have q':v=.bl true:=q;subst q';obtain rfl:u=Value.bool true:=r';refine ⟨rfl,OldK.of_keep fun b o e=>?_,os,bare⟩;cases q:H b with
    | none=>exact un.keep b o e q (by intro z;exact abo (show b∈([]:List abj) from z) (by simp)) (by simp)
    | some u=>
     rcases hO b with z|⟨ob,xs,z⟩
     ·rw [q] at z;cases z
     ·have z2:=un.mj b ob _ z
      obtain ⟨e1,_⟩:=cg b _ z;obtain ⟨e2,_⟩:=VO b _ z2;rw [e] at e1;cases e1;exact e2
 cases hk:K.lookup a with
 | some o=>
  have e:=KX a o hk;rw [ha] at e;cases e;refine core (fun _=>none) (fun _=>.inl rfl) (.inr ⟨_,vs.toArray,_,hk,rfl,rfl,rfl,by rw [adb,aw1];exact hl,by simpa using rv⟩) (fun b u z=>by have z':(none:Option HO)=some u:=z;cases z') (fun b z=>abo rfl z) fun z=>abo rfl z
 | none=>
  refine core (fun b=>if b=a then some (.iT {cls:=.type "list",data:=.seq vs.toArray} (.lst (ns.map V.int))) else none) (fun b=>?_) (.inl (.inr ⟨{cls:=.type "list",data:=.seq vs.toArray},abv rfl⟩)) (fun b u z=>?_) (fun b z=>?_) fun _=>hk
  ·by_cases hb:b=a
   ·exact .inr ⟨_,_,abv hb⟩
   ·exact .inl (abp hb)
  ·by_cases hb:b=a
   ·have z':=(abv hb).symm.trans z
    cases z';subst hb;exact ⟨ha,by rw [ir];exact hl,vs,_,rv,ha⟩
   ·have z':=(abp hb).symm.trans z
    cases z'
  ·by_cases hb:b=a
   ·exact hb
   ·exact abo (abp hb) z
abbrev KOf {K:Frag}{h:Heap}(_:K.In h):Frag:=K
def inClass (s:Stmt)(j:Nat):Stmt:=match s with
 | .ClassDef _ _ _ body _ _ _ _ _ _ _=>body.getD j (.Pass ⟨0,0,0,0⟩)
 | _=>.Pass ⟨0,0,0,0⟩
def av (s:Stmt):Arguments:=match s with
 | .FunctionDef _ a _ _ _ _ _ _ _ _=>a
 | _=>{posonlyargs:=[],args:=[],vararg:=none,kwonlyargs:=[],kw_defaults:=[],kwarg:=none,defaults:=[]}
def aq (s:Stmt):List Stmt:=match s with
 | .FunctionDef _ _ b _ _ _ _ _ _ _=>b
 | _=>[]
def aa (s:Stmt):Scope:=match s with
 | .FunctionDef _ _ _ _ _ _ sc _ _ _=>sc
 | _=>{kind:=.function,names:=[],isGenerator:=false,isCoroutine:=false}
abbrev E0:XK:=fun _ _ _=>False
structure mf (K:Frag)(x qual:Str)(st:Stmt)(f:abj)(fd:FuncData):Prop where
 ex:∃(oc:Value)(od:ς)(kV doc pm:Value)(an:ς)(cdv ct:Value)(qG:Δ),
  fd=fnOf x qual (av st) (aq st) (aa st) .none kV doc pm an cdv ct/\K.lookup f=some ⟨oc,od,.func fd,qG⟩/\codeIn K cdv qual=true
 kp:keepIn K (.ref f)=true
section
variable {P:abJ}{w:World}{K:Frag}{mg:ζ}{base:Heap}
theorem mf.binds {st:Stmt}(F:mf K x qual st f fd)
  (h:∀(kV doc pm:Value)(an:ς)(cdv ct:Value)(us:θ),us.length=ps.length->bindArgs (fnOf x qual (av st) (aq st) (aa st) .none kV doc pm an cdv ct) ⟨us,[]⟩=pure (ps.zip us)):Binds K fd ps []:=by
 obtain ⟨oc,od,kV,doc,pm,an,cdv,ct,qG,rfl,lk,uD⟩:=F.ex;exact .all (h kV doc pm an cdv ct)
theorem bZ {st:Stmt}{od an:ς}{qG:Δ}{kV doc pm cdv ct:Value}(l:K.lookup f=some ⟨oc,od,.func (fnOf x qual (av st) (aq st) (aa st) .none kV doc pm an cdv ct),qG⟩)
  (c:codeIn K cdv qual=true) (k:keepIn K (.ref f)=true):mf K x qual st f (fnOf x qual (av st) (aq st) (aa st) .none kV doc pm an cdv ct):=⟨⟨oc,od,kV,doc,pm,an,cdv,ct,qG,rfl,l,c⟩,k⟩
end
theorem bB (hr:cV k A):A.units+1<adj:=aaW (Nat.add_le_add_left (by decide:1<=64) _) hr.units
section
variable {X:Cx}
theorem pv (i:Nat){pos:Pos}(hN:X.N[i]?=some x:=by rfl)(hv:Vis X.env.scope x:=by first|exact am0 rfl|exact aos (am0 rfl)|exact aos (aos rfl))(hd:(x==("__debug__":Str))=false:=by decide)
  (uD:(x==("__classdict__":Str))=false:=by decide):PE X (.Name x pos) (aj1 i):=aj2 hN hv hd uD
end
theorem dz {A B:Prop}(h:B):if false=true then A else B:=by
 rw [abp acZ];exact h
theorem fY {A B:Prop}(h:A):if true=true then A else B:=by
 rw [abv rfl];exact h
theorem aK {c A B:Prop}[Decidable c](h1:c->A)(h2:¬ c->B):if c then A else B:=by
 by_cases h:c
 ·rw [abv h]
  exact h1 h
 ·rw [abp h]
  exact h2 h
theorem aoG {c A B:Prop}[Decidable c](hc:c)(h:B):if (!decide c)=true then A else B:=by
 rw [abu hc];exact dz h
def au (H H':Hp):Prop:=∀b o,H b=some o->H' b=some o
theorem au.refl (H:Hp):au H H:=fun _ _ h=>h
theorem au.trans (a:au H H1)(b:au H1 H2):au H H2:=fun c o h=>b c o (a c o h)
theorem au.free (e:au H H')(h:H' l=aqH):H l=aqH:=by
 cases q:H l with
 | none=>rfl
 | some o=>
  rw [e l o q] at h;cases h
theorem au.seq {K:Frag}(e:au H H')(h:aZ K H a xs):aZ K H' a xs:=by
 rcases h with (h|⟨o,h⟩)|h
 ·exact .inl (.inl (e _ _ h))
 ·exact .inl (.inr ⟨o,e _ _ h⟩)
 ·exact .inr h
end L2
namespace Ty
def gz (t b:Int):Int:=(ae' t b:Nat)
def sg (t b:Int):Int:=if b<0 then -gz t b else gz t b
def low (t b:Int):Int×Int:=(t.fdiv (sg t b),b.fdiv (sg t b))
theorem MX (a b:Int):ae' b (a.fmod b)=ae' a b:=by
 rw [anq,Int.gcd_sub_mul_left_right,Int.gcd_comm]
theorem EO {a b:Int}(h:b≠0):(a.fmod b).natAbs<b.natAbs:=by
 rcases anX b 0 with q|q|q
 ·have h1:(-a).fmod (-b)= -(a.fmod b):=by
   rw [anq,anq,Int.neg_fdiv_neg,Int.neg_mul];omega
  have h2:=agX (-a) (show 0 < -b by omega);have h3:=akq (-a) (show 0 < -b by omega);omega
 ·exact abo q h
 ·have h2:=agX a q
  have h3:=akq a q;omega
theorem Zp (h:b≠0):0<gz t b:=by
 have:=aoV.mpr (aos h:t≠0\/b≠0);show (0:Int)<((ae' t b:Nat):Int);omega
theorem xY (h:b≠0):sg t b≠0:=by
 have:=Zp (t:=t) h;unfold sg;split<;>omega
theorem akh :(sg t b).natAbs=(gz t b).natAbs:=by
 unfold sg;split
 ·exact apS _
 ·rfl
theorem MY (t b:Int):sg t b ∣ t:=by
 unfold sg gz;split
 ·exact Int.neg_dvd.mpr (aov t b)
 ·exact aov t b
theorem GN (t b:Int):sg t b ∣ b:=by
 unfold sg gz;split
 ·exact Int.neg_dvd.mpr (an9 t b)
 ·exact an9 t b
theorem vK {a g:Int}(h:g≠0)(d:g ∣ a):a=g*a.fdiv g:=by
 obtain ⟨c,hc⟩:=d;have:=ag9 h hc;rw [this];exact hc
theorem xh (h:b≠0):t=sg t b*(low t b).1:=vK (xY h) (MY t b)
theorem r_ (h:b≠0):b=sg t b*(low t b).2:=vK (xY h) (GN t b)
theorem sf (h:b≠0):0<(low t b).2:=by
 have e:=r_ (t:=t) h;have g:=Zp (t:=t) h
 rcases anX (low t b).2 0 with q|q|q
 ·exfalso
  by_cases c:b<0
  ·have s:sg t b= -gz t b:=by unfold sg;rw [abv c]
   rw [s] at e;have:=Int.mul_pos_of_neg_of_neg (show -gz t b<0 by omega) q;omega
  ·have s:sg t b=gz t b:=by unfold sg;rw [abp c]
   rw [s] at e;have:=Int.mul_neg_of_pos_of_neg g q;omega
 ·exfalso
  rw [q,Int.mul_zero] at e;exact h e
 ·exact q
theorem VP (h:b≠0):(low t b).1*b=t*(low t b).2:=by
 have e1:=xh (t:=t) h;have e2:=r_ (t:=t) h
 calc (low t b).1*b=(low t b).1*(sg t b*(low t b).2):=by rw [<-e2]
  _=sg t b*(low t b).1*(low t b).2:=by rw [<-ank,am1 (low t b).1]
  _=t*(low t b).2:=by rw [<-e1]
theorem xi (h:b≠0):ae' (low t b).1 (low t b).2=1:=by
 have e1:=xh (t:=t) h;have e2:=r_ (t:=t) h
 have k:ae' t b=(sg t b).natAbs*ae' (low t b).1 (low t b).2:=by
  have q:=aow (sg t b) (low t b).1 (low t b).2;rw [<-e1,<-e2] at q;exact q
 have g:(sg t b).natAbs=ae' t b:=by
  rw [akh];rfl
 have p:=aoV.mpr (aos h:t≠0\/b≠0);rw [g] at k;have k':ae' t b*1=ae' t b*ae' (low t b).1 (low t b).2:=by rw [Nat.mul_one];exact k
 exact (Nat.eq_of_mul_eq_mul_left p k').symm
theorem p_ {g a:Int}(h:g≠0):a.natAbs<=(g*a).natAbs:=by
 rw [Int.natAbs_mul];have:1<=g.natAbs:=by omega
 have:=anb a.natAbs this;omega
theorem xZ (h:b≠0):(low t b).1.natAbs<=t.natAbs:=by
 have e:=xh (t:=t) h;have:=p_ (g:=sg t b) (a:=(low t b).1) (xY h);rw [<-e] at this;exact this
theorem x6 (h:b≠0):(low t b).2.natAbs<=b.natAbs:=by
 have e:=r_ (t:=t) h;have:=p_ (g:=sg t b) (a:=(low t b).2) (xY h);rw [<-e] at this;exact this
theorem Zq (hg:g≠0)(ht:t=g*x)(hb:b=g*y)(hy:0<y)(h1:ae' x y=1):low t b=(x,y):=by
 have hbn:b≠0:=by
  rw [hb];exact aoW hg (by omega)
 have gg:ae' t b=g.natAbs:=by
  rw [ht,hb,aow,h1,Nat.mul_one]
 have s:sg t b=g:=by
  unfold sg gz;rw [gg];by_cases c:g<0
  ·have:b<0:=by rw [hb];exact Int.mul_neg_of_neg_of_pos c hy
   rw [abv this];omega
  ·have:¬ b<0:=by
    have:=Int.mul_nonneg (show 0<=g by omega) (show 0<=y by omega);omega
   rw [abp this];omega
 unfold low;rw [s];rw [ag9 hg ht,ag9 hg hb]
theorem x8 (hy:0<y)(h:ae' x y=1):low x y=(x,y):=Zq (g:=1) (by decide) (by omega) (by omega) hy h
theorem ER (hk:k≠0)(h:b≠0):low (k*t) (k*b)=low t b:=by
 refine Zq (g:=k*sg t b) (aoW hk (xY h)) ?_ ?_ (sf h) (xi h)
 ·rw [ank]
  exact abV (k*·) (xh h)
 ·rw [ank]
  exact abV (k*·) (r_ h)
theorem AW (hb:b≠0)(hc:c≠0)(h:t*c=u*b):low t b=low u c:=by
 rw [<-ER (t:=t) (b:=b) hc hb,<-ER (t:=u) (b:=c) hb hc];rw [am1 c t,h,am1 u b,am1 c b]
end Ty
set_option maxHeartbeats 4000000
namespace Ty
open PySem PySem.Spec PyProof.Rows L2
open Builtin.Int (intBits)
section
variable {X:Cx}
def vL (i j:Int):Prop:=intBits i<=33554432/\intBits j<=33554432
theorem d6:pJ X (adg .Mult) (rI vL fun i j=>.int (i*j)):=
 opI fun _ _ _ _ _ _ _ hc q=>mul_int q (IntMulOk.of_le hc.1 hc.2 (by decide))
def Uz (i j:Int):Prop:=j≠0/\intBits j<=9000
theorem aw2 (h:intBits j<=9000):Builtin.divisionGoesByPylong i j=false:=by
 refine PyProof.noPylong_of_log2 ?_;have h1:=intBits_le_iff.mp h;by_cases h0:j.natAbs=0
 ·rw [h0]
  decide+kernel
 ·exact (ahT h0).mpr h1
theorem cS:pJ X (adg .FloorDiv) (rI Uz fun i j=>.int (i.fdiv j)):=
 opI fun _ _ _ _ _ _ _ hc q=>floordiv_int hc.1 q (.inl (aw2 hc.2))
end
theorem UA (h:n.natAbs<2^k):intBits n<=k:=intBits_le_iff.mpr h
inductive Da where
 | v (x:V)
 | t (ds:List Da)
 | l (ds:List Da)
mutual
def Is (K:Frag)(H:Hp):Da->V->Prop
 | .v x,u=>u=x/\mS x=true
 | .t ds,u=>∃p xs,u=.ref p/\dG K H p xs/\km K H ds xs
 | .l ds,u=>∃p xs,u=.ref p/\aZ K H p xs/\km K H ds xs
def km (K:Frag)(H:Hp):List Da->List V->Prop
 | [],[]=>True
 | d::ds,x::xs=>Is K H d x/\km K H ds xs
 | _,_=>False
end
mutual
def kX:Da->Da->Bool
 | .v x,.v y=>AR x y
 | .t ds,.t es=>gZ ds es
 | .l ds,.l es=>gZ ds es
 | _,_=>false
def gZ:List Da->List Da->Bool
 | [],[]=>true
 | d::ds,e::es=>kX d e && gZ ds es
 | _,_=>false
end
mutual
def alike:Da->Da->Bool
 | .v _,.v _=>true
 | .t ds,.t es=>gN ds es
 | .l ds,.l es=>gN ds es
 | _,_=>false
def gN:List Da->List Da->Bool
 | d::ds,e::es=>alike d e && gN ds es
 | _,_=>true
end
mutual
def dep:Da->Nat
 | .v _=>0
 | .t ds=>kY ds+1
 | .l ds=>kY ds+1
def kY:List Da->Nat
 | []=>0
 | d::ds=>max (dep d) (kY ds)
end
theorem km.length {K:Frag}:∀{ds:List Da} {xs:ε},km K H ds xs->ds.length=xs.length
 | [],[],_=>rfl
 | _::_,_::_,h=>abV (·+1) (km.length (by unfold km at h;exact h.2))
 | [],_::_,h=>by unfold km at h;exact h.elim
 | _::_,[],h=>by unfold km at h;exact h.elim
def nQ (ds es:List Da)(j:Nat):Bool:=match ds[j]?,es[j]? with
 | some d,some e=>kX d e
 | _,_=>true
theorem fH:∀ds es:List Da,gZ ds es=((afD (min ds.length es.length)).all (nQ ds es) && ds.length==es.length)
 | [],[]=>rfl
 | [],_::_=>by simp [gZ]
 | _::_,[]=>by simp [gZ]
 | d::ds,e::es=>by
  have ih:=fH ds es;have r:min (d::ds).length (e::es).length=min ds.length es.length+1:=by simp [Nat.succ_min_succ]
  rw [r,am2,ahQ,akf];have b0:nQ (d::ds) (e::es) 0=kX d e:=rfl
  have b1:(nQ (d::ds) (e::es) ∘ Nat.succ)=nQ ds es:=by
   funext j;rfl
  have l1:((d::ds).length==(e::es).length)=(ds.length==es.length):=by simp
  rw [b0,b1,l1,Bool.and_assoc,<-ih];rfl
section
variable {X:Cx}{pins:δ}{σ:L2.St}{H:Hp}{s:abw}
theorem Zr (h:mS x=true):AR x x=true:=by
 cases x<;>first|rfl|(simp [AR];done)|(cases h;done)
mutual
theorem GP (I:Inv X pins σ H s):∀(d e:Da)(x:V),Is X.K H d x->Is X.K H e x->alike d e=true->kX d e=true
 | .v a,.v b,x,h1,h2,_=>by
  unfold Is at h1 h2;obtain ⟨rfl,f⟩:=h1;obtain ⟨rfl,_⟩:=h2;unfold kX;exact Zr f
 | .t ds,.t es,x,h1,h2,a=>by
  unfold Is at h1 h2;obtain ⟨p,xs,rfl,q1,k1⟩:=h1;obtain ⟨p',ys,e',q2,k2⟩:=h2;cases e';cases I.EA q1 q2;unfold kX;unfold alike at a;exact x9 I ds es xs k1 k2 a
 | .l ds,.l es,x,h1,h2,a=>by
  unfold Is at h1 h2;obtain ⟨p,xs,rfl,q1,k1⟩:=h1;obtain ⟨p',ys,e',q2,k2⟩:=h2;cases e';cases I.nI q1 q2;unfold kX;unfold alike at a;exact x9 I ds es xs k1 k2 a
 | .v _,.t _,_,_,_,a=>by unfold alike at a;cases a
 | .v _,.l _,_,_,_,a=>by unfold alike at a;cases a
 | .t _,.v _,_,_,_,a=>by unfold alike at a;cases a
 | .t _,.l _,_,_,_,a=>by unfold alike at a;cases a
 | .l _,.v _,_,_,_,a=>by unfold alike at a;cases a
 | .l _,.t _,_,_,_,a=>by unfold alike at a;cases a
theorem x9 (I:Inv X pins σ H s):∀(ds es:List Da)(xs:ε),km X.K H ds xs->km X.K H es xs->gN ds es=true->gZ ds es=true
 | [],[],_,_,_,_=>by unfold gZ;rfl
 | d::ds,e::es,x::xs,h1,h2,a=>by
  unfold km at h1 h2;unfold gN at a;rw [ac8] at a;unfold gZ;rw [GP I d e x h1.1 h2.1 a.1,x9 I ds es xs h1.2 h2.2 a.2];rfl
 | [],_::_,[],_,h2,_=>by unfold km at h2;exact h2.elim
 | [],_::_,_::_,h1,_,_=>by unfold km at h1;exact h1.elim
 | _::_,[],[],h1,_,_=>by unfold km at h1;exact h1.elim
 | _::_,[],_::_,_,h2,_=>by unfold km at h2;exact h2.elim
 | _::_,_::_,[],h1,_,_=>by unfold km at h1;exact h1.elim
end
theorem in1_units (A:abM):A.in1.units=A.units+1:=rfl
mutual
theorem aeG (I:Inv X pins σ H s):∀(d e:Da)(x y:V)(u w:Value)(A:abM),Is X.K H d x->Is X.K H e y->alike d e=true->RelV x u->RelV y w->A.units+dep d<adj->SeqAt.EqAt A s u w (kX d e)
 | .v a,.v b,x,y,u,w,A,h1,h2,_,r1,r2,_=>by
  unfold Is at h1 h2;obtain ⟨rfl,f1⟩:=h1;obtain ⟨rfl,f2⟩:=h2;unfold kX;exact Zk r1 r2 f1 f2
 | .t ds,.t es,x,y,u,w,A,h1,h2,a,r1,r2,hu=>by
  have qI :=h1;have h2':=h2;unfold Is at h1 h2;obtain ⟨p,xs,rfl,q1,k1⟩:=h1;obtain ⟨p',ys,rfl,q2,k2⟩:=h2;cases r1;cases r2;by_cases e:p=p'
  ·subst e
   rw [GP I _ _ _ qI h2' a];exact .same _
  ·refine .of_refs e ?_
   obtain ⟨its,v1,t1,_⟩:=I.tuple q1;obtain ⟨nO,v2,t2,_⟩:=I.tuple q2;unfold kX;rw [fH,k1.length,k2.length,v1.length,v2.length]
   have z:=SeqAt.RcAt.tuples (A:=A) (e:=nQ ds es) t1 t2 (by unfold dep at hu;omega) fun j g1 g2=>by
    unfold dep at hu;unfold alike at a;exact jP I ds es xs ys its nO A.in1 k1 k2 a v1 v2 (by rw [in1_units];omega) j (by simpa using g1) (by simpa using g2)
   simpa using z
 | .l ds,.l es,x,y,u,w,A,h1,h2,a,r1,r2,hu=>by
  have qI :=h1;have h2':=h2;unfold Is at h1 h2;obtain ⟨p,xs,rfl,q1,k1⟩:=h1;obtain ⟨p',ys,rfl,q2,k2⟩:=h2;cases r1;cases r2;by_cases e:p=p'
  ·subst e
   rw [GP I _ _ _ qI h2' a];exact .same _
  ·refine .of_refs e ?_
   obtain ⟨its,v1,t1,_⟩:=I.list q1;obtain ⟨nO,v2,t2,_⟩:=I.list q2;unfold kX;unfold dep at hu;unfold alike at a;by_cases el:its.length=nO.length
   ·rw [fH,k1.length,k2.length,v1.length,v2.length]
    have z:=SeqAt.RcAt.lists (A:=A) (e:=nQ ds es) t1.isList t2.isList (by simpa using el) (by omega) fun j g1 g2=>
     jP I ds es xs ys its nO A.in1 k1 k2 a v1 v2 (by rw [in1_units];omega) j (by simpa using g1) (by simpa using g2)
    rw [el,an_,beq_self_eq_true,anl];rw [adb,el] at z;exact z
   ·have ne:gZ ds es=false:=by
     rw [fH,k1.length,k2.length,v1.length,v2.length,beq_eq_false_iff_ne.mpr el,aku]
    rw [ne];exact SeqAt.RcAt.lists_lengths t1.isList t2.isList (by simpa using el) (by omega)
 | .v _,.t _,_,_,_,_,_,_,_,a,_,_,_=>by unfold alike at a;cases a
 | .v _,.l _,_,_,_,_,_,_,_,a,_,_,_=>by unfold alike at a;cases a
 | .t _,.v _,_,_,_,_,_,_,_,a,_,_,_=>by unfold alike at a;cases a
 | .t _,.l _,_,_,_,_,_,_,_,a,_,_,_=>by unfold alike at a;cases a
 | .l _,.v _,_,_,_,_,_,_,_,a,_,_,_=>by unfold alike at a;cases a
 | .l _,.t _,_,_,_,_,_,_,_,a,_,_,_=>by unfold alike at a;cases a
theorem jP (I:Inv X pins σ H s):∀(ds es:List Da)(xs ys:ε)(us ws:θ)(A:abM),km X.K H ds xs->km X.K H es ys->gN ds es=true->Vals xs us->Vals ys ws->A.units+kY ds<adj->
  ∀(j:Nat)(h1:j<us.length)(h2:j<ws.length),SeqAt.EqAt A s us[j] ws[j] (nQ ds es j)
 | d::ds,e::es,xs,ys,us,ws,A,k1,k2,a,v1,v2,hu,j,h1,h2=>by
  cases xs with
  | nil=>unfold km at k1;exact k1.elim
  | cons x xs=>
   cases ys with
   | nil=>unfold km at k2;exact k2.elim
   | cons y ys=>
    cases v1 with
    | cons r1 v1=>
     cases v2 with
     | cons r2 v2=>
      unfold km at k1 k2;unfold gN at a;rw [ac8] at a;unfold kY at hu;cases j with
      | zero=>exact aeG I d e x y _ _ A k1.1 k2.1 a.1 r1 r2 (by omega)
      | succ j=>exact jP I ds es xs ys _ _ A k1.2 k2.2 a.2 v1 v2 (by omega) j (by simpa using h1) (by simpa using h2)
 | [],_,xs,_,us,_,_,k1,_,_,v1,_,_,_,h1,_=>by
  cases xs with
  | nil=>
   cases v1;exact abo h1 (ao_ _)
  | cons x xs=>unfold km at k1;exact k1.elim
 | _::_,[],_,ys,_,ws,_,_,k2,_,_,v2,_,_,_,h2=>by
  cases ys with
  | nil=>
   cases v2;exact abo h2 (ao_ _)
  | cons y ys=>unfold km at k2;exact k2.elim
end
end
section
variable {X:Cx}
inductive Zs (K:Frag)(x:V)(y:V)(H:Hp)(Q:VK):Prop
|mk (ds es:_)(_:((Is K H (.t ds) x/\Is K H (.t es) y)\/(Is K H (.l ds) x/\Is K H (.l es) y)))(_:gN ds es=true)(_:kY ds<=60)(_:Q (.bl (gZ ds es)) H)
inductive UB (K:Frag)(x:V)(y:V)(H:Hp)(Q:VK):Prop
|mk (ds es:_)(_:((Is K H (.t ds) x/\Is K H (.t es) y)\/(Is K H (.l ds) x/\Is K H (.l es) y)))(_:gN ds es=true)(_:kY ds<=60)(_:Q (.bl (!gZ ds es)) H)
theorem xj (hu:X.A.units+64<adj):pJ X (ab3 .Eq) (Zs X.K):=by
 intro pins s σ H x y v u Q I rx ry h;obtain ⟨ds,es,h,a,hd,q⟩:=h
 rcases h with ⟨h1,h2⟩|⟨h1,h2⟩
 ·unfold Is at h1 h2
  obtain ⟨p,xs,rfl,q1,k1⟩:=h1;obtain ⟨p',ys,rfl,q2,k2⟩:=h2;cases rx;cases ry;obtain ⟨its,v1,t1,_⟩:=I.tuple q1;obtain ⟨nO,v2,t2,_⟩:=I.tuple q2
  have z:=SeqAt.RcAt.tuples (A:=X.A) (e:=nQ ds es) t1 t2 (by omega) fun j g1 g2=>
   jP I ds es xs ys its nO X.A.in1 k1 k2 a v1 v2 (by rw [in1_units];omega) j (by simpa using g1) (by simpa using g2)
  refine z X.prog X.w X.xe _ ⟨.bl _,H,I,rfl,?_⟩;have e:=fH ds es;rw [k1.length,k2.length,v1.length,v2.length] at e;simpa [e] using q
 ·unfold Is at h1 h2
  obtain ⟨p,xs,rfl,q1,k1⟩:=h1;obtain ⟨p',ys,rfl,q2,k2⟩:=h2;cases rx;cases ry;obtain ⟨its,v1,t1,_⟩:=I.list q1;obtain ⟨nO,v2,t2,_⟩:=I.list q2;have e:=fH ds es;rw [k1.length,k2.length,v1.length,v2.length] at e;by_cases el:its.length=nO.length
  ·have z:=SeqAt.RcAt.lists (A:=X.A) (e:=nQ ds es) t1.isList t2.isList (by simpa using el) (by omega) fun j g1 g2=>
    jP I ds es xs ys its nO X.A.in1 k1 k2 a v1 v2 (by rw [in1_units];omega) j (by simpa using g1) (by simpa using g2)
   refine z X.prog X.w X.xe _ ⟨.bl _,H,I,rfl,?_⟩;rw [el,an_,beq_self_eq_true,anl] at e;simpa [e,el] using q
  ·have ne:gZ ds es=false:=by rw [e,beq_eq_false_iff_ne.mpr el,aku]
   rw [ne] at q;exact SeqAt.RcAt.lists_lengths t1.isList t2.isList (by simpa using el) (by omega) X.prog X.w X.xe _ ⟨.bl _,H,I,rfl,q⟩
theorem ku (hu:X.A.units+64<adj):pJ X (ab3 .NotEq) (UB X.K):=by
 intro pins s σ H x y v u Q I rx ry h;obtain ⟨ds,es,h,a,hd,q⟩:=h
 rcases h with ⟨h1,h2⟩|⟨h1,h2⟩
 ·unfold Is at h1 h2
  obtain ⟨p,xs,rfl,q1,k1⟩:=h1;obtain ⟨p',ys,rfl,q2,k2⟩:=h2;cases rx;cases ry;obtain ⟨its,v1,t1,_⟩:=I.tuple q1;obtain ⟨nO,v2,t2,_⟩:=I.tuple q2
  have z:=SeqAt.RcNeAt.tuples (A:=X.A) (e:=nQ ds es) t1 t2 (by omega) fun j g1 g2=>
   jP I ds es xs ys its nO X.A.in1 k1 k2 a v1 v2 (by rw [in1_units];omega) j (by simpa using g1) (by simpa using g2)
  refine z X.prog X.w X.xe _ ⟨.bl _,H,I,rfl,?_⟩;have e:=fH ds es;rw [k1.length,k2.length,v1.length,v2.length] at e;simpa [e] using q
 ·unfold Is at h1 h2
  obtain ⟨p,xs,rfl,q1,k1⟩:=h1;obtain ⟨p',ys,rfl,q2,k2⟩:=h2;cases rx;cases ry;obtain ⟨its,v1,t1,_⟩:=I.list q1;obtain ⟨nO,v2,t2,_⟩:=I.list q2;have e:=fH ds es;rw [k1.length,k2.length,v1.length,v2.length] at e;by_cases el:its.length=nO.length
  ·have z:=SeqAt.RcNeAt.lists (A:=X.A) (e:=nQ ds es) t1.isList t2.isList (by simpa using el) (by omega) fun j g1 g2=>
    jP I ds es xs ys its nO X.A.in1 k1 k2 a v1 v2 (by rw [in1_units];omega) j (by simpa using g1) (by simpa using g2)
   refine z X.prog X.w X.xe _ ⟨.bl _,H,I,rfl,?_⟩;rw [el,an_,beq_self_eq_true,anl] at e;simpa [e,el] using q
  ·have ne:gZ ds es=false:=by rw [e,beq_eq_false_iff_ne.mpr el,aku]
   rw [ne] at q;exact SeqAt.RcNeAt.lists_lengths t1.isList t2.isList (by simpa using el) (by omega) X.prog X.w X.xe _ ⟨.bl _,H,I,rfl,q⟩
def aki:V->Value
 | .ty n=>.type n
 | .ref a=>.ref a
 | _=>.none
def aha:V->Bool
 | .ty _=>true
 | .ref _=>true
 | _=>false
theorem aeH (h:aha c=true)(r:RelV c u):u=aki c:=by
 cases c<;>first|exact r|(cases h;done)
inductive aoH (K:Frag)(xs:ε)(H:Hp)(Q:VK):Prop
|mk (x c t b:_)(_:xs=[x,c])(_:aha c=true)(_:rZ K H x t)(_:abZ K t (aki c)=some b)(_:Q (.bl b) H)
theorem jc:mR X (.builtin "isinstance") (aoH X.K):=by
 intro pins s σ H xs us Q I r h;obtain ⟨x,c,t,b,rfl,hc,ty,e,q⟩:=h;obtain ⟨u,w,rfl,r1,r2⟩:=vals2 r;obtain rfl:=aeH hc r2;exact VJ I r1 ty e fun tk=>⟨.bl b,H,I.tok tk,rfl,q⟩
end
section
variable {K:Frag}
theorem fJ (h:((Value.type a==Value.type b)=true->v=true)/\((Value.type a==Value.type b)=false->PySem.W.kitMeta b=true/\(fastBuiltinMro a).map (·.contains (Value.type b))=some v)):abZ K (.type a) (.type b)=some v:=by
 unfold abZ;by_cases e:(Value.type a==Value.type b)=true
 ·rw [abv e,h.1 e]
 ·rw [abp e]
  obtain ⟨h1,h2⟩:=h.2 (by simpa using e);unfold PySem.W.kitCls;dsimp only;rw [abv h1];exact h2
end
theorem fm:ab2 "len"=some (.builtin "len"):=by decide+kernel
theorem ahb:ab2 "abs"=some (.builtin "abs"):=by decide+kernel
theorem dI:ab2 "isinstance"=some (.builtin "isinstance"):=by decide+kernel
theorem ahc:ab2 "all"=some (.builtin "all"):=by decide+kernel
theorem Zt:ab2 "int"=some (.type "int"):=by decide+kernel
theorem Zu:ab2 "bool"=some (.type "bool"):=by decide+kernel
theorem kx:ab2 "str"=some (.type "str"):=by decide+kernel
theorem GQ:ab2 "list"=some (.type "list"):=by decide+kernel
theorem vM {pos:Pos}(hg:Gl X x)(hm:X.mg x=none)(hv:ab2 x=some (.type n))(hn:x≠ "__name__":=by decide)(hd:(x==("__debug__":Str))=false:=by decide):PE X (.Name x pos) (tC (.ty n)):=aen (v:=.ty n) hg hm hv rfl hn hd
def akj (_ j:Int):Prop:=j≠0
theorem nz (h:j≠0):akj i j:=h
theorem bE :pJ X (adg .Mod) (rI akj fun i j=>.int (i.fmod j)):=aet
end Ty
namespace TyAtt
open PySem PySem.W PySem.Calls PyProof.Rows
open Builtin.Int (intBits)
theorem VQ {ns:List Int}(h:(WData.list (ns.map WData.int)).layable=true)(hn:n∈ns):intBits n<=1048576:=by
 obtain ⟨_,_,hw⟩:=layableW_iff.mp h
 have a:∀(l:List Int),n∈l->intBits n<=WData.weightAll (l.map WData.int):=by
  intro l
  induction l with
  | nil=>intro q;cases q
  | cons y r ih=>
   intro q;rw [ada];unfold WData.weightAll
   rcases aa3.mp q with z|z
   ·subst z
    have:intBits n<=WData.weight (.int n):=by
     unfold WData.weight;exact aaM _
    omega
   ·have:=ih z
    omega
 have b:=a ns hn;unfold WData.weight at hw;omega
theorem MZ {l:OpenLaw}{loose:η}
  (hn:l.most=some n) (hdf:d.params.defaults=[])
  (call:∀(w:World)(s₀ s₁:abw)(mg mb:ζ)(fa:abj)(o:Obj)(pm cd doc:Value)(a:abj)(vs:θ)(ns:List Int),
   Ground q loose [] XP w s₀ mg mb s₁.heap->YP w s₁.heap->
   s₁.heap.get? fa=some o->o.data=.func (docDef d.name d.params d.body d.scope pm cd doc)->s₁.heap.CodeRec cd d.name->mg d.name=some (.ref fa)->
   s₁.heap.get? a=some {cls:=.type "list",data:=.seq vs.toArray}->IntsAre vs ns->ns.length<=n->(∀i∈ns,intBits i<=1048576)->s₁.gens= #[]->
   acx (abx l.prog w) callerA (.call (.ref fa) ⟨[.ref a],[]⟩) (fun r s'=>r=.ok (.ret (.bool true))/\OldK s₁.heap s'.heap/\s'.os=s₁.os/\adk s'.gens) s₁):
  WalkO q loose XP YP l.row.toRowW d [] (fun f vs=>PySem.call f vs):=by
 intro w s₀ s₁ mg mb G Y fa o pm cd doc dV kV ho hd uD hD hmg hg args vals as aeE hlay hrd hwl hlo;obtain rfl:dV=.none:=Dflts.none hD hdf;obtain rfl:kV=.none:=Dflts.noKw hD;obtain ⟨a,vs,ns,rfl,rfl,akk,hints,hlen⟩:=Att.VM hn aeE hwl;have hb:∀i∈ns,intBits i<=1048576:=fun i hi=>VQ (layW_cons hlay).1 hi;refine enter_call (adl (call w s₀ s₁ mg mb fa o pm cd doc a vs ns G Y ho (fd_plain hd) uD hmg akk hints hlen hb hg) fun r s' hq=>?_);obtain ⟨rfl,h2,h3,h4⟩:=hq;exact ⟨.inl ⟨.bool true,.bool true,[],rfl,fun _=>rfl,.bool true,Att.VN l _,fun _=>⟨List.Pairwise.nil,fun _ hm=>(nomatch hm)⟩⟩,h2,h3,h4⟩
end TyAtt
namespace Ty
open PySem PySem.Spec PyProof.Rows L2
open Builtin.Int (intBits)
structure Fn (P:abJ)(w:World)(K:Frag)(mg:ζ)(base:Heap)(CX:uI)(k:Nat)(x:Str)(ps:η)(sp:Sp):Prop where
 ex:∃(f:abj)(fd:FuncData),bT P w K mg base CX k f fd ps sp/\Binds K fd ps []/\mg x=some (.ref f)/\keepIn K (.ref f)=true
structure Def (K:Frag)(mg:ζ)(x:Str)(st:Stmt)(ps:η):Prop where
 ex:∃(f:abj)(dV oc:Value)(od:ς)(kV doc pm:Value)(an:ς)(cdv ct:Value)(qG:Δ),
  K.lookup f=some ⟨oc,od,.func (fnOf x x (av st) (aq st) (aa st) dV kV doc pm an cdv ct),qG⟩/\codeIn K cdv x=true/\keepIn K (.ref f)=true/\
  Binds K (fnOf x x (av st) (aq st) (aa st) dV kV doc pm an cdv ct) ps []/\mg x=some (.ref f)
theorem Def.of {K:Frag}{st:Stmt}(F:mf K x x st f fd)(b:Binds K fd ps [])(m:mg x=some (.ref f)):Def K mg x st ps:=by
 obtain ⟨oc,od,kV,doc,pm,an,cdv,ct,qG,rfl,lk,uD⟩:=F.ex;exact ⟨f,.none,oc,od,kV,doc,pm,an,cdv,ct,qG,lk,uD,F.kp,b,m⟩
structure aeI (K:Frag)(mg:ζ)(x:Str)(st:Stmt)(ps:η)(ds:θ):Prop where
 ex:∃(f:abj)(dV oc:Value)(od:ς)(kV doc pm:Value)(an:ς)(cdv ct:Value)(qG:Δ),
  K.lookup f=some ⟨oc,od,.func (fnOf x x (av st) (aq st) (aa st) dV kV doc pm an cdv ct),qG⟩/\codeIn K cdv x=true/\keepIn K (.ref f)=true/\
  Binds K (fnOf x x (av st) (aq st) (aa st) dV kV doc pm an cdv ct) ps []/\Binds K (fnOf x x (av st) (aq st) (aa st) dV kV doc pm an cdv ct) ps ds/\mg x=some (.ref f)
section
variable {P:abJ}{w:World}{K:Frag}{mg:ζ}{base:Heap}{CX:uI}
theorem Def.ok {st:Stmt}(D:Def K mg x st ps)(S:aC N ps (aa st))(len:∀vs H Q E,sp vs H Q E->vs.length=ps.length)
  (gv:∀(f:abj)(cdv:Value)(A:abM)(outer:List Env)(s:abw)(H:Hp)(vs:ε)(Q:VK)(E:XK),cV k (A.deeper (aca x (aa st) s.heap.objs.size f cdv))->sp vs H Q E->
   ∃t,PSs (kh CX P w K mg base N x (aa st) f cdv A outer s H E).wm (aq st) t/\t {nx:=fun _ H'=>Q .bG H',rt:=Q} (start N vs) H):Fn P w K mg base CX (k+1) x ps sp:=by
 obtain ⟨f,dV,oc,od,kV,doc,pm,an,cdv,ct,qG,lk,uD,kp,b,m⟩:=D.ex;refine ⟨f,_,xV lk uD S len fun A outer s H vs Q E hr EL=>?_,b,m,kp⟩;obtain ⟨t,h,q⟩:=gv f cdv A outer s H vs Q E hr EL;exact ⟨t,h.wm,q⟩
theorem _root_.L2.mf.okG {st:Stmt}(F:mf K x x st f fd)(S:aC N ps (aa st))(len:∀vs H Q E,sp vs H Q E->vs.length=ps.length)
  (gv:∀(cdv:Value)(A:abM)(outer:List Env)(s:abw)(H:Hp)(vs:ε)(Q:VK)(E:XK),cV k (A.deeper (aca x (aa st) s.heap.objs.size f cdv))->sp vs H Q E->
   ∃t,PSs (kh CX P w K mg base N x (aa st) f cdv A outer s H E).wm (aq st) t/\t {nx:=fun _ H'=>Q .bG H',rt:=Q} (start N vs) H):bT P w K mg base CX (k+1) f fd ps sp:=by
 obtain ⟨oc,od,kV,doc,pm,an,cdv,ct,qG,rfl,lk,uD⟩:=F.ex;refine xV lk uD S len fun A outer s H vs Q E hr EL=>?_;obtain ⟨t,h,q⟩:=gv cdv A outer s H vs Q E hr EL;exact ⟨t,h.wm,q⟩
def qJ (CX:uI):Prop:=∀outer H s e s',CX outer H s E0 e s' ->False
theorem kz {X:Cx}(h:qJ CX):Passes CX X.wm E0:=fun _ _ _ _ _ _ _ q=>(h _ _ _ _ _ q).elim
section
variable {X:Cx}{k:Nat}{ps:η}{sp:Sp}{E:XK}{x:Str}{p pos:Pos}{e:Expr}{es:π}{t:TA}
theorem bK (F:Fn X.prog X.w X.K X.mg X.base CX k x ps sp)(hr:cV k X.A)(hx:Passes CX X E)(ha:PA X (e::es) t)(hg:Gl X x:=by rfl)(AU:(x==("__debug__":Str))=false:=by decide)
  (he:abF (e::es) X.env=(false,abU e X.env)::abF es X.env:=by rfl) (EG:(acu pos (abF es X.env)).any (·.1)=false:=by rfl):PE X (.Call (.Name x p) (e::es) [] pos) (Uw sp [] E t):=by
 obtain ⟨f,fd,G,b,m,kp⟩:=F.ex;exact aey G hr hg m kp b .nil hx ha AU he EG
structure FnD (P:abJ)(w:World)(K:Frag)(mg:ζ)(base:Heap)(CX:uI)(k:Nat)(x:Str)(ps:η)(ds:θ)(sp:Sp):Prop where
 ex:∃(f:abj)(fd:FuncData),bT P w K mg base CX k f fd ps sp/\Binds K fd ps ds/\mg x=some (.ref f)/\keepIn K (.ref f)=true
end
end
def Zv (K:Frag):Sp:=fun vs H Q _=>∃(a:abj)(ns:List Int),vs=[.ref a]/\aZ K H a (ns.map V.int)/\ns.length<=63/\(∀i∈ns,intBits i<=1048576)/\∀H',Q (.bl true) H'
theorem walk {l:PySem.W.OpenLaw}{loose:η}{K:Params->Frag}{CX:World->uI}
  (hn:l.most=some 63) (hdf:d.params.defaults=[]) (hi:importsNone q=true) (hr:cV k callerA)
  (hY:∀(w:World)(h:Heap),YP w h->(K w.params).In h) (hm:∀w,qJ (CX w))
  (F:∀(w:World)(mg:ζ)(fa:abj)(h:Heap),(K w.params).In h->h.Ns abA mg->mg d.name=some (.ref fa)->
   ∃fd:FuncData,(∀(s:abw)(u:Value),BindsTo s fd ⟨[u],[]⟩ [(x,u)])/\
    ∀base:Heap,(K w.params).In base->base.Ns abA mg->bT l.prog w (K w.params) mg base (CX w) k fa fd [x] (Zv (K w.params))):
  PySem.W.WalkO q loose XP YP l.row.toRowW d [] (fun f vs=>PySem.call f vs):=by
 refine TyAtt.MZ hn hdf fun w s₀ s₁ mg mb fa o pm cd doc a vs ns G Y ho hd uD hmg akk hints hlen hb hg=>?_;have KX:=hY w _ Y;obtain ⟨fd,hbd,hF⟩:=F w mg fa _ KX G.T.g hmg;exact Zo KX G.T.g G.T.b G.T.builtins G.T.nolimit (G.T.seer hi) hg akk hints (aah hlen (by decide)) hr hF hbd (fun H hO hS=>⟨a,ns,rfl,hS,hlen,hb,fun _=>rfl⟩) fun H e s'=>hm w [] H s₁ e s'
end Ty
namespace Ty
open PySem PySem.Spec PyProof.Rows
def sj (o:Obj):Option Value:=match o.data with
 | .fields vs=>vs[2]?
 | _=>none
theorem M_ (h:o.data=.fields vs):sj o=vs[2]? :=by unfold sj;rw [h]
def KD (h h':Heap):Prop:=∀b o,h.get? b=some o->∃o',h'.get? b=some o'/\o'.dict=o.dict/\sj o'=sj o
theorem KD.refl :KD h h:=fun b o e=>⟨o,e,rfl,rfl⟩
theorem KD.trans (a:KD h1 h2)(b:KD h2 h3):KD h1 h3:=fun c o e=>by
 obtain ⟨o1,e1,d1,c1⟩:=a c o e;obtain ⟨o2,e2,d2,c2⟩:=b c o1 e1;exact ⟨o2,e2,d2.trans d1,c2.trans c1⟩
theorem KD.keeps (k:∀b o,h.get? b=some o->h'.get? b=some o):KD h h':=fun b o e=>⟨o,k b o e,rfl,rfl⟩
theorem ES {h:Heap}(e:h.get? a=some o):o.isFreed=false:=by
 unfold Heap.get? at e;split at e
 ·cases e
 ·rename_i o' hn
  unfold Obj.isFreed;split
  ·rename_i c d sl
   exact abo e (hn c d sl)
  ·rfl
theorem KD.update (hf:∀o,(f o).dict=o.dict/\(f o).isFreed=o.isFreed/\sj (f o)=sj o):KD h (h.update a f):=fun b o e=>by
 by_cases c:b=a
 ·subst c
  exact ⟨f o,acz f e ((hf o).2.1.trans (ES e)),(hf o).1,(hf o).2.2⟩
 ·exact ⟨o,(abT h f (fun z=>c z.symm)).trans e,rfl,rfl⟩
def Kp {α:Type}:Sem α->Prop
 | .pure _=>True
 | .raise _=>True
 | .unsupported _=>True
 | .finish _=>True
 | .rule _ k=>Kp (k ())
 | .at _ k=>Kp (k ())
 | .load _ _ k=>∀o,Kp (k o)
 | .update _ _ f k=>(∀o,(f o).dict=o.dict/\(f o).isFreed=o.isFreed/\sj (f o)=sj o)/\Kp (k ())
 | .alloc _ k=>∀a,Kp (k a)
 | .loadIfAlive _ k=>∀o,Kp (k o)
 | .point _ k=>Kp (k ())
 | .fresh k=>∀t,Kp (k t)
 | .ask k=>∀t,Kp (k t)
 | .handled _ k=>∀t,Kp (k t)
 | .stack k=>∀t,Kp (k t)
 | .thread k=>∀t,Kp (k t)
 | _=>False
theorem Kp.bind :∀{m:Sem α} {f:α->Sem β},Kp m->(∀a,Kp (f a))->Kp (m.bind f):=by
 intro m f
 induction m with
 | pure a=>exact fun _ h=>h a
 | raise e=>exact fun _ _=>trivial
 | unsupported w=>exact fun _ _=>trivial
 | finish e=>exact fun _ _=>trivial
 | rule t k ih=>exact fun h hf=>ih () h hf
 | «at» p k ih=>exact fun h hf=>ih () h hf
 | load a p k ih=>exact fun h hf o=>ih o (h o) hf
 | update a p g k ih=>exact fun h hf=>⟨h.1,ih () h.2 hf⟩
 | alloc o k ih=>exact fun h hf a=>ih a (h a) hf
 | loadIfAlive a k ih=>exact fun h hf o=>ih o (h o) hf
 | point l k ih=>exact fun h hf=>ih () h hf
 | fresh k ih=>exact fun h hf o=>ih o (h o) hf
 | ask k ih=>exact fun h hf o=>ih o (h o) hf
 | handled o k ih=>exact fun h hf o=>ih o (h o) hf
 | stack k ih=>exact fun h hf o=>ih o (h o) hf
 | thread k ih=>exact fun h hf o=>ih o (h o) hf
 | _=>exact fun h=>h.elim
theorem Kp.wp :∀{t:Sem α} {P:α->Pos->abw->Prop} {E:Value->Pos->abw->Prop} {p:Pos} {s:abw} {h0:Heap},Kp t->KD h0 s.heap->Sem.wp M Γ t P E p s->Sem.wp M Γ t (fun a p' s'=>P a p' s'/\KD h0 s'.heap) E p s:=by
 intro t
 induction t with
 | pure a=>exact fun _ kd h=>⟨h,kd⟩
 | raise e=>exact fun _ _ h=>h
 | unsupported w=>exact fun _ _ h=>h
 | finish e=>exact fun _ _ h=>h
 | rule t k ih=>exact fun hk kd h=>ih () hk kd h
 | «at» p k ih=>exact fun hk kd h=>ih () hk kd h
 | load a p k ih=>exact fun hk kd h=>by obtain ⟨o,e,h⟩:=h;exact ⟨o,e,ih o (hk o) kd h⟩
 | update a p g k ih=>exact fun hk kd h=>⟨h.1,ih () hk.2 (kd.trans (KD.update hk.1)) h.2⟩
 | alloc o k ih=>exact fun hk kd h=>ih _ (hk _) (kd.trans (KD.keeps fun b o e=>abr _ e)) h
 | loadIfAlive a k ih=>exact fun hk kd h=>ih _ (hk _) kd h
 | point l k ih=>exact fun hk kd h=>ih () hk kd h
 | fresh k ih=>exact fun hk kd h=>ih _ (hk _) kd h
 | ask k ih=>exact fun hk kd h=>ih _ (hk _) kd h
 | handled o k ih=>exact fun hk kd h=>ih _ (hk _) kd h
 | stack k ih=>exact fun hk kd h=>ih _ (hk _) kd h
 | thread k ih=>exact fun hk kd h=>ih _ (hk _) kd h
 | _=>exact fun hk=>hk.elim
theorem Kp.any {Q:α->abw->Prop}{E:γ}(k:Kp t)(h:abz M A t Q E s):abz M A t (fun a s'=>Q a s'/\KD s.heap s'.heap) E s:=
 fun Γ p hΓ=>Kp.wp k KD.refl (h Γ p hΓ)
theorem dJ :Kp (pure a:Sem α):=trivial
theorem qa :Kp (unsupported w:Sem α):=trivial
theorem bU {f:α->Sem β}(h:Kp m)(hf:∀a,Kp (f a)):Kp (m >>=f):=Kp.bind h hf
theorem mD {α:Type}{c:Prop}[Decidable c]{a b:Sem α}(h1:Kp a)(h2:Kp b):Kp (if c then a else b):=by
 split
 ·exact h1
 ·exact h2
theorem GU :Kp (load a):=fun _=>trivial
theorem x_:Kp stack:=fun _=>trivial
theorem kA (hi:i≠2:=by decide):Kp (setField e i x):=by
 unfold setField;split
 ·unfold updateField
  refine bU GU fun o=>?_;split
  ·refine mD ⟨fun o=>?_,trivial⟩ qa
   unfold Obj.mapFields;split
   ·exact ⟨rfl,rfl,Array.getElem?_setIfInBounds_ne (ac2 (ac2 hi))⟩
   ·exact ⟨rfl,rfl,rfl⟩
  ·exact qa
 ·exact qa
theorem sk :Kp (field e i):=by
 unfold field;refine bU ?_ fun vs=>?_
 ·unfold fieldsOf
  split
  ·refine bU GU fun o=>?_
   split
   ·exact dJ
   ·exact qa
  ·exact qa
 ·split
  ·exact dJ
  ·exact qa
theorem mE {f:ς}:Kp (setFlight e f):=by
 unfold setFlight;exact bU sk fun tb=>mD kA dJ
theorem VR :Kp (behindIsImport env outer):=by
 unfold behindIsImport;exact mD dJ (mD dJ (bU sk fun _=>dJ))
theorem NA :Kp (keptBack env b outer):=by
 unfold keptBack;split
 ·refine mD dJ (bU ?_ fun _=>dJ)
  unfold underTheClaimsCaller;exact bU x_ fun _=>dJ
 ·exact dJ
theorem nT:∀l:List Env,Kp (readyFrames l)
 | []=>trivial
 | env::outer=>by
  rw [readyFrames.eq_2];split
  ·refine bU GU fun o=>mD dJ (bU VR fun _=>bU NA fun _=>bU ⟨fun o=>⟨rfl,?_,rfl⟩,trivial⟩ fun _=>nT outer)
   obtain ⟨c,d,dt,sl⟩:=o;cases dt<;>rfl
  ·exact qa
theorem ya :Kp (PySem.frameOf env):=by
 unfold PySem.frameOf;refine bU ?_ fun l=>bU ?_ fun o=>?_
 ·unfold frameEnvs
  exact bU x_ fun _=>dJ
 ·unfold frameObject
  split
  ·exact dJ
  ·exact bU (nT _) fun _=>dJ
 ·split
  ·exact dJ
  ·exact qa
theorem mT :Kp (entryPlaceOf f b):=by
 unfold entryPlaceOf;refine bU x_ fun a=>?_;dsimp only;split<;>exact dJ
theorem vN {l:θ}:Kp (EntryCells.newEntry a b c d e l):=by
 unfold EntryCells.newEntry newFields newObj;dsimp only;refine mD (bU qa fun _=>?_) ?_
 ·exact fun _=>trivial
 ·exact fun _=>trivial
theorem sm :Kp (noteFrame e env):=by
 unfold noteFrame;split
 ·refine bU sk fun head=>mD (bU sk fun x=>mD dJ (bU kA fun _=>?_)) ?_
  ·exact bU ya fun _=>bU mT fun _=>bU vN fun _=>kA
  ·exact bU ya fun _=>bU mT fun _=>bU vN fun _=>kA
 ·exact qa
theorem qK :Kp (leaving env e):=by
 unfold leaving;exact bU sm fun _=>mE
end Ty
namespace Ty
open PySem PySem.Spec PyProof.Rows L2
theorem Un.shrink (u:Un Uo ex H H' h h')(hs:∀b o,h.get? b=some o->b∈Uo ->b∈fs):Un fs ex H H' h h':=
 ⟨fun b o e n hb hx=>u.keep b o e n (fun z=>hb (hs b o e z)) hx,fun b o e n hb hx=>u.any e n hx,u.free,u.there,u.m9,u.mj,u.m_⟩
theorem xk (u:Un (nH l) [] H H' h h1)(s1:B.StaysIn h1)(s2:B.StaysIn h2)(th:∀b o,h.get? b=some o->b∉nH l->∃o',B.get? b=some o')
  (ff:h1.FunFrames B l) (up:h1.UpToSlots h2):Un (nH l) [] H H' h h2:=by
 have inB:∀b o,h.get? b=some o->H b=none->b∉nH l->B.get? b=some o:=fun b o e n hb=>by
  obtain ⟨o',eB⟩:=th b o e hb;have z:=u.keep b o e n hb (by simp);rw [s1 b o' eB] at z;cases z;exact eB
 refine ⟨fun b o e n hb _=>s2 b o (inB b o e n hb),fun b o e n hb _=>?_,fun b o e n _=>u.free b o e n (by simp),fun b o e _=>?_,u.m9,u.mj,u.m_⟩
 ·obtain ⟨sl,e1⟩:=u.any e n (by simp)
  obtain ⟨_,o',e2,nf⟩:=ff.mem hb;rw [e1] at e2;cases e2;obtain ⟨sl',e3⟩:=up b _ e1 nf;exact ⟨sl',e3⟩
 ·by_cases hb:b∈nH l
  ·obtain ⟨_,o',e2,nf⟩:=ff.mem hb
   obtain ⟨sl',e3⟩:=up b _ e2 nf;exact ⟨_,e3⟩
  ·obtain ⟨o',eB⟩:=th b o e hb
   exact ⟨o',s2 b o' eB⟩
theorem sr {h1 h2 B:Heap}(ok:mh P w H' h1)(s1:B.StaysIn h1)(s2:B.StaysIn h2)(tr:∀b u,H' b=some u->∃o,B.get? b=some o):mh P w H' h2:=fun b u e=>
 (ok b u e).rW (fun c v hc q=>by
  obtain ⟨o,eB⟩:∃o,B.get? c=some o:=by
   rcases hc with z|z
   ·rw [z]
    exact tr b u e
   ·exact tr c _ z
  rw [s1 c o eB] at q;cases q
  exact s2 c _ eB) (fun _ q=>q) fun _ _ q=>q
theorem obj_some (x:bX P w H h a o):∃ob,h.get? a=some ob:=by
 cases o with
 | lst xs=>obtain ⟨_,_,_,_,e⟩:=x;exact ⟨_,e⟩
 | tup xs=>obtain ⟨_,_,_,ob,e,_⟩:=x;exact ⟨ob,e⟩
 | dK kvs=>obtain ⟨_,_,_,_,ob,_,_,e,_⟩:=x;exact ⟨ob,e⟩
 | dT kvs=>obtain ⟨_,_,_,_,ob,_,_,e,_⟩:=x;exact ⟨ob,e⟩
 | set S n=>obtain ⟨ob,_,_,_,e,_⟩:=x;exact ⟨ob,e⟩
 | ins C dx fs=>obtain ⟨_,_,_,e,_⟩:=x;exact ⟨_,e⟩
 | own y=>exact (show ∃o,h.get? a=some o from x)
 | xd fs=>obtain ⟨_,⟨od,_,_,e,_⟩,_⟩:=x;exact ⟨od,e⟩
 | rng lo hi=>obtain ⟨_,_,_,e⟩:=x;exact ⟨_,e⟩
 | iT ob u=>exact ⟨ob,x.1⟩
 | tbl ps=>exact ⟨_,x⟩
 | met f y=>exact ⟨_,x⟩
 | ext φ=>exact x.2.1
def DictAt (h:Heap)(a:abj)(dx:ς):Prop:=∃o,h.get? a=some o/\o.dict=dx/\sj o=some .none
theorem DictAt.kd (d:DictAt h a dx)(k:KD h h'):DictAt h' a dx:=by
 obtain ⟨o,e,d,c⟩:=d;obtain ⟨o',e',d',c'⟩:=k a o e;exact ⟨o',e',d'.trans d,c'.trans c⟩
def aT (P:abJ)(w:World):uI:=fun outer H s E e s'=>∃(a:abj)(cls a0:Value)(dx:ς)(H':Hp)(B:Heap),
 e=.ref a/\Heap.FlyingW B outer a cls a0 s'.heap/\DictAt s'.heap a dx/\Un (nH outer) [] H H' s.heap s'.heap/\mh P w H' s'.heap/\s'.os=s.os/\adk s'.gens/\
 (∀b o,s.heap.get? b=some o->b∉nH outer->∃o',B.get? b=some o')/\(∀b u,H' b=some u->∃o,B.get? b=some o)/\E cls dx H'
theorem aT.AX :qJ (aT P w):=fun _ _ _ _ _ h=>by obtain ⟨_,_,_,_,_,_,_,_,_,_,_,_,_,_,_,z⟩:=h;exact z
section
variable {P:abJ}{w:World}{K:Frag}{mg:ζ}{base:Heap}{N:η}{qual:Str}{scope:Scope}{f:abj}{cdv:Value}{A:abM}{outer:List Env}{s0:abw}{H0:Hp}{E:XK}
abbrev hZ (P:abJ)(w:World)(K:Frag)(mg:ζ)(base:Heap)(N:η)(qual:Str)(scope:Scope)(f:abj)(cdv:Value)(A:abM)(outer:List Env)(s0:abw)(H0:Hp)(E:XK):Cx:=kh (aT P w) P w K mg base N qual scope f cdv A outer s0 H0 E
theorem Ro {σ:L2.St}{s s':abw}(I:Inv (hZ P w K mg base N qual scope f cdv A outer s0 H0 E) pins σ H s)
  (fl:Heap.FlyingW B outer a cls a0 h2) (da:DictAt h2 a dx) (ff:s'.heap.FunFrames B (hZ P w K mg base N qual scope f cdv A outer s0 H0 E).stack) (st:B.StaysIn s'.heap)
  (un:Un (nH (hZ P w K mg base N qual scope f cdv A outer s0 H0 E).stack) [] H H' s.heap s'.heap) (ok:mh P w H' s'.heap) (os:s'.os=s.os) (bare:adk s'.gens)
  (th:∀b o,s.heap.get? b=some o->b∉nH (hZ P w K mg base N qual scope f cdv A outer s0 H0 E).stack->∃o',B.get? b=some o') (tr:∀b u,H' b=some u->∃o,B.get? b=some o) (up:s'.heap.UpToSlots h2) (hE:E cls dx H'):
  aT P w outer H0 s0 E (.ref a) {s' with heap:=h2}:=by
 have sh:∀b o,s0.heap.get? b=some o->b∈nH (hZ P w K mg base N qual scope f cdv A outer s0 H0 E).stack->b∈nH outer:=fun b o e hb=>by
  rcases aa3.mp (I.GB b hb) with z|z
  ·subst z
   exact abo (aaS (abB e) I.ok.above) (afw _)
  ·exact z
 have un2:=xk un st fl.1 th ff up
 have ub:Un (nH (hZ P w K mg base N qual scope f cdv A outer s0 H0 E).stack) [] H0 H s0.heap s.heap:=I.base.mono (fun b hb=>by
  obtain ⟨env,he,hf⟩:=afE.mp hb
  exact afE.mpr ⟨env,aa2 _ he,hf⟩) fun _ z=>z
 refine ⟨a,cls,a0,dx,H',B,rfl,fl,da,Un.shrink (ub.trans un2) sh,sr ok st fl.1 tr,os.trans I.os,bare,fun b o e hb=>?_,tr,hE⟩;obtain ⟨o',e'⟩:=I.base.there b o e (fun z=>(nomatch (show b∈([]:List abj) from z)));exact th b o' e' fun z=>hb (sh b o e z)
theorem fZ:Passes (aT P w) (hZ P w K mg base N qual scope f cdv A outer s0 H0 E) E:=fun pins σ H s e s' I q=>by
 obtain ⟨a,cls,a0,dx,H',B,rfl,fl,da,un,ok,os,bare,th,tr,hE⟩:=q;show abz (abx P w) (A.deeper (aca qual scope s0.heap.objs.size f cdv)) (leaving (aca qual scope s0.heap.objs.size f cdv) (.ref a)) _ _ s';refine abH (Kp.any qK (wpAny_leaves_onW (outer:=outer) (Q:=fun _ s2=>∃h2,s2={s' with heap:=h2}/\B.FlyingW outer a cls a0 h2/\s'.heap.UpToSlots h2) (E:=fun _ _=>False) I.ok.frames rfl fl fun h2 fl2 up=>⟨h2,rfl,fl2,up⟩)) (fun _ s2 z=>?_) fun _ _ z=>z.elim;obtain ⟨⟨h2,rfl,fl2,up⟩,kd⟩:=z;exact Ro I fl2 (da.kd kd) fl.2.2.1 fl.1 un ok os bare th tr up hE
theorem aeJ {bmB:θ}(X:K.In h)(q:aco K C bmB newId=true):
  ∃bm N nm q bs hdct sn sub ab col dd k0 k1 k2 k3 k5 mN,h.get? C=some (acn nm q C N bs bm hdct sn sub ab col dd k0 k1 k2 k3 k5 newId)/\h.Ns N mN/\mN "__init__"=none/\OwnTail h bmB bm:=by
 unfold aco at q;split at q
 ·rename_i dd cd sl ho
  split at q
  ·rename_i C' bm k0 k1 k2 k3 n k5 hm hs
   simp only [ac8,beq_iff_eq,aeM] at q;obtain ⟨⟨⟨⟨⟨rfl,rfl⟩,aoJ⟩,ht⟩,cg⟩,hni⟩:=q;obtain ⟨nm,bs,mro,ns,qn,hd,sn,sub,ab,col,del⟩:=cd;dsimp only at hm aoJ cg hni;subst hm aoJ
   have hsl:sl= #[k0,k1,k2,k3,some (.builtin n),k5]:=by
    obtain ⟨l⟩:=sl;simp only at hs;rw [hs]
   subst hsl;exact ⟨bm,ns,nm,qn,bs,hd,sn,sub,ab,col,dd,k0,k1,k2,k3,k5,_,X _ _ ho,.of_isNs (PySem.W.isNs_of_in X cg),PySem.W.nsMap_none_of_in X cg hni,PySem.W.tail_of_in X ht⟩
  ·cases q
 ·cases q
def akl (C:abj)(E:XK)(ta:TA):TS:=fun _ σ H=>ta σ H fun vs H1=>vs.length<=abl/\E (.ref C) none H1
theorem dm {bmB:θ}{rest:π}{np ki pos:Pos}(FB:ExcBaseFacts Bn newId GW bmB)(hm:mg x=some (.ref C))(hq:aco K C bmB newId=true)
  (hh:(A.deeper (aca qual scope s0.heap.objs.size f cdv)).handled=none) (ha:PA (hZ P w K mg base N qual scope f cdv A outer s0 H0 E).wm (e₀::rest) ta)
  (hg:Gl (hZ P w K mg base N qual scope f cdv A outer s0 H0 E) x:=by rfl) (hd:(x==("__debug__":Str))=false:=by decide)
  (he:abF (e₀::rest) (hZ P w K mg base N qual scope f cdv A outer s0 H0 E).env=(false,abU e₀ (hZ P w K mg base N qual scope f cdv A outer s0 H0 E).env)::abF rest (hZ P w K mg base N qual scope f cdv A outer s0 H0 E).env:=by rfl)
  (hp:(acu ki (abF rest (hZ P w K mg base N qual scope f cdv A outer s0 H0 E).env)).any (·.1)=false:=by rfl):
  PS (hZ P w K mg base N qual scope f cdv A outer s0 H0 E) (.Raise (some (.Call (.Name x np) (e₀::rest) [] ki)) none pos) (akl C E ta):=by
 intro pins s σ H D I h;obtain ⟨tl,Na,nm,q,bs,hdct,sn,sub,ab,col,dd,k0,k1,k2,k3,k5,mN,hC,hN,hni,T⟩:=aeJ (h:=base) I.mod.kin hq
 refine wpAny_Raise_call_subT (C:=C) (nm:=nm) (q:=q) (N:=Na) (bs:=bs) (bm:=tl) (hdct:=hdct) (sn:=sn) (sub:=sub) (ab:=ab) (col:=col) (dd:=dd) (k0:=k0) (k1:=k1) (k2:=k2) (k3:=k3) (k5:=k5)
  FB (mN:=mN) (T.hasType FB.hasBase) hh (by rw [he];show (false || (acu ki (abF rest _)).any (·.1))=false;rw [hp];rfl) hni (iU I hg hm ⟨rfl,?_⟩ hd)
 suffices z:abz (abx P w) (A.deeper (aca qual scope s0.heap.objs.size f cdv)) (spliced (acu ki (abF (e₀::rest) (hZ P w K mg base N qual scope f cdv A outer s0 H0 E).env))) (fun vs s₂=>vs.length<=abl/\(∀b o,base.get? b=some o->s₂.heap.get? b=some o)/\
   ∀h' e,Heap.MadeExcOf s₂.heap h' e (.ref C) vs->(hZ P w K mg base N qual scope f cdv A outer s0 H0 E).xe (.ref e) {s₂ with heap:=h'}) (hZ P w K mg base N qual scope f cdv A outer s0 H0 E).xe s by
  rw [he] at z ⊢;exact Calls.evalArgs_plain (abH z (fun vs s₂ h₂=>⟨rfl,h₂.1,h₂.2.1 _ _ hC,hN.keeps h₂.2.1,T.keeps h₂.2.1,h₂.2.2⟩) fun _ _ y=>y)
 refine abH (ha ki pins s σ H _ (I.rY _) h) (fun us s2 z=>?_) fun _ _ z=>z.elim;obtain ⟨vs,H1,I1,r,hl,hE⟩:=z;have I2:Inv (hZ P w K mg base N qual scope f cdv A outer s0 H0 E) pins σ H1 s2:=I1.jo;have bk:=I2.bk;refine ⟨by rw [<-r.length];exact hl,bk,fun h' e hx=>?_⟩;show abz (abx P w) (A.deeper (aca qual scope s0.heap.objs.size f cdv)) (leaving (aca qual scope s0.heap.objs.size f cdv) (.ref e)) _ _ {s2 with heap:=h'};have hin:∀env∈(hZ P w K mg base N qual scope f cdv A outer s0 H0 E).stack,∀b,env.frame=some b->b∈nH (hZ P w K mg base N qual scope f cdv A outer s0 H0 E).stack:=fun env he b hb=>afE.mpr ⟨env,he,hb⟩;have ffB:=PySem.W.funFrames_hide I2.stack hin;have st:(adL s2.heap (nH (hZ P w K mg base N qual scope f cdv A outer s0 H0 E).stack)).StaysIn s2.heap:=fun b o q=>PySem.W.of_hideAll _ q
 have da:DictAt h' e none:=by
  obtain ⟨t,ht,_⟩:=hx.there;exact ⟨_,ht,rfl,rfl⟩
 refine abH (Kp.any qK (wpAny_leaves_madeW (outer:=outer) (s:={s2 with heap:=h'}) (Q:=fun _ s3=>∃h2 t,s3={s2 with heap:=h2}/\(adL s2.heap (nH (hZ P w K mg base N qual scope f cdv A outer s0 H0 E).stack)).FlyingW outer e (.ref C) (.ref t) h2/\h'.UpToSlots h2) (E:=fun _ _=>False) I.ok.frames rfl st ffB hx fun h2 t fl _ _ up=>⟨h2,t,rfl,fl,up⟩)) (fun _ s3 z=>?_) fun _ _ z=>z.elim;obtain ⟨⟨h2,t,rfl,fl,up⟩,kd⟩:=z;refine Ro (s':={s2 with heap:=h'}) (H:=H1) (s:=s2) I2 fl (da.kd kd) (ffB.of_keeps fun b o e _=>⟨o,hx.keeps b o e,rfl⟩) (fun b o q=>hx.keeps b o (st b o q)) (Un.kept hx.keeps) (I2.cg.kept hx.keeps) rfl I2.bare (fun b o e hb=>⟨o,acO _ e hb⟩) (fun b u e=>?_) up hE
 obtain ⟨o,ho⟩:∃o,s2.heap.get? b=some o:=by
  have:=I2.cg b u e;exact obj_some this
 exact ⟨o,acO _ ho fun z=>by
  have:=I2.rX b z;rw [e] at this
  cases this⟩
end
section
variable {X:Cx}{pins:δ}{σ:L2.St}{H H':Hp}{s:abw}
theorem xl {E:γ}{Q:Β}(I:Inv X pins σ H s)(hN:X.N.Nodup)(hi:X.N[i]?=some x)(hk:X.env.scope.names.lookup x=some .local)
  (h:∀s',Inv X pins (σ.set i none) H s' ->Q () s'):abz M A (do bindName X.env x .none;unbindBehindTheSuite X.env x pos) Q E s:=by
 obtain ⟨m,hn,hl⟩:=id I.loc;have Ra:(X.env.scope.kind==.class || (X.env.scope.kind==.module && X.env.locals !=X.env.globals))=false:=by rw [I.ok.kind];rfl
 have hiσ:i < σ.length:=by rw [I.len];exact (Wp.mp hi).1
 have Y3:=I.Y3;refine wpAny_nameGoes_keeps hk hn Ra fun h' v0 hn' hs=>?_;obtain ⟨oL,_,_,hoL,_⟩:=id hn
 have tracked:mh X.prog X.w H h':=fun b ob e=>by
  refine (I.cg b ob e).rW (fun c w' hc q=>(hs.2 c ?_).trans q) (fun _ q=>q) fun _ _ q=>q;rintro rfl;have MG:=I.free
  rcases hc with rfl|hc
  ·rw [MG] at e;cases e
  ·rw [MG] at hc;cases hc
 refine h _ ⟨I.ok,I.os,I.bare,⟨fun b o e n hb hx=>?_,fun b o e n hb hx=>?_,I.base.free,fun b o e hx=>?_,I.base.m9,I.base.mj,I.base.m_⟩,⟨_,hn',fun j y v' e1 e2 e3=>?_⟩,fun y c e=>?_,I.free,I.jN,fun p hp=>?_,tracked,by simpa using I.len⟩
 ·exact (hs.2 b (ac9 (aaS (abB e) I.ok.above))).trans (I.base.keep b o e n hb hx)
 ·obtain ⟨sl,e1⟩:=I.base.slot b o e n hb hx
  exact ⟨sl,(hs.2 b (ac9 (aaS (abB e) I.ok.above))).trans e1⟩
 ·obtain ⟨o',e1⟩:=I.base.there b o e hx
  exact ⟨o',(hs.2 b (ac9 (aaS (abB e) I.ok.above))).trans e1⟩
 ·by_cases hj:j=i
  ·subst hj
   rw [ahH hiσ] at e2;cases e2
  ·rw [ahS (ac2 hj)] at e2
   obtain ⟨u',r',q⟩:=hl j y v' e1 e2 e3;refine ⟨u',r',?_⟩
   rcases q with ⟨k,e⟩|⟨k,c,e,z⟩
   ·refine .inl ⟨k,?_⟩
    have:y≠x:=fun e=>hj (xH hN e1 (e▸hi));simp [this,e]
   ·exact .inr ⟨k,c,e,z.sameBut hs (Y3 y c e)⟩
 ·obtain ⟨w',z⟩:=I.cell y c e
  exact ⟨w',z.sameBut hs (Y3 y c e)⟩
 ·obtain ⟨e,n,ne,nf,d⟩:=I.pin p hp
  exact ⟨(hs.2 p.1 ne).trans e,n,ne,nf,d⟩
abbrev hnd (X:Cx)(a:abj):Cx:={X with A:=X.A.mark (some (.ref a)),calm:=false,xe:=fun _ _=>False}
theorem akn (ok:X.Ok):(hnd X a).Ok:=
 ⟨ok.mod,ok.kind,ok.glob,ok.blt,ok.above,ok.inj,ok.has,ok.cab,fun z=>(nomatch z),ok.frames,ok.stk,ok.exf,ok.bs,ok.bsz,ok.VD,ok.Y2,ok.uB,ok.frf⟩
theorem GX (I:Inv X pins σ H s):Inv (hnd X a) pins σ H s:=⟨akn I.ok,I.os,I.bare,I.base,I.loc,I.cell,I.free,I.jN,I.pin,I.cg,I.len⟩
theorem nU (ok:X.Ok)(I:Inv (hnd X a) pins σ H s):Inv X pins σ H s:=⟨ok,I.os,I.bare,I.base,I.loc,I.cell,I.free,I.jN,I.pin,I.cg,I.len⟩
theorem aoK (I:Inv X pins σ H s)(fresh:∀ob,X.s₀.heap.get? a≠some ob)(hp:∀p∈X.pn++pins,p.1≠a)(hL:a≠X.env.locals)(hC:∀x c,X.env.cells.lookup x=some c->c≠a)(hn:H a=none)
  (new:bX X.prog X.w (upd H a o) s.heap a o):Inv X pins σ (upd H a o) s:=by
 have ne:∀b u,H b=some u->b≠a:=fun b u e z=>by rw [z,hn] at e;cases e
 refine ⟨I.ok,I.os,I.bare,⟨I.base.keep,I.base.slot,fun b ob e n hx=>?_,I.base.there,fun b xs e=>?_,fun b ob u e=>?_,fun b ps e=>?_⟩,I.loc,I.cell,?_,fun x c e=>?_,fun p h=>?_,fun b u e=>?_,I.len⟩
 ·rw [ah (fun z=>fresh ob (by rw [<-z];exact e))]
  exact I.base.free b ob e n hx
 ·have q:=I.base.m9 b xs e
  rw [ah (ne _ _ q)];exact q
 ·have q:=I.base.mj b ob u e
  rw [ah (ne _ _ q)];exact q
 ·obtain ⟨more,q⟩:=I.base.m_ b ps e
  exact ⟨more,by rw [ah (ne _ _ q)];exact q⟩
 ·rw [ah (ac2 hL)]
  exact I.free
 ·rw [ah (hC x c e)]
  exact I.jN x c e
 ·obtain ⟨e,n,r⟩:=I.pin p h
  exact ⟨e,by rw [ah (hp p h)];exact n,r⟩
 ·by_cases z:b=a
  ·subst z
   rw [ai] at e;cases e;exact new
  ·rw [ah z] at e
   exact (I.cg b u e).rW (fun _ _ _ q=>q) (fun c q=>by rw [ah (ne _ _ q)];exact q) fun c xs q=>by rw [ah (ne _ _ q)];exact q
def Rp (cls:Value)(a:abj)(dx:ς):HO:=.ext fun h=>∃o vs,h.get? a=some o/\o.cls=cls/\o.data=.fields vs/\o.dict=dx/\vs[2]?=some .none
theorem aeK {dx:ς}{o:Obj}(e:h.get? a=some o)(hc:o.cls=cls)(hd:o.data=.fields vs)(hx:o.dict=dx)(h2:vs[2]?=some .none):bX P w H h a (Rp cls a dx):=
 ⟨⟨o,vs,e,hc,hd,hx,h2⟩,⟨o,e⟩,fun _ _ ⟨o',ET,q,c,d,x,y⟩ k=>⟨o',ET,k _ q,c,d,x,y⟩⟩
structure Ld (X:Cx)(pins:δ)(σ:L2.St)(H:Hp)(a:abj)(cls:Value)(dx:ς)(s:abw):Prop where
 ex:∃(H0:Hp)(s0:abw)(a0:Value)(B:Heap),Inv X pins σ H0 s0/\Heap.FlyingW B X.stack a cls a0 s.heap/\DictAt s.heap a dx/\Un (nH X.stack) [] H0 H s0.heap s.heap/\mh X.prog X.w H s.heap/\s.os=s0.os/\adk s.gens/\
  (∀b o,s0.heap.get? b=some o->b∉nH X.stack->∃o',B.get? b=some o')/\(∀b u,H b=some u->∃o,B.get? b=some o)
theorem Ld.inv (L:Ld X pins σ H a cls dx s):Inv X pins σ H s:=by
 obtain ⟨H0,s0,a0,B,I,fl,da,un,ok,os,bare,th,tr⟩:=L.ex;exact I.MI (ch:=[]) os un ok bare fun b z=>abo z (by simp)
theorem Ld.free (L:Ld X pins σ H a cls dx s):H a=none:=by
 obtain ⟨H0,s0,a0,B,I,fl,da,un,ok,os,bare,th,tr⟩:=L.ex;cases q:H a with
 | none=>rfl
 | some u=>
  obtain ⟨o,e⟩:=tr a u q;rw [fl.2.1] at e;cases e
abbrev TH:=Value->Option abj->Ends->L2.St->Hp->Prop
def PH (X:Cx)(hs:List ExceptHandler)(t:TH):Prop:=
 ∀(pins:δ)(s:abw)(σ:L2.St)(H:Hp)(a:abj)(cls:Value)(dx:ς)(D:Ends),Ld X pins σ H a cls dx s->t cls dx D σ H->abz (abx X.prog X.w) X.A (handleBy (.ref a) X.env hs) (SP X pins D) X.xe s
theorem Zw:PH X [] (fun _ _ _ _ _=>False):=fun _ _ _ _ _ _ _ _ _ h=>h.elim
structure AY (X:Cx)(c:Str)(cv:Value):Prop where
 ld:∀(a:abj)(pins:δ)(s:abw)(σ:L2.St)(H:Hp)(np:Pos)(Q:γ)(E:γ),Inv (hnd X a) pins σ H s->Q cv s->abz (abx X.prog X.w) (X.A.mark (some (.ref a))) (abU (.Name c np) X.env) Q E s
theorem AY.own (hm:X.mg c=some (.ref C))(hg:Gl X c:=by rfl)(hd:(c==("__debug__":Str))=false:=by decide):AY X c (.ref C):=
 ⟨fun a pins s σ H np Q E I h=>iU (X:=hnd X a) I hg hm h hd⟩
def tAs (i:Nat)(cv:Value)(K:Frag)(ts:TS)(tr:TH):TH:=fun cls dx D σ H=>∃b,abD K cls cv=some b/\
 if b=true then ∀a,H a=none->ts {nx:=fun σ2 H2=>D.nx (σ2.set i none) H2,rt:=D.rt,bk:=fun σ2 H2=>D.bk (σ2.set i none) H2,ct:=fun σ2 H2=>D.ct (σ2.set i none) H2} (σ.set i (some (.ref a))) (upd H a (Rp cls a dx)) else tr cls dx D σ H
theorem UC {rest:List ExceptHandler}(hc:AY X c cv)(hN:X.N.Nodup)(hi:X.N[i]?=some n)(hk:X.env.scope.names.lookup n=some .local)
  (ht:∀a,PSs (hnd X a) (b₀::NC) ts) (hr:PH X rest tr) (hex:X.ex=[]:=by rfl):PH X (.ExceptHandler (some (.Name c np)) (some n) (b₀::NC) pos::rest) (tAs i cv X.K ts tr):=by
 intro pins s σ H a cls dx D L h;obtain ⟨b,hb,h⟩:=h;have I:=L.inv;refine wpAny_handleBy_cons (codeAny_handlers_test (hc.ld a pins s σ H np _ _ (GX I) ?_)) (by intro q;cases q);obtain ⟨H0,s0,a0,B,I0,fl,da,un,ok,os,bare,th,tr'⟩:=L.ex;obtain ⟨ob,hob,Ra⟩:=fl.there
 have LT:adG (abx X.prog X.w) s.heap (typeOf (.ref a)) cls:=by
  subst Ra;exact (PySem.W.Looks.ld hob).andThen .now
 refine (PySem.W.exm_one I.j' LT hb).here ?_;cases b with
 | false=>
  rw [abp acZ] at h;exact hr pins s σ H a cls dx D L h
 | true=>
  rw [abv rfl] at h;refine codeAny_handlers_suite_as ?_;refine abH (Kp.any mE (lands_againW (Q:=fun _ s6=>∃h6,s6={s with heap:=h6}/\B.FlyingW X.stack a cls a0 h6/\s.heap.UpToSlots h6) (E:=fun _ _=>False) fl fun h6 fl6 up=>⟨h6,rfl,fl6,up⟩)) (fun _ s6 z=>?_) fun _ _ z=>z.elim;obtain ⟨⟨h6,rfl,fl6,up⟩,kd⟩:=z;have da6:DictAt h6 a dx:=da.kd kd;have un6:=xk un fl.1 fl6.1 th fl.2.2.1 up;have ok6:=sr ok fl.1 fl6.1 tr';have I6:Inv X pins σ H {s with heap:=h6}:=I0.MI (ch:=[]) os un6 ok6 bare fun b z=>abo z (by simp);have fr:=L.free;obtain ⟨oe,ws,hoe,aw8,Zx,_⟩:=fl6.first
  obtain ⟨aw9,aw'⟩:oe.dict=dx/\ws[2]?=some .none:=by
   obtain ⟨o',e',d',c'⟩:=da6;rw [hoe] at e';cases e';exact ⟨d',(M_ Zx).symm.trans c'⟩
  have ne:∀b u,H b=some u->b≠a:=fun b u e z=>by rw [z,fr] at e;cases e
  have aoM:∀o,s0.heap.get? a≠some o:=fun o e=>by
   by_cases hb:a∈nH X.stack
   ·obtain ⟨_,o',e',nf⟩:=fl6.2.2.1.mem hb
    rw [hoe] at e';cases e';exact nf _ Zx
   ·obtain ⟨o',eB⟩:=th a o e hb
    rw [fl.2.1] at eB;cases eB
  have I7:Inv X pins σ (upd H a (Rp cls a dx)) {s with heap:=h6}:=by
   refine aoK I6 (fun o e=>?_) (fun p hp z=>?_) (fun z=>?_) (fun x c e z=>?_) fr (aeK hoe aw8 Zx aw9 aw')
   ·obtain ⟨o',e'⟩:=I0.base.there a o e (by rw [hex];simp)
    exact aoM o' e'
   ·have q:=(I0.pin p hp).1
    rw [z] at q;exact aoM _ q
   ·obtain ⟨m,⟨oL,es,ep,ho,hd,_⟩,_⟩:=I6.loc
    rw [<-z,show ({s with heap:=h6}:abw).heap.get? a=some oe from hoe] at ho;cases ho;rw [Zx] at hd;cases hd
   ·obtain ⟨v,⟨oc,ho,hd⟩⟩:=I6.cell x c e
    rw [z,show ({s with heap:=h6}:abw).heap.get? a=some oe from hoe] at ho;cases ho;rw [Zx] at hd;cases hd
  refine lF I7 hN hi (.inl hk) (v:=.ref a) (u:=.ref a) rfl (fun s8 I8=>?_) (.inr hk);refine abH (ht a pins s8 _ _ _ (GX I8) (h a fr)) (fun f s9 q=>?_) fun _ _ z=>z.elim;cases f with
  | next=>
   obtain ⟨σ2,H2,J,q⟩:=q;exact xl (nU I0.ok J) hN hi hk fun s' J'=>⟨_,_,J',q⟩
  | brk=>
   obtain ⟨σ2,H2,J,q⟩:=q;exact xl (nU I0.ok J) hN hi hk fun s' J'=>⟨_,_,J',q⟩
  | cont=>
   obtain ⟨σ2,H2,J,q⟩:=q;exact xl (nU I0.ok J) hN hi hk fun s' J'=>⟨_,_,J',q⟩
  | ret u=>
   obtain ⟨v,σ2,H2,J,r,q⟩:=q;exact xl (nU I0.ok J) hN hi hk fun s' J'=>⟨v,_,_,J',r,q⟩
def XP (X:Cx)(pins:δ)(σ:L2.St)(E:XK)(e:Value)(s':abw):Prop:=∃H s,Inv X pins σ H s/\aT X.prog X.w X.stack H s E e s'
abbrev TEx:=L2.St->Hp->VK->XK->Prop
abbrev TSx:=Ends->(L2.St->XK)->L2.St->Hp->Prop
def PEx (X:Cx)(e:Expr)(t:TEx):Prop:=
 ∀(pins:δ)(s:abw)(σ:L2.St)(H:Hp)(Q:VK)(E:XK),Inv X pins σ H s->t σ H Q E->abz (abx X.prog X.w) X.A (abU e X.env) (EP X pins σ Q) (XP X pins σ E) s
def PSx (X:Cx)(st:Stmt)(t:TSx):Prop:=
 ∀(pins:δ)(s:abw)(σ:L2.St)(H:Hp)(D:Ends)(E:L2.St->XK),Inv X pins σ H s->t D E σ H->abz (abx X.prog X.w) X.A (exec st X.env) (SP X pins D) (fun e s'=>∃σ',XP X pins σ' (E σ') e s') s
theorem ahd {p pos:Pos}{es:π}(F:Fn X.prog X.w X.K X.mg X.base (aT X.prog X.w) k x ps sp)(hr:cV k X.A)(ha:PA X.wm (e::es) t)(hg:Gl X x:=by rfl)(AU:(x==("__debug__":Str))=false:=by decide)
  (he:abF (e::es) X.env=(false,abU e X.env)::abF es X.env:=by rfl) (EG:(acu pos (abF es X.env)).any (·.1)=false:=by rfl):
  PEx X (.Call (.Name x p) (e::es) [] pos) (fun σ H Q E=>t σ H fun vs H1=>sp vs H1 Q E):=by
 intro pins s σ H Q E I h;obtain ⟨f,fd,G,b,m,kp⟩:=F.ex;refine acv (iU I hg m ?_ AU);refine acT (h₀:=X.base) I.ok.mod.kin kp (abH (ha pos pins s σ H _ (I.rY _) h) (fun us s1 ⟨vs,H1,I1,r,q⟩=>⟨I1.j',?_⟩) fun _ _ z=>z.elim) he EG;have I2:Inv X pins σ H1 s1:=I1.jo;have hl:us.length=ps.length:=by rw [<-r.length];exact G.len _ _ _ _ q
 have bt:=b s1 us I2.j' (by rw [aeL];exact hl);rw [aeL] at bt;refine ado (adl (G.run X.A X.stack s1 H1 ⟨us,[]⟩ us vs Q E hr I2.aex bt r q) fun r s' hq=>?_);cases r with
 | error e=>exact ⟨H1,s1,I2,hq⟩
 | ok fl=>
  cases fl with
  | ret u=>exact I2.after hq
  | next=>exact False.elim hq
  | brk=>exact False.elim hq
  | cont=>exact False.elim hq
theorem aeN {pos pos':Pos}(hN:X.N.Nodup)(hi:X.N[i]?=some x)(hx:Loc X.env.scope x)(he:PEx X e te)(hs:acM e (some (.Name x pos')) pos.line X.env=pure false:=by rfl)(hf:X.fn x=true\/X.env.scope.names.lookup x=some .local:=by first|exact .inl rfl|exact .inr rfl|assumption):
  PSx X (.Assign [.Name x pos'] e pos) (fun D E σ H=>te σ H (fun v H1=>D.nx (σ.set i (some v)) H1) (E σ)):=by
 intro pins s σ H D E I h;refine wpAny_Assign_Name (abH (he pins s σ H _ _ I h) (fun v s1 z=>?_) fun e s' z=>⟨σ,z⟩) hs;obtain ⟨y,H1,I1,r1,q1⟩:=z;exact lF I1 hN hi hx r1 (fun s2 I2=>⟨_,H1,I2,q1⟩) hf
theorem Zy {st:Stmt}(aeO:X.stack=X.env::X.outer/\X.env.frame=some X.env.locals)(hb:PSx X st tb)(hh:PH X (h₀::hs) th):
  PS X (.Try [st] (h₀::hs) [] [] pos) (fun D σ H=>tb D (fun σ' cls dx H'=>th cls dx D σ' H') σ H):=by
 intro pins s σ H D I h;refine wpAny_Try_except (wpAny_execs_cons (abH (hb pins s σ H D _ I h) (fun f s1 q=>?_) fun e s1 z=>?_))
 ·cases f with
  | next=>exact acS (acS q)
  | ret v=>exact q
  | brk=>exact q
  | cont=>exact q
 ·obtain ⟨σ',H0,s0,I0,a,cls,a0,dx,H',B,rfl,fl,da,un,ok,os,bare,th',tr,hE⟩:=z
  have fl':=fl;rw [aeO.1] at fl';have hfr:X.A.frames=some (X.env::X.outer):=by rw [<-aeO.1];exact I.ok.frames
  refine abH (Kp.any sm (wpAny_looks_onW (Q:=fun _ s4=>∃h4,s4={s1 with heap:=h4}/\B.HeldW (X.env::X.outer) a cls a0 X.env.locals h4/\s1.heap.UpToSlots h4) (E:=fun _ _=>False) hfr aeO.2 fl' fun h4 Zz up4=>⟨h4,rfl,Zz,up4⟩)) (fun _ s4 z=>?_) fun _ _ z=>z.elim;obtain ⟨⟨h4,rfl,Zz,up4⟩,kd4⟩:=z;refine abH (Kp.any mE (wpAny_landsW (s:={s1 with heap:=h4}) (Q:=fun _ s5=>∃h5,s5={s1 with heap:=h5}/\B.FlyingW (X.env::X.outer) a cls a0 h5/\h4.UpToSlots h5) (E:=fun _ _=>False) Zz fun h5 fl5 up5=>⟨h5,rfl,fl5,up5⟩)) (fun _ s5 z=>?_) fun _ _ z=>z.elim;obtain ⟨⟨h5,rfl,fl5,up5⟩,kd5⟩:=z;have da5:DictAt h5 a dx:=(da.kd kd4).kd kd5;rw [<-aeO.1] at fl5;have up:=up4.trans up5;exact hh pins {s1 with heap:=h5} σ' H' a cls dx D ⟨H0,s0,a0,B,I0,fl5,da5,xk un fl.1 fl5.1 th' fl.2.2.1 up,sr ok fl.1 fl5.1 tr,os,bare,th',tr⟩ hE
end
end Ty
namespace TyExc
open PySem PySem.W PySem.Calls PyProof.Rows Builtin Builtin.ObjectAttr Builtin.Getset_descriptor
structure qL (K:Frag)(C:abj):Prop where
 ga:findIn K (.ref C) "__getattribute__"=some (some (.builtin "BaseException.__getattribute__"))
 gt:findIn K (.ref C) "__getattr__"=some none
 cl:findIn K (.ref C) "__class__"=some (some (.builtin "object.__class__"))
 mo:mroIn K C (.type "object")=some true
 mb:mroIn K C (.type "BaseException")=some true
 is:(clsIn K C).isSome=true
section
variable {prog:abJ}{w:World}{A:abM}{E:γ}{K:Frag}{h:Heap}{g:Array GenState}{d:Drawn}{t:Nat}{os:OsState}{a C:abj}{o:Obj}
theorem su (hx:h.get? a=some o)(hc:o.cls=.ref C):Looks M h (typeOf (.ref a)) (.ref C):=by
 subst_vars
 rw [<-hc];exact (Looks.ld hx).andThen .now
theorem GY {Q:Β}(X:K.In h)(F:qL K C)(hx:h.get? a=some o)(hc:o.cls=.ref C)
  (hq:Q () ⟨h,g,d,t,os⟩):abz M A (adJ "BaseException.__getattribute__" ⟨[.ref a,ahe],[]⟩) Q E ⟨h,g,d,t,os⟩:=by
 have hk:builtinKind "BaseException.__getattribute__"=some .slot:=by decide+kernel
 have ako:splitId "BaseException.__getattribute__"=some ("BaseException","__getattribute__"):=by decide+kernel
 have ha:=PySem.F.args_bexc_ga (.ref a) ahe;have L0:=su (M:=M) hx hc;have L1:=looks_mroIn (M:=M) X F.mb;simp only [adJ,hk,ako];refine abk ?_
 ·unfold isInstance
  repeat (first|lk|wp_step)
  exact hq
end
end TyExc
namespace Ty
open PySem PySem.Spec PyProof.Rows L2
theorem Def.ZA {K:Frag}{st:Stmt}(D:Def K mg x st ps)(S:aC N ps (aa st))(len:∀vs H Q E,sp vs H Q E->vs.length=ps.length)
  (gv:∀(f:abj)(cdv:Value)(A:abM)(outer:List Env)(s:abw)(H:Hp)(vs:ε)(Q:VK)(E:XK),cV k (A.deeper (aca x (aa st) s.heap.objs.size f cdv))->sp vs H Q E->
   ∃t,PSs (hZ P w K mg base N x (aa st) f cdv A outer s H E) (aq st) t/\t {nx:=fun _ H'=>Q .bG H',rt:=Q} (start N vs) H):Fn P w K mg base (aT P w) (k+1) x ps sp:=by
 obtain ⟨f,dV,oc,od,kV,doc,pm,an,cdv,ct,qG,lk,uD,kp,b,m⟩:=D.ex;exact ⟨f,_,xV lk uD S len fun A outer s H vs Q E hr EL=>gv f cdv A outer s H vs Q E hr EL,b,m,kp⟩
theorem aeI.ZA {K:Frag}{st:Stmt}(D:aeI K mg x st ps ds)(S:aC N ps (aa st))(len:∀vs H Q E,sp vs H Q E->vs.length=ps.length)
  (gv:∀(f:abj)(cdv:Value)(A:abM)(outer:List Env)(s:abw)(H:Hp)(vs:ε)(Q:VK)(E:XK),cV k (A.deeper (aca x (aa st) s.heap.objs.size f cdv))->sp vs H Q E->
   ∃t,PSs (hZ P w K mg base N x (aa st) f cdv A outer s H E) (aq st) t/\t {nx:=fun _ H'=>Q .bG H',rt:=Q} (start N vs) H):Fn P w K mg base (aT P w) (k+1) x ps sp/\FnD P w K mg base (aT P w) (k+1) x ps ds sp:=by
 obtain ⟨f,dV,oc,od,kV,doc,pm,an,cdv,ct,qG,lk,uD,kp,b,b2,m⟩:=D.ex;have F:=xV (CX:=aT P w) (P:=P) (w:=w) (mg:=mg) (base:=base) lk uD S len fun A outer s H vs Q E hr EL=>gv f cdv A outer s H vs Q E hr EL;exact ⟨⟨f,_,F,b,m,kp⟩,⟨f,_,F,b2,m,kp⟩⟩
abbrev ZC:List Value:=[.type "ValueError",.type "Exception",.type "BaseException",.type "object"]
end Ty
namespace TyExc
open PySem PySem.W PySem.Calls PyProof.Rows Builtin Builtin.ObjectAttr Builtin.Getset_descriptor
section
variable {prog:abJ}{w:World}{A:abM}{E:γ}{K:Frag}{h:Heap}{g:Array GenState}{d:Drawn}{t:Nat}{os:OsState}{a C:abj}{o:Obj}{od:Option Obj}{name:Str}{v:Value}
theorem VS (X:K.In h)(I:InstAt h a o C od)(hf:findObj K C od name=some (.value v))
  (hq:Q (.done (.ret v)) ⟨h,g,d,t,os⟩):abz (abx prog w) A (Builtin.«object.__getattribute__» ⟨[.ref a,.str name tk],[]⟩) Q E ⟨h,g,d,t,os⟩:=by
 have L0:=InstAt.type (M:=abx prog w) I;have L1:=looks_find (M:=abx prog w) X I hf
 repeat (any_goals (first|assumption|with_reducible refine L1.at ?_|with_reducible refine L0.at ?_|wp_step))
theorem ZD {R:Ζ}(X:K.In h)(F:qL K C)(I:InstAt h a o C od)(hf:findObj K C od name=some (.value v))
  (hq:R (.ok (.ret v)) ⟨h,g,d,t,os⟩):acx (abx prog w) A (.call (.builtin "BaseException.__getattribute__") ⟨[.ref a,.str name tk],[]⟩) R ⟨h,g,d,t,os⟩:=
 adq PySem.F.attr_ValueError.ga.plain PySem.F.entry_bexc_ga (GY X F I.at_ I.cls (VS X I hf hq))
theorem akp {fill expr:Bool}{Q:γ}(X:K.In h)(F:qL K C)(I:InstAt h a o C od)(hf:findObj K C od name=some (.value v))(hh:handedIn v=true)
  (hq:Q v ⟨h,g,d,t,os⟩):abz (abx prog w) A (getAttrBy (.ref a) (.str name tk) fill expr) Q E ⟨h,g,d,t,os⟩:=by
 have hx:=I.at_;have hc:=I.cls;have L0:=su (M:=abx prog w) hx hc;have L1:=looks_findIn (M:=abx prog w) X F.ga;have L2:=looks_findIn (M:=abx prog w) X F.gt;have f3:=PySem.F.attr_ValueError.ga.bind (.ref a);have hx2:(Value.builtin "BaseException.__getattribute__"==Value.builtin "object.__getattribute__")=false:=by decide+kernel
 have hx1:(onTheHeap (Value.ref C) && Value.builtin "BaseException.__getattribute__"==Value.builtin "object.__getattribute__")=false:=by rw [hx2];rfl
 have ho:=handedOut_of hh
 repeat (any_goals (first|assumption|with_reducible refine L1.at ?_|with_reducible refine L2.at ?_|with_reducible refine L0.at ?_|(with_reducible refine wpAny_loadPart_at hx ?_;rw [hc])|wp_step))
 have hx3:(expr && onTheHeap (Value.builtin "BaseException.__getattribute__"))=false:=by cases expr<;>rfl
 rw [hx3]
 repeat (any_goals (first|assumption|wp_step))
 refine ZD X F I hf ?_
 repeat (any_goals (first|assumption|(rw [ho];refine abC ?_)|wp_step))
theorem ND {Q:γ}(X:K.In s.heap)(F:qL K C)(I:InstAt s.heap a o C od)(hf:findObj K C od name=some (.value v))(hh:handedIn v=true)
  (hq:Q v {s with toks:=s.toks+1}):abz (abx prog w) A (getAttr (.ref a) name b) Q E s:=by
 obtain ⟨h,g,d,t,os⟩:=s;unfold getAttr;refine abk (wpAny_mkText ?_);exact akp X F I hf hh hq
end
end TyExc
namespace TyExc
open PySem PySem.W PySem.Calls PyProof.Rows Builtin Builtin.ObjectAttr
def aoO:Value->Bool
 | .ref _=>true
 | _=>false
def jq (l:θ):Bool:=l.dropWhile aoO==[.type "ValueError",.type "Exception",.type "BaseException",.type "object"]
theorem vO :∀l:List Value,refuseLoop self aoP l=refuseLoop self aoP (l.dropWhile aoO)
 | []=>rfl
 | v::l=>by
  cases v with
  | ref a=>
   rw [refuseLoop_ref,vO l];rfl
  | _=>rfl
theorem AZ (h:jq l=true):refuseLoop self "__setattr__" l=pure ():=by
 rw [vO,beq_iff_eq.mp h];exact PySem.F.store_ValueError.passes self
section
variable {prog:abJ}{w:World}{A:abM}{E:γ}{K:Frag}{s:abw}{x C:abj}{ox:Obj}{od:Option Obj}{name:Str}{v:Value}{cd:ClassData}
theorem UD {R:Ζ}(X:K.In s.heap)(I:InstAt s.heap x ox C od)(F:qL K C)(hc:clsIn K C=some cd)(ho:jq cd.mro=true)(hn:findIn K (.ref C) name=some none)
  (h:abz (abx prog w) A.in1 (storeInOwnDict (.ref x) (.ref C) (.str name tk) name v false) (fun fin s'=>match fin with | .done f=>R (.ok f) s' | .again c'=>c'.quiet=true/\acx (abx prog w) A c' R s') (fun e s'=>R (.error e) s') s):
  acx (abx prog w) A (.call (.builtin "object.__setattr__") ⟨[.ref x,.str name tk,v],[]⟩) R s:=by
 have SF:=PySem.F.store_object;have L0:=InstAt.type (M:=abx prog w) I;have sub:=L0.andThen (f:=fun tp=>isSubtype tp (.type "object")) (looks_mroIn (M:=abx prog w) X F.mo);refine adq SF.slot.plain SF.entry (check_slot SF.kind SF.split sub (SF.args _ _ _) ?_);have hm:Looks (abx prog w) s.heap (mroOf (.ref C)) cd.mro:=(looks_clsIn X hc).andThen .now;have L1:=looks_findIn (M:=abx prog w) X hn;unfold Builtin.«object.__setattr__»;dsimp only;rw [refuse_eq];have e:=AZ (self:=.ref x) ho;refine abS rfl ?_;refine abk (abk (L0.here (abk (hm.here ?_))));rw [e];refine abC ?_
 repeat (any_goals (first|assumption|with_reducible refine L1.at ?_|with_reducible refine L0.at ?_|wp_step))
theorem GZ {Q:Β}(X:K.In s.heap)(hx:s.heap.get? x=some ox)(QI:ox.cls=.ref C)(VT:ox.data=.fields vs)(hdi:ox.dict=none)(F:qL K C)
  (hs:findIn K (.ref C) "__setattr__"=some (some (.builtin "object.__setattr__"))) (hc:clsIn K C=some cd) (hh:cd.hasDict=true) (ho:jq cd.mro=true) (hn:findIn K (.ref C) name=some none)
  (h:∀h' tk,h'.get? x=some {ox with dict:=some s.heap.objs.size}->h'.Ns1 s.heap.objs.size (fun y=>if y=name then some v else none)->(∀b o,b≠x->s.heap.get? b=some o->h'.get? b=some o)->Q () {s with heap:=h',toks:=tk}):
  abz (abx prog w) A (setAttr (.ref x) name v) Q E s:=by
 have I:InstAt s.heap x ox C none:=⟨hx,QI,by unfold notCls;rw [VT],by rw [hdi];trivial⟩;refine set_plain X I hs (UD (s:={s with toks:=s.toks+1}) X I F hc ho hn ?_);have L2:=looks_clsIn (M:=abx prog w) X hc;obtain ⟨oc,odi,odt,qG⟩:=ox;dsimp only at QI VT hdi;subst QI VT hdi;unfold storeInOwnDict;refine abk (abC ?_);dsimp only;refine abS rfl ?_;refine abk ?_;unfold ownDictForStores instanceDict;dsimp only;refine abk (wpAny_loadPart hx ?_);dsimp only;refine abk (L2.here (s:={s with toks:=s.toks+1}) ?_);rw [hh];refine abS rfl ?_;refine abS rfl ?_;refine abk (wpAny_alloc ?_);have hx2:(s.heap.push {cls:=Value.type "dict",data:=Data.dict #[]}).get? x=some ⟨.ref C,none,.fields vs,qG⟩:=abr _ hx;refine abk (wpAny_update hx2 ?_);refine abC ?_;have ne:s.heap.objs.size≠x:=fun z=>by have:=abB hx;rw [<-z] at this;exact afw _ this
 have e1:(s.heap.push {cls:=Value.type "dict",data:=Data.dict #[]}).get? s.heap.objs.size=some {cls:=Value.type "dict",data:=Data.dict #[]}:=abI s.heap rfl;generalize hH:(s.heap.push {cls:=Value.type "dict",data:=Data.dict #[]}).update x (fun o=>{cls:=o.cls,dict:=some s.heap.objs.size,data:=o.data,slots:=o.slots})=h2;have e2:h2.get? s.heap.objs.size=some {cls:=Value.type "dict",data:=Data.dict #[]}:=by rw [<-hH];exact (abT _ _ (ac2 ne)).trans e1
 have x2:h2.get? x=some ⟨.ref C,some s.heap.objs.size,.fields vs,qG⟩:=by rw [<-hH];exact acz _ hx2 rfl
 have k2:∀b o,b≠x->s.heap.get? b=some o->h2.get? b=some o:=fun b o n e=>by rw [<-hH];exact (abT _ _ (ac2 n)).trans (abr _ e)
 have n2:h2.Ns s.heap.objs.size (fun _=>none):=⟨_, #[],_,e2,rfl,(fun e he=>abo he (by simp)),fun _=>rfl⟩;have n3:=Heap.Ns1.of_empty n2;dsimp only;unfold storeInDict;refine abk (abC (abk ?_));refine wpAny_nsSet1 (s:={s with heap:=h2,toks:=s.toks+1}) n3 fun h' QH Yq=>?_;obtain ⟨oD,esD,epD,hoD,hdD,hcD⟩:=QH.count (PySem.Within.cons name v (ns:=[]) (fun y hy=>abo rfl hy));refine abk (wpAny_lookBehind hoD (by rw [hdD];exact pastItsLine_dict (aah hcD (Nat.le_add_left 1 _))) ?_);refine abC (h h' _ ((Yq.2 _ (ac2 ne)).trans x2) QH fun b o n e=>?_);exact (Yq.2 b (fun z=>by have:=abB e;rw [z] at this;exact afw _ this)).trans (k2 b o n e)
theorem G_ {mA:ζ}{ns:η}{Q:Β}(X:K.In s.heap)(hx:s.heap.get? x=some ox)(QI:ox.cls=.ref C)(VT:ox.data=.fields vs)(hdi:ox.dict=some dx)(hne:dx≠x)(hns:s.heap.Ns1 dx mA)(hwi:adK mA ns)(hsz:ns.length<=abl)(F:qL K C)
  (hs:findIn K (.ref C) "__setattr__"=some (some (.builtin "object.__setattr__"))) (hc:clsIn K C=some cd) (hh:cd.hasDict=true) (ho:jq cd.mro=true) (hn:findIn K (.ref C) name=some none)
  (h:∀h' tk,h'.Ns1 dx (fun y=>if y=name then some v else mA y)->adM dx s.heap h' ->Q () {s with heap:=h',toks:=tk}):
  abz (abx prog w) A (setAttr (.ref x) name v) Q E s:=by
 obtain ⟨od,eod⟩:∃od,s.heap.get? dx=some od:=by obtain ⟨o,_,_,e,_⟩:=hns;exact ⟨o,e⟩
 have I:InstAt s.heap x ox C (some od):=⟨hx,QI,by unfold notCls;rw [VT],by rw [hdi];exact eod⟩;refine set_plain X I hs (UD (s:={s with toks:=s.toks+1}) X I F hc ho hn ?_);have L2:=looks_clsIn (M:=abx prog w) X hc;obtain ⟨oc,odi,odt,qG⟩:=ox;dsimp only at QI VT hdi;subst QI VT hdi;unfold storeInOwnDict;refine abk (abC ?_);dsimp only;refine abS rfl ?_;refine abk ?_;unfold ownDictForStores instanceDict;dsimp only;refine abk (wpAny_loadPart hx ?_);dsimp only;refine abk (L2.here (s:={s with toks:=s.toks+1}) ?_);rw [hh];refine abS rfl ?_;refine abC ?_;dsimp only;unfold storeInDict;refine abk (abC (abk ?_));refine wpAny_nsSet1 (s:={s with toks:=s.toks+1}) hns fun h' QH Yq=>?_;obtain ⟨oD,esD,epD,hoD,hdD,hcD⟩:=QH.count (PySem.Within.cons name v hwi);refine abk (wpAny_lookBehind hoD (by rw [hdD];exact pastItsLine_dict (aah hcD (by rw [ac5];omega))) ?_);exact abC (h h' _ QH Yq)
end
end TyExc
set_option maxHeartbeats 400000
namespace TyExc
open PySem PySem.W PySem.Calls PyProof.Rows Builtin
section
variable {prog:abJ}{w:World}{A:abM}{K:Frag}{h:Heap}{g:Array GenState}{d:Drawn}{t:Nat}{os:OsState}{e C:abj}{oe:Obj}{vs:Array Value}{args:θ}{E:γ}
theorem check_init {Q:Β}(X:K.In h)(hx:h.get? e=some oe)(QI:oe.cls=.ref C)(hm:mroIn K C (.type "ValueError")=some true)(hi:(clsIn K C).isSome=true)
  (hq:Q () ⟨h,g,d,t,os⟩):abz (abx prog w) A (adJ "ValueError.__init__" ⟨.ref e::args,[]⟩) Q E ⟨h,g,d,t,os⟩:=by
 have FB:=abE;have L0:=su (M:=abx prog w) hx QI;have L1:=looks_mroIn (M:=abx prog w) X hm;obtain ⟨cd,hc⟩:=alM.mp hi;have L2:=looks_clsIn (M:=abx prog w) X hc;have fk:=FB.initKind;have fs:=FB.initSplit;have fr:=FB.initRow;have akr:=FB.noStar;simp only [adJ,fk,fs,fr];refine abk ?_;unfold isInstance;refine abk (L0.here (L1.here ?_));refine abS rfl ?_;unfold Bind.checkArgs;dsimp only;refine abk ?_;unfold Bind.printed;refine abS (by decide+kernel) ?_;unfold Bind.receiverType;refine abk (abS rfl (L0.here ?_));unfold typeNameWhole;refine abk (abk (L2.here (abC (abC ?_))));refine abk (adS akr (abC ?_));refine wpAny_onRaise ?_;rw [akc,check_star_args];exact abC hq
theorem init_exc {R:Ζ}(X:K.In h)(hx:h.get? e=some oe)(QI:oe.cls=.ref C)(VT:oe.data=.fields vs)(h0:0<vs.size)(hm:mroIn K C (.type "ValueError")=some true)(hi:(clsIn K C).isSome=true)(hl:args.length<=abl)
  (hq:∀h' ET,h'.get? e=some {oe with data:=.fields ET }->ET.size=vs.size->ET[1]?=vs[1]? ->ET[2]?=vs[2]? ->(∃tp,ET[0]?=some (.ref tp))->(∀b o,b≠e->h.get? b=some o->h'.get? b=some o)->R (.ok (.ret .none)) ⟨h',g,d,t,os⟩):
  acx (abx prog w) A (.call (.builtin "ValueError.__init__") ⟨.ref e::args,[]⟩) R ⟨h,g,d,t,os⟩:=by
 have FB:=abE;refine adq FB.init.plain FB.initEntry (check_init X hx QI hm hi ?_);obtain ⟨c0,d0,dt,sl⟩:=oe;dsimp only at QI VT;subst QI VT;obtain ⟨v0,ev0⟩:∃v0,vs[0]?=some v0:=⟨_,alh h0⟩;unfold Builtin.«BaseException.__init__»;dsimp only;refine abS rfl ?_;refine abk (wpAny_newTuple ?_ hl);have hx1:(h.push {cls:=Value.type "tuple",data:=Data.seq args.toArray}).get? e=some ⟨.ref C,d0,.fields vs,sl⟩:=abr _ hx;unfold Builtin.BaseException.bexcPut;refine abk (abk (wpAny_field hx1 rfl ev0 (abk (wpAny_setField hx1 rfl h0 ?_))));have hx2:=acz (Obj.mapFields fun x=>x.setIfInBounds 0 (Value.ref h.objs.size)) hx1 rfl;have fin:=hq ((h.push {cls:=Value.type "tuple",data:=Data.seq args.toArray}).update e (Obj.mapFields fun x=>x.setIfInBounds 0 (Value.ref h.objs.size))) (vs.setIfInBounds 0 (Value.ref h.objs.size)) hx2 (by simp) (by simp) (by simp) ⟨h.objs.size,by simp [h0]⟩ (fun b o n e'=>(abT _ _ (ac2 n)).trans (abr _ e'));have done:abz (abx prog w) A.in1 (ret Value.none) (fun fin s'=>match fin with | .done f=>R (.ok f) s' | .again c'=>c'.quiet=true/\acx (abx prog w) A c' R s') (fun e s'=>R (.error e) s') ⟨(h.push {cls:=Value.type "tuple",data:=Data.seq args.toArray}).update e (Obj.mapFields fun x=>x.setIfInBounds 0 (Value.ref h.objs.size)),g,d,t,os⟩:=abC fin;cases v0 with
 | ref a=>exact wpAny_letGo done
 | _=>exact abC done
end
section
variable {prog:abJ}{w:World}{A:abM}{K:Frag}{h:Heap}{g:Array GenState}{d:Drawn}{t:Nat}{os:OsState}{nm q:Str}{C N f:abj}{bs bm bmB:θ}{hdct:Bool}{sn:η}{sub:θ}{ab:Bool}{col:Option Bool}{dd:ς}{k0 k1 k2 k3 k5:Κ}{B newId GW:String}{rest:θ}{E:γ}
def ib (h:Heap)(C:abj)(rest:θ):Heap:=(h.push {cls:=Value.type "tuple",data:=Data.seq rest.toArray}).push {cls:=Value.ref C,data:=Data.fields #[Value.ref h.objs.size,Value.none,Value.none,Value.none,Value.bool false,Value.none]}
theorem yb:(ib h C rest).get? (h.objs.size+1)=some {cls:=Value.ref C,data:=Data.fields #[Value.ref h.objs.size,Value.none,Value.none,Value.none,Value.bool false,Value.none]}:=
 Heap.get?_push_at (by rw [ady]) rfl
theorem kZ (e:h.get? b=some o):(ib h C rest).get? b=some o:=abr _ (abr _ e)
theorem A_ (F:ExcBaseFacts B newId GW bmB)(T:OwnTail h bmB bm)(hC:h.get? C=some (acn nm q C N bs bm hdct sn sub ab col dd k0 k1 k2 k3 k5 newId))(X:K.In h)
  (hi:findIn K (.ref C) "__init__"=some (some (.ref f))) (hf:typeIn K (.ref f)=some (.type "function")) (hl:rest.length<=abl)
  (hq:abz (abx prog w) A (call (.ref f) (.ref (h.objs.size+1)::rest)) (fun v s'=>v=.none/\Q (.done (.ret (.ref (h.objs.size+1)))) s') E ⟨ib h C rest,g,d,t,os⟩):
  abz (abx prog w) A (Builtin.«type.__call__» ⟨.ref C::rest,[]⟩) Q E ⟨h,g,d,t,os⟩:=by
 have hC1:(ib h C rest).get? C=some (acn nm q C N bs bm hdct sn sub ab col dd k0 k1 k2 k3 k5 newId):=kZ hC;have axd:=yb (h:=h) (C:=C) (rest:=rest);have X1:K.In (ib h C rest):=X.keeps fun b o e=>kZ e;have L1:=looks_findIn (M:=abx prog w) X1 hi;have L2:=bind_fn (M:=abx prog w) X1 (.ref (h.objs.size+1)) hf;have L0:=su (M:=abx prog w) axd rfl;have hcC:(Value.ref C::bm).contains (Value.ref C)=true:=by simp
 unfold Builtin.«type.__call__»;refine abS rfl ?_;refine abk (wpAny_mroOf_exc hC ?_);refine abS rfl ?_;refine abk (wpAny_madeBy_exc hC (abk (abC ?_)));refine abk (adH (ado (codeAny_call_builtin_code (Code.quiet_builtin _ F.quiet) (wpAny_check_new_subT F T hC (codeAny_exc_new_subT F T hC ?_ hl)))));show abz (abx prog w) A _ Q E ⟨ib h C rest,g,d,t,os⟩;refine abk ?_;unfold isInstance;refine abk (L0.here (wpAny_isSubtype_exc hC1 ?_));rw [hcC];refine abS rfl ?_;refine abk (adH ?_);unfold callSpecial?;refine abk ?_;unfold specialOf;refine abk (L0.here (L1.here ?_));refine adH (abk (L2.here (abk (abH hq (fun v s' z=>?_) fun _ _ z=>z))));obtain ⟨rfl,z⟩:=z;refine abC ?_;refine abS rfl ?_;exact abC z
theorem ZE {Q:γ}(F:ExcBaseFacts B newId GW bmB)(T:OwnTail h bmB bm)(hC:h.get? C=some (acn nm q C N bs bm hdct sn sub ab col dd k0 k1 k2 k3 k5 newId))(X:K.In h)
  (hi:findIn K (.ref C) "__init__"=some (some (.ref f))) (hf:typeIn K (.ref f)=some (.type "function")) (hl:rest.length<=abl)
  (hq:abz (abx prog w) (A.under (.builtin "type.__call__" ⟨.ref C::rest,[]⟩)) (call (.ref f) (.ref (h.objs.size+1)::rest)) (fun v s'=>v=.none/\Q (.ref (h.objs.size+1)) s') E ⟨ib h C rest,g,d,t,os⟩):
  abz (abx prog w) A (call (.ref C) rest) Q E ⟨h,g,d,t,os⟩:=by
 have f1:=tc_lookup;have f2:=tc_bind (Value.ref C);have hT:(⟨h,g,d,t,os⟩:abw).TypeIs (.ref C) "type":=⟨acn nm q C N bs bm hdct sn sub ab col dd k0 k1 k2 k3 k5 newId,hC,rfl⟩;refine ado (codeAny_of_tree ?_);refine abk (wpAny_load' hC ?_);refine abk (wpAny_specialOf hT f1 (abk (wpAny_of_eq f2 (abk ?_))));refine abC (adS rfl (abC ⟨rfl,?_⟩));refine codeAny_call_builtin_at (Code.quiet_builtin _ (by decide+kernel)) entry_typeCall (wpAny_check_type_call_sub hC (A_ F T hC X hi hf hl ?_));exact abH hq (fun v s' z=>z) fun _ _ z=>z
end
section
variable {M:Model}{A:abM}{E:γ}{env:Env}{nm q:Str}{C N:abj}{bs bm:θ}{hdct:Bool}{sn:η}{sub:θ}{ab:Bool}{col:Option Bool}{dd:ς}{k0 k1 k2 k3 k5:Κ}{newId:String}{s:abw}{x:Sem Value}{Q:Flow->abw->Prop}
theorem VU (xX:bm.contains (.type "BaseException")=true)(hh:A.handled=none)
  (h:abz M A x (fun v s1=>∃e oe vs,v=.ref e/\s1.heap.get? C=some (acn nm q C N bs bm hdct sn sub ab col dd k0 k1 k2 k3 k5 newId)/\s1.heap.get? e=some oe/\oe.cls=.ref C/\oe.data=.fields vs/\vs[1]?=some .none/\E (.ref e) s1) E s):
  abz M A (raiseStmt env (some x) none) Q E s:=by
 have hcB:(Value.ref C::bm).contains (.type "BaseException")=true:=by
  rw [List.contains_cons,xX,Bool.or_true]
 unfold raiseStmt;refine abk (abH h (fun v s1 z=>?_) fun _ _ z=>z);obtain ⟨e,oe,vs,rfl,hC,he,QI,VT,h1,hE⟩:=z;obtain ⟨hp,g,d,tk,os⟩:=s1;obtain ⟨c0,d0,dt,sl⟩:=oe;dsimp only at QI VT;subst QI VT;have L0:=su (M:=M) he rfl;have hL:(acn nm q C N bs bm hdct sn sub ab col dd k0 k1 k2 k3 k5 newId).cls=.type "type":=rfl;refine abk (abC ?_);refine abk (adH ?_);unfold excFromValue isExcClass isType loadHead;refine abk (abk (abk (wpAny_loadPart_at he (abC (abS rfl (abC (abS rfl ?_)))))));refine abk ?_;unfold isInstance;refine abk (L0.here (wpAny_isSubtype_exc hC ?_));rw [hcB];refine adS rfl (abC ?_);dsimp only;refine abk ?_;refine abk (wpAny_loadPart_at he (abC (abS rfl ?_)));refine abk ?_;unfold raisedInstance;have LC:Looks M hp (typeOf (.ref C)) (.type "type"):=(Looks.ld hC).andThen .now;refine abk (L0.here (abk (LC.here (adS rfl (abC ?_)))));refine abk ?_;unfold setFlight;refine abk (wpAny_field he rfl h1 (abS rfl (abC ?_)));exact wpAny_raiseNew_none hh hE
end
end TyExc
namespace TyExc
open PySem PySem.W
structure lG (K:Frag)(C:abj)(f:Str):Prop where
 k:qL K C
 sa:findIn K (.ref C) "__setattr__"=some (some (.builtin "object.__setattr__"))
 hd:hasDictIn K C=true
 ov:(clsIn K C).any (fun cd=>jq cd.mro)=true
 nf:findIn K (.ref C) f=some none
theorem lG.cd (F:lG K C f):∃cd,clsIn K C=some cd/\cd.hasDict=true/\jq cd.mro=true:=by
 obtain ⟨cd,hc,ho⟩:=any_some F.ov;obtain ⟨cd',GD,hh⟩:=any_some F.hd;rw [hc] at GD;cases GD;exact ⟨cd,hc,hh,ho⟩
end TyExc
namespace Ty
open PySem PySem.Spec PyProof.Rows L2
def lH (C a:abj)(dx:ς):HO:=.ext fun h=>∃o vs tp,h.get? a=some o/\o.cls=.ref C/\o.data=.fields vs/\o.dict=dx/\vs[0]?=some (.ref tp)/\vs[1]?=some .none/\vs[2]?=some .none
def LM (d:abj)(fs:Η):HO:=.ext fun h=>∃mA,h.Ns1 d mA/\∀f,kg (fs.lookup f) (mA f)
section
variable {P:abJ}{w:World}{H:Hp}{h:Heap}{C a:abj}{dx:ς}
theorem G' (e:h.get? a=some o)(hc:o.cls=.ref C)(hd:o.data=.fields vs)(hx:o.dict=dx)(h0:vs[0]?=some (.ref tp))(h1:vs[1]?=some .none)(h2:vs[2]?=some .none):bX P w H h a (lH C a dx):=
 ⟨⟨o,vs,tp,e,hc,hd,hx,h0,h1,h2⟩,⟨o,e⟩,fun _ _ ⟨o',ET,tp',q,r⟩ k=>⟨o',ET,tp',k _ q,r⟩⟩
theorem ZF {mA:ζ}(n:h.Ns1 a mA)(r:∀f,kg (fs.lookup f) (mA f)):bX P w H h a (LM a fs):=by
 obtain ⟨o,_,_,e,_⟩:=id n;refine ⟨⟨mA,n,r⟩,⟨o,e⟩,fun h1 h2 z k=>?_⟩;obtain ⟨mA',⟨o',es,ep,e',rr⟩,r'⟩:=z;exact ⟨mA',⟨o',es,ep,k _ e',rr⟩,r'⟩
theorem VW (e:H a=some o):upd H a o=H:=by
 funext b;by_cases c:b=a
 ·subst c
  rw [ai,e]
 ·rw [ah c]
end
section
variable {X:Cx}
inductive ZG (K:Frag)(Q:VK)(vs:ε)(H1:Hp):Prop
|mk (a C dx rest:_)(_:vs=.ref a::rest)(_:H1 a=some (lH C a dx))(_:TyExc.qL K C)(_:abL K C (.type "ValueError")=some true)(_:rest.length<=abl)(_:Q .bG H1)
def aoQ (K:Frag)(ta:TA):TE:=fun σ H Q=>ta σ H fun vs H1=>ZG K Q vs H1
structure vP (K:Frag)(Y:abj):Prop where
 ga:PySem.W.specialIn K (.ref Y) "__getattribute__"=some (some (.builtin "type.__getattribute__"))
 rd:PySem.W.readsIn K Y (.type "type")=true
 fi:PySem.W.findCls K (.ref Y) (.type "type") "__init__"=some (.val (.builtin "ValueError.__init__"))
theorem pe {np apos pos:Pos}{es:π}{pl:Sem Bool}(hY:vP X.K Y)(hm:X.mg y=some (.ref Y))(ha:PA X (e::es) t)(hg:Gl X y:=by rfl)(AU:(y==("__debug__":Str))=false:=by decide)
  (hst:abF (e::es) X.env=(false,abU e X.env)::abF es X.env:=by rfl) (EG:(acu pos (abF es X.env)).any (·.1)=false:=by rfl)
  (ht:abU (.Call (.Attribute (.Name y np) "__init__" apos) (e::es) [] pos) X.env=(do
   let ov <- abU (.Name y np) X.env
   standAt apos.atName
   let (f,first) <- holding [ov] (getMethod ov "__init__" pl)
   callWith pos f first (acu pos (abF (e::es) X.env)) (backToKw pos (keywordEach [] X.env))):=by rfl):
  PE X (.Call (.Attribute (.Name y np) "__init__" apos) (e::es) [] pos) (aoQ X.K t):=by
 intro pins s σ H Q I h;refine PySem.W.methodCall_KW (pl:=pl) (iU I hg hm ?_ AU) ht;refine PySem.W.method_cls I.j' hY.ga (PySem.W.cls_value I.j' hY.rd hY.fi rfl ?_);have I1:=I.tok (s.toks+1);refine PyProof.Rows.callWith_method1 (first:=[]) (du (ha pos pins _ σ H _ I1 h) fun us s2 ⟨vs,H2,I2,r,q⟩=>?_) hst EG;obtain ⟨a,C,dx,rest,rfl,ea,F,hv,hl,q⟩:=q;cases r with
 | @cons _ u _ qb r1 rr=>
  cases (show u=Value.ref a from r1);obtain ⟨⟨o,ws,tp,e1,e2,e3,e4,e5,e6,e7⟩,_⟩:=(show bX X.prog X.w H2 s2.heap a (lH C a dx) from I2.cg a _ ea)
  have h0:0<ws.size:=by
   have:=(Array.getElem?_eq_some_iff.mp e5).1;omega
  obtain ⟨hp,g,d,tk,os⟩:=s2;refine ado (TyExc.init_exc I2.j' e1 e2 e3 h0 hv F.is (by rw [<-rr.length];exact hl) fun h' ET k1 k2 k3 k32 k4 k5=>?_);obtain ⟨tp',k4⟩:=k4;have I3:=I2.write (x:=a) (e:=a) (o:=lH C a dx) (h':=h') (t':=tk) (by rw [ea];exact True.intro) (.inl rfl) (fun b q hb z=>k5 b q hb z) ⟨_,k1⟩ (G' k1 e2 rfl e4 k4 (k3.trans e6) (k32.trans e7));rw [VW ea] at I3;exact ⟨.bG,H2,I3,rfl,q⟩
def aoR (K:Frag)(ta tv:TE)(f:Str):TS:=fun D σ H=>tv σ H fun y H1=>ta σ H1 fun x H2=>∃a C,x=.ref a/\TyExc.lG K C f/\
 ((H2 a=some (lH C a none)/\∀d,H2 d=none->d≠a->D.nx σ (upd (upd H2 d (LM d [(f,y)])) a (lH C a (some d))))\/
  (∃dx fs,H2 a=some (lH C a (some dx))/\dx≠a/\H2 dx=some (LM dx fs)/\fs.length<1000/\D.nx σ (upd H2 dx (LM dx (dH f y fs)))))
theorem ph (ha:PE X o ta)(hv:PE X value tv)(hs:acM value (some (.Attribute o f pos')) pos.line X.env=pure false):PS X (.Assign [.Attribute o f pos'] value pos) (aoR X.K ta tv f):=by
 intro pins s σ H D I h;refine plainObj_wpAny_Assign_Attribute (du (hv pins s σ H _ I h) fun u s1 ⟨y,H1,I1,ry,q⟩=>du (ha pins s1 σ H1 _ I1 q) fun ov s2 ⟨x,H2,I2,rx,a,C,ex,F,q2⟩=>?_) hs;subst ex;obtain rfl:ov=Value.ref a:=rx;obtain ⟨cd,hc,hh,ho⟩:=F.cd
 rcases q2 with ⟨ea,q3⟩|⟨dx,fs,ea,nd,ed,hl,q3⟩
 ·obtain ⟨⟨oe,ws,tp,e1,e2,e3,e4,e5,e6,e7⟩,_⟩:=(show bX X.prog X.w H2 s2.heap a (lH C a none) from I2.cg a _ ea)
  refine TyExc.GZ I2.j' e1 e2 e3 e4 F.k F.sa hc hh ho F.nf fun h' tk k1 k2 k3=>?_;have nl:s2.heap.objs.size≠a:=fun z=>by have:=abB e1;rw [<-z] at this;exact afw _ this
  obtain ⟨oD,esD,epD,eD,dD,rD⟩:=id k2;have nf:oD.isFreed=false:=ES eD
  have J1:Inv X pins σ (upd H2 s2.heap.objs.size (LM s2.heap.objs.size [(f,y)])) {s2 with heap:=s2.heap.push oD,toks:=s2.toks}:=by
   refine I2.laid (t':=s2.toks) (fun b u q=>abr _ q) (aaM _) (ZF (mA:=fun z=>if z=f then some u else none) ⟨oD,esD,epD,abI s2.heap nf,dD,rD⟩ fun z=>?_);show kg (ac6 z [(f,y)]) (if z=f then some u else none);by_cases c:z=f
   ·have hb:(z==f)=true:=beq_iff_eq.mpr c
    rw [abv c];simp only [ac6,hb];exact ry
   ·have hb:(z==f)=false:=beq_eq_false_iff_ne.mpr c
    rw [abp c];simp only [ac6,hb];trivial
  have ea':(upd H2 s2.heap.objs.size (LM s2.heap.objs.size [(f,y)])) a=some (lH C a none):=by rw [ah (ac2 nl)];exact ea
  have J2:=J1.write (x:=a) (e:=a) (o:=lH C a (some s2.heap.objs.size)) (h':=h') (t':=tk) (by rw [ea'];exact True.intro) (.inl rfl) (fun b q hb z=>?_) ⟨_,k1⟩ (G' k1 e2 e3 rfl e5 e6 e7)
  ·exact ⟨σ,_,J2,q3 _ (I2.cg.fresh (aaM _)) nl⟩
  ·by_cases c:b=s2.heap.objs.size
   ·subst c
    have z':(s2.heap.push oD).get? s2.heap.objs.size=some q:=z;rw [abI s2.heap nf] at z';cases z';exact eD
   ·have z':s2.heap.get? b=some q:=(Heap.get?_push_ne s2.heap b oD c).symm.trans z
    exact k3 b q hb z'
 ·obtain ⟨⟨oe,ws,tp,e1,e2,e3,e4,e5,e6,e7⟩,_⟩:=(show bX X.prog X.w H2 s2.heap a (lH C a (some dx)) from I2.cg a _ ea)
  obtain ⟨⟨mA,n1,r1⟩,_⟩:=(show bX X.prog X.w H2 s2.heap dx (LM dx fs) from I2.cg dx _ ed)
  have wi:adK mA (fs.map (·.1)):=fun z hz=>by
   cases el:fs.lookup z with
   | none=>
    have:=r1 z;rw [el] at this;exact abo (kg.none_of this) hz
   | some v=>
    have:∀{l:Η},l.lookup z=some v->z∈l.map (·.1):=fun {l}=>by
     induction l with
     | nil=>intro h;cases h
     | cons p l ih=>
      intro h;obtain ⟨k,w⟩:=p;by_cases c:z=k
      ·subst c
       exact aa_
      ·have hb:(z==k)=false:=beq_eq_false_iff_ne.mpr c
       simp only [ac6,hb] at h;exact aa2 _ (ih h)
    exact this el
  refine TyExc.G_ I2.j' e1 e2 e3 e4 nd n1 wi (by rw [ir,adT];omega) F.k F.sa hc hh ho F.nf fun h' tk k1 k2=>?_;have hd:∃o,h'.get? dx=some o:=by obtain ⟨o,_,_,e',_⟩:=k1;exact ⟨o,e'⟩
  have J:=I2.write (x:=dx) (e:=dx) (o:=LM dx (dH f y fs)) (h':=h') (t':=tk) (by rw [ed];exact True.intro) (.inl rfl) (fun b q hb z=>(k2.2 b hb).trans z) hd (ZF k1 fun z=>?_)
  ·exact ⟨σ,_,J,q3⟩
  ·show kg ((dH f y fs).lookup z) (if z=f then some u else mA z)
   rw [nM];by_cases c:z=f
   ·rw [abv c,abv c];exact ry
   ·rw [abp c,abp c];exact r1 z
inductive ZH (K:Frag)(f:Str)(Q:VK)(x:V)(H1:Hp):Prop
|mk (a C dx fs v:_)(_:x=.ref a)(_:H1 a=some (Rp (.ref C) a (some dx)))(_:H1 dx=some (LM dx fs))(_:TyExc.lG K C f)(_:fs.lookup f=some v)(_:Q v H1)
def ahg (K:Frag)(ta:TE)(f:Str):TE:=fun σ H Q=>ta σ H fun x H1=>ZH K f Q x H1
theorem aeQ (he:PE X e ta)(hb:ads e f X.env (abU e X.env)=abU e X.env):PE X (.Attribute e f pos) (ahg X.K ta f):=by
 intro pins s σ H Q I h;refine Uv hb (du (he pins s σ H _ I h) fun u s1 ⟨x,H1,I1,rx,a,C,dx,fs,v,ex,ea,ed,F,l,q⟩=>?_);subst ex;obtain rfl:u=Value.ref a:=rx;obtain ⟨⟨oe,ws,e1,e2,e3,e4,_⟩,_⟩:=(show bX X.prog X.w H1 s1.heap a (Rp (.ref C) a (some dx)) from I1.cg a _ ea);obtain ⟨⟨mA,n1,r1⟩,_⟩:=(show bX X.prog X.w H1 s1.heap dx (LM dx fs) from I1.cg dx _ ed);obtain ⟨od,hod,hlk⟩:=EE n1;obtain ⟨u,hu,ru⟩:=kg.some_of (v:=v) (o:=mA f) (by rw [<-l];exact r1 f);have J:PySem.W.InstAt s1.heap a oe C (some od):=⟨e1,e2,by unfold PySem.W.notCls;rw [e3],by rw [e4];exact hod⟩;exact TyExc.ND I1.j' F.k J (PySem.W.findObj_own F.hd F.nf rfl (by rw [hlk,hu])) (EF ru) ⟨v,H1,I1.tok _,ru,q⟩
end
set_option maxHeartbeats 1000000
abbrev Yr:List Value:=[Value.type "ValueError",Value.type "Exception",Value.type "BaseException",Value.type "object"]
structure qM (K:Frag)(C fi:abj):Prop where
 obj:∃nm q N bs bm hdct sn sub ab col dd k0 k1 k2 k3 k5,K.lookup C=some (acn nm q C N bs bm hdct sn sub ab col dd k0 k1 k2 k3 k5 "ValueError.__new__")/\acN K Yr bm=true
 init:abt K (.ref C) "__init__"=some (some (.ref fi))
 fn:adv K (.ref fi)=true
 kp:keepIn K (.ref C)=true
def sE (H:Hp)(e:abj):Hp:=fun b=>if b=e then none else H b
theorem gC (n:b≠e):sE H e b=H b:=by unfold sE;rw [abp n]
theorem qN :sE H e e=none:=by unfold sE;rw [abv rfl]
theorem aeR (he:H e=some (.ext φ)):Un fs ex H (sE H e) h h:=by
 have ne:∀{b:abj} {o:HO},H b=some o->(∀ψ,o≠.ext ψ)->b≠e:=fun z n q=>by rw [q,he] at z;cases z;exact n _ rfl
 refine ⟨fun b o q _ _ _=>q,fun b o q _ _ _=>⟨o.slots,q⟩,fun b o q n _=>?_,fun b o q _=>⟨o,q⟩,fun b xs q=>?_,fun b o u q=>?_,fun b ps q=>?_⟩
 ·by_cases c:b=e
  ·rw [c,qN]
  ·rw [gC c];exact n
 ·rw [gC (ne q fun ψ z=>nomatch z)];exact q
 ·rw [gC (ne q fun ψ z=>nomatch z)];exact q
 ·exact ⟨#[],by rw [gC (ne q fun ψ z=>nomatch z),q];simp⟩
theorem ZI (he:H e=some (.ext φ))(ok:mh P w H h):mh P w (sE H e) h:=fun b u q=>by
 have ne:∀{c:abj} {o:HO},H c=some o->(∀ψ,o≠.ext ψ)->c≠e:=fun z n q=>by rw [q,he] at z;cases z;exact n _ rfl
 by_cases c:b=e
 ·rw [c,qN] at q
  cases q
 ·rw [gC c] at q
  exact (ok b u q).rW (fun _ _ _ z=>z) (fun c z=>by rw [gC (ne z fun ψ z=>nomatch z)];exact z) fun c xs z=>by rw [gC (ne z fun ψ z=>nomatch z)];exact z
def aeS (C:abj)(sp:Sp)(E:XK)(ta:TA):TS:=fun _ σ H=>ta σ H fun vs H1=>vs.length<=abl/\∀e,H1 e=none->sp (.ref e::vs) (upd H1 e (lH C e none)) (fun v H2=>v=.bG/\∃dx,H2 e=some (lH C e dx)/\E (.ref C) dx (sE H2 e)) E0
section
variable {P:abJ}{w:World}{K:Frag}{mg:ζ}{base:Heap}{N:η}{qual:Str}{scope:Scope}{f:abj}{cdv:Value}{A:abM}{outer:List Env}{s0:abw}{H0:Hp}{E:XK}
theorem df {rest:π}{np ki pos:Pos}(hX:qM K C fi)(F:bT P w K mg base (aT P w) k fi fd ps sp)
  (hr:cV (k+1) (A.deeper (aca qual scope s0.heap.objs.size f cdv))) (hb:Binds K fd ps []) (hm:mg x=some (.ref C)) (ha:PA (hZ P w K mg base N qual scope f cdv A outer s0 H0 E).wm (e₀::rest) ta)
  (hg:Gl (hZ P w K mg base N qual scope f cdv A outer s0 H0 E) x:=by rfl) (hd:(x==("__debug__":Str))=false:=by decide)
  (he:abF (e₀::rest) (hZ P w K mg base N qual scope f cdv A outer s0 H0 E).env=(false,abU e₀ (hZ P w K mg base N qual scope f cdv A outer s0 H0 E).env)::abF rest (hZ P w K mg base N qual scope f cdv A outer s0 H0 E).env:=by rfl)
  (hp:(acu ki (abF rest (hZ P w K mg base N qual scope f cdv A outer s0 H0 E).env)).any (·.1)=false:=by rfl):
  PS (hZ P w K mg base N qual scope f cdv A outer s0 H0 E) (.Raise (some (.Call (.Name x np) (e₀::rest) [] ki)) none pos) (aeS C sp E ta):=by
 intro pins s σ H D I h;obtain ⟨nm,q,Na,bs,bm,hdct,sn,sub,ab,col,dd,k0,k1,k2,k3,k5,hlk,htl⟩:=hX.obj;have hin:∀env∈(hZ P w K mg base N qual scope f cdv A outer s0 H0 E).stack,∀b,env.frame=some b->b∈nH (hZ P w K mg base N qual scope f cdv A outer s0 H0 E).stack:=fun env he b hb=>afE.mpr ⟨env,he,hb⟩;have FB:=abE;have xX:bm.contains (Value.type "BaseException")=true:=(PySem.W.tail_of_in I.j' htl).hasType FB.hasBase;rw [arm_exec_Raise];refine abk (adF (TyExc.VU (C:=C) (nm:=nm) (q:=q) (N:=Na) (bs:=bs) (bm:=bm) (hdct:=hdct) (sn:=sn) (sub:=sub) (ab:=ab) (col:=col) (dd:=dd) (k0:=k0) (k1:=k1) (k2:=k2) (k3:=k3) (k5:=k5) (newId:="ValueError.__new__") xX hr.hd ?_));refine abk ?_;refine acv (iU I hg hm ?_ hd);refine acT (h₀:=base) I.ok.mod.kin hX.kp (abH (ha ki pins s σ H _ (I.rY _) h) (fun us s1 ⟨vs,H1,I1,r,hl,q1⟩=>⟨I1.j',?_⟩) fun _ _ z=>z.elim) he hp;have I2:Inv (hZ P w K mg base N qual scope f cdv A outer s0 H0 E) pins σ H1 s1:=I1.jo;obtain ⟨h1,g1,d1,t1,o1⟩:=s1;have T:OwnTail h1 Yr bm:=PySem.W.tail_of_in I2.j' htl;have hC:h1.get? C=some (acn nm q C Na bs bm hdct sn sub ab col dd k0 k1 k2 k3 k5 "ValueError.__new__"):=I2.j' _ _ hlk;have hlu:us.length<=abl:=by rw [<-r.length];exact hl
 have hq:=q1 (h1.objs.size+1) (I2.cg.fresh (ahf _));refine TyExc.ZE FB T hC I2.j' hX.init (beq_iff_eq.mp hX.fn) hlu ?_;have kp:∀b o,h1.get? b=some o->(TyExc.ib h1 C us).get? b=some o:=fun b o e=>TyExc.kZ e
 have I3:Inv (hZ P w K mg base N qual scope f cdv A outer s0 H0 E) pins σ (upd H1 (h1.objs.size+1) (lH C (h1.objs.size+1) none)) ⟨TyExc.ib h1 C us,g1,d1,t1,o1⟩:=
  I2.laid (t':=t1) kp (ahf _) (G' TyExc.yb rfl rfl rfl rfl rfl rfl)
 have r2:Vals (V.ref (h1.objs.size+1)::vs) (Value.ref (h1.objs.size+1)::us):=.cons rfl r
 have hl2:(Value.ref (h1.objs.size+1)::us++[]).length=ps.length:=by
  rw [aeL,<-r2.length];exact F.len _ _ _ _ hq
 have bt:=hb ⟨TyExc.ib h1 C us,g1,d1,t1,o1⟩ (Value.ref (h1.objs.size+1)::us) I3.j' hl2;rw [aeL] at bt;refine ado (adl (F.run _ (hZ P w K mg base N qual scope f cdv A outer s0 H0 E).stack _ _ ⟨Value.ref (h1.objs.size+1)::us,[]⟩ (Value.ref (h1.objs.size+1)::us) _ _ E0 (hr.make C us []) (I3.aex.make C us []) bt r2 hq) fun rr s' Rn =>?_);cases rr with
 | error e=>exact (aT.AX _ _ _ _ _ Rn).elim
 | ok fl=>
  cases fl with
  | ret u=>
   obtain ⟨v,H',os',ahi,un',VO,ru,ev,dx,ee,hE⟩:=Rn;subst ev;refine ⟨ru,abk (adF (abC ?_))⟩;obtain ⟨⟨oe,ws,tp,e1,e2,e3,e4,e5,e6,e7⟩,_⟩:=(show bX P w H' s'.heap (h1.objs.size+1) (lH C (h1.objs.size+1) dx) from VO _ _ ee);have I4:Inv (hZ P w K mg base N qual scope f cdv A outer s0 H0 E) pins σ H' s':=I3.MI (ch:=[]) os' un' VO ahi fun b z=>abo z (by simp);refine ⟨h1.objs.size+1,oe,ws,rfl,I4.j' _ _ hlk,e1,e2,e3,e6,?_⟩;show abz (abx P w) (A.deeper (aca qual scope s0.heap.objs.size f cdv)) (leaving (aca qual scope s0.heap.objs.size f cdv) (.ref (h1.objs.size+1))) _ _ s'
   have hne:h1.objs.size+1∉nH (hZ P w K mg base N qual scope f cdv A outer s0 H0 E).stack:=fun z=>by
    have:=I4.rX _ z;rw [ee] at this;cases this
   have ffB:=PySem.W.funFrames_hide (as:=(h1.objs.size+1)::nH (hZ P w K mg base N qual scope f cdv A outer s0 H0 E).stack) I4.stack (fun env he b hb=>aa2 _ (hin env he b hb));generalize hB:adL s'.heap ((h1.objs.size+1)::nH (hZ P w K mg base N qual scope f cdv A outer s0 H0 E).stack)=B at ffB;have st:B.StaysIn s'.heap:=fun b o q=>by rw [<-hB] at q;exact PySem.W.of_hideAll _ q
   have bn:B.get? (h1.objs.size+1)=none:=by rw [<-hB];exact PySem.W.hideAll_none _ aa_
   have da:DictAt s'.heap (h1.objs.size+1) dx:=⟨oe,e1,e4,(M_ e3).trans e7⟩;refine abH (Kp.any qK (wpAny_leaving_firstW (outer:=outer) (s:=s') (base:=B) (Q:=fun _ s3=>∃h2,s3={s' with heap:=h2}/\B.LeftW (aca qual scope s0.heap.objs.size f cdv::outer) (h1.objs.size+1) oe.cls (.ref tp) s'.heap h2) (E:=fun _ _=>False) I.ok.frames ffB rfl e1 st bn e3 e6 e5 fun h2 lw=>⟨h2,rfl,lw⟩)) (fun _ s3 z=>?_) fun _ _ z=>z.elim;obtain ⟨⟨h2,rfl,lw1,lw2,lw3,lw4⟩,kd⟩:=z;have un0:Un (nH (hZ P w K mg base N qual scope f cdv A outer s0 H0 E).stack) [] H1 (upd H1 (h1.objs.size+1) (lH C (h1.objs.size+1) none)) h1 (TyExc.ib h1 C us):=Un.laid kp (ahf _) (I2.cg.fresh (ahf _));have unA:=(un0.trans un').trans (aeR (e:=h1.objs.size+1) ee);rw [e2] at lw3;have fl:B.FlyingW outer (h1.objs.size+1) (.ref C) (.ref tp) h2:=⟨lw1,bn,lw2.2.2,lw3⟩;refine Ro (s':=s') (H:=H1) (s:=⟨h1,g1,d1,t1,o1⟩) I2 fl (da.kd kd) ffB st unA (ZI ee VO) os' ahi (fun b o eb hb=>?_) (fun b u eb=>?_) lw4 hE
   ·obtain ⟨o',e'⟩:=(un0.trans un').there b o eb (by simp)
    refine ⟨o',?_⟩;rw [<-hB];refine acO _ e' fun z=>?_
    rcases aa3.mp z with z|z
    ·have:=abB eb
     rw [z] at this;simp only [abj] at*;omega
    ·exact hb z
   ·have nb:b≠h1.objs.size+1:=fun z=>by rw [z,qN] at eb;cases eb
    rw [gC nb] at eb;obtain ⟨o,ho⟩:=obj_some (VO b u eb);refine ⟨o,?_⟩;rw [<-hB];refine acO _ ho fun z=>?_
    rcases aa3.mp z with z|z
    ·exact nb z
    ·have:=I4.rX b z
     rw [eb] at this;cases this
  | next=>exact False.elim Rn
  | brk=>exact False.elim Rn
  | cont=>exact False.elim Rn
end
section
variable {prog:abJ}{w:World}{A:abM}{R:Ζ}{s:abw}
theorem HE {ifs:π}(I:Nat->abw->Prop)
  (turn:∀n s,I n s->abz (abx prog w) A (pyNext it) (fun r s₁=>match r with
   | none=>R (.ok .next) s₁
   | some v=>abz (abx prog w) A (adN target it v) (fun _ s₁' =>abz (abx prog w) A (assign target env v) (fun _ s₂=>
     abz (abx prog w) A (forIn ifs true fun c r=>if r=true then do let ok <- isTrue c env (abU c env);pure (ForInStep.yield ok) else pure (ForInStep.yield r)) (fun ok s₃=>
      if ok=true then abz (abx prog w) A (abU elt env) (fun x s₄=>
       abz (abx prog w) A (call (.builtin "list.append") [acc,x]) (fun _ s₅=>∃m,m<n/\I m s₅) (fun _ _=>False) s₄) (fun _ _=>False) s₃
      else ∃m,m<n/\I m s₃) (fun _ _=>False) s₂) (fun _ _=>False) s₁') (fun _ _=>False) s₁) (fun _ _=>False) s)
  (n:Nat) (h:I n s):
  acx (abx prog w) A (.compLoop (.ListComp elt [⟨target,iter,ifs,0⟩] scope pos) 0 it acc env) R s:=by
 refine codeAny_loop rfl I (fun n s hI=>?_) n h;show abz _ A ((compTurn (.ListComp elt [⟨target,iter,ifs,0⟩] scope pos) 0 it acc env).onRaise (fun x=>do noteFrame x env;theTreesLotGoes x)) _ _ s;refine wpAny_noted ?_;rw [compTurn_list];refine abk (adF (abk (abH (turn n s hI) (fun r s₁ h₁=>?_) fun _ _ h'=>h'.elim)));cases r with
 | none=>exact abC h₁
 | some v=>
  refine abk (abH h₁ (fun _ s₁' h₁' =>?_) fun _ _ h'=>h'.elim);refine abk (abH h₁' (fun _ s₂ h₂=>abk (abH h₂ (fun ok s₃ h₃=>?_) fun _ _ h'=>h'.elim)) fun _ _ h'=>h'.elim);cases ok with
  | false=>exact abC ⟨rfl,h₃⟩
  | true=>
   exact abk (abk (abH h₃ (fun x s₄ h₄=>abk (abH h₄ (fun _ s₅ h₅=>abC (abC ⟨rfl,h₅⟩)) fun _ _ h'=>h'.elim)) fun _ _ h'=>h'.elim))
end
def bC (env:Env)(fr:η):List (Str×abj):=fr.filterMap fun n=>(env.cells.lookup n).map fun c=>(n,c)
theorem lookup_mem {α:Type}{c:α}:∀{l:List (Str×α)},l.lookup x=some c->(x,c)∈l
 | [],h=>by simp at h
 | (y,d)::r,h=>by
  rw [aoE] at h;cases e:x==y with
  | true=>
   rw [e] at h;have e1:x=y:=by simpa using e
   cases h;rw [e1];exact aa_
  | false=>
   rw [e] at h;exact aa2 _ (lookup_mem h)
theorem VX (h:(x,c)∈bC env fr):env.cells.lookup x=some c:=by
 obtain ⟨n,_,e⟩:=afE.mp h;cases q:env.cells.lookup n with
 | none=>rw [q] at e;cases e
 | some d=>
  rw [q] at e;have e':(n,d)=(x,c):=aaQ e;cases e';exact q
theorem jJ (h:(bC env fr).lookup x=some c):env.cells.lookup x=some c:=VX (lookup_mem h)
theorem uJ (q:env.cells.lookup x=some c):∀{fr:η},x∈fr->(bC env fr).lookup x=some c
 | [],h=>nomatch h
 | y::r,h=>by
  unfold bC;rw [ahs];by_cases e:x=y
  ·subst e
   rw [q];simp
  ·have hr:x∈r:=by
    rcases aa3.mp h with z|z
    ·exact abo z e
    ·exact z
   have ih:=uJ q hr;cases z:env.cells.lookup y with
   | none=>exact ih
   | some d=>
    show ac6 x ((y,d)::_)=_;rw [aoE];have ne:(x==y)=false:=by simpa using e
    rw [ne];exact ih
def k_ (env:Env):List Str->Prop
 | []=>True
 | y::r=>(env.kindOf y=some .cell\/env.kindOf y=some .free)/\k_ env r
theorem k_.at :∀{fr:η},k_ env fr->x∈fr->env.kindOf x=some .cell\/env.kindOf x=some .free
 | [],_,h=>nomatch h
 | y::r,a,h=>by
  rcases aa3.mp h with z|z
  ·rw [z]
   exact a.1
  ·exact k_.at a.2 z
section
variable {X:Cx}
def LN (X:Cx)(NB:η)(scope:Scope)(fn:Str->Bool)(cl:List (Str×abj))(C:abj)(s:abw)(H:Hp)(fp:ξ):Cx:=
 {prog:=X.prog,w:=X.w,K:=X.K,mg:=X.mg,base:=X.base,A:=X.A,N:=NB,s₀:=s,H₀:=H,env:=compEnvC scope cl C X.env,outer:=X.stack,stack:=X.stack,ex:=fp,fn:=fn,calm:=X.calm,pn:=[],xe:=fun _ _=>False}
abbrev xm (X:Cx)(NB:η)(scope:Scope)(cl:List (Str×abj))(C:abj)(s:abw)(H:Hp)(fp:ξ):Cx:=LN X NB scope (fun _=>false) cl C s H fp
structure aeT (X:Cx)(scope:Scope)(ow:abj->List (Str×abj))(fn:Str->Bool)(fr:η)(caps:Θ):Prop where
 aeU:closureFor scope X.env=pure (bC X.env fr)
 kind:scope.kind=.function
 names:∀y∈scope.names,y.2=.local->scope.names.lookup y.1=some .local
 free:∀y∈scope.names,y.2=.free->y.1∈fr
 caps:caps.map (fun i=>X.N[i]?)=fr.map some
 out:k_ X.env fr
 inn:k_ (compEnvC scope [] 0 X.env) fr
 new:∀{s:abw} {Q:Env->abw->Prop} {E:γ},(∀h',h'.Ns s.heap.objs.size (fun _=>none)->(∀b o,s.heap.get? b=some o->h'.get? b=some o)->(∀x c,(ow s.heap.objs.size).lookup x=some c->h'.IsCell c none)->
   Q (newEnv scope s.heap.objs.size X.env.globals (ow s.heap.objs.size++bC X.env fr) X.env.qual none .none (some X.env) builtinsNs) {s with heap:=h',toks:=s.toks+([]:List (Str×Value)).length})->
  abz (abx X.prog X.w) X.A (newFunctionEnv scope X.env.globals (bC X.env fr) [] X.env.qual none .none (some X.env)) Q E s
 ge:∀C x c,(ow C).lookup x=some c->C<c
 one:∀C x z c,(ow C).lookup x=some c->(ow C).lookup z=some c->x=z
 fn1:∀C x,fn x=true->(ow C).lookup x≠none
 only:∀z∈scope.names,z.2=.cell->fn z.1=true
 ny:∀C,∀x∈fr,(ow C).lookup x=none
theorem EU {o cl:List (Str×abj)}(h:(o++cl).lookup x=some c):o.lookup x=some c\/(o.lookup x=none/\cl.lookup x=some c):=by
 rw [akB] at h;cases e:o.lookup x with
 | none=>rw [e] at h;exact .inr ⟨rfl,h⟩
 | some d=>rw [e] at h;exact .inl h
structure HF (X:Cx)(scope:Scope)(fr:η)(caps:Θ):Prop where
 aeU:closureFor scope X.env=pure (bC X.env fr)
 cell:∀y∈scope.names,y.2≠.cell
 kind:scope.kind=.function
 names:∀y∈scope.names,y.2=.local->scope.names.lookup y.1=some .local
 free:∀y∈scope.names,y.2=.free->y.1∈fr
 caps:caps.map (fun i=>X.N[i]?)=fr.map some
 out:k_ X.env fr
 inn:k_ (compEnvC scope [] 0 X.env) fr
def PF (X:Cx)(ifs:π)(t:TT):Prop:=
 ∀(pins:δ)(s:abw)(σ:L2.St)(H:Hp)(Q:Bool->Hp->Prop),Inv X pins σ H s->t σ H Q->
  abz (abx X.prog X.w) X.A (forIn ifs true fun c r=>if r=true then do let ok <- isTrue c X.env (abU c X.env);pure (ForInStep.yield ok) else pure (ForInStep.yield r)) (TP X pins σ Q) X.xe s
def yc:TT:=fun _ H Q=>Q true H
theorem Rr:PF X [] yc:=fun _ _ _ H _ I h=>wpAny_tests_nil ⟨H,I,h⟩
theorem Rt (h:PT X c t):PF X [c] t:=fun pins s σ H Q I q=>wpAny_tests_one (h pins s σ H Q I q)
def sB (k:Nat)(caps:Θ)(σ:L2.St):L2.St:=apw k none++caps.map fun i=>(σ[i]?).getD none
def BA (D:abj)(g:TG)(tt:TT)(te:TE)(J:It)(σ0:L2.St)(H1:Hp)(Q:VK):Prop:=∃W:Nat->Nat->L2.St->List V->Hp->Prop,
 (∃m,W 0 m σ0 [] (upd H1 D (.lst [])))/\∀i m σ2 ys H2,W i m σ2 ys H2->(J.stop i H2/\Q (.ref D) H2)\/(J.go i H2/\∀x H3,J.yld i H2 x H3->g x σ2 H3 fun σ4 H4=>tt σ4 H4 fun b H5=>
  if b=true then te σ4 H5 fun v H6=>H6 D=some (.lst ys)/\ys.length<abl/\∃m',m'<m/\W (i+1) m' σ4 (ys++[v]) (upd H6 D (.lst (ys++[v]))) else ∃m',m'<m/\W (i+1) m' σ4 ys H5)
def vQ (k:Nat)(caps:Θ)(wi:TI)(g:TG)(tt:TT)(te:TE):TE:=fun σ H Q=>wi σ H fun J H1=>∀D,H1 D=none->BA D g tt te J (sB k caps σ) H1 Q
theorem aks (h:(sB k caps σ)[i]?=some (some v)):k<=i/\∃j,caps[i-k]?=some j/\σ[j]?=some (some v):=by
 unfold sB at h;by_cases c:i<k
 ·rw [ad_ (by simpa using c),al_,abv c] at h
  cases h
 ·rw [ac' (by simpa using amT c),am9,aaU] at h
  refine ⟨amT c,?_⟩;cases e:caps[i-k]? with
  | none=>rw [e] at h;cases h
  | some j=>
   rw [e] at h;refine ⟨j,rfl,?_⟩;have h':(σ[j]?).getD none=some v:=aaQ h;cases z:σ[j]? with
   | none=>rw [z] at h';cases h'
   | some o=>
    rw [z] at h';exact abV some h'
theorem yd {σ:L2.St}
    {RR:Value->abj->Result->abw->Prop} {E:γ} (hc:X.calm=true) (B:aeT X scope ow fn fr caps)
  (hg:∀C s H fp,PG (LN X (tn++fr) scope fn (ow C++bC X.env fr) C s H fp) target g) (ht:∀C s H fp,PF (LN X (tn++fr) scope fn (ow C++bC X.env fr) C s H fp) ifs tt) (he:∀C s H fp,PE (LN X (tn++fr) scope fn (ow C++bC X.env fr) C s H fp) elt te)
  (I2:Inv X pins σ H2 s2) (T:Turn X.prog X.w X.K target J fp it tnn) (st2:tnn 0 s2.heap) (f2:∀b∈fp,wq X pins H2 b) (q:∀D,H2 D=none->BA D g tt te J (sB tn.length caps σ) H2 Q)
  (fin:∀D C H' s' m,Inv X pins σ H' s' ->s'.heap.Ns C m->wq X pins H' C->Q (.ref D) H' ->RR (.ref D) C (.ok .next) s'):
  abz (abx X.prog X.w) X.A (newList []) (fun acc s₃=>abz (abx X.prog X.w) X.A (newFunctionEnv scope X.env.globals (bC X.env fr) [] X.env.qual none .none (some X.env)) (fun aoS s₄=>
   acx (abx X.prog X.w) X.A (.compStart (.ListComp elt [⟨target,iter,ifs,0⟩] scope pos) 0 (.ref it) acc {aoS with scope:=relabel scope X.env}) (RR acc aoS.locals) s₄) E s₃) E s2:=by
 refine wpAny_newObj_type (B.new (fun h₁ akt hk₁ hc₁=>?_));have I3:Inv X pins σ (upd H2 s2.heap.objs.size (.lst [])) {s2 with heap:=s2.heap.push {cls:=.type "list",data:=.seq ([]:List Value).toArray}}:=I2.aoB (t':=s2.toks) (its:=[]) .nil (aer _);obtain ⟨W,⟨m0,w0⟩,turn⟩:=q s2.heap.objs.size (I2.cg.fresh (aaM _));generalize hH3:upd H2 s2.heap.objs.size (.lst [])=H3 at I3 w0
 have f3:∀b∈fp,wq X pins H3 b:=fun b hb=>by
  obtain ⟨a0,a1⟩:=f2 b hb;refine ⟨?_,a1⟩;obtain ⟨o,e,_⟩:=T.obj _ _ st2 b hb;rw [<-hH3,ah (ac9 (abB e))];exact a0
 generalize hD:s2.heap.objs.size=D at*;generalize hs3:({s2 with heap:=s2.heap.push {cls:=.type "list",data:=.seq ([]:List Value).toArray}}:abw)=s3 at*;have e3:s3.heap=s2.heap.push {cls:=.type "list",data:=.seq ([]:List Value).toArray}:=by rw [<-hs3]
 have st3:tnn 0 s3.heap:=T.keep _ _ _ st2 fun b _ o e=>by rw [e3];exact abr _ e
 have kept:∀b o,s3.heap.get? b=some o->h₁.get? b=some o:=fun b o e=>hk₁ b o e;generalize hC:s3.heap.objs.size=C at*;have hCs:s3.heap.objs.size<=C:=amZ hC;have I4:Inv X pins σ H3 {s3 with heap:=h₁,toks:=s3.toks+([]:List (Str×Value)).length}:=I3.kept kept
 have fpC:∀b∈fp,b≠C:=fun b hb z=>by
  obtain ⟨o,e,_⟩:=T.obj _ _ st3 b hb;exact abo z (ac9 (aaS (abB e) hCs))
 have nst:∀b∈fp,b∉nH X.stack:=fun b hb z=>(aa3.mp (I3.GB b z)).elim (f3 b hb).2.1 (f3 b hb).2.2.1
 have old:∀x c,(bC X.env fr).lookup x=some c->c<C:=fun x c e=>by
  obtain ⟨v,ic⟩:=I3.cell x c (jJ e);rw [<-hC];exact ic.lt
 have axg:∀x z c,(ow C++bC X.env fr).lookup x=some c->(ow C++bC X.env fr).lookup z=some c->x=z:=fun x z c e1 e2=>by
  rcases EU e1 with b1|⟨_,b1⟩<;>rcases EU e2 with b2|⟨_,b2⟩
  ·exact B.one _ _ _ _ b1 b2
  ·exact abo (old z c b2) (Nat.lt_asymm (B.ge _ _ _ b1))
  ·exact abo (old x c b1) (Nat.lt_asymm (B.ge _ _ _ b2))
  ·exact I3.ok.inj x z c (jJ b1) (jJ b2)
 have axh:∀x c,fn x=true->(ow C++bC X.env fr).lookup x=some c->s3.heap.objs.size<=c:=fun x c hx e=>by
  rcases EU e with b1|⟨a1,b1⟩
  ·exact aah (amZ hC) (aj_ (B.ge _ _ _ b1))
  ·exact abo a1 (B.fn1 C x hx)
 have nfp:∀b∈fp,∀x c,(ow C++bC X.env fr).lookup x=some c->c≠b:=fun b hb x c e=>by
  rcases EU e with b1|⟨a1,b1⟩
  ·obtain ⟨o,eo,_⟩:=T.obj _ _ st3 b hb
   have:=abB eo;rw [hC] at this;exact ac2 (ac9 (Nat.lt_trans this (B.ge _ _ _ b1)))
  ·exact (f3 b hb).2.2.2.2.1 x c (jJ b1)
 have aoU:∀{x:Str} {c:abj},x∈fr->(bC X.env fr).lookup x=some c->(ow C++bC X.env fr).lookup x=some c:=fun {x c} hx e=>by
  rw [akB,B.ny C x hx];exact e
 have okB:(LN X (tn++fr) scope fn (ow C++bC X.env fr) C s3 H3 fp).Ok:=by
  refine ⟨I3.ok.mod,B.kind,I3.ok.glob,I3.ok.blt,hCs,axg,fun x hx=>?_,axh,I3.ok.hd,I3.ok.frames,.inl rfl,
   fun b hb=>⟨fpC b hb,fun x c e=>nfp b hb x c e⟩,I3.bs,aah I3.ok.bsz I3.sz,fun b o e hb=>?_,nst,I3.stack,I3.rX⟩
  ·have hm:∃k,(x,k)∈scope.names/\k≠.local/\(k=.cell\/k=.free):=by
    have:∃k',(relabel scope X.env).names.lookup x=some k'/\(k'=.cell\/k'=.free):=by
     rcases hx with z|z
     ·exact ⟨_,z,.inl rfl⟩
     ·exact ⟨_,z,.inr rfl⟩
    obtain ⟨k',e',h'⟩:=this;obtain ⟨⟨n,k⟩,hn,en⟩:=ac3.mp (lookup_mem e');dsimp only at en;by_cases cc:(k==NameKind.free && X.env.scope.kind==.function && X.env.kindOf n==some .cell)=true
    ·rw [abv cc] at en
     cases en
     have kf:k=.free:=by
      rw [ac8,ac8] at cc;simpa using cc.1.1
     exact ⟨k,hn,(by intro z;rw [kf] at z;cases z),.inr kf⟩
    ·rw [abp cc] at en
     cases en;exact ⟨k',hn,fun z'=>by rcases h' with y|y<;>(rw [y] at z';cases z'),h'⟩
   obtain ⟨k,hk,_,h2⟩:=hm
   rcases h2 with z|z
   ·cases e:(ow C).lookup x with
    | none=>exact abo e (B.fn1 C x (B.only _ hk z))
    | some c=>exact ⟨c,by show ac6 x (ow C++_)=_;rw [akB,e];rfl⟩
   ·have hf:=B.free _ hk z
    obtain ⟨c,ec⟩:=I3.ok.has x (B.out.at hf);exact ⟨c,aoU hf (uJ ec hf)⟩
  ·obtain ⟨_,_,_,h1,_⟩:=f3 b hb
   rcases h1 with z|z
   ·exact I3.ok.VD b o e z
   ·exact afw _ (aaS (aaS (abB e) I3.ok.bsz) z)
 have IB:Inv (LN X (tn++fr) scope fn (ow C++bC X.env fr) C s3 H3 fp) [] (sB tn.length caps σ) H3 {s3 with heap:=h₁,toks:=s3.toks+([]:List (Str×Value)).length}:=by
  refine ⟨okB,rfl,I3.bare,Un.kept kept,⟨_,akt,fun i x v e1 e2 _=>?_⟩,fun x c e=>(EU e).elim (fun z=>⟨none,hc₁ x c z⟩) (fun z=>I4.cell x c (jJ z.2)),?_,fun x c e=>(EU e).elim (fun z=>I3.cg.fresh (aah hCs (aj_ (B.ge _ _ _ z)))) (fun z=>I3.jN x c (jJ z.2)),fun p hp=>(nomatch hp),I3.cg.kept kept,?_⟩
  ·obtain ⟨hk,j,ej,es⟩:=aks e2
   have e1':fr[i-tn.length]?=some x:=by
    have z:(tn++fr)[i]?=some x:=e1;rw [ac' hk] at z;exact z
   have hx:x∈fr:=aaP e1'
   have eN:X.N[j]?=some x:=by
    have z:=abV (fun l:List (Option Str)=>l[i-tn.length]?) B.caps;simp only [aaU,ej,e1',Option.map_some] at z;exact aaQ z
   have ko:=B.out.at hx;obtain ⟨m,hn,hl⟩:=I4.loc;obtain ⟨u,r,lk⟩:=hl j x v eN es (by rcases ko with z|z;exact .inr (.inl z);exact .inr (.inr z));refine ⟨u,r,?_⟩
   rcases lk with ⟨k1,_⟩|⟨_,c,ec,ic⟩
   ·rcases ko with z|z<;>(rw [z] at k1;cases k1)
   ·exact .inr ⟨B.inn.at hx,c,aoU hx (uJ ec hx),ic⟩
  ·exact I3.cg.fresh hCs
  ·have:=abV List.length B.caps
   simp only [ir] at this;show (sB tn.length caps σ).length=(tn++fr).length;unfold sB;simp [this]
 have ZJ:∀{H':Hp},(∀b∈fp,H' b=none)->∀b∈fp,wq (LN X (tn++fr) scope fn (ow C++bC X.env fr) C s3 H3 fp) [] H' b:=fun hn b hb=>
  ⟨hn b hb,fpC b hb,nst b hb,.inl hb,nfp b hb,fun p hp=>(nomatch hp)⟩
 have st4:tnn 0 h₁:=T.keep _ _ _ st3 fun b _ o e=>kept b o e
 have loop:acx (abx X.prog X.w) X.A (.compLoop (.ListComp elt [⟨target,iter,ifs,0⟩] scope pos) 0 (.ref it) (.ref D) (compEnvC scope (ow C++bC X.env fr) C X.env)) (RR (.ref D) C) {s3 with heap:=h₁,toks:=s3.toks+([]:List (Str×Value)).length}:=by
  refine HE (fun n s'=>∃i σ' ys H',Inv (LN X (tn++fr) scope fn (ow C++bC X.env fr) C s3 H3 fp) [] σ' H' s'/\tnn i s'.heap/\(∀b∈fp,H' b=none)/\W i n σ' ys H') ?_ m0 ⟨0,_,[],H3,IB,st4,fun b hb=>(f3 b hb).1,w0⟩;rintro n s5 ⟨i,σ5,ys,H5,I5,st5,fr5,w5⟩
  rcases turn i n σ5 ys H5 w5 with ⟨stop,qn⟩|⟨go,step⟩
  ·refine abH (T.done (LN X (tn++fr) scope fn (ow C++bC X.env fr) C s3 H3 fp) rfl rfl rfl hc i [] s5 σ5 H5 (fun _ _=>False) I5 (ZJ fr5) st5 stop) (fun r s6 ⟨hr,I6⟩=>?_) fun _ _ z=>z
   subst hr;obtain ⟨m,hn,_⟩:=I6.loc;have J6:Inv X pins σ H5 s6:=I3.MI (ch:=fp) I6.os I6.base I6.cg I6.bare fun b hb=>⟨(f3 b hb).2.2.2.1,(f3 b hb).2.1,(f3 b hb).2.2.2.2.1,(f3 b hb).2.2.2.2.2⟩;exact fin D C H5 s6 m J6 hn (I3.GF hCs I6.free) qn
  ·refine abH (T.item (LN X (tn++fr) scope fn (ow C++bC X.env fr) C s3 H3 fp) rfl rfl rfl hc i [] s5 σ5 H5 (fun _ _=>False) I5 (ZJ fr5) st5 go) (fun r s6 ⟨u,hr,h6⟩=>?_) fun _ _ z=>z
   subst hr;refine abH h6 (fun _ s7 ⟨x,H7,I7,r7,y7,st7,fr7⟩=>?_) fun _ _ z=>z;have I7':=I7.pinned (ZJ fr7) (T.obj _ _ st7)
   have held:∀{σ' :L2.St} {H':Hp} {s':abw},Inv (LN X (tn++fr) scope fn (ow C++bC X.env fr) C s3 H3 fp) ([]++xK fp s7.heap) σ' H' s' ->tnn (i+1) s'.heap/\∀b∈fp,H' b=none:=fun {σ' H' s'} I'=>by
    refine ⟨T.keep _ _ _ st7 fun b hb o e=>(I'.pin (b,o) (adf _ (adf _ (mw hb e)))).1,fun b hb=>?_⟩;obtain ⟨o,e,d⟩:=T.obj _ _ st7 b hb;exact (I'.pin (b,o) (adf _ (adf _ (mw hb e)))).2.1
   refine abH (hg C s3 H3 fp _ s7 σ5 H7 x u _ I7' r7 (step x H7 y7)) (fun _ s8 ⟨σ8,H8,I8,q8⟩=>?_) fun _ _ z=>z;refine abH (ht C s3 H3 fp _ s8 σ8 H8 _ I8 q8) (fun ok s9 ⟨H9,I9,q9⟩=>?_) fun _ _ z=>z;cases ok with
   | false=>
    rw [abp acZ] at q9;obtain ⟨m',hm,w9⟩:=q9;rw [abp acZ];obtain ⟨a,b⟩:=held I9;exact ⟨m',hm,i+1,σ8,ys,H9,I9.nJ,a,b,w9⟩
   | true=>
    rw [abv rfl] at q9;rw [abv rfl];refine abH (he C s3 H3 fp _ s9 σ8 H9 _ I9 q9) (fun v s10 ⟨y9,H10,I10,r10,hDD,hl,m',hm,w10⟩=>?_) fun _ _ z=>z;refine abH (dc (X:=LN X (tn++fr) scope fn (ow C++bC X.env fr) C s3 H3 fp) _ s10 σ8 H10 (.ref D) [y9] (.ref D) [v] (fun _ H'=>W (i+1) m' σ8 (ys++[y9]) H') I10 rfl (.cons r10 .nil) ⟨D,ys,y9,rfl,rfl,hDD,hl,w10⟩) (fun _ s11 ⟨z,H11,I11,_,q11⟩=>?_) fun _ _ z=>z;obtain ⟨a,b⟩:=held I11;exact ⟨m',hm,i+1,σ8,ys++[y9],H11,I11.nJ,a,b,q11⟩
 exact codeAny_compStart_list loop (T.self X.A 0 _ _ _ st4 loop)
theorem ZK (hc:X.calm=true)(B:aeT X scope ow fn fr caps)(hi:PI X target iter wi)
  (hg:∀C s H fp,PG (LN X (tn++fr) scope fn (ow C++bC X.env fr) C s H fp) target g) (ht:∀C s H fp,PF (LN X (tn++fr) scope fn (ow C++bC X.env fr) C s H fp) ifs tt) (he:∀C s H fp,PE (LN X (tn++fr) scope fn (ow C++bC X.env fr) C s H fp) elt te)
  (hs:∀x,acr iter X.env x=pure x:=by intro _;rfl):PE X (.ListComp elt [⟨target,iter,ifs,0⟩] scope pos) (vQ tn.length caps wi g tt te):=by
 intro pins s σ H Q I h;rw [eval_ListComp];refine wpAny_comprehension_free (use:=none) rfl hs B.aeU B.kind B.names (du (hi pins s σ H _ I h) fun v s1 h1=>du h1 fun itv s2 h2=>?_);obtain ⟨it,fp,tnn,J,H2,rfl,I2,T,st2,f2,q⟩:=h2;refine yd (Q:=Q) (RR:=fun acc C=>compPost (abx X.prog X.w) X.A X.xe none (EP X pins σ Q) acc C) hc B hg ht he I2 T st2 f2 q ?_;intro D C H' s' m I' hn fc qq;obtain ⟨g0,g1,g2,g3,g4,g5⟩:=fc;exact ⟨m,hn,fun h' hs'=>⟨.ref D,H',I'.turned (t':=s'.toks) (fun b o hb e=>(hs'.2 b hb).trans e) g0 g1 g3 g4 g5,rfl,qq⟩⟩
theorem ZL {BB:Pos}(hN:X.N.Nodup)(hiN:X.N[i]?=some y)(hx:Loc X.env.scope y)
  (hc:X.calm=true) (B:aeT X scope ow fn fr caps) (hi:PI X target iter wi)
  (hg:∀C s H fp,PG (LN X (tn++fr) scope fn (ow C++bC X.env fr) C s H fp) target g) (ht:∀C s H fp,PF (LN X (tn++fr) scope fn (ow C++bC X.env fr) C s H fp) ifs tt) (he:∀C s H fp,PE (LN X (tn++fr) scope fn (ow C++bC X.env fr) C s H fp) elt te)
  (hsw:acM (.ListComp elt [⟨target,iter,ifs,0⟩] scope pos) (some (.Name y py)) BB.line X.env=pure true:=by rfl)
  (hs:∀x,acr iter X.env x=pure x:=by intro _;rfl) (hf:X.fn y=true\/X.env.scope.names.lookup y=some .local:=by first|exact .inl rfl|exact .inr rfl|assumption):
  PS X (.Assign [.Name y py] (.ListComp elt [⟨target,iter,ifs,0⟩] scope pos) BB) (VE (vQ tn.length caps wi g tt te) (fj i)):=by
 intro pins s σ H D I h;rw [exec_Assign_Name_used _ _ _ _ hsw];refine abk (adF (abk ?_));show abz _ X.A (do let _ <- comprehension (.ListComp elt [⟨target,iter,ifs,0⟩] scope pos) scope X.env _ (newList []) false (abU iter X.env) (some (assign (.Name y py) X.env))) _ _ s
 refine abk (abH (wpAny_comprehension_free (use:=some (assign (.Name y py) X.env)) (Q:=fun _ s'=>SP X pins D .next s') rfl hs B.aeU B.kind B.names
  (du (hi pins s σ H _ I h) fun v s1 h1=>du h1 fun itv s2 h2=>?_)) (fun _ s' hq=>abC (abC hq)) fun _ _ e=>e)
 obtain ⟨it,fp,tnn,J,H2,rfl,I2,T,st2,f2,q⟩:=h2;refine yd (Q:=fun v H1=>fj i v σ H1 D.nx) (RR:=fun acc C=>compPost (abx X.prog X.w) X.A X.xe (some (assign (.Name y py) X.env)) (fun _ s'=>SP X pins D .next s') acc C) hc B hg ht he I2 T st2 f2 q ?_;intro DD C H' s' m I' hn fc qq;obtain ⟨g0,g1,g2,g3,g4,g5⟩:=fc;show abz _ X.A (assign (.Name y py) X.env (.ref DD)) _ _ _;refine wpAny_assign_Name (D' I' hN hiN hx (v:=.ref DD) (u:=.ref DD) rfl (fun s'' I'' ⟨a,sb,ha⟩=>?_) hf)
 have hCa:C≠a:=by
  rcases ha with z|z
  ·rw [z]
   exact g1
  ·exact fun e=>g4 y a z e.symm
 exact ⟨m,hn.sameBut sb hCa,fun h' hs'=>⟨_,H',I''.turned (t':=s''.toks) (fun b o hb e=>(hs'.2 b hb).trans e) g0 g1 g3 g4 g5,qq⟩⟩
theorem HF.g {caps:Θ}(B:HF X scope fr caps):aeT X scope (fun _=>[]) (fun _=>false) fr caps:=
 ⟨B.aeU,B.kind,B.names,B.free,B.caps,B.out,B.inn,fun hQ=>wpAny_newFunctionEnv B.cell (by intro y hy;simp at hy) (fun h₁ akt axk=>hQ h₁ akt (fun b o e=>(axk.2 b (ac9 (abB e))).trans (abr _ e)) fun _ _ z=>(nomatch z)) B.kind,
  fun _ _ _ z=>(nomatch z),fun _ _ _ _ z=>(nomatch z),fun _ _ z=>(nomatch z),fun z hz e=>abo e (B.cell z hz),fun _ _ _=>rfl⟩
theorem UE (hc:X.calm=true)(B:HF X scope fr caps)(hi:PI X target iter wi)
  (hg:∀C s H fp,PG (xm X (tn++fr) scope (bC X.env fr) C s H fp) target g) (ht:∀C s H fp,PF (xm X (tn++fr) scope (bC X.env fr) C s H fp) ifs tt) (he:∀C s H fp,PE (xm X (tn++fr) scope (bC X.env fr) C s H fp) elt te)
  (hs:∀x,acr iter X.env x=pure x:=by intro _;rfl):PE X (.ListComp elt [⟨target,iter,ifs,0⟩] scope pos) (vQ tn.length caps wi g tt te):=
 ZK hc B.g hi hg ht he hs
theorem UG {BB:Pos}(hN:X.N.Nodup)(hiN:X.N[i]?=some y)(hx:Loc X.env.scope y)
  (hc:X.calm=true) (B:HF X scope fr caps) (hi:PI X target iter wi)
  (hg:∀C s H fp,PG (xm X (tn++fr) scope (bC X.env fr) C s H fp) target g) (ht:∀C s H fp,PF (xm X (tn++fr) scope (bC X.env fr) C s H fp) ifs tt) (he:∀C s H fp,PE (xm X (tn++fr) scope (bC X.env fr) C s H fp) elt te)
  (hsw:acM (.ListComp elt [⟨target,iter,ifs,0⟩] scope pos) (some (.Name y py)) BB.line X.env=pure true:=by rfl)
  (hs:∀x,acr iter X.env x=pure x:=by intro _;rfl) (hf:X.fn y=true\/X.env.scope.names.lookup y=some .local:=by first|exact .inl rfl|exact .inr rfl|assumption):
  PS X (.Assign [.Name y py] (.ListComp elt [⟨target,iter,ifs,0⟩] scope pos) BB) (VE (vQ tn.length caps wi g tt te) (fj i)):=
 ZL hN hiN hx hc B.g hi hg ht he hsw hs hf
end
section
variable {D:abj}{te:TE}{cap:L2.St}{H1:Hp}{Q:VK}
theorem ZM (n:Nat)(xs:Nat->V)(Pv:Nat->List V->Hp->Prop)(h0:Pv 0 [] (upd H1 D (.lst [])))
  (go:∀i ys H,i<n->Pv i ys H->J.go i H/\∀x H',J.yld i H x H' ->H'=H/\x=xs i) (stop:∀ys H,Pv n ys H->J.stop n H)
  (hs:∀i ys H (R:VK),i<n->Pv i ys H->H D=some (.lst ys)->(∀v H6,H6 D=some (.lst ys)->ys.length<abl->Pv (i+1) (ys++[v]) (upd H6 D (.lst (ys++[v])))->R v H6)->te (some (xs i)::cap) H R)
  (hd:∀ys H,Pv n ys H->H D=some (.lst ys)->Q (.ref D) H):BA D (fj 0) yc te J (none::cap) H1 Q:=by
 refine ⟨fun i m σ ys H=>m=n-i/\i<=n/\(∃o,σ=o::cap)/\Pv i ys H/\H D=some (.lst ys),⟨n,by simp,aer _,⟨none,rfl⟩,h0,ai⟩,?_⟩;rintro i m σ ys H ⟨rfl,hi,⟨o,rfl⟩,p,hD⟩;by_cases AQ:i<n
 ·obtain ⟨g1,g2⟩:=go i ys H AQ p
  refine .inr ⟨g1,fun x H' y=>?_⟩;obtain ⟨e1,e2⟩:=g2 x H' y;subst e1 e2;unfold fj yc;dsimp only;rw [abv rfl];exact hs i ys _ _ AQ p hD fun v H6 a b c=>⟨a,b,n-(i+1),by omega,rfl,by omega,⟨_,rfl⟩,c,ai⟩
 ·have e:i=n:=by omega
  subst e;exact .inl ⟨stop ys H p,hd ys H p hD⟩
end
def Its (x:Str):It:=⟨fun i _=>i<x.cps.size,fun i H v H'=>H'=H/\∃c,x.cps[i]?=some c/\v=.str ⟨#[c]⟩,fun i _=>i=x.cps.size⟩
theorem ZN {K:Frag}(it:abj)(x:Str)(t:Tok)(hty:ty="str_ascii_iterator"\/ty="str_iterator"):Turn P w K tg (Its x) [it] it (fun i h=>h.IsStrIter it ty x t i) where
 mem:=by simp
 obj:=fun i h st b hb=>by
  have e:b=it:=by simpa using hb
  subst e;obtain ⟨o,e,c,d⟩:=st;exact ⟨o,e,fun v z=>by rw [d] at z;cases z⟩
 keep:=fun i h h' st k=>by
  obtain ⟨o,e,r⟩:=st;exact ⟨o,k it (by simp) o e,r⟩
 item:=by
  intro X hP hw hK hc i pins s σ H E I hf st hg;subst hP hw hK;obtain ⟨f0,f1,f2,f3,f4,f5⟩:=hf it (by simp)
  have W:Walks X.prog X.w X.A it [it] [it] x.cps.size (SignAt x) (fun i h=>h.IsStrIter it ty x t i):=by
   rcases hty with z|z
   ·subst z
    exact Walks.strAscii (I.ok.hd hc) it x t
   ·subst z
    exact Walks.strWide (I.ok.hd hc) it x t
  refine W.item i s _ _ hg st fun v h' tk hv Y8 kk=>?_;obtain ⟨c,u,hx,rfl⟩:=hv;have I1:Inv X pins σ H {s with heap:=h',toks:=tk}:=I.turned (fun b o hb e=>kk b o (by simpa using hb) e) f0 f1 f3 f4 f5;obtain ⟨o,e,cc,d⟩:=id Y8;exact ⟨_,rfl,Uq (s:={s with heap:=h',toks:=tk}) e cc d (by rcases hty with z|z<;>(subst z;decide)) ⟨.str ⟨#[c]⟩,H,I1,⟨u,rfl⟩,⟨rfl,c,hx,rfl⟩,Y8,fun b hb=>(hf b hb).1⟩⟩
 done:=by
  intro X hP hw hK hc i pins s σ H E I hf st hg;subst hP hw hK;obtain ⟨f0,f1,f2,f3,f4,f5⟩:=hf it (by simp)
  have W:Walks X.prog X.w X.A it [it] [it] x.cps.size (SignAt x) (fun i h=>h.IsStrIter it ty x t i):=by
   rcases hty with z|z
   ·subst z
    exact Walks.strAscii (I.ok.hd hc) it x t
   ·subst z
    exact Walks.strWide (I.ok.hd hc) it x t
  have e:i=x.cps.size:=hg;subst e;exact W.done s _ _ st fun h' tk kk=>⟨rfl,I.turned (fun b o hb e=>kk b o (by simpa using hb) e) f0 f1 f3 f4 f5⟩
 self:=fun _ _ _ _ _ st h=>by
  rcases hty with z|z
  ·subst z
   exact wpAny_pyIter_striter_ascii st h
  ·subst z
   exact wpAny_pyIter_striter_wide st h
section
variable {X:Cx}{tg:Expr}
inductive ahk (R:(It->Hp->Prop))(x:V)(H1:Hp):Prop
|mk (z:_)(_:x=.str z)(_:R (Its z) H1)
def axm (tl:TE):TI:=fun σ H R=>tl σ H fun x H1=>ahk R x H1
theorem ZO (hl:PE X l tl):PI X tg l (axm tl):=by
 intro pins s σ H R I h;refine du (hl pins s σ H _ I h) fun v s1 ⟨x,H1,I1,r1,q1⟩=>?_;obtain ⟨z,e,q⟩:=q1;subst e;obtain ⟨t,rfl⟩:=r1
 have go:∀(o:Obj)(ty:String),(ty="str_ascii_iterator"\/ty="str_iterator")->(s1.heap.push o).IsStrIter s1.heap.objs.size ty z t 0->PIE X pins σ tg R (.ref s1.heap.objs.size) {s1 with heap:=s1.heap.push o}:=fun o ty hty st=>by
  refine ⟨s1.heap.objs.size,[s1.heap.objs.size],_,_,H1,rfl,I1.kept (t':=s1.toks) fun b o e=>abr _ e,ZN _ z t hty,st,fun b hb=>?_,q⟩;have e:b=s1.heap.objs.size:=by simpa using hb
  subst e;exact I1.GF (aaM _) (I1.cg.fresh (aaM _))
 cases ha:z.cps.all (· < 128)
 ·exact wpAny_pyIter_wide ha (go _ _ (.inr rfl) ⟨_,abI _ rfl,rfl,rfl⟩)
 ·exact wpAny_pyIter_ascii ha (go _ _ (.inl rfl) ⟨_,abI _ rfl,rfl,rfl⟩)
end
structure Mk0 (K:Frag)(C:abj):Prop where
 makes:acb K C=true
 init:abt K (.ref C) "__init__"=some (some (.builtin "object.__init__"))
 kp:keepIn K (.ref C)=true
def aoX (C:abj):TE:=fun _ H Q=>∀x dx,H x=none->H dx=none->dx≠x->Q (.ref x) (upd (upd H dx (.own x)) x (.ins C dx []))
section
variable {X:Cx}
theorem aeV {σ:L2.St}(M:Mk0 X.K C)(I:Inv X pins σ H s)(h:aoX C σ H Q):abz (abx X.prog X.w) X.A (call (.ref C) []) (EP X pins σ Q) X.xe s:=by
 have hq:=h (s.heap.objs.size+1) s.heap.objs.size (I.cg.fresh (ahf _)) (I.cg.fresh (aaM _)) (ac9 (alN _));have I2:=Inv.made (C:=C) I;have Y:=PySem.W.makes_of (M:=abx X.prog X.w) I.j' M.makes;refine ado (VH I.j' M.makes M.init (fun self=>PySem.W.Looks.of_pure (PySem.W.oi_bind self)) ?_)
 have ho:((s.heap.push abY).push (ab1 C s.heap.objs.size)).get? (s.heap.objs.size+1)=some (ab1 C s.heap.objs.size):=by
  have:=abI (s.heap.push abY) (o:=ab1 C s.heap.objs.size) rfl
  rwa [ady] at this
 have t1:adG (abx X.prog X.w) ((s.heap.push abY).push (ab1 C s.heap.objs.size)) (typeOf (.ref (s.heap.objs.size+1))) (.ref C):=(PySem.W.Looks.ld ho).andThen .now
 have t2:adG (abx X.prog X.w) ((s.heap.push abY).push (ab1 C s.heap.objs.size)) (isInstance (.ref (s.heap.objs.size+1)) (.type "object")) true:=
  t1.andThen (Y.top.keeps fun b o e=>abr _ (abr _ e))
 refine adq PySem.W.oi_plain PySem.W.entry_oi (@PySem.W.check_slot (abx X.prog X.w) _ _ _ "object.__init__" "object" "__init__" (.ref (s.heap.objs.size+1)) [] [] _ PySem.W.oi_kind PySem.W.oi_split t2 (PySem.W.oi_args (.ref (s.heap.objs.size+1))) ?_);rw [PySem.W.oi_run];exact abC (And.intro rfl ⟨V.ref (s.heap.objs.size+1),_,I2,rfl,hq⟩)
theorem akv (M:Mk0 X.K C)(hg:Gl X x)(hm:X.mg x=some (.ref C))(AU:(x==("__debug__":Str))=false:=by decide):PE X (.Call (.Name x p) [] [] pos) (aoX C):=by
 intro pins s σ H Q I h;refine acv (iU I hg hm ?_ AU);exact PySem.W.callWith_K0 I.j' M.kp (aeV M I h)
end
structure bH (P:abJ)(w:World)(K:Frag)(mg:ζ)(base:Heap)(CX:uI)(k:Nat)(C:abj)(m:Str)(ps:η)(sp:Sp):Prop where
 ex:∃(f:abj)(fd:FuncData),xQ K C/\Meth K C m f/\bT P w K mg base CX k f fd ps sp/\Binds K fd ps []
theorem bH.mono {K:Frag}(M:bH P w K mg base CX j C m ps sp)(h:j<=k):bH P w K mg base CX k C m ps sp:=by
 obtain ⟨f,fd,a,b,c,d⟩:=M.ex;exact ⟨f,fd,a,b,c.mono h,d⟩
section
variable {X:Cx}{CX:uI}{k:Nat}{E:XK}{m:Str}{pos apos:Pos}{e o:Expr}{es:π}{ta:TE}{t:TA}
inductive ahl (P:abJ)(w:World)(K:Frag)(mg:ζ)(base:Heap)(CX:uI)(k:Nat)(m:Str)(E:XK)(t:TA)(σ:L2.St)(Q:VK)(x:V)(H1:Hp):Prop
|mk (a C dx fs ps sp:_)(_:x=.ref a)(_:H1 a=some (.ins C dx fs))(_:fs.lookup m=none)(_:bH P w K mg base CX k C m ps sp)(_:t σ H1 fun vs H2=>sp (x::vs) H2 Q E)
def aoY (P:abJ)(w:World)(K:Frag)(mg:ζ)(base:Heap)(CX:uI)(k:Nat)(m:Str)(E:XK)(ta:TE)(t:TA):TE:=fun σ H Q=>ta σ H fun x H1=>ahl P w K mg base CX k m E t σ Q x H1
theorem sI (he:PE X o ta)(hr:cV k X.A)(hx:Passes CX X E)
  (ht:abU (.Call (.Attribute o m apos) [] [] pos) X.env=(do
   let ov <- abU o X.env
   standAt apos.atName
   let (f,first) <- holding [ov] (getMethod ov m pl)
   callWith pos f first (acu pos (abF [] X.env)) (backToKw pos (keywordEach [] X.env))):=by rfl):
  PE X (.Call (.Attribute o m apos) [] [] pos) (aoY X.prog X.w X.K X.mg X.base CX k m E ta Rj):=by
 intro pins s σ H Q I h;refine PySem.W.methodCall_KW (pl:=pl) (du (he pins s σ H _ I h) fun u s1 ⟨x,H1,I1,rx,a,C,dx,fs,ps,sp,ex,ea,l,M,q⟩=>?_) ht;subst ex;obtain rfl:u=Value.ref a:=rx;obtain ⟨f,fd,c,hm,F,hb⟩:=M.ex;refine xS I1 ea c hm l ?_;exact PySem.W.callWith_K0 (first:=[.ref a]) I1.j' hm.kp (Rm (us:=[.ref a]) (vs:=[.ref a]) (dvs:=[]) F hr hb .nil hx I1 (.cons rfl .nil) q)
theorem cN {pl:Sem Bool}(he:PE X o ta)(hr:cV k X.A)(hx:Passes CX X E)(ha:PA X (e::es) t)
  (hst:abF (e::es) X.env=(false,abU e X.env)::abF es X.env:=by rfl) (EG:(acu pos (abF es X.env)).any (·.1)=false:=by rfl)
  (ht:abU (.Call (.Attribute o m apos) (e::es) [] pos) X.env=(do
   let ov <- abU o X.env
   standAt apos.atName
   let (f,first) <- holding [ov] (getMethod ov m pl)
   callWith pos f first (acu pos (abF (e::es) X.env)) (backToKw pos (keywordEach [] X.env))):=by rfl):
  PE X (.Call (.Attribute o m apos) (e::es) [] pos) (aoY X.prog X.w X.K X.mg X.base CX k m E ta t):=by
 intro pins s σ H Q I h;refine PySem.W.methodCall_KW (pl:=pl) (du (he pins s σ H _ I h) fun u s1 ⟨x,H1,I1,rx,a,C,dx,fs,ps,sp,ex,ea,l,M,q⟩=>?_) ht;subst ex;obtain rfl:u=Value.ref a:=rx;obtain ⟨f,fd,c,hm,F,hb⟩:=M.ex;refine xS I1 ea c hm l ?_;refine acT (first:=[.ref a]) (h₀:=X.base) I.ok.mod.kin hm.kp (du (ha pos pins s1 σ H1 _ I1 q) fun us s2 ⟨vs,H2,I2,r,q2⟩=>⟨I2.j',?_⟩) hst EG;refine Rm (us:=.ref a::us) (vs:=.ref a::vs) (dvs:=[]) F hr hb .nil hx I2 (.cons rfl r) ?_;rw [aeL];exact q2
end
theorem mF {K:Frag}{st:Stmt}(F:mf K name qual st f fd)(S:aC N ps (aa st))(len:∀vs H Q E,sp vs H Q E->vs.length=ps.length)
  (gv:∀(cdv:Value)(A:abM)(outer:List Env)(s:abw)(H:Hp)(vs:ε)(Q:VK)(E:XK),cV k (A.deeper (aca qual (aa st) s.heap.objs.size f cdv))->sp vs H Q E->
   ∃t,PSs (hZ P w K mg base N qual (aa st) f cdv A outer s H E) (aq st) t/\t {nx:=fun _ H'=>Q .bG H',rt:=Q} (start N vs) H):bT P w K mg base (aT P w) (k+1) f fd ps sp:=by
 obtain ⟨oc,od,kV,doc,pm,an,cdv,ct,qG,rfl,lk,uD⟩:=F.ex;exact xV lk uD S len fun A outer s H vs Q E hr EL=>gv cdv A outer s H vs Q E hr EL
theorem aoZ (h:qJ CX)(e:X.xe=fun _ _=>False):Passes CX X E0:=fun _ _ _ _ _ _ _ q=>(h _ _ _ _ _ q).elim
section
variable {σ:L2.St}{H:Hp}{Q:VK}{QB:Bool->Hp->Prop}{QA:List V->Hp->Prop}{D:Ends}{t u:TS}{ta tb te:TE}{tc td:TT}{t1:TA}
theorem aeW {A B:Prop}(h:B):if (!true)=true then A else B:=dz h
theorem HG {A B:Prop}(h:A):if (!false)=true then A else B:=fY h
end
theorem qO {E:γ}:∀{es:List (Sem Value)} {acc:Str} {Q Q':Str->abw->Prop} {s:abw},Joins M A E es acc Q s->(∀o s',Q o s' ->Q' o s')->Joins M A E es acc Q' s
 | [],_,_,_,_,h,m=>m _ _ h
 | _::_,_,_,_,_,h,m=>abH h (fun v s1 ⟨y,t,e,l,r⟩=>⟨y,t,e,l,qO r m⟩) fun _ _ z=>z
section
variable {X:Cx}
inductive ahm (Q:VK)(x:V)(H1:Hp):Prop
|mk (z:_)(_:x=.str z)(_:z.length<=abl)(_:Q (.str z) H1)
def axn (te:TE):TE:=fun σ H Q=>te σ H fun x H1=>ahm Q x H1
theorem ZP (he:PE X e te):PE X (.FormattedValue e (-1) none pos) (axn te):=by
 intro pins s σ H Q I h;refine wpAny_FormattedValue_plain (du (he pins s σ H _ I h) fun v s1 ⟨x,H1,I1,r1,q1⟩=>?_);obtain ⟨z,rfl,hz,q⟩:=q1;obtain ⟨t,rfl⟩:=r1;exact wpAny_formatField_str ⟨.str z,H1,I1,⟨_,rfl⟩,q⟩ ⟨.str z,H1,I1.tok _,⟨_,rfl⟩,q⟩ hz
abbrev TJ:=L2.St->Hp->(List Str->Hp->Prop)->Prop
def PJ (X:Cx)(es:π)(t:TJ):Prop:=
 ∀(pins:δ)(s:abw)(σ:L2.St)(H:Hp)(acc:Str)(Q:List Str->Hp->Prop),Inv X pins σ H s->acc.length+5000*es.length<=abl->t σ H Q->
  Joins (abx X.prog X.w) X.A X.xe (evalEach es X.env) acc (fun out s1=>∃ys H1,Inv X pins σ H1 s1/\out=ys.foldl (·++·) acc/\out.length<=abl/\Q ys H1) s
def axo:TJ:=fun _ H Q=>Q [] H
inductive ZQ (t:TJ)(σ:L2.St)(Q:(List Str->Hp->Prop))(x:V)(H1:Hp):Prop
|mk (z:_)(_:x=.str z)(_:z.length<=5000)(_:t σ H1 fun ys H2=>Q (z::ys) H2)
def ao0 (te:TE)(t:TJ):TJ:=fun σ H Q=>te σ H fun x H1=>ZQ t σ Q x H1
theorem HH:PJ X [] axo:=fun pins s σ H acc Q I hb h=>⟨[],H,I,rfl,by simpa using hb,h⟩
theorem jD (he:PE X e te)(hr:PJ X es t)(hs:evalEach (e::es) X.env=abU e X.env::evalEach es X.env:=by rfl):PJ X (e::es) (ao0 te t):=by
 intro pins s σ H acc Q I hb h;rw [hs];refine du (he pins s σ H _ I h) fun v s1 ⟨x,H1,I1,r1,q1⟩=>?_;obtain ⟨z,rfl,hz,q⟩:=q1;obtain ⟨u,rfl⟩:=r1;have xq :acc.length+5000*(es.length+1)<=abl:=hb;have hl:(acc++z).length=acc.length+z.length:=abG ..;refine ⟨z,u,rfl,by rw [hl];omega,qO (hr pins s1 σ H1 (acc++z) _ I1 (by rw [hl];omega) q) fun o s' ⟨ys,H2,I2,e,l,q2⟩=>⟨z::ys,H2,I2,e,l,q2⟩⟩
def ao1 (t:TJ):TE:=fun σ H Q=>t σ H fun ys H1=>Q (.str (ys.foldl (·++·) ab4)) H1
theorem xr {rest:π}(h:PJ X (v1::v2::rest) t)(hl:5000*(v1::v2::rest).length<=abl:=by decide):PE X (.JoinedStr (v1::v2::rest) pos) (ao1 t):=by
 intro pins s σ H Q I q;refine wpAny_JoinedStr (qO (h pins s σ H ab4 _ I (by rw [show Str.empty.length=0 from rfl];omega) q) fun o s' ⟨ys,H1,I1,e,l,q1⟩=>⟨l,.str o,H1,I1.tok _,⟨_,rfl⟩,?_⟩);rw [e];exact q1
inductive UH (x:V)(vs:ε)(H:Hp)(Q:VK):Prop
|mk (z y:_)(_:x=.str z)(_:vs=[.str y])(_:Q (.bl (adA z y)) H)
theorem BC:MtR X "str.startswith" UH:=by
 intro pins s σ H x vs v us Q I rx rv h;obtain ⟨z,y,rfl,rfl,q⟩:=h;obtain ⟨t,rfl⟩:=rx;obtain ⟨u,rfl,ru⟩:=rv.one;obtain ⟨t',rfl⟩:=ru;exact SC.startswith ⟨.bl _,H,I,rfl,q⟩
inductive ye (x:V)(vs:ε)(H:Hp)(Q:VK):Prop
|mk (z y:_)(_:x=.str z)(_:vs=[.str y])(_:(y.length==0)=false)(_:z.length<=abl)(_:∀p,H p=none->Q (.ref p) (upd H p (.tup [.str (adI z y).1,.str (adI z y).2.1,.str (adI z y).2.2])))
theorem sJ:MtR X "str.partition" ye:=by
 intro pins s σ H x vs v us Q I rx rv h;obtain ⟨z,y,rfl,rfl,hy,hz,q⟩:=h;obtain ⟨t,rfl⟩:=rx;obtain ⟨u,rfl,ru⟩:=rv.one;obtain ⟨t',rfl⟩:=ru;refine call_meets F.slot_str_partition (adz _ _ _) F.entry_str_partition (F.args_str_partition_2 _ _) (meets_str_partition z y t t' hy hz) ?_;have sz:(3:Nat)<=abl:=by decide
 have q':=q s.heap.objs.size (I.cg.fresh (aaM _));unfold adI at q'
 revert q'
 cases acw z y 0 z.length 1 with
 | nil=>
  intro q';refine ⟨.ref s.heap.objs.size,_,I.laid (t':=s.toks+1) (fun b o e=>abr _ e) (aaM _) (show bX X.prog X.w _ _ _ (.tup [.str z,.str ab4,.str ab4]) from ⟨sz,[.str z t,.str ab4 s.toks,.str ab4 s.toks],.cons ⟨_,rfl⟩ (.cons ⟨_,rfl⟩ (.cons ⟨_,rfl⟩ .nil)),IsTup.new _ _⟩),rfl,q'⟩
 | cons i r=>
  intro q';refine ⟨.ref s.heap.objs.size,_,I.laid (t':=s.toks+1+1) (fun b o e=>abr _ e) (aaM _) (show bX X.prog X.w _ _ _ (.tup [.str (abX z 0 i),.str y,.str (abX z (i+y.length) z.length)]) from ⟨sz,[.str (abX z 0 i) s.toks,.str y t',.str (abX z (i+y.length) z.length) (s.toks+1)],.cons ⟨_,rfl⟩ (.cons ⟨_,rfl⟩ (.cons ⟨_,rfl⟩ .nil)),IsTup.new _ _⟩),rfl,q'⟩
inductive ao2 (x:V)(lo:Option Int)(hi:Option Int)(H:Hp)(Q:VK):Prop
|mk (z:_)(_:x=.str z)(_:z.length<=abl)(_:Q (.str (Txt.slice z lo hi)) H)
theorem akw:SlR X ao2:=by
 intro pins s σ H x v vl vu lo hi sl Q I rx hs pl pu h;obtain ⟨z,rfl,hz,q⟩:=h;obtain ⟨t,rfl⟩:=rx;refine ⟨"str",_,F.slot_str_getitem.lookup,adz _ _ _,?_⟩;cases pl<;>cases pu
 ·exact acQ (l:=none) (u:=none) (st:=none) hs rfl (adP ⟨aah (Txt.slice_le z _ _) hz,fun t' k=>⟨.str _,H,I.tok k,⟨t',rfl⟩,q⟩⟩)
 ·rename_i j uj
  exact acQ (l:=none) (u:=some (j,uj)) (st:=none) hs rfl (adP ⟨aah (Txt.slice_le z _ _) hz,fun t' k=>⟨.str _,H,I.tok k,⟨t',rfl⟩,q⟩⟩)
 ·rename_i i ui
  exact acQ (l:=some (i,ui)) (u:=none) (st:=none) hs rfl (adP ⟨aah (Txt.slice_le z _ _) hz,fun t' k=>⟨.str _,H,I.tok k,⟨t',rfl⟩,q⟩⟩)
 ·rename_i i ui j uj
  exact acQ (l:=some (i,ui)) (u:=some (j,uj)) (st:=none) hs rfl (adP ⟨aah (Txt.slice_le z _ _) hz,fun t' k=>⟨.str _,H,I.tok k,⟨t',rfl⟩,q⟩⟩)
inductive NF (xs:ε)(H:Hp)(Q:VK):Prop
|mk (z n:_)(_:xs=[.str z])(_:PySem.intText? z=some n)(_:z.length<=640)(_:Q (.int n) H)
theorem BD:mR X (.type "int") NF:=by
 intro pins s σ H xs us Q I r h;obtain ⟨z,n,rfl,e,hl,q⟩:=h;obtain ⟨u,rfl,t,rfl⟩:=vals1 r;exact PySem.W.KIN.call_text e hl ⟨.int n,H,I.tok _,⟨_,rfl⟩,q⟩
theorem all_range (bs:List Bool):(afD bs.length).all (fun i=>(bs[i]?).getD true)=bs.all id:=by
 induction bs with
 | nil=>rfl
 | cons b r ih=>
  rw [ac5,am2,ahQ,akf,ahQ,<-ih];rfl
inductive ao3 (K:Frag)(xs:ε)(H:Hp)(Q:VK):Prop
|mk (p:abj)(bs:List Bool)(_:xs=[.ref p])(_:aZ K H p (bs.map V.bl))(_:Q (.bl (bs.all id)) H)
theorem EV (hc:X.calm=true):mR X (.builtin "all") (ao3 X.K):=by
 intro pins s σ H xs us Q I r h;obtain ⟨p,bs,rfl,hq,q⟩:=h;obtain ⟨u,rfl,r1⟩:=vals1 r;cases r1;obtain ⟨its,rv,pl,hz⟩:=I.list hq;refine call_all_walk (wpAny_pyIter_list pl.isList ?_);have hne:p≠s.heap.objs.size:=by obtain ⟨o,ho,_⟩:=pl.isList;exact ac9 (abB ho)
 have I1:Inv X pins σ H {s with heap:=s.heap.push {cls:=.type "list_iterator",data:=.fields #[.ref p,.int 0 0]}}:=I.kept (t':=s.toks) fun b o e=>abr _ e;obtain ⟨f0,f1,f2,f3,f4,f5⟩:=I.GF (H':=H) (aaM s.heap.objs.size) (I.cg.fresh (aaM _));have hl:its.length=bs.length:=by rw [<-rv.length,ir]
 refine ⟨s.heap.objs.size,_,_,_,_,_,fun i=>(bs[i]?).getD true,rfl,Walks.list (A:=X.A.in1) (I.ok.hd hc) s.heap.objs.size p hne its.toArray,⟨⟨_,abI _ rfl,rfl,rfl⟩,pl.isList.at fun o e=>abr _ e⟩,?_,fun h' tk kk=>?_⟩
 ·intro i v s' Q' E' hv Rn
  have hv':its[i]?=some v:=by simpa using hv
  have hi:i<bs.length:=by rw [<-hl];exact (Wp.mp hv').1
  have eb:(bs.map V.bl)[i]?=some (.bl bs[i]):=by rw [aaU,gE hi];rfl
  obtain ⟨u,eu,ru⟩:=rv.get eb;rw [hv'] at eu;cases eu;cases ru;dsimp only at Rn;rw [gE hi] at Rn;exact acq Rn
 ·refine ⟨.bl (bs.all id),H,I1.turned (t':=tk) (it:=s.heap.objs.size) (fun b o hb e=>kk b o (by simpa using hb) e) f0 f1 f3 f4 f5,?_,q⟩
  show _=_;rw [<-all_range bs,adb,hl]
end
end Ty
set_option maxHeartbeats 1000000
set_option maxHeartbeats 4000000
namespace Ty
open PySem PySem.Spec PyProof.Rows L2 PySem.NumText
theorem jE {x y:Str}(h:x.cps.toList=y.cps.toList):x=y:=by
 obtain ⟨a⟩:=x;obtain ⟨b⟩:=y;exact abV Str.mk (aoI.mp h)
theorem cps_append (x y:Str):(x++y).cps.toList=x.cps.toList++y.cps.toList:=by
 show (x.cps++y.cps).toList=_;simp
theorem cK (x:Str):x.length=x.cps.toList.length:=by simp [Str.length]
def dg (m:Nat):List Nat:=(am3 10 m).map Char.toNat
theorem yf:∀d:Nat,d<10->(anm d).toNat=48+d:=by decide
theorem ahn (h:m<10):dg m=[48+m]:=by
 unfold dg;rw [amU h];show [(anm m).toNat]=_;rw [yf m h]
theorem UI (h:10<=m):dg m=dg (m / 10)++[48+m % 10]:=by
 have hm:m % 10<10:=Nat.mod_lt m (by decide);have t:am3 10 (m / 10)++am3 10 (m % 10)=am3 10 (10*(m / 10)+m % 10):=Nat.toDigits_append_toDigits (by decide) (by omega) hm;rw [Nat.div_add_mod] at t;unfold dg;rw [<-t,ac1,amU hm];show _++[(anm (m % 10)).toNat]=_;rw [yf _ hm]
theorem ZR (m:Nat):digitsVal (dg m)=m:=PySem.W.KIN.val_back m
theorem qP (m:Nat):AllDigits (dg m):=by
 induction m using Nat.strongRecOn with
 | _ m ih=>
  by_cases h:m<10
  ·rw [ahn h]
   intro c hc;have:c=48+m:=by simpa using hc
   omega
  ·rw [UI (by omega)]
   intro c hc
   rcases abh.mp hc with z|z
   ·exact ih (m / 10) (by omega) c z
   ·have:c=48+m % 10:=by simpa using z
    omega
theorem ZS (m:Nat):dg m≠[]:=by
 by_cases h:m<10
 ·rw [ahn h];simp
 ·rw [UI (by omega)];simp
theorem ZT (hk:1<=k)(h:m<10^k):(dg m).length<=k:=by
 unfold dg;rw [ir];exact toDigits_len_pow (by decide) hk h
def tx (n:Int):Str:=ab0 (toString n)
theorem ZU (m:Nat):(tx (m:Int)).cps.toList=dg m:=PySem.W.KIN.signs_num m
theorem akx {m:Nat}(h:0<m):(tx (-(m:Int))).cps.toList=45::dg m:=by
 obtain ⟨k,rfl⟩:∃k,m=k+1:=⟨m-1,by omega⟩;unfold tx;rw [signs_ofString];show (Int.repr (Int.negSucc k)).toList.map Char.toNat=_;show (("-"++Nat.repr (k+1)):String).toList.map Char.toNat=_;rw [String.toList_append,ac1,Nat.toList_repr];rfl
theorem yg (n:Int):(tx n).cps.toList=if n<0 then 45::dg n.natAbs else dg n.natAbs:=by
 by_cases h:n<0
 ·rw [abv h]
  have e:n= -((n.natAbs:Nat):Int):=by omega
  have:=akx (m:=n.natAbs) (by omega);rw [<-e] at this;exact this
 ·rw [abp h]
  have e:n=((n.natAbs:Nat):Int):=by omega
  have:=ZU n.natAbs;rw [<-e] at this;exact this
theorem gj (hk:1<=k)(h:n.natAbs<10^k):(tx n).length<=k+1:=by
 rw [cK,yg];have:=ZT hk h;split
 ·rw [ac5];omega
 ·omega
theorem ie (h:n.natAbs<10^4000):intText? (tx n)=some n:=by
 have hl:=gj (by decide) h;by_cases c:n<0
 ·have e:=yg n
  rw [abv c] at e;rw [intText_neg e (qP _) (ZS _) (aah hl (by decide)),ZR];congr 1;omega
 ·have e:=yg n
  rw [abp c] at e;have a:AllDigits (tx n).cps.toList:=by rw [e];exact qP _
  rw [intText_digits a (by rw [e];exact ZS _) (aah hl (by decide)),e,ZR];congr 1;omega
theorem EW (h:c≠45)(h2:c<48\/57<c):c∉(tx n).cps.toList:=by
 intro m;rw [yg] at m;split at m
 ·rcases aa3.mp m with z|z
  ·exact h z
  ·have:=qP _ c z
   omega
 ·have:=qP _ c m
  omega
def kC:Str:=ab0 "/"
theorem pj:kC.cps.toList=[47]:=by decide+kernel
def nt (q:Int×Int):Str:=if q.2=1 then tx q.1 else tx q.1++kC++tx q.2
theorem HI (h:47∉a.cps.toList):adI (a++(⟨#[47]⟩:Str)++b) ⟨#[47]⟩=(a,⟨#[47]⟩,b):=by
 have ec:(a++(⟨#[47]⟩:Str)++b).cps.toList=a.cps.toList++(47::b.cps.toList):=by
  rw [cps_append,cps_append,afC];rfl
 rcases partition_whole (a++(⟨#[47]⟩:Str)++b) ⟨#[47]⟩ with ⟨_,hn⟩|⟨i,e,hi,hk⟩
 ·exfalso
  have:(47:Nat)∈(a++(⟨#[47]⟩:Str)++b).cps.toList:=by rw [ec];simp
  obtain ⟨i,hi⟩:=(mem_iff_at _ 47).mp this;exact hn i hi
 ·have h1:=(adC _ 47 i).mp hi
  have h2:¬ i<a.cps.toList.length:=fun c=>by
   rw [ec,ad_ c] at h1;exact h (aaP h1)
  have h3:¬ a.cps.toList.length<i:=fun c=>by
   refine hk a.cps.toList.length c ((adC _ 47 _).mpr ?_);rw [ec,ac' (aaM _),Nat.sub_self];rfl
  have ei:i=a.cps.toList.length:=by omega
  rw [e]
  have l:(a++(⟨#[47]⟩:Str)++b).length=a.cps.toList.length+1+b.cps.toList.length:=by
   rw [cK,ec,aae,ac5];omega
  have sub:∀(x:Str)(i j:Nat),(abX x i j).cps.toList=(x.cps.toList.take j).drop i:=fun x i j=>by
   show (x.cps.extract i j).toList=_;simp [ak1,anc]
  have l1:(⟨#[47]⟩:Str).length=1:=rfl
  have p1:abX (a++(⟨#[47]⟩:Str)++b) 0 i=a:=jE (by
   rw [sub,ec,ei,ane,List.take_left' rfl])
  have p2:abX (a++(⟨#[47]⟩:Str)++b) (i+(⟨#[47]⟩:Str).length) (a++(⟨#[47]⟩:Str)++b).length=b:=jE (by
   rw [sub,l,l1,ec,ei];rw [ae1 (by rw [aae,ac5];omega)];rw [show a.cps.toList++(47::b.cps.toList)=(a.cps.toList++[47])++b.cps.toList by simp]
   rw [List.drop_left' (by simp)])
  rw [p1,p2]
theorem one_sign (c:Nat):(⟨#[c]⟩:Str).length=1:=rfl
theorem Ru (x:Str)(c:Nat):(!(acw x ⟨#[c]⟩ 0 x.length 1).isEmpty)=decide (c∈x.cps.toList):=by
 rcases StrLaws.occ_head x ⟨#[c]⟩ 1 (aaM 1) with ⟨h0,hn⟩|⟨i,r,h0,hi,_⟩
 ·rw [h0,aby fun m=>by obtain ⟨i,hi⟩:=(mem_iff_at x c).mp m;exact hn i hi]
  rfl
 ·rw [h0,abu ((mem_iff_at x c).mpr ⟨i,hi⟩)]
  rfl
theorem Rv {cs:Θ}(h:x.cps.toList=d::cs):adA x ⟨#[c]⟩=decide (d=c):=by
 have hl:x.length=cs.length+1:=by rw [cK,h];rfl
 unfold adA;have e1:decide (0+(⟨#[c]⟩:Str).length<=x.length)=true:=abu (by rw [one_sign,hl];omega);rw [e1,Bool.true_and];by_cases e:d=c
 ·rw [abu e]
  have:StrLaws.At x ⟨#[c]⟩ x.length 0:=(adC x c 0).mpr (by rw [h,e];rfl);exact this.2
 ·rw [aby e]
  refine ac4.mpr fun z=>e ?_;have:StrLaws.At x ⟨#[c]⟩ x.length 0:=⟨by rw [one_sign,hl];omega,z⟩;have:=(adC x c 0).mp this;rw [h] at this;exact aaQ this
theorem VY {cs:Θ}(h:x.cps.toList=d::cs):(Txt.slice x (some 1) none).cps.toList=cs:=by
 have hl:x.length=cs.length+1:=by rw [cK,h];rfl
 rw [slice_from_eq (i:=1) (b:=(x.length:Int)) (by decide) (by rw [hl];omega) rfl,h];show ((cs.take _).toArray).toList=cs;rw [ae1 (by rw [hl];omega)]
theorem empty_app (x:Str):ab4++x=x:=jE (by rw [cps_append];rfl)
theorem ZV (h:48<=c/\c<=57):c∈(ab0 "0123456789").cps.toList:=by
 have e:(ab0 "0123456789").cps.toList=[48,49,50,51,52,53,54,55,56,57]:=by decide+kernel
 rw [e];simp;omega
structure Ys (x:Str):Prop where
 len:x.length<=400
 cod:∀c∈x.cps.toList,c<1000
section
variable {X:Cx}
inductive aho (Q:VK)(x:V)(H1:Hp):Prop
|mk (z:_)(_:x=.str z)(_:Ys z)(_:∀y:Str,y.length<=5000->Q (.str y) H1)
def axp (te:TE):TE:=fun σ H Q=>te σ H fun x H1=>aho Q x H1
theorem Rx (he:PE X e te):PE X (.FormattedValue e 114 none pos) (axp te):=by
 intro pins s σ H Q I h;refine wpAny_FormattedValue_repr (du (he pins s σ H _ I h) fun v s1 ⟨x,H1,I1,r1,q1⟩=>?_);obtain ⟨z,rfl,hz,q⟩:=q1;obtain ⟨t,rfl⟩:=r1;have l1:=StrLaws.reprText_len z (fun c hc=>aaS (hz.cod c hc) (by decide));have l2:=hz.len;have l3:(reprText z).length<=5000:=by omega
 have l4:(reprText z).length<=abl:=aah l3 (by decide);refine wpAny_pyReprObj_str ?_ l4;have I2:Inv X pins σ H1 {s1 with toks:=s1.toks+1}:=I1.tok _;exact wpAny_formatField_str ⟨.str _,H1,I2,⟨_,rfl⟩,q _ l3⟩ ⟨.str _,H1,I2.tok _,⟨_,rfl⟩,q _ l3⟩ l4
theorem yh:∀{ys:η} {us:θ},Vals (ys.map V.str) us->StrsAre us ys
 | [],[],.nil=>.nil
 | _::_,_::_,.cons ⟨t,e⟩ r=>by subst e;exact .cons _ _ (yh r)
inductive Ry (K:Frag)(x:V)(vs:ε)(H:Hp)(Q:VK):Prop
|mk (z:Str)(p:abj)(ys:η)(_:x=.str z)(_:vs=[.ref p])(_:aZ K H p (ys.map V.str))(_:(ys.map (·.length)).sum+ys.length*z.length<=16777216)(_:Q (.str (abN z ys)) H)
theorem UJ:MtR X "str.join" (Ry X.K):=by
 intro pins s σ H x vs v us Q I rx rv h;obtain ⟨z,p,ys,rfl,rfl,hq,hl,q⟩:=h;obtain ⟨t,rfl⟩:=rx;obtain ⟨u,rfl,ru⟩:=rv.one;cases ru;obtain ⟨its,r,pl,hz⟩:=I.list hq;exact join_list pl.isList (yh (by simpa using r)) hl fun t' k=>⟨.str _,H,I.tok k,⟨t',rfl⟩,q⟩
end
def isStar:Expr->Bool
 | .Starred .. =>true
 | _=>false
theorem VZ {es:π}(h:isStar e=false):abF (e::es) env=(false,abU e env)::abF es env:=by
 cases e<;>first|rfl|(cases h;done)
theorem nV (ha:PE X e te)(hr:PA X es t)(h:isStar e=false:=by rfl):PA X (e::es) (vJ te t):=aew ha hr (VZ h)
end Ty
namespace Ty
open PySem PySem.Spec PyProof.Rows L2
section
variable {D:abj}{te:TE}{cap:L2.St}{H1:Hp}{Q:VK}
def fq (D:abj)(H H':Hp):Prop:=∀b o,b≠D->H b=some o->H' b=some o
theorem fq.of (s:au H H'):fq D H H':=fun b o _ e=>s b o e
theorem fq.upd :fq D H (upd H D o):=fun b o' n e=>by rw [ah n];exact e
theorem yi (n:Nat)(xs:Nat->V)(Rel:Nat->V->Hp->Prop)(nD:H1 D=none)(hn:n<abl)
  (go:∀i H,i<n->au H1 H->J.go i H/\∀x H',J.yld i H x H' ->H'=H/\x=xs i) (stop:∀H,au H1 H->J.stop n H)
  (hR:∀i v H H' ys,H D=some (.lst ys)->fq D H H' ->Rel i v H->Rel i v H')
  (he:∀i H (R:VK),i<n->au H1 H->(∀v H6,au H H6->Rel i v H6->R v H6)->te (some (xs i)::cap) H R)
  (hd:∀ys H,ys.length=n->(∀i v,ys[i]?=some v->Rel i v H)->au H1 H->H D=some (.lst ys)->Q (.ref D) H):
  BA D (fj 0) yc te J (none::cap) H1 Q:=by
 refine ZM n xs (fun i ys H=>ys.length=i/\(∀i v,ys[i]?=some v->Rel i v H)/\au H1 H) ⟨rfl,fun i v e=>by simp at e,fun b o e=>by rw [ah (aj e nD)];exact e⟩ ?_ ?_ ?_ ?_
 ·rintro i ys H hi ⟨_,_,s⟩
  exact go i H hi s
 ·rintro ys H ⟨_,_,s⟩
  exact stop H s
 ·rintro i ys H R hi ⟨l,r,s⟩ hD k
  refine he i H R hi s fun v H6 s6 rv=>k v H6 (s6 _ _ hD) (by omega) ⟨by simp [l],fun j u e=>?_,fun b o e=>?_⟩
  ·by_cases c:j<ys.length
   ·rw [ad_ c] at e
    have ru:=hR j u H H6 ys hD (fq.of s6) (r j u e);exact hR j u H6 _ ys (s6 _ _ hD) fq.upd ru
   ·rw [ac' (by omega)] at e
    have ej:j=i:=by
     by_cases z:j-ys.length=0
     ·omega
     ·rw [ac7 (by simp;omega)] at e
      cases e
    subst ej
    have:v=u:=by
     rw [show j-ys.length=0 by omega] at e;exact aaQ e
    subst this;exact hR j v H6 _ ys (s6 _ _ hD) fq.upd rv
  ·rw [ah (aj e nD)]
   exact s6 _ _ (s _ _ e)
 ·rintro ys H ⟨l,r,s⟩ hD
  exact hd ys H l r s hD
theorem iD {K:Frag}(Rel:Nat->V->Hp->Prop)(nD:H1 D=none)(hn:xs.length<abl)(hS:∀H,au H1 H->aZ K H a xs)
  (hR:∀i v H H' ys,H D=some (.lst ys)->fq D H H' ->Rel i v H->Rel i v H')
  (he:∀i x H (R:VK),xs[i]?=some x->au H1 H->(∀v H6,au H H6->Rel i v H6->R v H6)->te (some x::cap) H R)
  (hd:∀ys H,ys.length=xs.length->(∀i v,ys[i]?=some v->Rel i v H)->au H1 H->H D=some (.lst ys)->Q (.ref D) H):
  BA D (fj 0) yc te (Itl K a) (none::cap) H1 Q:=by
 refine yi xs.length (fun i=>(xs[i]?).getD .bG) Rel nD hn (fun i H hi s=>⟨⟨xs,xs[i],hS H s,gE hi⟩,fun x H' y=>⟨y.1,?_⟩⟩) (fun H s=>⟨xs,hS H s,aaM _⟩) hR (fun i H R hi s k=>?_) hd
 ·rw [y.2 xs (hS H s)];rfl
 ·have e:xs[i]?=some xs[i]:=gE hi
  have k':=he i _ H R e s k;rw [<-(show (xs[i]?).getD .bG=xs[i] by rw [e];rfl)] at k';exact k'
theorem yj {lo:Int}(Rel:Nat->V->Hp->Prop)(nD:H1 D=none)(hn:n<abl)
  (hR:∀i v H H' ys,H D=some (.lst ys)->fq D H H' ->Rel i v H->Rel i v H')
  (he:∀(i:Nat) H (R:VK),i<n->au H1 H->(∀v H6,au H H6->Rel i v H6->R v H6)->te (some (.int (lo+i))::cap) H R)
  (hd:∀ys H,ys.length=n->(∀i v,ys[i]?=some v->Rel i v H)->au H1 H->H D=some (.lst ys)->Q (.ref D) H):
  BA D (fj 0) yc te (Itr lo n) (none::cap) H1 Q:=
 yi n (fun i=>.int (lo+i)) Rel nD hn (fun i H hi s=>⟨hi,fun x H' y=>y⟩) (fun H s=>aaM n) hR he hd
end
section
variable {X:Cx}{pins:δ}{σ:L2.St}{H:Hp}{s:abw}{h':Heap}
theorem Inv.UK {fp:ξ}(I:Inv X pins σ H s)(k:∀b o,b∉fp->s.heap.get? b=some o->h'.get? b=some o)(hf:∀b∈fp,wq X pins H b):Inv X pins σ H {s with heap:=h',toks:=t'}:=by
 have nit:∀b u,H b=some u->b∉fp:=fun b u e z=>by rw [(hf b z).1] at e;cases e
 refine I.step (g':=s.gens) (d':=s.drawn) (ch:=fp) (fun b hb=>?_) (fun b o _ _ hc e _=>k b o hc e) (fun b o _ _ hc e _=>⟨o.slots,k b o hc e⟩) (fun _ _ _ _ n=>n)
  (fun b o hc e=>⟨o,k b o hc e⟩) (fun _ _ e=>e) (fun _ _ _ e=>e) (fun b ps e=>⟨#[],by rw [e];simp⟩) (fun m hm=>?_) (fun b u e=>?_) I.bare
 ·obtain ⟨f0,f1,f2,f3,f4,f5⟩:=hf b hb
  exact ⟨f3,f1,f4,f5⟩
 ·obtain ⟨o,es,ep,ho,r⟩:=hm
  exact ⟨o,es,ep,k _ o (fun z=>(hf _ z).2.1 rfl) ho,r⟩
 ·refine (I.cg b u e).rW (fun c v hc q=>k c v ?_ q) (fun _ q=>q) fun _ _ q=>q
  rcases hc with z|z
  ·rw [z];exact nit b u e
  ·exact nit c _ z
theorem Inv.HJ {fp:ξ}{T:abj}{xs:ε}{its:θ}(I:Inv X pins σ H s)(k:∀b o,b∉fp->s.heap.get? b=some o->h'.get? b=some o)(hf:∀b∈fp,wq X pins H b)(hT:s.heap.objs.size<=T)
  (hz:xs.length<=abl) (rv:Vals xs its) (ht:IsTup h' T its.toArray):Inv X pins σ (upd H T (.tup xs)) {s with heap:=h',toks:=t'}:=by
 have hn:=I.cg.fresh hT;have nit:∀b u,H b=some u->b∉fp:=fun b u e z=>by rw [(hf b z).1] at e;cases e
 have ne:∀b o,s.heap.get? b=some o->b≠T:=fun b o e=>ac9 (aaS (abB e) hT)
 refine I.step (g':=s.gens) (d':=s.drawn) (ch:=fp) (fun b hb=>?_) (fun b o _ _ hc e _=>k b o hc e) (fun b o _ _ hc e _=>⟨o.slots,k b o hc e⟩) (fun b o _ e n=>by rw [ah (ne b o e)];exact n)
  (fun b o hc e=>⟨o,k b o hc e⟩) (fun b ys e=>by rw [ah (aj e hn)];exact e) (fun b o u e=>by rw [ah (aj e hn)];exact e) (fun b ps e=>⟨#[],by rw [ah (aj e hn),e];simp⟩) (fun m hm=>?_) (fun b u e=>?_) I.bare
 ·obtain ⟨f0,f1,f2,f3,f4,f5⟩:=hf b hb
  exact ⟨f3,f1,f4,f5⟩
 ·obtain ⟨o,es,ep,ho,r⟩:=hm
  exact ⟨o,es,ep,k _ o (fun z=>(hf _ z).2.1 rfl) ho,r⟩
 ·by_cases hb:b=T
  ·subst hb
   rw [ai] at e;cases e;exact ⟨hz,its,rv,ht⟩
  ·rw [ah hb] at e
   refine (I.cg b u e).rW (fun c v hc q=>k c v ?_ q) (fun c q=>by rw [ah (aj q hn)];exact q) fun c ys q=>by rw [ah (aj q hn)];exact q
   rcases hc with z|z
   ·rw [z];exact nit b u e
   ·exact nit c _ z
end
def Itz (K:Frag)(a b:abj):It:=
 ⟨fun i H=>∃xs ys x y,aZ K H a xs/\aZ K H b ys/\xs[i]?=some x/\ys[i]?=some y,
  fun i H v H'=>∃p x y,(∀xs,aZ K H a xs->xs[i]?=some x)/\(∀ys,aZ K H b ys->ys[i]?=some y)/\v=.ref p/\H p=none/\H'=upd H p (.tup [x,y]),
  fun i H=>∃xs ys,aZ K H a xs/\aZ K H b ys/\(xs.length<=i\/ys.length<=i)⟩
theorem ZW {K:Frag}{es:π}(a b z TI TO i1 i2:abj)(D:ZipApart z TI TO i1 i2 a b):
  Turn P w K (.Tuple es k pos) (Itz K a b) [z,TI,TO,i1,i2] z (fun i h=>IsZip h z TI TO .none/\IsPair h TI (.ref i1) (.ref i2)/\(∃x y,IsPair h TO x y)/\h.IsListIter i1 a i/\h.IsListIter i2 b i) where
 mem:=by simp
 obj:=fun i h st c hc=>by
  obtain ⟨hz,ZX,⟨x,y,hTO⟩,⟨o1,e1,c1,d1⟩,⟨o2,e2,c2,d2⟩⟩:=st;have GD :c=z\/c=TI\/c=TO\/c=i1\/c=i2:=by simpa using hc
  rcases GD with e|e|e|e|e<;>subst e
  ·exact ⟨_,hz,fun v z=>by cases z⟩
  ·exact ⟨_,ZX,fun v z=>by cases z⟩
  ·exact ⟨_,hTO,fun v z=>by cases z⟩
  ·exact ⟨_,e1,fun v z=>by rw [d1] at z;cases z⟩
  ·exact ⟨_,e2,fun v z=>by rw [d2] at z;cases z⟩
 keep:=fun i h h' st k=>by
  obtain ⟨hz,ZX,⟨x,y,hTO⟩,h1,h2⟩:=st;exact ⟨k z (by simp) _ hz,k TI (by simp) _ ZX,⟨x,y,k TO (by simp) _ hTO⟩,h1.at fun o e=>k i1 (by simp) o e,h2.at fun o e=>k i2 (by simp) o e⟩
 item:=by
  intro X hP hw hK hc i pins s σ H E I hf st hg;subst hP hw hK;obtain ⟨hz,ZX,⟨x0,y0,hTO⟩,h1,h2⟩:=st;obtain ⟨xs,ys,x,y,qx,qy,ex,ey⟩:=hg;obtain ⟨its,rv,p,_⟩:=I.list qx;obtain ⟨jts,EB,p',_⟩:=I.list qy;obtain ⟨u,hu,ru⟩:=rv.get ex;obtain ⟨v,hv,rv'⟩:=EB.get ey;refine wpAny_pyNext_zip_item D hz ZX hTO h1 h2 p.isList p'.isList (x:=u) (y:=v) (by simpa using hu) (by simpa using hv) fun h' a1 a2 a3 a4 a5 a6 a7=>?_;refine ⟨_,rfl,wpAny_letOwnedTupleGo_zip (s:={s with heap:=h'}) a1 fun h'' b1 sb=>?_⟩;have nz:∀c,c≠z->∀o,h'.get? c=some o->h''.get? c=some o:=fun c hc o e=>(sb.2 c hc).trans e
  have kk:∀b o,b∉[z,TI,TO,i1,i2]->s.heap.get? b=some o->h''.get? b=some o:=fun b o hb e=>by
   have xq :b≠z/\b≠TI/\b≠TO/\b≠i1/\b≠i2:=by simpa using hb
   exact nz b xq.1 o (a7 b o xq.1 xq.2.2.1 xq.2.2.2.1 xq.2.2.2.2 e)
  have sz:∀c o,s.heap.get? c=some o->s.heap.objs.size≠c:=fun c o e=>amY (abB e);have tz:s.heap.objs.size≠z:=sz _ _ hz;have hn:=I.cg.fresh (aaM s.heap.objs.size)
  have I2:Inv X pins σ (upd H s.heap.objs.size (.tup [x,y])) {s with heap:=h'',toks:=s.toks}:=
   Inv.HJ I kk hf (aaM _) (by show 2<=abl;decide) (its:=[u,v]) (.cons ru (.cons rv' .nil)) ⟨_,nz _ tz _ a5,rfl,_,rfl⟩
  refine ⟨.ref s.heap.objs.size,_,I2,rfl,⟨s.heap.objs.size,x,y,fun xs' q=>by rw [I.nI q qx];exact ex,fun ys' q=>by rw [I.nI q qy];exact ey,rfl,hn,rfl⟩,⟨b1,nz _ D.TIz _ (a7 _ _ D.TIz D.TITO D.TIi1 D.TIi2 ZX),⟨_,_,nz _ D.TOz _ a2⟩,a3.at fun o e=>nz _ D.i1z o e,a4.at fun o e=>nz _ D.i2z o e⟩,fun b hb=>?_⟩
  have ob:∃o,s.heap.get? b=some o:=by
   obtain ⟨o1,e1,_⟩:=h1;obtain ⟨o2,e2,_⟩:=h2;have GD :b=z\/b=TI\/b=TO\/b=i1\/b=i2:=by simpa using hb
   rcases GD with e|e|e|e|e<;>subst e
   ·exact ⟨_,hz⟩
   ·exact ⟨_,ZX⟩
   ·exact ⟨_,hTO⟩
   ·exact ⟨_,e1⟩
   ·exact ⟨_,e2⟩
  obtain ⟨o,e⟩:=ob;rw [ah (ac2 (sz _ _ e))];exact (hf b hb).1
 done:=by
  intro X hP hw hK hc i pins s σ H E I hf st hg;subst hP hw hK;obtain ⟨hz,ZX,⟨x0,y0,hTO⟩,h1,h2⟩:=st;obtain ⟨xs,ys,qx,qy,ee⟩:=hg;obtain ⟨its,rv,p,_⟩:=I.list qx;obtain ⟨jts,EB,p',_⟩:=I.list qy;have l1:=rv.length;have l2:=EB.length;refine wpAny_pyNext_zip_end (I.ok.hd hc) D hz ZX hTO h1 h2 p.isList p'.isList ?_ fun h' kk=>⟨rfl,Inv.UK I (fun b o hb e=>?_) hf⟩
  ·rcases ee with e|e
   ·exact .inl (by simp;omega)
   ·exact .inr (by simp;omega)
  ·have xq :b≠z/\b≠TI/\b≠TO/\b≠i1/\b≠i2:=by simpa using hb
   exact kk b o xq.1 xq.2.2.1 xq.2.2.2.1 xq.2.2.2.2 e
 self:=fun _ _ _ _ _ st h=>wpAny_pyIter_zip st.1 h
theorem boot_zip:ab2 "zip"=some (.type "zip"):=by decide+kernel
section
variable {X:Cx}
inductive ahp (K:Frag)(R:(It->Hp->Prop))(vs:ε)(H1:Hp):Prop
|mk (a b:_)(_:vs=[.ref a,.ref b])(_:(∃xs,aZ K H1 a xs))(_:(∃ys,aZ K H1 b ys))(_:R (Itz K a b) H1)
def axs (K:Frag)(ta:TA):TI:=fun σ H R=>ta σ H fun vs H1=>ahp K R vs H1
theorem aky {p pos:Pos}{es:π}{k:Nat}{MR:Pos}(hg:Gl X "zip")(hm:X.mg "zip"=none)(ha:PA X [e1,e2] ta)(hs:abF [e1,e2] X.env=[(false,abU e1 X.env),(false,abU e2 X.env)]:=by rfl)(Yq:abF [e2] X.env=[(false,abU e2 X.env)]:=by rfl):
  PI X (.Tuple es k MR) (.Call (.Name "zip" p) [e1,e2] [] pos) (axs X.K ta):=by
 intro pins s σ H R I h;refine Call_ (uE I hg hm boot_zip (acB (du (ha pos pins s σ H _ I h) fun us s1 ⟨vs,H1,I1,r1,q1⟩=>?_) (by rw [hs,Yq]) (by rw [Yq];rfl)));obtain ⟨a,b,e,⟨xs,hx⟩,⟨ys,hy⟩,q⟩:=q1;subst e;cases r1 with
 | cons r rr=>
  cases rr with
  | cons r' rr=>
   cases rr;cases r;cases r';obtain ⟨its,rv,pl,_⟩:=I1.list hx;obtain ⟨jts,EB,pl',_⟩:=I1.list hy;have lt1:a<s1.heap.objs.size:=by obtain ⟨o,ho,_⟩:=pl.isList;exact abB ho
   have lt2:b<s1.heap.objs.size:=by obtain ⟨o,ho,_⟩:=pl'.isList;exact abB ho
   refine call_zip_2 pl.isList pl'.isList fun h' hz ZX hTO hi1 hi2 hsz hk=>wpAny_pyIter_zip (s:={s1 with heap:=h'}) hz ?_;refine ⟨s1.heap.objs.size+4,[s1.heap.objs.size+4,s1.heap.objs.size+2,s1.heap.objs.size+3,s1.heap.objs.size,s1.heap.objs.size+1],_,_,H1,rfl,I1.kept (t':=s1.toks) hk,ZW a b _ _ _ _ _ ?_,⟨hz,ZX,⟨_,_,hTO⟩,hi1,hi2⟩,fun c hc=>?_,q⟩
   ·constructor<;>(intro z;simp only [abj] at*;omega)
   ·have GD :s1.heap.objs.size<=c:=by
     have:c=s1.heap.objs.size+4\/c=s1.heap.objs.size+2\/c=s1.heap.objs.size+3\/c=s1.heap.objs.size\/c=s1.heap.objs.size+1:=by simpa using hc
     simp only [abj] at*;omega
    exact I1.GF GD (I1.cg.fresh GD)
inductive ZY (K:Frag)(xs:ε)(H:Hp)(Q:VK):Prop
|mk (p:abj)(ys:ε)(_:xs=[.ref p])(_:aZ K H p ys)(_:∀l,H l=none->Q (.ref l) (upd H l (.lst ys)))
theorem yk:mR X (.type "list") (ZY X.K):=by
 intro pins s σ H xs us Q I r h;obtain ⟨p,ys,rfl,hq,q⟩:=h;obtain ⟨u,rfl,r1⟩:=vals1 r;cases r1;obtain ⟨its,rv,⟨o,n,e,c,d1,d⟩,hz⟩:=I.list hq;have hlen:=rv.length;refine call_list_seq p (.inl rfl) e c d (fun h' c' hk hl=>?_) (by simp;omega);have hn:=I.cg.fresh (aaM s.heap.objs.size);have I2:Inv X pins σ (upd H s.heap.objs.size (.lst ys)) {s with heap:=h',toks:=s.toks}:=I.laid (t':=s.toks) hk (aaM _) ⟨hz,its,c',rv,hl⟩;exact ⟨.ref _,_,I2,rfl,q _ hn⟩
end
section
variable {X:Cx}{K:Frag}
theorem kD (h:X.K=K):IxR X (aeC K):=by subst h;exact Zi
theorem ZZ (h:X.K=K):IxR X (aeB K):=by subst h;exact dw
theorem aeX {k:Nat}{pos:Pos}(hK:X.K=K)(hc:X.calm=true)(h:PGs X es t)
  (hn:(adx es X.env).length=n:=by rfl) (hst:(adx es X.env).findIdx? (·.1)=none:=by rfl):PG X (.Tuple es k pos) (aeo K n t):=by subst hK;exact mv hc h hn hst
end
section
variable {D:abj}{te:TE}{cap:L2.St}{H1:Hp}{Q:VK}
theorem Z0 {K:Frag}(Rel:Nat->V->Hp->Prop)(nD:H1 D=none)(hn:xs.length<abl)(hl:ys.length=xs.length)(hX:∀H,au H1 H->aZ K H a xs)(hY:∀H,au H1 H->aZ K H b ys)
  (hR:∀i v H H' ys,H D=some (.lst ys)->fq D H H' ->Rel i v H->Rel i v H')
  (he:∀i x y H (R:VK),xs[i]?=some x->ys[i]?=some y->au H1 H->(∀v H6,au H H6->Rel i v H6->R v H6)->te (some x::some y::cap) H R)
  (hd:∀zs H,zs.length=xs.length->(∀i v,zs[i]?=some v->Rel i v H)->au H1 H->H D=some (.lst zs)->Q (.ref D) H):
  BA D (aeo K 2 (Y7 (fj 0) (Y7 (fj 1) aoj))) yc te (Itz K a b) (none::none::cap) H1 Q:=by
 refine ⟨fun i m σ zs H=>m=xs.length-i/\i<=xs.length/\(∃o o',σ=o::o'::cap)/\(zs.length=i/\(∀i v,zs[i]?=some v->Rel i v H)/\au H1 H)/\H D=some (.lst zs),⟨xs.length,by simp,aer _,⟨none,none,rfl⟩,⟨rfl,fun i v e=>by simp at e,fun b o e=>by rw [ah (aj e nD)];exact e⟩,ai⟩,?_⟩;rintro i m σ zs H ⟨rfl,hi,⟨o,o',rfl⟩,⟨l,r,s⟩,hD⟩;by_cases AQ:i<xs.length
 ·have e1:xs[i]?=some xs[i]:=gE AQ
  have e2:ys[i]?=some (ys[i]'(by omega)):=gE (by omega);refine .inr ⟨⟨xs,ys,_,_,hX H s,hY H s,e1,e2⟩,fun v H' y=>?_⟩;obtain ⟨p,x,y,q1,q2,rfl,np,rfl⟩:=y;have e1:=q1 xs (hX H s);have e2:=q2 ys (hY H s);have sp:au H (upd H p (.tup [x,y])):=fun b o e=>by rw [ah (aj e np)];exact e
  refine ⟨p,_,rfl,dG.of ai,rfl,_,_,rfl,_,_,rfl,rfl,?_⟩;unfold yc;dsimp only;rw [abv rfl];refine he i x y _ _ e1 e2 (fun b o e=>sp _ _ (s _ _ e)) fun v H6 s6 rv=>⟨s6 _ _ (sp _ _ hD),by omega,xs.length-(i+1),by omega,rfl,by omega,⟨_,_,rfl⟩,⟨by simp [l],fun j u e=>?_,fun b o e=>?_⟩,ai⟩
  ·by_cases c:j<zs.length
   ·rw [ad_ c] at e
    have ru:=hR j u H H6 zs hD (fq.of fun b o q=>s6 _ _ (sp _ _ q)) (r j u e);exact hR j u H6 _ zs (s6 _ _ (sp _ _ hD)) fq.upd ru
   ·rw [ac' (by omega)] at e
    have ej:j=i:=by
     by_cases z:j-zs.length=0
     ·omega
     ·rw [ac7 (by simp;omega)] at e
      cases e
    subst ej
    have:v=u:=by
     rw [show j-zs.length=0 by omega] at e;exact aaQ e
    subst this;exact hR j v H6 _ zs (s6 _ _ (sp _ _ hD)) fq.upd rv
  ·rw [ah (aj e nD)]
   exact s6 _ _ (sp _ _ (s _ _ e))
 ·have e:i=xs.length:=by omega
  subst e;exact .inl ⟨⟨xs,ys,hX H s,hY H s,.inl (aaM _)⟩,hd zs H l r s hD⟩
end
open Builtin.Int (intBits)
def vl (q:Int×Int):Rat:=(q.1:Rat) / (q.2:Rat)
theorem EX {b:Int}(h:b≠0):(b:Rat)≠0:=by simpa using h
theorem Z1 (h:b≠0):vl (low t b)=(t:Rat) / (b:Rat):=by
 have c:=VP (t:=t) h;have p:=sf (t:=t) h;have h1:=EX h;have h2:=EX (b:=(low t b).2) (by omega);have c':((low t b).1:Rat)*b=t*(low t b).2:=by exact_mod_cast c
 unfold vl;grind
theorem NG {t b u c:Int}(hb:b≠0)(hc:c≠0)(h:(t:Rat) / b=(u:Rat) / c):t*c=u*b:=by
 have h1:=EX hb;have h2:=EX hc;have:(t:Rat)*c=u*b:=by grind
 exact_mod_cast this
theorem akz (hq:0<q.2)(hr:0<r.2)(gq:ae' q.1 q.2=1)(gr:ae' r.1 r.2=1)(h:vl q=vl r):q=r:=by
 have c:=NG (t:=q.1) (b:=q.2) (u:=r.1) (c:=r.2) (by omega) (by omega) h;have e:=AW (t:=q.1) (b:=q.2) (u:=r.1) (c:=r.2) (by omega) (by omega) c;rw [x8 hq gq,x8 hr gr] at e;exact agV (abV anf e) (abV Prod.snd e)
end Ty
namespace L2
open PySem PySem.Spec PyProof.Rows
section
variable {κ:Type}[DecidableEq κ]
def fb (kvs:List (κ×V))(k:κ):Option V:=(kvs.find? fun kv=>decide (kv.1=k)).map (·.2)
def putK (kvs:List (κ×V))(k:κ)(v:V):List (κ×V):=
 if (kvs.any fun kv=>decide (kv.1=k))=true then kvs.map (fun kv=>if kv.1=k then (kv.1,v) else kv) else kvs++[(k,v)]
theorem jQ {k:κ}(e:p.1=k):fb (p::r) k=some p.2:=by simp [fb,ag4,e]
theorem jd {k:κ}(e:¬ p.1=k):fb (p::r) k=fb r k:=by simp [fb,ag4,e]
theorem ym (k:κ):∀kvs:List (κ×V),(kvs.any fun kv=>decide (kv.1=k))=(fb kvs k).isSome
 | []=>rfl
 | p::r=>by
  rw [ag8];by_cases e:p.1=k
  ·simp only [jQ e,abu e,Bool.true_or,Option.isSome_some]
  ·rw [jd e,aby e,aqd];exact ym k r
theorem nX (kvs:List (κ×V))(k:κ)(v:V):(putK kvs k v).length<=kvs.length+1:=by
 unfold putK;split
 ·rw [ir];omega
 ·rw [aae,ac5,ah_];omega
theorem ig {k:κ}(v:V)(h:fb kvs k=none):putK kvs k v=kvs++[(k,v)]:=by
 unfold putK;rw [ym,h];exact abp (by decide)
theorem kg.lI {o:ω}{u:Κ}(r:kg o u):o.isSome=u.isSome:=by
 cases o with
 | none=>cases u with
  | none=>rfl
  | some _=>exact (show False from r).elim
 | some _=>cases u with
  | none=>exact (show False from r).elim
  | some _=>rfl
theorem KV.val (r:KV kvs vs)(k:κ):kg (fb kvs k) (valueAt vs k):=by
 unfold KV at r
 induction r with
 | nil=>exact True.intro
 | @cons p q ps qs h t ih=>
  obtain ⟨h1,h2⟩:=h;by_cases e:p.1=k
  ·have e':q.1=k:=h1.symm.trans e
   have b:valueAt (q::qs) k=some q.2:=by simp [valueAt,ag4,e']
   rw [jQ e,b];exact h2
  ·have e':¬ q.1=k:=fun z=>e (h1.trans z)
   have b:valueAt (q::qs) k=valueAt qs k:=by simp [valueAt,ag4,e']
   rw [jd e,b];exact ih
theorem KV.any (r:KV kvs vs)(k:κ):(kvs.any fun kv=>decide (kv.1=k))=vs.any fun kv=>decide (kv.1=k):=by
 unfold KV at r
 induction r with
 | nil=>rfl
 | cons h t ih=>rw [ag8,ag8,ih,h.1]
theorem KV.akA (r:KV kvs vs)(k:κ)(ry:RelV y u):
  KV (kvs.map fun kv=>if kv.1=k then (kv.1,y) else kv) (vs.map fun kv=>if kv.1=k then (kv.1,u) else kv):=by
 unfold KV at r ⊢
 induction r with
 | nil=>exact .nil
 | @cons p q ps qs h t ih=>
  rw [ada,ada];refine .cons ?_ ih;obtain ⟨h1,h2⟩:=h;by_cases e:p.1=k
  ·rw [abv e,abv (h1.symm.trans e)];exact ⟨h1,ry⟩
  ·rw [abp e,abp (fun z=>e (h1.trans z))];exact ⟨h1,h2⟩
theorem KV.put (r:KV kvs vs)(k:κ)(ry:RelV y u):KV (putK kvs k y) (stored vs k u):=by
 unfold putK stored;rw [r.any k];by_cases e:(vs.any fun kv=>decide (kv.1=k))=true
 ·rw [abv e,abv e];exact r.akA k ry
 ·rw [abp e,abp e];exact acA r ⟨rfl,ry⟩
theorem KV.length {vs:List (κ×Value)}(r:KV kvs vs):kvs.length=vs.length:=abK r
end
theorem EY (r:RelV (kV k) u):(cF P w).is k u=true:=by
 cases k with
 | inl i=>obtain ⟨t,e⟩:=(show ∃t,u=Value.int i t from r);subst e;exact L' P w i t
 | inr x=>obtain ⟨t,e⟩:=(show ∃t,u=Value.str x t from r);subst e;exact MA P w x t
theorem EZ :∀{ks:List Key} {us:θ},Vals (ks.map kV) us->ItemsAre (cF P w) ks us
 | [],_,r=>by rw [akc] at r;cases r;exact .nil
 | k::ks,_,r=>by
  rw [ada] at r;cases r with
  | cons h t=>exact .cons (EY h) (EZ t)
abbrev KT (H:Hp):List (List Key×V)->List (List Key×abj×Value)->Prop:=Paired fun p q=>p.1=q.1/\H q.2.1=some (.tup (p.1.map kV))/\RelV p.2 q.2.2
theorem KT.val {kvs:Ε}{xs:Ι}(r:KT H kvs xs)(k:List Key):kg (fb kvs k) ((atKey xs k).map (·.2)):=by
 induction r with
 | nil=>exact True.intro
 | @cons p q ps qs h t ih=>
  obtain ⟨h1,_,h2⟩:=h;by_cases e:p.1=k
  ·have e':q.1=k:=h1.symm.trans e
   have b:atKey (q::qs) k=some q.2:=by simp [atKey,ag4,e']
   rw [jQ e,b];exact h2
  ·have e':¬ q.1=k:=fun z=>e (h1.trans z)
   have b:atKey (q::qs) k=atKey qs k:=by simp [atKey,ag4,e']
   rw [jd e,b];exact ih
theorem KT.akA {kvs:Ε}{xs:Ι}(r:KT H kvs xs)(k:List Key)(ry:RelV y u):
  KT H (kvs.map fun kv=>if kv.1=k then (kv.1,y) else kv) (xs.map (putAt k u)):=by
 induction r with
 | nil=>exact .nil
 | @cons p q ps qs h t ih=>
  rw [ada,ada];refine .cons ?_ ih;obtain ⟨h1,h2,h3⟩:=h;unfold putAt;by_cases e:p.1=k
  ·rw [abv e,abv (h1.symm.trans e)];exact ⟨h1,h2,ry⟩
  ·rw [abp e,abp (fun z=>e (h1.trans z))];exact ⟨h1,h2,h3⟩
theorem KT.put {kvs:Ε}{xs:Ι}(r:KT H kvs xs)(k:List Key)(hb:H b=some (.tup (k.map kV)))(ry:RelV y u):
  KT H (putK kvs k y) (storedH xs k b u):=by
 have e:(kvs.any fun kv=>decide (kv.1=k))=(atKey xs k).isSome:=by
  rw [ym,(r.val k).lI,alF]
 unfold putK storedH;rw [e];by_cases q:(atKey xs k).isSome=true
 ·rw [abv q,abv q];exact r.akA k ry
 ·rw [abp q,abp q];exact acA r ⟨rfl,hb,ry⟩
theorem KT.keeps {kvs:Ε}{xs:Ι}(r:KT H kvs xs)(ht:∀b ys,H b=some (.tup ys)->H' b=some (.tup ys)):KT H' kvs xs:=
 Paired.bJ r fun _ _ z=>⟨z.1,ht _ _ z.2.1,z.2.2⟩
section
variable {P:abJ}{w:World}{H:Hp}{h:Heap}{a:abj}
theorem ahq (ok:mh P w H h)(e:Rd H a u):bX P w H h a u:=e.ok ok
theorem yn (ok:mh P w H h)(e:Rd H a (.dK kvs)):kvs.length<=abl/\(a==acy)=false/\∃vs,KV kvs vs/\h.DictOf (cF P w) a vs:=
 show bX P w H h a (.dK kvs) from ahq ok e
theorem Z2 (ok:mh P w H h)(e:H a=some (.dK kvs)):kvs.length<=abl/\(a==acy)=false/\∃vs,KV kvs vs/\h.DictOf (cF P w) a vs:=yn ok (.inl e)
theorem yo (ok:mh P w H h)(e:H a=some (.tup (ks.map kV))):(tupleKind (cF P w)).is h ks a:=by
 obtain ⟨_,its,r,o,h1,h2,n,h3⟩:=(show bX P w H h a (.tup (ks.map kV)) from ok a _ e);exact ⟨o,its.toArray,n,h1,h2,h3,by simpa using EZ r⟩
theorem NH (ok:mh P w H h)(e:Rd H a (.dT kvs)):kvs.length<=abl/\(a==acy)=false/\
  ∃xs,KT H kvs xs/\h.DictOfH (tupleKind (cF P w)) a xs:=by
 obtain ⟨z,y,xs,r,o,es,ep,h1,h2,h3,h4,h5⟩:=(show bX P w H h a (.dT kvs) from ahq ok e);refine ⟨z,y,xs,r,o,es,ep,h1,h2,h3,h4,fun x hx=>?_,h5⟩
 have all:∀{l:Ε} {m:Ι},KT H l m->∀x∈m,(tupleKind (cF P w)).is h x.1 x.2.1:=by
  intro l m q
  induction q with
  | nil=>intro x hx;exact nomatch hx
  | @cons p q ps qs hq t ih=>
   intro x hx
   rcases aa3.mp hx with e|hx
   ·subst e
    exact yo ok (by rw [<-hq.1];exact hq.2.1)
   ·exact ih x hx
 exact all r x hx
theorem ao4 (ok:mh P w H h)(e:H a=some (.dT kvs)):kvs.length<=abl/\(a==acy)=false/\
  ∃xs,KT H kvs xs/\h.DictOfH (tupleKind (cF P w)) a xs:=NH ok (.inl e)
end
def dC (H:Hp)(a:abj)(y:V)(r:ω):Prop:=
 (∃kvs k,Rd H a (.dK kvs)/\y=kV k/\r=fb kvs k)\/∃kvs k b,Rd H a (.dT kvs)/\y=.ref b/\H b=some (.tup (k.map kV))/\r=fb kvs k
def je (H:Hp)(a:abj)(y v:V)(H':Hp):Prop:=
 (∃kvs k,H a=some (.dK kvs)/\y=kV k/\kvs.length<abl/\H'=upd H a (.dK (putK kvs k v)))\/
 ∃kvs k b,H a=some (.dT kvs)/\y=.ref b/\H b=some (.tup (k.map kV))/\kvs.length<abl/\H'=upd H a (.dT (putK kvs k v))
theorem dC.k {kvs:ι}{k:Key}(e:H a=some (.dK kvs)):dC H a (kV k) (fb kvs k):=.inl ⟨kvs,k,.inl e,rfl,rfl⟩
theorem je.k {kvs:ι}{k:Key}(e:H a=some (.dK kvs))(hl:kvs.length<abl):je H a (kV k) v (upd H a (.dK (putK kvs k v))):=.inl ⟨kvs,k,e,rfl,hl,rfl⟩
section
variable {X:Cx}{pins:δ}{σ:St}{H:Hp}{s:abw}{a:abj}{y v:V}{u r:Value}{o:ω}{A:abM}{E:γ}
theorem Inv.big (I:Inv X pins σ H s):acy<s.heap.objs.size:=by
 have h:abA<s.heap.objs.size:=(I.mod.glob.keeps I.bk).lt;exact Nat.lt_trans (by decide) h
theorem V0 {Q:γ}(hu:A.units+1<adj)(I:Inv X pins σ H s)(g:dC H a y (some v))(ry:RelV y u)(h:∀w' s',Inv X pins σ H s' ->RelV v w' ->Q w' s'):
  abz (abx X.prog X.w) A (getItem (.ref a) u) Q E s:=by
 rcases g with ⟨kvs,k,e,ey,l⟩|⟨kvs,k,b,e,ey,eb,l⟩
 ·subst ey
  obtain ⟨z,hd,vs,rel,dd⟩:=yn I.cg e;obtain ⟨w',hw,EB⟩:=kg.some_of (v:=v) (o:=valueAt vs k) (by rw [l];exact rel.val k);exact wpAny_getItem_of (EY ry) dd.mapOf hw (h w' _ (I.tok _) EB)
 ·subst ey
  cases (show u=Value.ref b from ry);obtain ⟨z,hd,xs,rel,dd⟩:=NH I.cg e;obtain ⟨w',hw,EB⟩:=kg.some_of (v:=v) (o:=(atKey xs k).map (·.2)) (by rw [l];exact rel.val k);obtain ⟨p,hp,hp2⟩:=ab_.mp hw;refine wpAny_getItem_heap (adw hu) (yo I.cg eb) dd hp ?_;rw [hp2];exact h w' _ (I.tok _) EB
theorem axt {Q:γ}(hu:A.units+1<adj)(I:Inv X pins σ H s)(g:dC H a y o)(ry:RelV y u)(h:∀s',Inv X pins σ H s' ->Q (.bool o.isSome) s'):
  abz (abx X.prog X.w) A (ab3 .In u (.ref a)) Q E s:=by
 rcases g with ⟨kvs,k,e,ey,l⟩|⟨kvs,k,b,e,ey,eb,l⟩
 ·subst ey
  obtain ⟨z,hd,vs,rel,dd⟩:=yn I.cg e;refine wpAny_in_of (EY ry) hd dd.mapOf ?_;rw [<-(rel.val k).lI,<-l];exact h _ (I.tok _)
 ·subst ey
  cases (show u=Value.ref b from ry);obtain ⟨z,hd,xs,rel,dd⟩:=NH I.cg e;refine wpAny_in_heap (adw hu) (yo I.cg eb) hd dd ?_;have q:=(rel.val k).lI;rw [alF] at q;rw [<-q,<-l];exact h _ (I.tok _)
theorem aeY {Q:γ}(hu:A.units+1<adj)(I:Inv X pins σ H s)(g:dC H a y o)(ry:RelV y u)(h:∀s',Inv X pins σ H s' ->Q (.bool (!o.isSome)) s'):
  abz (abx X.prog X.w) A (ab3 .NotIn u (.ref a)) Q E s:=by
 rcases g with ⟨kvs,k,e,ey,l⟩|⟨kvs,k,b,e,ey,eb,l⟩
 ·subst ey
  obtain ⟨z,hd,vs,rel,dd⟩:=yn I.cg e;refine wpAny_notIn_of (EY ry) hd dd.mapOf ?_;rw [<-(rel.val k).lI,<-l];exact h _ (I.tok _)
 ·subst ey
  cases (show u=Value.ref b from ry);obtain ⟨z,hd,xs,rel,dd⟩:=NH I.cg e;refine wpAny_notIn_heap (adw hu) (yo I.cg eb) hd dd ?_;have q:=(rel.val k).lI;rw [alF] at q;rw [<-q,<-l];exact h _ (I.tok _)
theorem HK (I:Inv X pins σ H s)(mu:Mut (H a))(hs:adM a s.heap h')(he:∃q,h'.get? a=some q)(new:bX X.prog X.w (upd H a ob) h' a ob):
  Inv X pins σ (upd H a ob) {s with heap:=h',toks:=t'}:=
 I.write (x:=a) (e:=a) mu (.inl rfl) (fun b q hb z=>(hs.2 b hb).trans z) he new
theorem Z3 {kvs:ι}(z:kvs.length<=abl)(hd:(a==acy)=false)(rel:KV kvs vs)(dd:h'.DictOf (cF P w) a vs):
  bX P w H' h' a (.dK kvs):=⟨z,hd,vs,rel,dd⟩
theorem V1 {Q:Β}(hu:A.units+1<adj)(I:Inv X pins σ H s)(g:je H a y v H')(ry:RelV y u)(rv:RelV v r)(h:∀s',Inv X pins σ H' s' ->Q () s'):
  abz (abx X.prog X.w) A (setItem (.ref a) u r) Q E s:=by
 rcases g with ⟨kvs,k,e,ey,l,eH⟩|⟨kvs,k,b,e,ey,eb,l,eH⟩
 ·subst ey eH
  obtain ⟨z,hd,vs,rel,dd⟩:=Z2 I.cg e;have hz:vs.length<=abl:=by rw [<-rel.length];exact z
  have hl:(putK kvs k v).length<=abl:=by have:=nX kvs k v;omega
  refine wpAny_setItem_pairs (hsz:=hz) (EY ry) dd fun h' dd' hs=>h _ ?_;have he:∃q,h'.get? a=some q:=let ⟨q,_,_,hq,_⟩:=dd';⟨q,hq⟩;exact HK I (by rw [e];exact True.intro) hs he (Z3 hl hd (rel.put k rv) dd')
 ·subst ey eH
  cases (show u=Value.ref b from ry);obtain ⟨z,hd,xs,rel,dd⟩:=ao4 I.cg e;have hz:xs.length<=abl:=by rw [<-abK rel];exact z
  have hl:(putK kvs k v).length<=abl:=by have:=nX kvs k v;omega
  refine wpAny_setItem_heap (hsz:=hz) (adw hu) (yo I.cg eb) dd fun h' dd' hs=>h _ ?_;obtain ⟨q,es,ep,hq,h2,h3,h4,_,h5⟩:=dd';refine HK I (by rw [e];exact True.intro) hs ⟨q,hq⟩ ⟨hl,hd,_,(rel.put k eb rv).keeps fun c ys ec=>?_,q,es,ep,hq,h2,h3,h4,h5⟩;rw [ah (an8 ec e (fun z=>nomatch z))];exact ec
end
section
variable {X:Cx}{pins:δ}{σ:St}{H:Hp}{s:abw}{a:abj}{kvs:ι}{k:Key}{u:Value}{A:abM}{E:γ}
theorem ao5 {Q:γ}(I:Inv X pins σ H s)(e:Rd H a (.dK kvs))(h:∀t s',Inv X pins σ H s' ->Q (.int kvs.length t) s'):abz (abx X.prog X.w) A (call (.builtin "len") [.ref a]) Q E s:=by
 obtain ⟨z,hd,vs,rel,dd⟩:=yn I.cg e;refine call_len_dict hd dd (by rw [<-rel.length];rw [adT] at z;omega) ?_;rw [<-rel.length];exact h _ _ (I.tok _)
end
def ao6 (i:Expr):Prop:=∀ov iv,subscripted i false ov iv=operate [ov,iv] (getItem ov iv)
theorem aeZ {E:γ}{T id:String}{Q:γ}
  (hl:typeLookup (.type T) "__getitem__"=pure (some (.builtin id))) (hs:ao6 slice)
  (h:abz (abx prog w) A (abU value env) (fun o s₁=>abz (abx prog w) A (abU slice env) (fun i s₂=>s₂.TypeIs o T/\abz (abx prog w) A (getItem o i) Q E s₂) E s₁) E s):
  abz (abx prog w) A (abU (.Subscript value slice pos) env) Q E s:=by
 refine Subscript_ (abH h (fun o s₁ h₁=>abH h₁ (fun i s₂ h₂=>?_) fun _ _ x=>x) fun _ _ x=>x);obtain ⟨hT,h₂⟩:=h₂;unfold subscriptTail;refine abk ?_;rw [getitemInPython_of_ne hT.not_modules];refine abk (wpAny_specialOf hT hl ?_)
 have fin:abz (abx prog w) A (subscripted slice false o i) (fun r s₃=>abz (abx prog w) A (letTemporaryGo value o r >>=fun _=>pure r) Q E s₃) E s₂:=by
  rw [hs o i];exact wpAny_operating (abH h₂ (fun r s₃ h₃=>abk (wpAny_letTemporaryGo (abC h₃))) fun _ _ x=>x)
 first
  | exact abC (abk fin)
  | exact abk (abC (abk fin))
  | exact abk fin
theorem NI {σ:St}(I:Inv X pins σ H s)(g:dC H a y o):s.TypeIs (.ref a) "dict":=by
 rcases g with ⟨kvs,k,e,_,_⟩|⟨kvs,k,b,e,_,_,_⟩
 ·obtain ⟨_,_,vs,_,dd⟩:=yn I.cg e
  exact dd.typeIs
 ·obtain ⟨_,_,xs,_,dd⟩:=NH I.cg e
  exact dd.typeIs
inductive Z4 (Q:VK)(x:V)(y:V)(H2:Hp):Prop
|mk (a v:_)(_:x=.ref a)(_:dC H2 a y (some v))(_:Q v H2)
def ao7 (td ty:TE):TE:=fun σ H Q=>td σ H fun x H1=>ty σ H1 fun y H2=>Z4 Q x y H2
inductive ahr (Q:VK)(y:V)(x:V)(H2:Hp):Prop
|mk (a o:_)(_:x=.ref a)(_:dC H2 a y o)(_:Q (.bl o.isSome) H2)
def axu (ty td:TE):TE:=fun σ H Q=>ty σ H fun y H1=>td σ H1 fun x H2=>ahr Q y x H2
inductive NJ (Q:VK)(y:V)(x:V)(H2:Hp):Prop
|mk (a o:_)(_:x=.ref a)(_:dC H2 a y o)(_:Q (.bl (!o.isSome)) H2)
def ae0 (ty td:TE):TE:=fun σ H Q=>ty σ H fun y H1=>td σ H1 fun x H2=>NJ Q y x H2
inductive Z5 (D:Ends)(σ:L2.St)(v:V)(x:V)(y:V)(H3:Hp):Prop
|mk (a H4:_)(_:x=.ref a)(_:je H3 a y v H4)(_:D.nx σ H4)
def ao8 (td ty tv:TE):TS:=fun D σ H=>tv σ H fun v H1=>td σ H1 fun x H2=>ty σ H2 fun y H3=>Z5 D σ v x y H3
section
variable {X:Cx}{o i e value:Expr}{pos pos' MR:Pos}{td ty tv:TE}
theorem bL (hu:X.A.units+1<adj)(ho:PE X o td)(hi:PE X i ty)(hs:ao6 i):PE X (.Subscript o i pos) (ao7 td ty):=by
 intro pins s σ H Q I h;refine aeZ PySem.F.slot_dict_getitem.lookup hs (du (ho pins s σ H _ I h) fun u s1 ⟨x,H1,I1,rx,q1⟩=>du (hi pins s1 σ H1 _ I1 q1) fun iv s2 ⟨y,H2,I2,ry,a,v,ex,g,q2⟩=>?_);subst ex;obtain rfl:u=Value.ref a:=rx;exact ⟨NI I2 g,V0 hu I2 g ry fun w' s3 I3 EB =>⟨v,H2,I3,EB,q2⟩⟩
theorem uK (hu:X.A.units+1<adj)(hi:PE X i ty)(ho:PE X o td):PC X .In i o (axu ty td):=by
 intro pins s σ H Q I h;refine du (hi pins s σ H _ I h) fun iv s1 ⟨y,H1,I1,ry,q1⟩=>du (ho pins s1 σ H1 _ I1 q1) fun u s2 ⟨x,H2,I2,rx,a,ov,ex,g,q2⟩=>?_;subst ex;obtain rfl:u=Value.ref a:=rx;exact axt hu I2 g ry fun s3 I3=>⟨.bl ov.isSome,H2,I3,rfl,q2⟩
theorem jK (hu:X.A.units+1<adj)(hi:PE X i ty)(ho:PE X o td):PC X .NotIn i o (ae0 ty td):=by
 intro pins s σ H Q I h;refine du (hi pins s σ H _ I h) fun iv s1 ⟨y,H1,I1,ry,q1⟩=>du (ho pins s1 σ H1 _ I1 q1) fun u s2 ⟨x,H2,I2,rx,a,ov,ex,g,q2⟩=>?_;subst ex;obtain rfl:u=Value.ref a:=rx;exact aeY hu I2 g ry fun s3 I3=>⟨.bl (!ov.isSome),H2,I3,rfl,q2⟩
theorem cW (hu:X.A.units+1<adj)(ho:PE X o td)(hi:PE X i ty)(hv:PE X value tv)(hs:acM value (some (.Subscript o i pos')) pos.line X.env=pure false):
  PS X (.Assign [.Subscript o i pos'] value pos) (ao8 td ty tv):=by
 intro pins s σ H D I h;refine wpAny_Assign_Subscript (du (hv pins s σ H _ I h) fun r s1 ⟨v,H1,I1,rv,q1⟩=>du (ho pins s1 σ H1 _ I1 q1) fun u s2 ⟨x,H2,I2,rx,q2⟩=>du (hi pins s2 σ H2 _ I2 q2) fun iv s3 ⟨y,H3,I3,ry,a,H4,ex,g,q3⟩=>?_) hs;subst ex;obtain rfl:u=Value.ref a:=rx;exact V1 hu I3 g ry rv fun s4 I4=>⟨σ,H4,I4,q3⟩
end
theorem NK (h:Heap)(hb:acy<h.objs.size):bX P w H (h.push {cls:=.type "dict",data:=.dict #[]}) h.objs.size (.dK []):=
 ⟨aer _,beq_eq_false_iff_ne.mpr (ac2 (ac9 hb)),[],.nil,Heap.DictOf.new h⟩
def akC:TE:=fun _ H Q=>∀p,H p=none->Q (.ref p) (upd H p (.dK []))
section
variable {X:Cx}{pos:Pos}
theorem lJ:PE X (.Dict [] [] pos) akC:=fun pins s σ H Q I h=>
 wpAny_Dict_empty ⟨.ref s.heap.objs.size,_,I.laid (a:=s.heap.objs.size) (o:=.dK []) (t':=s.toks) (fun _ _ q=>abr _ q) (aaM _) (NK s.heap I.big),rfl,h _ (I.cg.fresh (aaM _))⟩
end
def Rz:List (TE×TE)->St->Hp->(List (V×V)->Hp->Prop)->Prop
 | [],_,H,Q=>Q [] H
 | (tk,tv)::r,σ,H,Q=>tk σ H fun x H1=>tv σ H1 fun y H2=>Rz r σ H2 fun ps H3=>Q ((x,y)::ps) H3
abbrev VV:List (V×V)->List (Value×Value)->Prop:=Paired fun p q=>RelV p.1 q.1/\RelV p.2 q.2
def PPs (X:Cx)(pos:Pos)(keys:List (Option Expr))(values:π)(trs:List (TE×TE)):Prop:=
 ∀(pins:δ)(s:abw)(σ:St)(H:Hp)(Q:List (V×V)->Hp->Prop),Inv X pins σ H s->Rz trs σ H Q->
  abz (abx X.prog X.w) X.A (evalPairs (pairTrees keys values X.env pos)) (fun vs s'=>∃ps H',Inv X pins σ H' s'/\VV ps vs/\Q ps H') X.xe s
theorem ae2 :PPs X pos [] [] []:=fun pins s σ H Q I h=>pairTrees_nil_walk ⟨[],H,I,.nil,h⟩
theorem nY (hk:PE X k tk)(hv:PE X v tv)(hr:PPs X pos ks vs trs):
  PPs X pos (some k::ks) (v::vs) ((tk,tv)::trs):=fun pins s σ H Q I h=>
 pairTrees_cons_walk (du (hk pins s σ H _ I h) fun u s1 ⟨x,H1,I1,rx,q1⟩=>du (hv pins s1 σ H1 _ I1 q1) fun w2 s2 ⟨y,H2,I2,ry,q2⟩=>
  du (hr pins s2 σ H2 _ I2 q2) fun ws s3 ⟨ps,H3,I3,rel,q3⟩=>⟨(x,y)::ps,H3,I3,.cons ⟨rx,ry⟩ rel,q3⟩)
def uL (kvs more:ι):List (Key×V):=more.foldl (fun acc kv=>putK acc kv.1 kv.2) kvs
theorem KV.merge:∀{more:ι} {rs:List (Key×Value)} {kvs:ι} {vs:List (Key×Value)},KV more rs->KV kvs vs->KV (uL kvs more) (merged vs rs):=by
 intro more rs kvs vs r;unfold KV at r
 induction r generalizing kvs vs with
 | nil=>intro q;exact q
 | @cons p q ps qs h t ih=>
  intro r0
  have e:KV (putK kvs p.1 p.2) (stored vs q.1 q.2):=by
   have:=r0.put p.1 h.2;rw [<-h.1];exact this
  exact ih e
theorem qc:∀(more kvs:ι),(uL kvs more).length<=kvs.length+more.length
 | [],kvs=>by show kvs.length<=kvs.length+0;omega
 | p::r,kvs=>by
  have h1:=qc r (putK kvs p.1 p.2);have h2:=nX kvs p.1 p.2;show (uL (putK kvs p.1 p.2) r).length<=_;rw [ac5];omega
theorem yq :∀{kvs:ι} {ws:List (Value×Value)},VV (kvs.map fun kv=>(kV kv.1,kv.2)) ws->∃rs,Carries (cF P w) ws rs/\KV kvs rs
 | [],_,r=>by rw [akc] at r;cases r;exact ⟨[],True.intro,.nil⟩
 | p::kvs,_,r=>by
  rw [ada] at r;cases r with
  | @cons a b as bs h t=>
   obtain ⟨rs,c,q⟩:=yq (P:=P) (w:=w) t;obtain ⟨b1,b2⟩:=b;exact ⟨(p.1,b2)::rs,⟨EY h.1,rfl,c⟩,.cons ⟨rfl,h.2⟩ q⟩
def ao9 (trs:List (TE×TE)):TE:=fun σ H Q=>∀p,H p=none->Rz trs σ (upd H p (.dK [])) fun ps H2=>H2 p=some (.dK [])/\∃kvs:List (Key×V),ps=kvs.map (fun kv=>(kV kv.1,kv.2))/\kvs.length<=15/\Q (.ref p) (upd H2 p (.dK (uL [] kvs)))
theorem ae3 (h:PPs X pos keys values trs)(akg:keys.all (·.isSome)=true)(hl:keys.length=values.length)(h0:keys≠[])
  (h15:keys.length<=15):PE X (.Dict keys values pos) (ao9 trs):=by
 intro pins s σ H Q I q;have hn:=I.cg.fresh (aaM s.heap.objs.size);have I1:=I.laid (a:=s.heap.objs.size) (o:=.dK []) (h':=s.heap.push {cls:=.type "dict",data:=.dict #[]}) (t':=s.toks) (fun _ _ q=>abr _ q) (aaM _) (NK s.heap I.big);refine wpAny_Dict_walk (knd:=cF X.prog X.w) akg hl h0 h15 (du (h pins _ σ _ _ I1 (q _ hn)) fun ws s2 ⟨ps,H2,I2,rel,e,kvs,ep,lk,q2⟩=>?_);subst ep;obtain ⟨rs,c,rk⟩:=yq (P:=X.prog) (w:=X.w) rel;obtain ⟨z,hd,vs0,r0,dd⟩:=Z2 I2.cg e;cases r0;refine ⟨rs,c,dd,fun h' dd' hs=>⟨.ref s.heap.objs.size,_,?_,rfl,q2⟩⟩
 have hz:(uL [] kvs).length<=abl:=by
  have h1:=qc kvs [];rw [ah_] at h1;rw [adT];omega
 have he:∃q,h'.get? s.heap.objs.size=some q:=let ⟨q,_,_,hq,_⟩:=dd';⟨q,hq⟩;exact HK I2 (by rw [e];exact True.intro) hs he (Z3 hz hd (rk.merge .nil) dd')
end L2
namespace Ty
open PySem PySem.Spec PyProof.Rows L2
section
variable {X:Cx}
theorem ae4 {σ:L2.St}(I:Inv X pins σ H s):s.heap.NoSeer:=I.ok.mod.seer.keeps I.bk
theorem cV.py (r:cV k A)(h:32<=k):A.depth+Builtin.pylongFrames<adR:=by
 have:=r.dp;have:Builtin.pylongFrames=100:=rfl;omega
theorem sM (ht:X.prog.given.tree=none)(hd:X.A.depth+Builtin.pylongFrames<adR)(hst:X.stack=env::l)(h1:env.scope.isGenerator=false)(h2:env.scope.isCoroutine=false)(h3:env.builtins=builtinsNs)(h4:env.globals=abA):
  pJ X (adg .FloorDiv) (rI akj fun i j=>.int (i.fdiv j)):=by
 intro pins s σ H x y v u Q I rx ry h;obtain ⟨i,j,rfl,rfl,hc,q⟩:=h;obtain ⟨t,rfl⟩:=rx;obtain ⟨t',rfl⟩:=ry;exact floordiv_int hc ⟨.int _,H,I.tok _,⟨_,rfl⟩,q⟩ (.inr (PylongRoom.of I.nolimit hd (SeerAt.of (ae4 I) ht (by rw [I.ok.frames,hst]) h1 h2 h3 h4)))
end
section
variable {prog:abJ}{w:World}{A:abM}{E:γ}{s:abw}{KK:Type}[DecidableEq KK]{knd:KeyKind prog w KK}
theorem V2 (hm:s.heap.DictOf knd d kvs)(h:Q false s):abz (abx prog w) A (Builtin.List.listLengthHint (.ref d)) Q E s:=by
 unfold Builtin.List.listLengthHint;refine abk (wpAny_specialOf (name:=ab0 "__len__") hm.typeIs F.slot_dict_len.lookup ?_);generalize hid:("dict.__len__":String)=id0
 wp_delta
 rw [show splitId id0=some ("dict","__len__") from by subst hid;decide+kernel];subst hid;refine abk (wpAny_isInstance (T:="dict") (b:=true) hm.typeIs (by rw [isSubtype_type];kernel_rfl) ?_);refine wpAny_ite_split (fun hab=>abo hab (by decide)) (fun _=>?_);refine wpAny_ite_split (fun _=>?_) (fun hab=>abo (by decide+kernel) hab);refine abk (wpAny_typeOf (T:="dict") hm.typeIs ?_);exact abC h
theorem NL {R:Ζ}(hh:A.handled=none)(hd:(d==acy)=false)(hm:s.heap.DictAt knd d kvs ep)(hlen:kvs.length<=abl)(S:abj)(res:Value)(c₀:Nat)(hS:s.heap.get? S=some {cls:=.type "list",data:=.seq #[] c₀})
  (hR:∀h' tk nZ c',(∀b o,b≠S->s.heap.get? b=some o->h'.get? b=some o)->h'.get? S=some {cls:=.type "list",dict:=none,data:=.seq nZ c',slots:= #[]}->
   ItemsOf (fun i v=>∃k x,kvs[i]?=some (k,x)/\knd.is k v=true) nZ kvs.length->R (.ok (.ret res)) {s with heap:=h',toks:=tk}):
  abz (abx prog w) A.in1 (acC (.ref S) (.ref d) res)
   (fun fin s'=>match fin with | .done f=>R (.ok f) s' | .again c'=>c'.quiet=true/\acx (abx prog w) A c' R s') (fun e s'=>R (.error e) s') s:=by
 obtain ⟨od,es,hod,uD,yr,hk0,hp0,hn0⟩:=id hm;have hT:s.TypeIs (.ref d) "dict":=hm.dictOf.typeIs
 have hSd:S≠d:=fun e=>by
  rw [e] at hS;rw [hS] at hod;cases hod;cases yr
 have hdI:d≠s.heap.objs.size:=ac9 (abB hod);have hSI:S≠s.heap.objs.size:=ac9 (abB hS)
 have hSf:S∉[s.heap.objs.size,d]:=fun hm=>by
  rcases aa3.mp hm with z|z
  ·exact hSI z
  ·exact hSd (aaT.mp z)
 have W:=(Walks.dictKeys (knd:=knd) (A:=A.in1) hh s.heap.objs.size d hdI kvs ep).toS;unfold acC;refine abk (wpAny_typeOf (T:="dict") hT ?_);have h1:Builtin.List.listSameRef (.ref S) (.ref d)=false:=by simp [Builtin.List.listSameRef,hSd]
 have h2:(Value.type "dict"==Value.type "list")=false:=by decide
 have h3:(Value.type "dict"==Value.type "tuple")=false:=by decide
 simp only [h1,h2,h3,aqc,Bool.false_eq_true,if_false];refine abk (wpAny_pyIter_dict hd hm ?_);have hm1:(s.heap.push {cls:=.type "dict_keyiterator",data:=.fields #[.ref d,.int 0 0,.int kvs.length 0,.int ep 0]}).DictAt knd d kvs ep:=hm.at' fun o e=>abr _ e;refine abk (adH (V2 (knd:=knd) hm1.dictOf ?_));have hS₁:=abr {cls:=.type "dict_keyiterator",data:=.fields #[.ref d,.int 0 0,.int kvs.length 0,.int ep 0]} hS;have it₁:(s.heap.push {cls:=.type "dict_keyiterator",data:=.fields #[.ref d,.int 0 0,.int kvs.length 0,.int ep 0]}).IsKeyIter s.heap.objs.size d 0 kvs.length ep:=⟨_,abI _ rfl,rfl,rfl⟩
 have key:∀(h:Heap)(c₁ tk:Nat),h.IsKeyIter s.heap.objs.size d 0 kvs.length ep->h.DictAt knd d kvs ep->(∀b o,b≠S->s.heap.get? b=some o->h.get? b=some o)->
   h.get? S=some {cls:=.type "list",data:=.seq #[] c₁}->acx (abx prog w) A (.builtin "list.extend.loop" ⟨[.ref S,.ref s.heap.objs.size,res],[]⟩) R {s with heap:=h,toks:=tk}:=by
  intro h c₁ tk hit hdm hk hS₁;refine codeAny_extend_loopS W hlen S hSf res kvs.length 0 _ #[] c₁ rfl (aer _) ⟨hit,hdm⟩ hS₁ (ItemsOf.nil _) fun s' nZ c' hm' hS' NM=>?_;rw [Moved.eq_with hm'];refine hR s'.heap s'.toks nZ c' (fun b o hb e=>hm'.heap b o (fun akD=>?_) (hk b o hb e)) hS' NM
  rcases aa3.mp akD with e'|akD
  ·exact hb e'
  ·exact abo (abB e) (by rw [aaT.mp akD];exact afw _)
 refine wpAny_ite_split (fun _=>?_) (fun _=>abC ⟨plainId_quiet F.plain_extend_loop _,key _ c₀ _ it₁ hm1 (fun b o _ e=>abr _ e) hS₁⟩);refine abk (wpAny_rule ?_);refine abk ?_;show abz _ _ (updateSeq S (·.push .none) >>=fun _=>updateSeq S (·.pop)) _ _ _;refine abk (wpAny_updateSeq hS₁ rfl ?_);have hS₂:=acz (Obj.mapSeq (·.push Value.none)) hS₁ rfl;refine wpAny_updateSeq (hz:=by seq_fits) hS₂ rfl ?_;have hS₃:=acz (Obj.mapSeq (·.pop)) hS₂ rfl;refine abC ⟨plainId_quiet F.plain_extend_loop _,key _ _ _ (it₁.at fun o e=>?_) (hm1.at' fun o e=>?_) (fun b o hb e=>?_) hS₃⟩
 ·exact (abT _ _ hSI).trans ((abT _ _ hSI).trans e)
 ·exact (abT _ _ hSd).trans ((abT _ _ hSd).trans e)
 ·exact (abT _ _ (ac2 hb)).trans ((abT _ _ (ac2 hb)).trans (abr _ e))
theorem yt {R:Ζ}(hh:A.handled=none)(hd:(d==acy)=false)(hm:s.heap.DictAt knd d kvs ep)(hlen:kvs.length<=abl)(S:abj)(hS:s.heap.get? S=some {cls:=.type "list",data:=.seq #[]})
  (hR:∀h' tk nZ c',(∀b o,b≠S->s.heap.get? b=some o->h'.get? b=some o)->h'.get? S=some {cls:=.type "list",dict:=none,data:=.seq nZ c',slots:= #[]}->
   ItemsOf (fun i v=>∃k x,kvs[i]?=some (k,x)/\knd.is k v=true) nZ kvs.length->R (.ok (.ret .none)) {s with heap:=h',toks:=tk}):
  abz (abx prog w) A.in1 (Builtin.«list.__init__» ⟨[.ref S,.ref d],[]⟩)
   (fun fin s'=>match fin with | .done f=>R (.ok f) s' | .again c'=>c'.quiet=true/\acx (abx prog w) A c' R s') (fun e s'=>R (.error e) s') s:=by
 obtain ⟨od,es,hod,uD,yr,hk0,hp0,hn0⟩:=id hm
 have hSd:S≠d:=fun e=>by
  rw [e] at hS;rw [hS] at hod;cases hod;cases yr
 show abz _ _ (do let old <- Builtin.List.listItems (.ref S);Builtin.List.listUpdate (.ref S) (fun _=> #[]);letGo old.toList.reverse;acC (.ref S) (.ref d) .none) _ _ s;refine abk ?_;unfold Builtin.List.listItems;refine abk (wpAny_seqItems hS rfl (abC ?_));show abz _ _ (updateSeq S (fun _=> #[]) >>=fun _=>letGo (#[]:Array Value).toList.reverse >>=fun _=>acC (.ref S) (.ref d) .none) _ _ s;refine abk (wpAny_updateSeq hS rfl ?_);have hS₂:=acz (Obj.mapSeq (fun _=>(#[]:Array Value))) hS rfl
 have oth:∀b o,b≠S->s.heap.get? b=some o->(s.heap.update S (Obj.mapSeq (fun _=>(#[]:Array Value)))).get? b=some o:=
  fun b o hb e=>(abT _ _ (ac2 hb)).trans e
 refine abk (wpAny_letGo ?_);refine NL hh hd (hm.at' fun o e=>oth d o (ac2 hSd) e) hlen S .none _ hS₂ fun h' tk nZ c' hk hS' NM=>?_;exact hR h' tk nZ c' (fun b o hb e=>hk b o hb (oth b o hb e)) hS' NM
theorem yu {Q:γ}(hh:A.handled=none)(hd:(d==acy)=false)(hm:s.heap.DictAt knd d kvs ep)(hlen:kvs.length<=abl)
  (hQ:∀h' tk nZ c',(∀b o,s.heap.get? b=some o->h'.get? b=some o)->
   h'.get? s.heap.objs.size=some {cls:=.type "list",dict:=none,data:=.seq nZ c',slots:= #[]}->ItemsOf (fun i v=>∃k x,kvs[i]?=some (k,x)/\knd.is k v=true) nZ kvs.length->Q (.ref s.heap.objs.size) {s with heap:=h',toks:=tk}):
  abz (abx prog w) A (call (.type "list") [.ref d]) Q E s:=by
 refine callType_codes (Q₁:=fun obj s₁=>obj=.ref s.heap.objs.size/\s₁={s with heap:=s.heap.push {cls:=.type "list",data:=.seq #[]}}) F.called_list (F.typeCall_list_1 _) F.entry_list_init
  (code_list_new _ ⟨rfl,rfl⟩) fun obj s₁ h₁=>?_
 obtain ⟨rfl,rfl⟩:=h₁;have hS:(s.heap.push {cls:=.type "list",data:=.seq #[]}).get? s.heap.objs.size=some {cls:=.type "list",data:=.seq #[]}:=abI _ rfl;refine ⟨⟨_,hS,rfl⟩,F.args_list_init_2 _ _,yt (A:=A.in1) hh hd (hm.at' fun o e=>abr _ e) hlen _ hS fun h' tk nZ c' hk hS' NM=>?_⟩;exact ⟨rfl,hQ h' tk nZ c' (fun b o e=>hk b o (ac9 (abB e)) (abr _ e)) hS' NM⟩
end
theorem aY :∀{l₁:List α} {l₂:List β} {i:Nat} {a:α},Paired F l₁ l₂->l₁[i]?=some a->∃b,l₂[i]?=some b/\F a b
 | _,_,_,_,.nil,h=>by simp at h
 | _,_,0,_,.cons r _,h=>by
  cases h;exact ⟨_,rfl,r⟩
 | _,_,i+1,_,.cons _ t,h=>by
  obtain ⟨b,e,f⟩:=aY (i:=i) t (by simpa using h);exact ⟨b,by simpa using e,f⟩
theorem lM :∀{l₁:List α} {l₂:List β},l₁.length=l₂.length->(∀(i:Nat)(a:α)(b:β),l₁[i]?=some a->l₂[i]?=some b->F a b)->Paired F l₁ l₂
 | [],[],_,_=>.nil
 | a::l₁,b::l₂,h,f=>.cons (f 0 a b rfl rfl) (lM (by simpa using h) fun i a b e1 e2=>f (i+1) a b (by simpa using e1) (by simpa using e2))
 | [],_::_,h,_=>by simp at h
 | _::_,[],h,_=>by simp at h
theorem UL (h:(cF P w).is k u=true):RelV (kV k) u:=by
 rcases c7 h with ⟨i,t,rfl,rfl⟩|⟨x,t,rfl,rfl⟩
 ·exact ⟨t,rfl⟩
 ·exact ⟨t,rfl⟩
section
variable {X:Cx}
inductive Z6 (xs:ε)(H:Hp)(Q:VK):Prop
|mk (p:abj)(kvs:ι)(_:xs=[.ref p])(_:Rd H p (.dK kvs))(_:∀l,H l=none->Q (.ref l) (upd H l (.lst (kvs.map fun kv=>kV kv.1))))
theorem yw (hc:X.calm=true):mR X (.type "list") Z6:=by
 intro pins s σ H xs us Q I r h;obtain ⟨p,kvs,rfl,hq,q⟩:=h;obtain ⟨u,rfl,r1⟩:=vals1 r;cases r1;obtain ⟨z,hd,vs,rel,o,es,ep,ho,hx,yr,hk,hp,hn⟩:=yn I.cg hq;have hl:=rel.length;refine yu (knd:=cF X.prog X.w) (I.ok.hd hc) hd ⟨o,es,ho,hx,yr,hk,hp,hn⟩ (by omega) fun h' tk nZ c' kk hS NM=>?_;have hn':=I.cg.fresh (aaM s.heap.objs.size)
 have rv:Vals (kvs.map fun kv=>kV kv.1) nZ.toList:=lM (by have:=NM.1;simp;omega) fun i a b e1 e2=>by
  rw [aaU] at e1;obtain ⟨kv,ek,rfl⟩:=ab_.mp e1;obtain ⟨q',eq,e3,_⟩:=aY rel ek;obtain ⟨k,x,e4,e5⟩:=NM.2 i b (by simpa using e2);rw [eq] at e4;cases e4;rw [e3];exact UL e5
 have I2:Inv X pins σ (upd H s.heap.objs.size (.lst (kvs.map fun kv=>kV kv.1))) {s with heap:=h',toks:=tk}:=I.laid (t':=tk) kk (aaM _) ⟨by rw [ir];exact z,nZ.toList,c',rv,by simpa using hS⟩;exact ⟨.ref _,_,I2,rfl,q _ hn'⟩
theorem Inv.freeze {σ:L2.St}(I:Inv X pins σ H s)(e:H d=some (.dK kvs))(ho:s.heap.get? d=some o):Inv X pins σ (upd H d (.iT o (.dK kvs))) s:=by
 have nx:∀b u,H b=some u->b≠d->upd H d (.iT o (.dK kvs)) b=some u:=fun b u q n=>by rw [ah n];exact q
 refine I.step (g':=s.gens) (t':=s.toks) (d':=s.drawn) (ch:=[]) (fun _ z=>nomatch z) (fun b o _ _ _ e _=>e) (fun b o _ _ _ e _=>⟨o.slots,e⟩) (fun b o _ _ n=>by rw [ah (fun z=>by rw [z,e] at n;cases n)];exact n) (fun b o _ e=>⟨o,e⟩)
  (fun b xs q=>nx b _ q fun z=>by rw [z,e] at q;cases q) (fun b o' u q=>nx b _ q fun z=>by rw [z,e] at q;cases q) (fun b ps q=>⟨#[],by rw [nx b _ q fun z=>by rw [z,e] at q;cases q];simp⟩) (fun m hm=>hm) (fun b u q=>?_) I.bare
 by_cases hb:b=d
 ·subst hb
  rw [ai] at q;cases q;exact ⟨ho,I.cg b _ e⟩
 ·rw [ah hb] at q
  exact (I.cg b u q).rW (fun _ _ _ k=>k) (fun c k=>nx c _ k fun z=>by rw [z,e] at k;cases k) fun c xs k=>nx c _ k fun z=>by rw [z,e] at k;cases k
def Itd (d:abj)(o:Obj)(kvs:ι):It:=
 ⟨fun i H=>H d=some (.iT o (.dK kvs))/\i<kvs.length,
  fun i H v H'=>∃p k x,kvs[i]?=some (k,x)/\v=.ref p/\H p=none/\H'=upd H p (.tup [kV k,x]),
  fun i H=>H d=some (.iT o (.dK kvs))/\kvs.length<=i⟩
theorem Z7 (ok:mh P w H h)(e:H d=some (.iT o (.dK kvs)))(he:o.data=.dict es0 ep):
  (d==acy)=false/\∃vs,KV kvs vs/\h.DictAt (cF P w) d vs ep/\kvs.length<=abl:=by
 obtain ⟨h1,z,hd,vs,rel,o',es,MD,ho,hx,yr,hk,hp,hn⟩:=ok d _ e;rw [h1] at ho;cases ho;rw [he] at yr;cases yr;exact ⟨hd,vs,rel,⟨o,es0,h1,hx,he,hk,hp,hn⟩,z⟩
theorem uM:entryFor table "dict_itemiterator.__iter__"=some Builtin.«dict_keyiterator.__iter__»:=
 entryFor_alias (id':="dict_keyiterator.__iter__") (by kernel_rfl) (by first|rfl|decide+kernel|(unfold String.splitOn;simp+decide [String.splitOnAux])) (by decide+kernel) (by kernel_rfl)
theorem RA {E:γ}{Q:γ}(st:IsItemIter s.heap it d i n ep ok ov)(h:Q (.ref it) s):abz (abx P w) A (pyIter (.ref it)) Q E s:=by
 have hT:s.TypeIs (.ref it) "dict_itemiterator":=⟨_,st,rfl⟩;refine wpAny_pyIter_slot hT F.slot_dict_itemiterator_iter (wpAny_call_entry F.slot_dict_itemiterator_iter hT uM ?_ (F.args_dict_itemiterator_iter_1 _));show abz _ _ (ret (.ref it)) _ _ s;exact abC ⟨_,rfl,"dict_itemiterator",_,hT,F.slot_dict_itemiterator_next.lookup,h⟩
theorem RB {K:Frag}{es:π}(d it:abj)(o:Obj)(kvs:ι)(he:o.data=.dict es0 ep)(hne:it≠d):
  Turn P w K (.Tuple es k pos) (Itd d o kvs) [it] it (fun i h=>∃ok ov,IsItemIter h it d i kvs.length ep ok ov) where
 mem:=by simp
 obj:=fun i h st b hb=>by
  have e:b=it:=by simpa using hb
  subst e;obtain ⟨ok,ov,st⟩:=st;exact ⟨_,st,fun v z=>by cases z⟩
 keep:=fun i h h' st k=>by
  obtain ⟨ok,ov,st⟩:=st;exact ⟨ok,ov,k it (by simp) _ st⟩
 item:=by
  intro X hP hw hK hc i pins s σ H E I hf st hg;subst hP hw hK;obtain ⟨ok,ov,st⟩:=st;obtain ⟨fz,hi⟩:=hg;obtain ⟨hd,vs,rel,da,_⟩:=Z7 I.cg fz he;have ek:kvs[i]?=some kvs[i]:=gE hi;obtain ⟨⟨k',u⟩,ev,e1,ru⟩:=aY rel ek;have lv:=rel.length;rw [lv] at st;refine wpAny_pyNext_items_item st da ev fun key h' aj' out tup sz kk=>?_;refine ⟨_,rfl,wpAny_letOwnedTupleGo_items (s:={s with heap:=h'}) out fun h'' axx sb=>?_⟩;have hsz:∀c o,s.heap.get? c=some o->s.heap.objs.size≠c:=fun c o e=>amY (abB e);have tz:s.heap.objs.size≠it:=hsz _ _ st;have nz:∀c,c≠it->∀o,h'.get? c=some o->h''.get? c=some o:=fun c hc o e=>(sb.2 c hc).trans e;have hn:=I.cg.fresh (aaM s.heap.objs.size);have e1':kvs[i].1=k':=e1
  have I2:Inv X pins σ (upd H s.heap.objs.size (.tup [kV kvs[i].1,kvs[i].2])) {s with heap:=h'',toks:=s.toks}:=
   Inv.HJ I (fun b o hb e=>nz b (by simpa using hb) o (kk b o (by simpa using hb) e)) hf (aaM _) (by show 2<=abl;decide) (its:=[key,u]) (.cons (by rw [e1'];exact UL aj') (.cons ru .nil)) ⟨_,nz _ tz _ tup,rfl,_,rfl⟩
  refine ⟨.ref s.heap.objs.size,_,I2,rfl,⟨s.heap.objs.size,kvs[i].1,kvs[i].2,ek,rfl,hn,rfl⟩,⟨_,_,by rw [lv];exact axx⟩,fun b hb=>?_⟩;have eb:b=it:=by simpa using hb
  rw [ah (by rw [eb];exact ac2 tz)];exact (hf b hb).1
 done:=by
  intro X hP hw hK hc i pins s σ H E I hf st hg;subst hP hw hK;obtain ⟨ok,ov,st⟩:=st;obtain ⟨fz,hi⟩:=hg;obtain ⟨hd,vs,rel,da,_⟩:=Z7 I.cg fz he;have lv:=rel.length;rw [lv] at st;obtain ⟨f0,f1,f2,f3,f4,f5⟩:=hf it (by simp);exact wpAny_pyNext_items_end (I.ok.hd hc) st da (ac7 (by omega)) fun h' eb=>⟨rfl,I.turned (t':=s.toks) (fun b o hb e=>eb b o hb e) f0 f1 f3 f4 f5⟩
 self:=fun _ _ _ _ _ st h=>by
  obtain ⟨ok,ov,st⟩:=st;exact RA st h
inductive UM (R:(It->Hp->Prop))(x:V)(H1:Hp):Prop
|mk (d kvs:_)(_:x=.ref d)(_:H1 d=some (.dK kvs))(_:∀o,R (Itd d o kvs) (upd H1 d (.iT o (.dK kvs))))
def akE (te:TE):TI:=fun σ H R=>te σ H fun x H1=>UM R x H1
theorem yx {apos ki:Pos}{es:π}{k:Nat}{MR:Pos}(ho:PE X e te)(xX:ads e "items" X.env (abU e X.env)=abU e X.env:=by rfl)(Zn:(apos.endLine==ki.line)=true:=by rfl):
  PI X (.Tuple es k MR) (.Call (.Attribute e "items" apos) [] [] ki) (akE te):=by
 intro pins s σ H R I h;refine wpAny_Call_method0_late xX Zn (du (ho pins s σ H _ I h) fun v s1 ⟨x,H1,I1,r1,q1⟩=>?_);obtain ⟨d,kvs,rfl,e,q⟩:=q1;cases r1;obtain ⟨z,hd,vs,rel,o,es1,ep,ho1,hx,yr,hk,hp,hn⟩:=Z2 I1.cg e;obtain ⟨h1,h2⟩:=Zm (T:="dict") I1 (show RelV (.ref d) (.ref d) from rfl) (.inr (.inr (.inl ⟨rfl,.inl ⟨kvs,e⟩⟩)));have da:s1.heap.DictAt (cF X.prog X.w) d vs ep:=⟨o,es1,ho1,hx,yr,hk,hp,hn⟩;have lv:=rel.length;refine ⟨"dict","dict.items",F.plainAttrs_dict,F.slot_dict_items,F.type_dict_items,h1,h2,Calls.callWith_builtin rfl (PySem.evalArgs_none ?_)⟩;refine call_meetsIn F.slot_dict_items h1 F.entry_dict_items (F.args_dict_items_1 _) (meets_dict_items (cF X.prog X.w) d hd) ⟨⟨vs,da.dictOf⟩,?_⟩;have I2:=Inv.freeze I1 e ho1;have da2:(s1.heap.push {cls:=.type "dict_items",data:=.fields #[.ref d]}).DictAt (cF X.prog X.w) d vs ep:=da.at' fun o e=>abr _ e;show abz (abx X.prog X.w) X.A (pyIter (.ref s1.heap.objs.size)) _ _ _;refine wpAny_pyIter_items (s:={s1 with heap:=s1.heap.push {cls:=.type "dict_items",data:=.fields #[.ref d]}}) ⟨_,abI _ rfl,rfl,rfl⟩ da2 ?_;have sz:(s1.heap.push {cls:=.type "dict_items",data:=.fields #[.ref d]}).objs.size=s1.heap.objs.size+1:=ady ..
 have ne:(s1.heap.push {cls:=.type "dict_items",data:=.fields #[.ref d]}).objs.size≠d:=by
  rw [sz];exact ac2 (ac9 (Nat.lt_succ_of_lt (abB ho1)))
 have I3:Inv X pins σ (upd H1 d (.iT o (.dK kvs))) {s1 with heap:=(s1.heap.push {cls:=.type "dict_items",data:=.fields #[.ref d]}).push {cls:=.type "dict_itemiterator",data:=.fields #[.none,.bool false,.ref d,.int 0 0,.int vs.length 0,.int ep 0,.none,.none]}}:=I2.kept (t':=s1.toks) fun b o e=>abr _ (abr _ e);refine ⟨_,[_],_,_,_,rfl,I3,RB d _ o kvs yr ne,⟨_,_,by rw [lv];exact abI _ rfl⟩,fun b hb=>?_,q o⟩;have eb:b=(s1.heap.push {cls:=.type "dict_items",data:=.fields #[.ref d]}).objs.size:=by simpa using hb
 have le:s1.heap.objs.size<=b:=by rw [eb,sz];exact ahf _
 exact I2.GF le (I2.cg.fresh le)
end
end Ty
namespace Ty
def ev:List Int->(Nat->Rat)->Rat
 | [],_=>0
 | a::r,z=>(a:Rat)*z 0+ev r (fun i=>z (i+1))
end Ty
namespace Ty
open PySem PySem.Spec PyProof.Rows L2
def Itn (K:Frag)(a:abj):It:=
 ⟨fun i H=>∃xs x,aZ K H a xs/\xs[i]?=some x,
  fun i H v H'=>∃p x,(∀xs,aZ K H a xs->xs[i]?=some x)/\v=.ref p/\H p=none/\H'=upd H p (.tup [.int (i:Int),x]),
  fun i H=>∃xs,aZ K H a xs/\xs.length<=i⟩
theorem V3 {K:Frag}{es:π}(a e it:abj)(hne:e≠it):
  Turn P w K (.Tuple es k pos) (Itn K a) [e,it] e (fun i h=>(∃old,IsEnum h e it ((i:Nat):Int) old)/\h.IsListIter it a i) where
 mem:=by simp
 obj:=fun i h st c hc=>by
  obtain ⟨⟨old,he⟩,⟨o1,e1,c1,d1⟩⟩:=st;have GD :c=e\/c=it:=by simpa using hc
  rcases GD with z|z<;>subst z
  ·exact ⟨_,he,fun v z=>by cases z⟩
  ·exact ⟨_,e1,fun v z=>by rw [d1] at z;cases z⟩
 keep:=fun i h h' st k=>by
  obtain ⟨⟨old,he⟩,h1⟩:=st;exact ⟨⟨old,k e (by simp) _ he⟩,h1.at fun o e=>k it (by simp) o e⟩
 item:=by
  intro X hP hw hK hc i pins s σ H E I hf st hg;subst hP hw hK;obtain ⟨⟨old,he⟩,h1⟩:=st;obtain ⟨xs,x,qx,ex⟩:=hg;obtain ⟨its,rv,p,_⟩:=I.list qx;obtain ⟨u,hu,ru⟩:=rv.get ex;refine wpAny_pyNext_enum_item he h1 p.isList (x:=u) (by simpa using hu) hne fun h' a1 a2 a3 a4 a5=>?_;refine ⟨_,rfl,wpAny_letOwnedTupleGo_enum (s:={s with heap:=h',toks:=s.toks+1}) a1 fun h'' b1 sb=>?_⟩;have nz:∀c,c≠e->∀o,h'.get? c=some o->h''.get? c=some o:=fun c hc o q=>(sb.2 c hc).trans q
  have kk:∀b o,b∉[e,it]->s.heap.get? b=some o->h''.get? b=some o:=fun b o hb q=>by
   have xq :b≠e/\b≠it:=by simpa using hb
   exact nz b xq.1 o (a5 b o xq.1 xq.2 q)
  have sz:∀c o,s.heap.get? c=some o->s.heap.objs.size≠c:=fun c o q=>amY (abB q);have tz:s.heap.objs.size≠e:=sz _ _ he;have hn:=I.cg.fresh (aaM s.heap.objs.size)
  have I2:Inv X pins σ (upd H s.heap.objs.size (.tup [.int (i:Int),x])) {s with heap:=h'',toks:=s.toks+1}:=
   Inv.HJ I kk hf (aaM _) (by show 2<=abl;decide) (its:=[.int i s.toks,u]) (.cons ⟨_,rfl⟩ (.cons ru .nil)) ⟨_,nz _ tz _ a3,rfl,_,rfl⟩
  refine ⟨.ref s.heap.objs.size,_,I2,rfl,⟨s.heap.objs.size,x,fun xs' q=>by rw [I.nI q qx];exact ex,rfl,hn,rfl⟩,⟨⟨_,by exact b1⟩,a2.at fun o q=>nz _ (ac2 hne) o q⟩,fun b hb=>?_⟩
  have ob:∃o,s.heap.get? b=some o:=by
   obtain ⟨o1,e1,_⟩:=h1;have GD :b=e\/b=it:=by simpa using hb
   rcases GD with z|z<;>subst z
   ·exact ⟨_,he⟩
   ·exact ⟨_,e1⟩
  obtain ⟨o,q⟩:=ob;rw [ah (ac2 (sz _ _ q))];exact (hf b hb).1
 done:=by
  intro X hP hw hK hc i pins s σ H E I hf st hg;subst hP hw hK;obtain ⟨⟨old,he⟩,h1⟩:=st;obtain ⟨xs,qx,ee⟩:=hg;obtain ⟨its,rv,p,_⟩:=I.list qx;have l1:=rv.length;refine wpAny_pyNext_enum_end (I.ok.hd hc) he h1 p.isList (by simp;omega) fun h' kk=>⟨rfl,Inv.UK I (fun b o hb q=>?_) hf⟩;have xq :b≠e/\b≠it:=by simpa using hb
  exact kk b o xq.2 q
 self:=fun _ _ _ _ _ st h=>by
  obtain ⟨⟨old,he⟩,_⟩:=st;exact wpAny_pyIter_enum he h
theorem boot_enumerate:ab2 "enumerate"=some (.type "enumerate"):=by decide+kernel
section
variable {X:Cx}
inductive Z8 (K:Frag)(R:(It->Hp->Prop))(vs:ε)(H1:Hp):Prop
|mk (a:_)(_:vs=[.ref a])(_:(∃xs,aZ K H1 a xs))(_:R (Itn K a) H1)
def apd (K:Frag)(ta:TA):TI:=fun σ H R=>ta σ H fun vs H1=>Z8 K R vs H1
theorem UN {es:π}(hg:Gl X "enumerate")(hm:X.mg "enumerate"=none)(ha:PA X [e1] ta)(hs:abF [e1] X.env=[(false,abU e1 X.env)]:=by rfl):
  PI X (.Tuple es k MR) (.Call (.Name "enumerate" p) [e1] [] pos) (apd X.K ta):=by
 intro pins s σ H R I h;refine Call_ (uE I hg hm boot_enumerate (acB (du (ha pos pins s σ H _ I h) fun us s1 ⟨vs,H1,I1,r1,q1⟩=>?_) hs rfl));obtain ⟨a,e,⟨xs,hx⟩,q⟩:=q1;subst e;cases r1 with
 | cons r rr=>
  cases rr;cases r;obtain ⟨its,rv,pl,_⟩:=I1.list hx;refine call_enumerate_list pl.isList fun h' hE hI hsz hk=>wpAny_pyIter_enum (s:={s1 with heap:=h'}) hE ?_;refine ⟨s1.heap.objs.size+1,[s1.heap.objs.size+1,s1.heap.objs.size],_,_,H1,rfl,I1.kept (t':=s1.toks) hk,V3 a _ _ (Nat.succ_ne_self _),⟨⟨_,hE⟩,hI⟩,fun c hc=>?_,q⟩
  have GD :s1.heap.objs.size<=c:=by
   have:c=s1.heap.objs.size+1\/c=s1.heap.objs.size:=by simpa using hc
   simp only [abj] at*;omega
  exact I1.GF GD (I1.cg.fresh GD)
end
theorem Z9 {K:Frag}{g:TG}{tb:TS}{D:Ends}(Pv:Nat->L2.St->Hp->Prop)(h0:Pv 0 σ H)(hl:∀i σ H,i<=xs.length->Pv i σ H->aZ K H a xs)
  (hs:∀i x σ H p,xs[i]?=some x->Pv i σ H->H p=none->g (.ref p) σ (upd H p (.tup [.int (i:Int),x])) fun σ2 H2=>tb {D with nx:=Pv (i+1),ct:=Pv (i+1),bk:=D.nx} σ2 H2) (hd:∀σ H,Pv xs.length σ H->D.nx σ H):
  ∃W:Nat->Nat->L2.St->Hp->Prop,(∃m,W 0 m σ H)/\∀i m σ H,W i m σ H->
   ((Itn K a).stop i H/\D.nx σ H)\/((Itn K a).go i H/\∃N:L2.St->Hp->Prop,(∀σ' H',N σ' H' ->∃m',m'<m/\W (i+1) m' σ' H')/\∀x H',(Itn K a).yld i H x H' ->g x σ H' fun σ2 H2=>tb {D with nx:=N,ct:=N,bk:=D.nx} σ2 H2):=by
 refine ⟨fun i m σ H=>m=xs.length-i/\i<=xs.length/\Pv i σ H,⟨xs.length,by simp,aer _,h0⟩,?_⟩;rintro i m σ H ⟨rfl,hi,p⟩;have q:=hl i σ H hi p;by_cases AQ:i<xs.length
 ·have e:xs[i]?=some xs[i]:=gE AQ
  refine .inr ⟨⟨xs,_,q,e⟩,Pv (i+1),fun σ' H' z=>⟨xs.length-(i+1),by omega,rfl,by omega,z⟩,fun x H' y=>?_⟩;obtain ⟨pp,x',y1,rfl,np,rfl⟩:=y;exact hs i x' σ H pp (y1 xs q) p np
 ·have e:i=xs.length:=by omega
  subst e;exact .inl ⟨⟨xs,q,aaM _⟩,hd σ H p⟩
theorem uN {g:TG}{tb:TS}{D:Ends}(Pv:Nat->L2.St->Hp->Prop)(h0:Pv 0 σ H)(hl:∀i σ H,i<=kvs.length->Pv i σ H->H d=some (.iT o (.dK kvs)))
  (hs:∀i k x σ H p,kvs[i]?=some (k,x)->Pv i σ H->H p=none->g (.ref p) σ (upd H p (.tup [kV k,x])) fun σ2 H2=>tb {D with nx:=Pv (i+1),ct:=Pv (i+1),bk:=D.nx} σ2 H2) (hd:∀σ H,Pv kvs.length σ H->D.nx σ H):
  ∃W:Nat->Nat->L2.St->Hp->Prop,(∃m,W 0 m σ H)/\∀i m σ H,W i m σ H->
   ((Itd d o kvs).stop i H/\D.nx σ H)\/((Itd d o kvs).go i H/\∃N:L2.St->Hp->Prop,(∀σ' H',N σ' H' ->∃m',m'<m/\W (i+1) m' σ' H')/\∀x H',(Itd d o kvs).yld i H x H' ->g x σ H' fun σ2 H2=>tb {D with nx:=N,ct:=N,bk:=D.nx} σ2 H2):=by
 refine ⟨fun i m σ H=>m=kvs.length-i/\i<=kvs.length/\Pv i σ H,⟨kvs.length,by simp,aer _,h0⟩,?_⟩;rintro i m σ H ⟨rfl,hi,p⟩;have q:=hl i σ H hi p;by_cases AQ:i<kvs.length
 ·refine .inr ⟨⟨q,AQ⟩,Pv (i+1),fun σ' H' z=>⟨kvs.length-(i+1),by omega,rfl,by omega,z⟩,fun x H' y=>?_⟩
  obtain ⟨pp,k,x',y1,rfl,np,rfl⟩:=y;exact hs i k x' σ H pp y1 p np
 ·have e:i=kvs.length:=by omega
  subst e;exact .inl ⟨⟨q,aaM _⟩,hd σ H p⟩
open Builtin.Int (intBits)
theorem au.cy {K:Frag}(e:au H H')(h:dG K H a xs):dG K H' a xs:=by
 rcases h with (h|⟨o,h⟩)|h
 ·exact .inl (.inl (e _ _ h))
 ·exact .inl (.inr ⟨o,e _ _ h⟩)
 ·exact .inr h
def uz (K:Frag)(H:Hp)(v:V)(q:Int×Int):Prop:=∃p,v=.ref p/\dG K H p [.int q.1,.int q.2]
theorem uz.same {K:Frag}(h:uz K H v q)(s:au H H'):uz K H' v q:=by
 obtain ⟨p,e,k⟩:=h;exact ⟨p,e,Ty.au.cy s k⟩
section
variable {X:Cx}
inductive ahu (xs:ε)(H:Hp)(Q:VK):Prop
|mk (p:abj)(kvs:ι)(_:xs=[.ref p])(_:Rd H p (.dK kvs))(_:Q (.int (kvs.length:Int)) H)
theorem FA:mR X (.builtin "len") ahu:=by
 intro pins s σ H xs us Q I r h;obtain ⟨p,kvs,rfl,hq,q⟩:=h;obtain ⟨u,rfl,r1⟩:=vals1 r;cases r1;exact ao5 I hq fun t s' I'=>⟨.int _,H,I',⟨t,rfl⟩,q⟩
end
section
variable {X:Cx}
theorem Inv.ape {σ:L2.St}(I:Inv X pins σ H s)(e:H d=some (.iT o u))(n:∀o' u',X.H₀ d≠some (.iT o' u'))(nt:∀xs,u≠.tup xs):Inv X pins σ (upd H d u) s:=by
 have nx:∀b u',H b=some u' ->b≠d->upd H d u b=some u':=fun b u q n=>by rw [ah n];exact q
 have nn:∀b,H b=none->upd H d u b=none:=fun b q=>by rw [ah (fun z=>by rw [z,e] at q;cases q)];exact q
 refine ⟨I.ok,I.os,I.bare,⟨I.base.keep,I.base.slot,fun b ob q z hx=>nn b (I.base.free b ob q z hx),I.base.there,fun b xs q=>?_,fun b ob u' q=>?_,fun b ps q=>?_⟩,I.loc,I.cell,nn _ I.free,fun x c q=>nn _ (I.jN x c q),fun p hp=>?_,?_,I.len⟩
 ·have z:=I.base.m9 b xs q
  exact nx b _ z fun y=>by rw [y,e] at z;cases z
 ·have z:=I.base.mj b ob u' q
  exact nx b _ z fun y=>by rw [y] at q;exact n _ _ q
 ·obtain ⟨m,z⟩:=I.base.m_ b ps q
  exact ⟨m,nx b _ z fun y=>by rw [y,e] at z;cases z⟩
 ·obtain ⟨a1,a2,a3⟩:=I.pin p hp
  exact ⟨a1,nn _ a2,a3⟩
 ·have st:∀{b u'},bX X.prog X.w H s.heap b u' ->bX X.prog X.w (upd H d u) s.heap b u':=fun {b u'} k=>k.rW (fun _ _ _ z=>z) (fun c z=>nx c _ z fun y=>by rw [y,e] at z;cases z) fun c xs z=>nx c _ z fun y=>by rw [y,e] at z;cases z
  intro b u' q;by_cases hb:b=d
  ·subst hb
   rw [ai] at q;cases q;exact st (I.cg b _ e).2
  ·rw [ah hb] at q
   exact st (I.cg b u' q)
def apf (H0:Hp)(t:TS):TS:=fun D σ H=>t {D with nx:=fun σ' H'=>∃d o kvs,H' d=some (.iT o (.dK kvs))/\(∀o' u',H0 d≠some (.iT o' u'))/\D.nx σ' (upd H' d (.dK kvs))} σ H
theorem UO {st:Stmt}(h:PS X st t):PS X st (apf X.H₀ t):=by
 intro pins s σ H D I q;refine abH (h pins s σ H _ I q) (fun f s' z=>?_) fun _ _ z=>z;cases f with
 | next=>
  obtain ⟨σ',H',I',d,o,kvs,e,n,k⟩:=z;exact ⟨σ',_,Inv.ape I' e n (fun _ z=>nomatch z),k⟩
 | brk=>exact z
 | cont=>exact z
 | ret u=>exact z
end
structure akF (K:Frag)(x qual:Str)(st:Stmt)(f:abj)(fd:FuncData):Prop where
 ex:∃(dV oc:Value)(od:ς)(kV doc pm:Value)(an:ς)(cdv ct:Value)(qG:Δ),
  fd=fnOf x qual (av st) (aq st) (aa st) dV kV doc pm an cdv ct/\K.lookup f=some ⟨oc,od,.func fd,qG⟩/\codeIn K cdv qual=true
 kp:keepIn K (.ref f)=true
section
variable {P:abJ}{w:World}{K:Frag}{mg:ζ}{base:Heap}{CX:uI}
theorem ae6 {st:Stmt}{od an:ς}{qG:Δ}{kV doc pm cdv ct:Value}(l:K.lookup f=some ⟨oc,od,.func (fnOf x qual (av st) (aq st) (aa st) dV kV doc pm an cdv ct),qG⟩)
  (c:codeIn K cdv qual=true) (k:keepIn K (.ref f)=true):akF K x qual st f (fnOf x qual (av st) (aq st) (aa st) dV kV doc pm an cdv ct):=⟨⟨dV,oc,od,kV,doc,pm,an,cdv,ct,qG,rfl,l,c⟩,k⟩
theorem ae7 {st:Stmt}(F:mf K name qual st f fd)(S:aC N ps (aa st))(len:∀vs H Q E,sp vs H Q E->vs.length=ps.length)
  (gv:∀(cdv:Value)(A:abM)(outer:List Env)(s:abw)(H:Hp)(vs:ε)(Q:VK)(E:XK),cV k (A.deeper (aca qual (aa st) s.heap.objs.size f cdv))->sp vs H Q E->
   ∃t,PSs (hZ P w K mg base N qual (aa st) f cdv A outer s H E).wm (aq st) t/\t {nx:=fun _ H'=>Q .bG H',rt:=Q} (start N vs) H):bT P w K mg base (aT P w) (k+1) f fd ps sp:=by
 obtain ⟨oc,od,kV,doc,pm,an,cdv,ct,qG,rfl,lk,uD⟩:=F.ex
 exact xV lk uD S len fun A outer s H vs Q E hr EL=>by
  obtain ⟨t,h,q⟩:=gv cdv A outer s H vs Q E hr EL;exact ⟨t,h.wm,q⟩
end
theorem dX {κ:Type}[DecidableEq κ]{k:κ}:∀{kvs:List (κ×V)},k∉kvs.map (·.1)->fb kvs k=none
 | [],_=>rfl
 | p::r,h=>by
  rw [ada,aa3,not_or] at h;rw [jd (fun e=>h.1 e.symm)];exact dX h.2
theorem lO {κ:Type}[DecidableEq κ]{k:κ}:∀{kvs:List (κ×V)},k∈kvs.map (·.1)->∃v,fb kvs k=some v
 | p::r,h=>by
  by_cases e:p.1=k
  ·exact ⟨_,jQ e⟩
  ·rw [jd e]
   rw [ada,aa3] at h
   rcases h with h|h
   ·exact abo h.symm e
   ·exact lO h
structure Z_ (K:Frag)(C:abj):Prop where
 cls:xQ K C
 pl:dQ K C "pin_places"
 wy:dQ K C "pin_ways"
 br:dQ K C "bar_ends"
abbrev frF (pP pW pB:abj):List (Str×V):=[("pin_places",.ref pP),("pin_ways",.ref pW),("bar_ends",.ref pB)]
abbrev Pt:=(Int×Int)×(Int×Int)
abbrev _root_.χ:=List (Str×Pt)
abbrev ij (p:Pt):List Da:=[.t [.v (.int p.1.1),.v (.int p.1.2)],.t [.v (.int p.2.1),.v (.int p.2.2)]]
def bf (H H':Hp):Prop:=∀b xs,Rd H b (.tup xs)->Rd H' b (.tup xs)
theorem bf.of (s:au H H'):bf H H':=fun b xs e=>by
 rcases e with e|⟨o,e⟩
 ·exact .inl (s _ _ e)
 ·exact .inr ⟨o,s _ _ e⟩
theorem bf.trans (a:bf H H1)(b:bf H1 H2):bf H H2:=fun c xs e=>b c xs (a c xs e)
theorem bf.dict (e:H d=some (.dK kvs)):bf H (upd H d o):=fun b xs r=>by
 rcases r with r|⟨o,r⟩
 ·exact .inl (by rw [ah (fun z=>by rw [z,e] at r;cases r)];exact r)
 ·exact .inr ⟨o,by rw [ah (fun z=>by rw [z,e] at r;cases r)];exact r⟩
theorem bf.list (e:H d=some (.lst xs)):bf H (upd H d o):=fun b xs r=>by
 rcases r with r|⟨o,r⟩
 ·exact .inl (by rw [ah (fun z=>by rw [z,e] at r;cases r)];exact r)
 ·exact .inr ⟨o,by rw [ah (fun z=>by rw [z,e] at r;cases r)];exact r⟩
theorem bf.cy {K:Frag}(s:bf H H')(q:dG K H p xs):dG K H' p xs:=by
 rcases q with q|q
 ·exact .inl (s _ _ q)
 ·exact .inr q
theorem uz.aQ {K:Frag}(h:uz K H v q)(s:bf H H'):uz K H' v q:=by
 obtain ⟨p,e,k⟩:=h;exact ⟨p,e,s.cy k⟩
def Spot (K:Frag)(H:Hp)(v:V)(p:Pt):Prop:=∃a u1 u2,v=.ref a/\dG K H a [u1,u2]/\uz K H u1 p.1/\uz K H u2 p.2
theorem Spot.aQ {K:Frag}(h:Spot K H v p)(s:bf H H'):Spot K H' v p:=by
 obtain ⟨a,u1,u2,e,h1,h2,h3⟩:=h;exact ⟨a,u1,u2,e,s.cy h1,h2.aQ s,h3.aQ s⟩
theorem HL {K:Frag}(h:uz K H v q):Is K H (.t [.v (.int q.1),.v (.int q.2)]) v:=by
 obtain ⟨p,rfl,e⟩:=h;unfold Is;refine ⟨p,_,rfl,e,?_⟩;unfold km;refine ⟨by unfold Is;exact ⟨rfl,rfl⟩,?_⟩;unfold km;refine ⟨by unfold Is;exact ⟨rfl,rfl⟩,?_⟩;unfold km;trivial
theorem Spot.is {K:Frag}(h:Spot K H v p):Is K H (.t (ij p)) v:=by
 obtain ⟨a,u1,u2,rfl,h1,h2,h3⟩:=h;unfold Is;refine ⟨a,_,rfl,h1,?_⟩;unfold km;refine ⟨HL h2,?_⟩;unfold km;refine ⟨HL h3,?_⟩;unfold km;trivial
theorem yy (p q:Pt):gZ (ij p) (ij q)=decide (p=q):=by
 have e:gZ (ij p) (ij q)=((p.1.1==q.1.1 && (p.1.2==q.1.2 && true)) && ((p.2.1==q.2.1 && (p.2.2==q.2.2 && true)) && true)):=by
  simp only [ij,gZ,kX,AR]
 rw [e];obtain ⟨⟨a,b⟩,c,d⟩:=p;obtain ⟨⟨a',b'⟩,c',d'⟩:=q;by_cases h:a=a' <;> by_cases h1:b=b' <;> by_cases h2:c=c' <;> by_cases h3:d=d' <;> simp [h,h1,h2,h3,Prod.mk.injEq]
theorem n_ (p q:Pt):gN (ij p) (ij q)=true:=by simp [ij,gN,alike]
theorem pq (p:Pt):kY (ij p)<=60:=by simp [ij,kY,dep]
structure jr (K:Frag)(H:Hp)(C a dx pP pW pB:abj)(ps:χ)(bs:ο)(kP kW kB:ι):Prop where
 obj:H a=some (.ins C dx (frF pP pW pB))
 pl:H pP=some (.dK kP)
 wy:H pW=some (.dK kW)
 br:H pB=some (.dK kB)
 ne1:pP≠pW
 ne2:pP≠pB
 ne3:pW≠pB
 rp:Paired (fun (p:Str×Pt) (kv:Key×V)=>kv.1=.inr p.1/\Spot K H kv.2 p.2) ps kP
 rb:Paired (fun (b:Str×Str×Str) (kv:Key×V)=>kv.1=.inr b.1/\∃p,kv.2=.ref p/\Rd H p (.tup [.str b.2.1,.str b.2.2])) bs kB
section
variable {K:Frag}{H H':Hp}{C a dx pP pW pB:abj}{ps:χ}{bs:ο}{kP kW kB:ι}
theorem kE {R:(Str×α)->(Key×V)->Prop}:∀{l:List (Str×α)} {kvs:ι},Paired (fun b kv=>kv.1=.inr b.1/\R b kv) l kvs->kvs.map (·.1)=l.map (fun b=>(afG b.1:Key))
 | _,_,.nil=>rfl
 | _,_,.cons h t=>by rw [ada,ada,h.1,kE t]
theorem fu {l:η}:(afG x:Key)∈l.map (fun b=>(afG b:Key)) ↔ x∈l:=by
 constructor
 ·intro h
  obtain ⟨y,hy,e⟩:=ac3.mp h;exact ahR e▸hy
 ·exact fun h=>ac3.mpr ⟨x,h,rfl⟩
theorem jr.Z' (R:jr K H C a dx pP pW pB ps bs kP kW kB)(s:bf H H')(h1:H' a=H a)(h2:H' pP=H pP)(h3:H' pW=H pW)(h4:H' pB=H pB):jr K H' C a dx pP pW pB ps bs kP kW kB:=
 ⟨h1.trans R.obj,h2.trans R.pl,h3.trans R.wy,h4.trans R.br,R.ne1,R.ne2,R.ne3,Paired.bJ R.rp fun _ _ h=>⟨h.1,h.2.aQ s⟩,Paired.bJ R.rb fun _ _ h=>⟨h.1,by obtain ⟨p,e,k⟩:=h.2;exact ⟨p,e,s _ _ k⟩⟩⟩
theorem jr.same (R:jr K H C a dx pP pW pB ps bs kP kW kB)(s:au H H'):jr K H' C a dx pP pW pB ps bs kP kW kB:=
 R.Z' (.of s) ((s _ _ R.obj).trans R.obj.symm) ((s _ _ R.pl).trans R.pl.symm) ((s _ _ R.wy).trans R.wy.symm) ((s _ _ R.br).trans R.br.symm)
theorem jr.UP (R:jr K H C a dx pP pW pB ps bs kP kW kB):kB.map (·.1)=(bs.map (·.1)).map (fun b=>(afG b:Key)):=by
 rw [kE R.rb,ae5];rfl
theorem jr.UQ (R:jr K H C a dx pP pW pB ps bs kP kW kB):kP.map (·.1)=(ps.map (·.1)).map (fun b=>(afG b:Key)):=by
 rw [kE R.rp,ae5];rfl
theorem jr.bar (R:jr K H C a dx pP pW pB ps bs kP kW kB)(x:Str):(fb kB (.inr x)).isSome=decide (x∈bs.map (·.1)):=by
 by_cases h:x∈bs.map (·.1)
 ·obtain ⟨v,e⟩:=lO (kvs:=kB) (k:=.inr x) (by rw [R.UP];exact fu.mpr h)
  rw [e,abu h];rfl
 ·rw [dX (by rw [R.UP];exact fun z=>h (fu.mp z)),aby h]
  rfl
theorem jr.pin (R:jr K H C a dx pP pW pB ps bs kP kW kB)(x:Str):(fb kP (.inr x)).isSome=decide (x∈ps.map (·.1)):=by
 by_cases h:x∈ps.map (·.1)
 ·obtain ⟨v,e⟩:=lO (kvs:=kP) (k:=.inr x) (by rw [R.UQ];exact fu.mpr h)
  rw [e,abu h];rfl
 ·rw [dX (by rw [R.UQ];exact fun z=>h (fu.mp z)),aby h]
  rfl
theorem jr.ab (R:jr K H C a dx pP pW pB ps bs kP kW kB):a≠pP/\a≠pW/\a≠pB:=
 ⟨fun z=>(by have h:=R.obj;rw [z,R.pl] at h;cases h),fun z=>(by have h:=R.obj;rw [z,R.wy] at h;cases h),fun z=>(by have h:=R.obj;rw [z,R.br] at h;cases h)⟩
theorem jr.akG (R:jr K H C a dx pP pW pB ps bs kP kW kB)(ht:Rd H t (.tup [.str one,.str other])):
  jr K (upd H pB (.dK (kB++[(.inr x,.ref t)]))) C a dx pP pW pB ps (bs++[(x,one,other)]) kP kW (kB++[(.inr x,.ref t)]):=by
 have s:bf H (upd H pB (.dK (kB++[(.inr x,.ref t)]))):=.dict R.br
 exact ⟨by rw [ah R.ab.2.2];exact R.obj,by rw [ah R.ne2];exact R.pl,by rw [ah R.ne3];exact R.wy,ai,R.ne1,R.ne2,R.ne3,Paired.bJ R.rp fun _ _ h=>⟨h.1,h.2.aQ s⟩,
  acA (Paired.bJ R.rb fun _ _ h=>⟨h.1,by obtain ⟨p,e,k⟩:=h.2;exact ⟨p,e,s _ _ k⟩⟩) ⟨rfl,t,rfl,s _ _ ht⟩⟩
theorem kF :∀{l:List α} {m:List β},Paired R l m->Paired (fun b a=>R a b) m l
 | _,_,.nil=>.nil
 | _,_,.cons h t=>.cons h (kF t)
theorem jr.akH (R:jr K H C a dx pP pW pB ps bs kP kW kB)(ht:Spot K H (.ref t) p):
  jr K (upd H pP (.dK (kP++[(.inr x,.ref t)]))) C a dx pP pW pB (ps++[(x,p)]) bs (kP++[(.inr x,.ref t)]) kW kB:=by
 have s:bf H (upd H pP (.dK (kP++[(.inr x,.ref t)]))):=.dict R.pl
 exact ⟨by rw [ah R.ab.1];exact R.obj,ai,by rw [ah (ac2 R.ne1)];exact R.wy,by rw [ah (ac2 R.ne2)];exact R.br,R.ne1,R.ne2,R.ne3,
  acA (Paired.bJ R.rp fun _ _ h=>⟨h.1,h.2.aQ s⟩) ⟨rfl,ht.aQ s⟩,Paired.bJ R.rb fun _ _ h=>⟨h.1,by obtain ⟨p,e,k⟩:=h.2;exact ⟨p,e,s _ _ k⟩⟩⟩
theorem jr.UR (R:jr K H C a dx pP pW pB ps bs kP kW kB)(kW':ι):jr K (upd H pW (.dK kW')) C a dx pP pW pB ps bs kP kW' kB:=by
 have s:bf H (upd H pW (.dK kW')):=.dict R.wy
 exact ⟨by rw [ah R.ab.2.1];exact R.obj,by rw [ah R.ne1];exact R.pl,ai,by rw [ah (ac2 R.ne3)];exact R.br,R.ne1,R.ne2,R.ne3,
  Paired.bJ R.rp fun _ _ h=>⟨h.1,h.2.aQ s⟩,Paired.bJ R.rb fun _ _ h=>⟨h.1,by obtain ⟨p,e,k⟩:=h.2;exact ⟨p,e,s _ _ k⟩⟩⟩
theorem yz :∀(xs:η),inV (.str x) (xs.map V.str)=decide (x∈xs)
 | []=>rfl
 | y::ys=>by
  have ih:=yz (x:=x) ys;unfold inV at ih ⊢;rw [ada,ag8,ih];by_cases e:y=x
  ·subst e
   simp [AR]
  ·have e':¬ x=y:=fun z=>e z.symm
   simp [AR,e,e']
end
open Builtin.Int (intBits)
def qr (r:Rat):Int×Int:=(r.num,(r.den:Int))
theorem js (r:Rat):0<(qr r).2:=by
 have:=r.den_pos;show (0:Int)<(r.den:Int);omega
theorem aaa (r:Rat):ae' (qr r).1 (qr r).2=1:=by
 have:=r.reduced;show ae' r.num (r.den:Int)=1;unfold ae';simpa [Nat.Coprime] using this
theorem vR (r:Rat):vl (qr r)=r:=by
 show (r.num:Rat) / ((r.den:Int):Rat)=r;rw [<-Rat.divInt_eq_div];exact Rat.num_divInt_den r
theorem US (h:0<q.2)(g:ae' q.1 q.2=1):q=qr (vl q):=akz h (js _) g (aaa _) (vR _).symm
theorem yA (h:b≠0):low t b=qr ((t:Rat) / (b:Rat)):=by
 rw [<-Z1 h];exact US (sf h) (xi h)
theorem yB (h:qr a=qr b):a=b:=by
 rw [<-vR a,<-vR b,h]
theorem oa (i:Int):qr (i:Rat)=(i,1):=by
 have e:(i,(1:Int))=qr (vl (i,1)):=US (by show (0:Int)<1;decide) (by show ae' i 1=1;simp)
 have v:vl (i,(1:Int))=(i:Rat):=by
  unfold vl;show (i:Rat) / ((1:Int):Rat)=i;have:((1:Int):Rat)=1:=by rfl
  rw [this];grind
 rw [e,v]
theorem aab :((qr r).2:Rat)≠0:=EX (ahM (js r))
theorem aac (a b:Rat):low ((qr a).1*(qr b).2+(qr b).1*(qr a).2) ((qr a).2*(qr b).2)=qr (a+b):=by
 have ha:=js a;have hb:=js b;rw [yA (ahM (ahU ha hb))];have e1:=vR a;have e2:=vR b;have z1:=aab (r:=a);have z2:=aab (r:=b);unfold vl at e1 e2;congr 1;push_cast;grind
theorem aad (a b:Rat):low ((qr a).1*(qr b).1) ((qr a).2*(qr b).2)=qr (a*b):=by
 have ha:=js a;have hb:=js b;rw [yA (ahM (ahU ha hb))];have e1:=vR a;have e2:=vR b;have z1:=aab (r:=a);have z2:=aab (r:=b);unfold vl at e1 e2;congr 1;push_cast;grind
structure Sz (k:Nat)(r:Rat):Prop where
 top:intBits (qr r).1<=k
 bot:intBits (qr r).2<=k
theorem Sz.up (h:Sz k r)(kl:k<=l):Sz l r:=⟨aah h.top kl,aah h.bot kl⟩
theorem V4 (ha:intBits a<=k)(hb:intBits b<=k):intBits (a+b)<=k+1:=by
 rw [intBits_le_iff] at ha hb ⊢;have:=Int.natAbs_add_le a b;rw [Nat.pow_succ];omega
theorem RC (hb:b≠0)(h1:intBits t<=k)(h2:intBits b<=k):Sz k ((t:Rat) / (b:Rat)):=by
 rw [<-Z1 hb];have e:=US (sf (t:=t) hb) (xi hb);exact ⟨by rw [<-e];exact intBits_le_of_natAbs (xZ hb) h1,by rw [<-e];exact intBits_le_of_natAbs (x6 hb) h2⟩
theorem ahv (hb:b≠0)(e:low t b=qr r)(h1:intBits t<=k)(h2:intBits b<=k):Sz k r:=by
 have z:=yA (t:=t) hb;rw [z] at e;have:=yB e;rw [<-this];exact RC hb h1 h2
theorem Sz.add (ha:Sz k a)(hb:Sz l b):Sz (k+l+1) (a+b):=
 ahv (ahM (ahU (js a) (js b))) (aac a b) (V4 (adB ha.top hb.bot) (by rw [Nat.add_comm];exact adB hb.top ha.bot)) (ae_ (adB ha.bot hb.bot))
theorem Sz.mul (ha:Sz k a)(hb:Sz l b):Sz (k+l) (a*b):=
 ahv (ahM (ahU (js a) (js b))) (aad a b) (adB ha.top hb.top) (adB ha.bot hb.bot)
theorem HM {i:Int}(h:i.natAbs<2^k)(hk:1<=k):Sz k (i:Rat):=by
 refine ⟨?_,?_⟩
 ·rw [oa]
  exact intBits_le_iff.mpr h
 ·rw [oa]
  refine intBits_le_iff.mpr ?_;show 1<2^k;exact Nat.one_lt_two_pow (by omega)
def jR (K:Frag)(H:Hp)(v:V)(r:Rat):Prop:=uz K H v (qr r)
def og (K:Frag)(H:Hp)(v:V)(p:Rat×Rat):Prop:=∃a u1 u2,v=.ref a/\dG K H a [u1,u2]/\jR K H u1 p.1/\jR K H u2 p.2
section
variable {K:Frag}{H H':Hp}{v:V}{r:Rat}{p:Rat×Rat}
theorem jR.aQ (h:jR K H v r)(s:bf H H'):jR K H' v r:=uz.aQ h s
theorem jR.same (h:jR K H v r)(s:au H H'):jR K H' v r:=uz.same h s
theorem og.aQ (h:og K H v p)(s:bf H H'):og K H' v p:=by
 obtain ⟨a,u1,u2,e,h1,h2,h3⟩:=h;exact ⟨a,u1,u2,e,s.cy h1,h2.aQ s,h3.aQ s⟩
theorem og.same (h:og K H v p)(s:au H H'):og K H' v p:=h.aQ (.of s)
abbrev pz (p:Rat×Rat):Pt:=(qr p.1,qr p.2)
def sN (K:Frag)(H:Hp)(us:ε)(ps:υ):Prop:=Paired (og K H) us ps
theorem sN.aQ (h:sN K H us ps)(s:bf H H'):sN K H' us ps:=Paired.bJ h fun _ _ z=>z.aQ s
theorem sN.same (h:sN K H us ps)(s:au H H'):sN K H' us ps:=h.aQ (.of s)
end
theorem qQ {R:(Str×α)->(Key×V)->Prop}:∀{l:List (Str×α)} {kvs:ι},Paired (fun b kv=>kv.1=.inr b.1/\R b kv) l kvs->(l.map (·.1)).Nodup->(x,y)∈l->∃v,fb kvs (.inr x)=some v/\R (x,y) (.inr x,v):=fun {l kvs} p nd m=>by
 induction p with
 | nil=>cases m
 | cons h t ih=>
  rw [ada,afK] at nd
  rcases aa3.mp m with e|m
  ·subst e
   refine ⟨_,jQ h.1,?_⟩;have h2:=h.2;rw [<-h.1];exact h2
  ·obtain ⟨v,e,r⟩:=ih nd.2 m
   refine ⟨v,?_,r⟩;rw [jd (fun z=>?_)]
   ·exact e
   ·rw [h.1] at z
    exact nd.1 (ahR z▸ac3.mpr ⟨_,m,rfl⟩)
def WyR (K:Frag)(H:Hp)(pw:List (Str×List (Rat×Rat)))(kW:ι):Prop:=
 Paired (fun (p:Str×List (Rat×Rat)) (kv:Key×V)=>kv.1=.inr p.1/\∃l us,kv.2=.ref l/\H l=some (.lst us)/\sN K H us p.2) pw kW
theorem WyR.same {K:Frag}(h:WyR K H pw kW)(s:au H H'):WyR K H' pw kW:=
 Paired.bJ h fun _ _ z=>⟨z.1,by obtain ⟨l,us,e1,e2,e3⟩:=z.2;exact ⟨l,us,e1,s _ _ e2,e3.same s⟩⟩
theorem WyR.dict {K:Frag}(h:WyR K H pw kW)(e:H d=some (.dK kvs)):WyR K (upd H d o) pw kW:=
 Paired.bJ h fun _ _ z=>⟨z.1,by
  obtain ⟨l,us,e1,e2,e3⟩:=z.2
  exact ⟨l,us,e1,by rw [ah (fun q=>by rw [q,e] at e2;cases e2)];exact e2,e3.aQ (.dict e)⟩⟩
theorem jr.ends {K:Frag}(R:jr K H C a dx pP pW pB ps bs kP kW kB)(nd:(bs.map (·.1)).Nodup)(m:(x,one,other)∈bs):
  ∃p,fb kB (.inr x)=some (.ref p)/\Rd H p (.tup [.str one,.str other]):=by
 obtain ⟨v,e,p,ep,r⟩:=qQ R.rb nd m;have MD :v=.ref p:=ep;exact ⟨p,by rw [e,MD],r⟩
theorem jr.place {K:Frag}(R:jr K H C a dx pP pW pB ps bs kP kW kB)(nd:(ps.map (·.1)).Nodup)(m:(x,p)∈ps):
  ∃v,fb kP (.inr x)=some v/\Spot K H v p:=qQ R.rp nd m
structure hJ where
 nm:Str
 sp:Rat×Rat
 ws:List (Rat×Rat)
theorem take_snoc {α:Type}{l:List α}{b:α}(h:l[i]?=some b):l.take (i+1)=l.take i++[b]:=by rw [List.take_add_one,h];rfl
theorem aJ (a:au H1 H2)(b:au H2 H3):au H1 H3:=fun c o z=>b _ _ (a _ _ z)
theorem aO (s:au H H')(n:H' p=none):H p=none:=by
 cases e:H p with
 | none=>rfl
 | some o=>rw [s _ _ e] at n;cases n
theorem NN {α:Type}{f:Nat->α}{ys:List α}(hl:ys.length=n)(h:∀i v,ys[i]?=some v->v=f i):ys=(afD n).map f:=by
 refine agW fun i=>?_;by_cases hi:i<n
 ·have e:ys[i]?=some ys[i]:=gE (by omega)
  rw [e,h i _ e,aaU,ani hi];rfl
 ·rw [ac7 (by omega),ac7 (by simp;omega)]
section
variable {X:Cx}
theorem ae8 (ha:PE X.wm a ta)(hb:PEx X b tb)(hs:abF [a,b] X.env=[(false,abU a X.env),(false,abU b X.env)]:=by rfl):
  PEx X (.Tuple [a,b] x1 pos) (fun σ H Q E=>ta σ H fun x H1=>tb σ H1 (fun y H2=>∀p,H2 p=none->Q (.ref p) (upd H2 p (.tup [x,y]))) E):=by
 intro pins s σ H Q E I h;refine wpAny_Tuple_spliced ?_;rw [hs];show abz _ _ (spliced ((false,abU a X.env)::acu pos [(false,abU b X.env)])) _ _ s;refine Calls.spliced_cons (abH (ha pins s σ H _ (I.rY _) h) (fun u s1 ⟨x,H1,I1,r1,q1⟩=>?_) fun _ _ z=>z.elim);show abz _ _ (spliced ((false,abU b X.env)::acu pos [])) _ _ s1;refine Calls.spliced_cons (abH (hb pins s1 σ H1 _ _ I1.jo q1) (fun v s2 ⟨y,H2,I2,r2,q2⟩=>Calls.spliced_nil ?_) fun _ _ z=>z);have z2:[u,v].length<=abl:=by show 2<=abl;decide
 refine ⟨z2,?_⟩;have hf:H2 s2.heap.objs.size=none:=I2.cg.fresh (aaM _);refine ⟨.ref s2.heap.objs.size,upd H2 s2.heap.objs.size (.tup [x,y]),I2.laid (t':=s2.toks) (fun b u e=>abr _ e) (aaM _) ?_,rfl,q2 _ hf⟩;exact ⟨z2,[u,v],.cons r1 (.cons r2 .nil),⟨_,abI _ rfl,rfl,_,rfl⟩⟩
def tNo (cv:Value)(K:Frag)(ts:TS)(tr:TH):TH:=fun cls dx D σ H=>∃b,abD K cls cv=some b/\
 if b=true then ts D σ H else tr cls dx D σ H
theorem ahw {rest:List ExceptHandler}(hc:AY X c cv)
  (ht:∀a,PSs (hnd X a) (b₀::NC) ts) (hr:PH X rest tr):PH X (.ExceptHandler (some (.Name c np)) none (b₀::NC) pos::rest) (tNo cv X.K ts tr):=by
 intro pins s σ H a cls dx D L h;obtain ⟨b,hb,h⟩:=h;have I:=L.inv;refine wpAny_handleBy_cons (codeAny_handlers_test (hc.ld a pins s σ H np _ _ (GX I) ?_)) (by intro q;cases q);obtain ⟨H0,s0,a0,B,I0,fl,da,un,ok,os,bare,th,tr'⟩:=L.ex;obtain ⟨ob,hob,Ra⟩:=fl.there
 have LT:adG (abx X.prog X.w) s.heap (typeOf (.ref a)) cls:=by
  subst Ra;exact (PySem.W.Looks.ld hob).andThen .now
 refine (PySem.W.exm_one I.j' LT hb).here ?_;cases b with
 | false=>
  rw [abp acZ] at h;exact hr pins s σ H a cls dx D L h
 | true=>
  rw [abv rfl] at h;refine codeAny_handlers_suite ?_;refine lands_againW fl fun h6 fl6 up=>?_;have un6:=xk un fl.1 fl6.1 th fl.2.2.1 up;have ok6:=sr ok fl.1 fl6.1 tr';have I6:Inv X pins σ H {s with heap:=h6}:=I0.MI (ch:=[]) os un6 ok6 bare fun b z=>abo z (by simp);refine abH (ht a pins _ _ _ _ (GX I6) h) (fun f s9 q=>?_) fun _ _ z=>z.elim;cases f with
  | next=>
   obtain ⟨σ2,H2,J,q⟩:=q;exact ⟨_,_,nU I0.ok J,q⟩
  | brk=>
   obtain ⟨σ2,H2,J,q⟩:=q;exact ⟨_,_,nU I0.ok J,q⟩
  | cont=>
   obtain ⟨σ2,H2,J,q⟩:=q;exact ⟨_,_,nU I0.ok J,q⟩
  | ret u=>
   obtain ⟨v,σ2,H2,J,r,q⟩:=q;exact ⟨v,_,_,nU I0.ok J,r,q⟩
theorem sO {K:Frag}(hK:X.K=K)(he:PE X e ta)(hb:ads e f X.env (abU e X.env)=abU e X.env):PE X (.Attribute e f pos) (ahg K ta f):=by
 subst hK;exact aeQ he hb
end
def thE (H0:Hp)(E:XK):XK:=fun cls dx H'=>E cls dx H' \/∃d o kvs,H' d=some (.iT o (.dK kvs))/\(∀o' u',H0 d≠some (.iT o' u'))/\E cls dx (upd H' d (.dK kvs))
theorem aT.axz (h:aT P w outer H s (thE H E) e s'):aT P w outer H s E e s':=by
 obtain ⟨a,cls,a0,dx,H',B,rfl,fl,da,un,ok,os,bare,th,tr,hE⟩:=h
 rcases hE with hE|⟨d,o,kvs,ed,nf,hE⟩
 ·exact ⟨a,cls,a0,dx,H',B,rfl,fl,da,un,ok,os,bare,th,tr,hE⟩
 ·have nx:∀b u',H' b=some u' ->b≠d->upd H' d (.dK kvs) b=some u':=fun b u q n=>by rw [ah n];exact q
  refine ⟨a,cls,a0,dx,upd H' d (.dK kvs),B,rfl,fl,da,⟨un.keep,un.slot,fun b ob q n hx=>?_,un.there,fun b xs q=>?_,fun b ob u q=>?_,fun b ps q=>?_⟩,?_,os,bare,th,fun b u q=>?_,hE⟩
  ·have z:=un.free b ob q n hx
   rw [ah (fun y=>by rw [y,ed] at z;cases z)];exact z
  ·have z:=un.m9 b xs q
   exact nx b _ z fun y=>by rw [y,ed] at z;cases z
  ·have z:=un.mj b ob u q
   exact nx b _ z fun y=>by rw [y] at q;exact nf _ _ q
  ·obtain ⟨m,z⟩:=un.m_ b ps q
   exact ⟨m,nx b _ z fun y=>by rw [y,ed] at z;cases z⟩
  ·have stt:∀{b u'},bX P w H' s'.heap b u' ->bX P w (upd H' d (.dK kvs)) s'.heap b u':=fun {b u'} k=>k.rW (fun _ _ _ z=>z) (fun c z=>nx c _ z fun y=>by rw [y,ed] at z;cases z) fun c xs z=>nx c _ z fun y=>by rw [y,ed] at z;cases z
   intro b u' q;by_cases hb:b=d
   ·subst hb
    rw [ai] at q;cases q;exact stt (ok b _ ed).2
   ·rw [ah hb] at q
    exact stt (ok b u' q)
  ·by_cases hb:b=d
   ·subst hb
    exact tr b _ ed
   ·rw [ah hb] at q
    exact tr b u q
section
variable {P:abJ}{w:World}{K:Frag}{mg:ζ}{base:Heap}
theorem ae9 (len:∀vs H Q E,sp vs H Q E->vs.length=ps.length)(h:∀vs H Q E,sp vs H Q E->sp' vs H Q (thE H E))(F:bT P w K mg base (aT P w) k f fd ps sp'):bT P w K mg base (aT P w) k f fd ps sp:=
 ⟨len,fun A outer s H args us vs Q E hr he hb hv hs=>adl (F.run A outer s H args us vs Q (thE H E) hr he hb hv (h _ _ _ _ hs)) fun r s' hq=>by
  cases r with
  | error e=>exact aT.axz hq
  | ok fl=>
   cases fl with
   | ret u=>exact hq
   | next=>exact hq
   | brk=>exact hq
   | cont=>exact hq⟩
theorem aaf {st:Stmt}(F:akF K name qual st f fd)(S:aC N ps (aa st))(len:∀vs H Q E,sp vs H Q E->vs.length=ps.length)
  (gv:∀(cdv:Value)(A:abM)(outer:List Env)(s:abw)(H:Hp)(vs:ε)(Q:VK)(E:XK),cV k (A.deeper (aca qual (aa st) s.heap.objs.size f cdv))->sp vs H Q E->
   ∃t,PSs (hZ P w K mg base N qual (aa st) f cdv A outer s H E) (aq st) t/\t {nx:=fun _ H'=>Q .bG H',rt:=Q} (start N vs) H):bT P w K mg base (aT P w) (k+1) f fd ps sp:=by
 obtain ⟨dV,oc,od,kV,doc,pm,an,cdv,ct,qG,rfl,lk,uD⟩:=F.ex;exact xV lk uD S len fun A outer s H vs Q E hr EL=>gv cdv A outer s H vs Q E hr EL
end
variable {X:Cx}
theorem RD {K:Frag}{cap:L2.St}{xs:ε}(p:α->Bool)(hp:Paired Rl xs zs)(nD:H1 D=none)(hn:xs.length<abl)(hS:∀H,au H1 H->aZ K H a xs)
  (ht:∀x z H (R:Bool->Hp->Prop),Rl x z->z∈zs->au H1 H->(∀H',au H H' ->R (p z) H')->tt (some x::cap) H R)
  (he:∀x z H (R:VK),Rl x z->au H1 H->R x H->te (some x::cap) H R)
  (hd:∀ys H,Paired Rl ys (zs.filter p)->au H1 H->H D=some (.lst ys)->Q (.ref D) H):
  BA D (fj 0) tt te (Itl K a) (none::cap) H1 Q:=by
 have lz:xs.length=zs.length:=abK hp
 have ps:∀{l₁:ε} {l₂:List α} {a:V} {b:α},Paired Rl l₁ l₂->Rl a b->Paired Rl (l₁++[a]) (l₂++[b]):=fun {l₁ l₂ a b} h h'=>by
  induction h with
  | nil=>exact .cons h' .nil
  | cons x _ ih=>exact .cons x ih
 refine ⟨fun i m σ ys H=>m=xs.length-i/\i<=xs.length/\(∃o,σ=o::cap)/\au H1 H/\H D=some (.lst ys)/\Paired Rl ys ((zs.take i).filter p)/\ys.length<=i,⟨xs.length,by simp,aer _,⟨none,rfl⟩,fun b o e=>by rw [ah (aj e nD)];exact e,ai,by simpa using Paired.nil,aaM _⟩,?_⟩;rintro i m σ ys H ⟨rfl,hi,⟨o,rfl⟩,s,hD,ey,ly⟩;by_cases AQ:i<xs.length
 ·refine .inr ⟨⟨xs,xs[i],hS H s,gE AQ⟩,fun v H' y=>?_⟩
  obtain ⟨rfl,y2⟩:=y;have q1:=y2 xs (hS _ s);obtain ⟨z,ez,hz⟩:=aY hp q1
  have er:(zs.take (i+1)).filter p=(zs.take i).filter p++(if p z=true then [z] else []):=by
   rw [take_snoc ez,ak_];by_cases c:p z=true
   ·rw [abv c,amV c]
    rfl
   ·rw [abp c,amW c]
    rfl
  unfold fj;refine ht v z _ _ hz (aaP ez) s fun H2 s2=>?_;have Yt:au H1 H2:=fun b o e=>s2 _ _ (s _ _ e);have hD2:=s2 _ _ hD;by_cases c:p z=true
  ·rw [abv c]
   rw [abv c] at er;refine he v z _ _ hz Yt ⟨hD2,by omega,xs.length-(i+1),by omega,rfl,by omega,⟨_,rfl⟩,?_,ai,?_,by simp;omega⟩
   ·exact fun b o e=>by
     rw [ah (aj e nD)];exact Yt _ _ e
   ·rw [er]
    exact ps ey hz
  ·rw [abp c]
   rw [abp c,aeL] at er;exact ⟨xs.length-(i+1),by omega,rfl,by omega,⟨_,rfl⟩,Yt,hD2,by rw [er];exact ey,by omega⟩
 ·have e:i=xs.length:=by omega
  subst e;refine .inl ⟨⟨xs,hS _ s,aaM _⟩,hd ys H ?_ s hD⟩;rw [lz,afL] at ey;exact ey
theorem aag {K:Frag}(h:X.K=K)(hu:X.A.units+64<adj):pJ X (ab3 .Eq) (Zs K):=by subst h;exact xj hu
theorem bf.ks (h0:H D=some (.lst ys))(ks:fq D H H'):bf H H':=fun b xs r=>by
 rcases r with r|⟨o',r⟩
 ·exact .inl (ks _ _ (fun e=>by rw [e,h0] at r;cases r) r)
 ·exact .inr ⟨o',ks _ _ (fun e=>by rw [e,h0] at r;cases r) r⟩
end Ty
namespace Ty
def col (l:List Int)(j:Nat):Rat:=((l.getD j 0:Int):Rat)
end Ty
namespace Ty
open PySem PySem.Spec PyProof.Rows L2
inductive Ex2 {A0 A1:Type}(p:A0->A1->Prop):Prop where
 | mk (a0:A0)(a1:A1)(h:p a0 a1):Ex2 p
inductive Ex3 {A0 A1 A2:Type}(p:A0->A1->A2->Prop):Prop where
 | mk (a0:A0)(a1:A1)(a2:A2)(h:p a0 a1 a2):Ex3 p
inductive Ex4 {A0 A1 A2 A3:Type}(p:A0->A1->A2->A3->Prop):Prop where
 | mk (a0:A0)(a1:A1)(a2:A2)(a3:A3)(h:p a0 a1 a2 a3):Ex4 p
inductive Ex5 {A0 A1 A2 A3 A4:Type}(p:A0->A1->A2->A3->A4->Prop):Prop where
 | mk (a0:A0)(a1:A1)(a2:A2)(a3:A3)(a4:A4)(h:p a0 a1 a2 a3 a4):Ex5 p
inductive Ex7 {A0 A1 A2 A3 A4 A5 A6:Type}(p:A0->A1->A2->A3->A4->A5->A6->Prop):Prop where
 | mk (a0:A0)(a1:A1)(a2:A2)(a3:A3)(a4:A4)(a5:A5)(a6:A6)(h:p a0 a1 a2 a3 a4 a5 a6):Ex7 p
inductive Ex8 {A0 A1 A2 A3 A4 A5 A6 A7:Type}(p:A0->A1->A2->A3->A4->A5->A6->A7->Prop):Prop where
 | mk (a0:A0)(a1:A1)(a2:A2)(a3:A3)(a4:A4)(a5:A5)(a6:A6)(a7:A7)(h:p a0 a1 a2 a3 a4 a5 a6 a7):Ex8 p
section
variable {P:abJ}{w:World}{K:Frag}{mg:ζ}{base:Heap}{CX:uI}{N ps:η}{k:Nat}{sp:Sp}{st:Stmt}
theorem Def.oo (D:Def K mg x st ps)(S:aC N ps (aa st))
  (gv:∀{f:abj} {cdv:Value} {A:abM} {outer:List Env} {s:abw} {vs:ε} {Q:VK} {E:XK} (H:Hp),cV k (A.deeper (aca x (aa st) s.heap.objs.size f cdv))->sp vs H Q E->
   ∃t,PSs (kh CX P w K mg base N x (aa st) f cdv A outer s H E).wm (aq st) t/\t {nx:=fun _ H'=>Q .bG H',rt:=Q} (start N vs) H) (len:∀vs H Q E,sp vs H Q E->vs.length=ps.length:=by intro vs H Q E h;cases h;subst_vars;rfl):Fn P w K mg base CX (k+1) x ps sp:=D.ok S len fun _ _ _ _ _ H _ _ _ hr h=>gv H hr h
theorem Def.op (D:Def K mg x st ps)(S:aC N ps (aa st))
  (gv:∀(f:abj)(cdv:Value)(A:abM)(outer:List Env)(s:abw)(H:Hp)(vs:ε)(Q:VK)(E:XK),cV k (A.deeper (aca x (aa st) s.heap.objs.size f cdv))->sp vs H Q E->
   ∃t,PSs (kh CX P w K mg base N x (aa st) f cdv A outer s H E).wm (aq st) t/\t {nx:=fun _ H'=>Q .bG H',rt:=Q} (start N vs) H) (len:∀vs H Q E,sp vs H Q E->vs.length=ps.length:=by intro vs H Q E h;cases h;subst_vars;rfl):Fn P w K mg base CX (k+1) x ps sp:=D.ok S len gv
theorem dR (F:mf K name qual st f fd)(S:aC N ps (aa st))
  (gv:∀{cdv:Value} {A:abM} {outer:List Env} {s:abw} {vs:ε} {Q:VK} {E:XK} (H:Hp),cV k (A.deeper (aca qual (aa st) s.heap.objs.size f cdv))->sp vs H Q E->
   ∃t,PSs (hZ P w K mg base N qual (aa st) f cdv A outer s H E).wm (aq st) t/\t {nx:=fun _ H'=>Q .bG H',rt:=Q} (start N vs) H) (len:∀vs H Q E,sp vs H Q E->vs.length=ps.length:=by intro vs H Q E h;cases h;subst_vars;rfl):bT P w K mg base (aT P w) (k+1) f fd ps sp:=ae7 F S len fun _ _ _ _ H _ _ _ hr h=>gv H hr h
theorem q_Y (P:abJ)(w:World){X:Cx}:Passes (aT P w) X.wm E0:=kz aT.AX
theorem q_X {X:Cx}:Passes (aT P w) X.wm E0:=kz aT.AX
end
section
variable {X:Cx}{i:Nat}{x y:Str}{a b c d e e1 e2 e3 e4 e5 elt target iter:Expr}{es ifs:π}{te ta tb t1 t2 t3 t4 t5:TE}{wi:TI}{g:TG}{tt:TT}{pos pos' py BB p:Pos}{scope:Scope}{tn fr:η}{caps:Θ}
theorem aR (hN:X.N.Nodup)(he:PE X e te)(hi:X.N[i]?=some x:=by rfl)(hx:Loc X.env.scope x:=by first|exact .inl rfl|exact .inr rfl)(hs:acM e (some (.Name x pos')) pos.line X.env=pure false:=by rfl)(hf:X.fn x=true\/X.env.scope.names.lookup x=some .local:=by first|exact .inl rfl|exact .inr rfl|assumption):
  PS X (.Assign [.Name x pos'] e pos) (VE te (fj i)):=aj4 hN hi hx he hs hf
theorem hU (hN:X.N.Nodup)(hi:X.N[i]?=some x:=by rfl)(hx:Loc X.env.scope x:=by first|exact .inl rfl|exact .inr rfl)(hf:X.fn x=true\/X.env.scope.names.lookup x=some .local:=by first|exact .inl rfl|exact .inr rfl|assumption):PG X (.Name x pos) (fj i):=mq hN hi hx hf
theorem iE (hr:IxR X r)(ha:PE X a ta)(hb:PE X b tb)(hs:Ux b:=by exact fun _ _=>rfl):PE X (.Subscript a b pos) (tOp r ta tb):=Zh hr ha hb hs
theorem aL (ho:pJ X (ab3 op) r)(ha:PE X a ta)(hb:PE X b tb)(hm:acR op b=false:=by exact qF _):PT X (.Compare a [op] [b] pos) (Zd (tOp r ta tb)):=xa ho ha hb hm
theorem aE (h1:PE X e1 t1)(s1:isStar e1=false:=by rfl):PA X [e1] (vJ t1 Rj):=nV h1 h_ s1
theorem aU (h1:PE X e1 t1)(h2:PE X e2 t2)(s1:isStar e1=false:=by rfl)(s2:isStar e2=false:=by rfl):PA X [e1,e2] (vJ t1 (vJ t2 Rj)):=nV h1 (aE h2 s2) s1
theorem gO (h1:PE X e1 t1)(h2:PE X e2 t2)(h3:PE X e3 t3)(s1:isStar e1=false:=by rfl)(s2:isStar e2=false:=by rfl)(s3:isStar e3=false:=by rfl):PA X [e1,e2,e3] (vJ t1 (vJ t2 (vJ t3 Rj))):=nV h1 (aU h2 h3 s2 s3) s1
theorem UT (h1:closureFor scope X.env=pure (bC X.env fr):=by exact rfl)(h2:∀y∈scope.names,y.2≠.cell:=by decide+kernel)(h3:scope.kind=.function:=by exact rfl)(h4:∀y∈scope.names,y.2=.local->scope.names.lookup y.1=some .local:=by decide+kernel)(h5:∀y∈scope.names,y.2=.free->y.1∈fr:=by decide+kernel)(h6:caps.map (fun i=>X.N[i]?)=fr.map some:=by exact rfl)
  (h7:k_ X.env fr:=by repeat (first|exact trivial|refine ⟨by first|exact am0 rfl|exact aos rfl,?_⟩)) (h8:k_ (compEnvC scope [] 0 X.env) fr:=by repeat (first|exact trivial|refine ⟨by first|exact am0 rfl|exact aos rfl,?_⟩)):HF X scope fr caps:=⟨h1,h2,h3,h4,h5,h6,h7,h8⟩
theorem akI (hi:PI X target iter wi)(hg:∀C s H fp,PG (xm X (tn++fr) scope (bC X.env fr) C s H fp) target g)(ht:∀C s H fp,PF (xm X (tn++fr) scope (bC X.env fr) C s H fp) ifs tt)(he:∀{C s H fp},PE (xm X (tn++fr) scope (bC X.env fr) C s H fp) elt te)
  (hc:X.calm=true:=by rfl) (B:HF X scope fr caps:=by exact UT) (hs:∀x,acr iter X.env x=pure x:=by intro _;rfl):PE X (.ListComp elt [⟨target,iter,ifs,0⟩] scope pos) (vQ tn.length caps wi g tt te):=UE hc B hi hg ht (fun _ _ _ _=>he) hs
theorem apg (hN:(tn++fr).Nodup)(h0:(tn++fr)[0]?=some y)(hx:∀C s H fp,Loc (xm X (tn++fr) scope (bC X.env fr) C s H fp).env.scope y)(hl:∀C s H fp,(xm X (tn++fr) scope (bC X.env fr) C s H fp).fn y=true\/(xm X (tn++fr) scope (bC X.env fr) C s H fp).env.scope.names.lookup y=some .local):∀C s H fp,PG (xm X (tn++fr) scope (bC X.env fr) C s H fp) (.Name y py) (fj 0):=fun C s H fp=>mq hN h0 (hx C s H fp) (hl C s H fp)
theorem iX (hi:PI X (.Name y py) iter wi)(he:∀{C s H fp},PE (xm X (tn++fr) scope (bC X.env fr) C s H fp) elt te)
  (hc:X.calm=true:=by rfl) (B:HF X scope fr caps:=by exact UT) (hs:∀x,acr iter X.env x=pure x:=by intro _;rfl) (hN:(tn++fr).Nodup:=by decide+kernel) (h0:(tn++fr)[0]?=some y:=by rfl) (hx:∀C s H fp,Loc (xm X (tn++fr) scope (bC X.env fr) C s H fp).env.scope y:=by exact fun _ _ _ _=>.inl rfl) (hl:∀C s H fp,(xm X (tn++fr) scope (bC X.env fr) C s H fp).fn y=true\/(xm X (tn++fr) scope (bC X.env fr) C s H fp).env.scope.names.lookup y=some .local:=by intro _ _ _ _;first|exact .inl rfl|exact .inr rfl):PE X (.ListComp elt [⟨.Name y py,iter,[],0⟩] scope pos) (vQ tn.length caps wi (fj 0) yc te):=UE hc B hi (apg hN h0 hx hl) (fun _ _ _ _=>Rr) (fun _ _ _ _=>he) hs
theorem RE (hN:X.N.Nodup)(hi:PI X target iter wi)(hg:∀C s H fp,PG (xm X (tn++fr) scope (bC X.env fr) C s H fp) target g)(ht:∀C s H fp,PF (xm X (tn++fr) scope (bC X.env fr) C s H fp) ifs tt)(he:∀{C s H fp},PE (xm X (tn++fr) scope (bC X.env fr) C s H fp) elt te)
  (hiN:X.N[i]?=some x:=by rfl) (hx:Loc X.env.scope x:=by first|exact .inl rfl|exact .inr rfl) (hc:X.calm=true:=by rfl) (B:HF X scope fr caps:=by exact UT) (hsw:acM (.ListComp elt [⟨target,iter,ifs,0⟩] scope pos) (some (.Name x py)) BB.line X.env=pure true:=by rfl)
  (hs:∀x,acr iter X.env x=pure x:=by intro _;rfl) (hf:X.fn x=true\/X.env.scope.names.lookup x=some .local:=by first|exact .inl rfl|exact .inr rfl|assumption):
  PS X (.Assign [.Name x py] (.ListComp elt [⟨target,iter,ifs,0⟩] scope pos) BB) (VE (vQ tn.length caps wi g tt te) (fj i)):=UG hN hiN hx hc B hi hg ht (fun _ _ _ _=>he) hsw hs hf
theorem akJ (hN:X.N.Nodup)(hi:PI X (.Name y yp) iter wi)(he:∀{C s H fp},PE (xm X (tn++fr) scope (bC X.env fr) C s H fp) elt te)
  (hiN:X.N[i]?=some x:=by rfl) (hx:Loc X.env.scope x:=by first|exact .inl rfl|exact .inr rfl) (hc:X.calm=true:=by rfl) (B:HF X scope fr caps:=by exact UT) (hsw:acM (.ListComp elt [⟨.Name y yp,iter,[],0⟩] scope pos) (some (.Name x py)) BB.line X.env=pure true:=by rfl)
  (hs:∀x,acr iter X.env x=pure x:=by intro _;rfl) (hf:X.fn x=true\/X.env.scope.names.lookup x=some .local:=by first|exact .inl rfl|exact .inr rfl|assumption) (hN2:(tn++fr).Nodup:=by decide+kernel) (h0:(tn++fr)[0]?=some y:=by rfl) (hx2:∀C s H fp,Loc (xm X (tn++fr) scope (bC X.env fr) C s H fp).env.scope y:=by exact fun _ _ _ _=>.inl rfl) (hl:∀C s H fp,(xm X (tn++fr) scope (bC X.env fr) C s H fp).fn y=true\/(xm X (tn++fr) scope (bC X.env fr) C s H fp).env.scope.names.lookup y=some .local:=by intro _ _ _ _;first|exact .inl rfl|exact .inr rfl):
  PS X (.Assign [.Name x py] (.ListComp elt [⟨.Name y yp,iter,[],0⟩] scope pos) BB) (VE (vQ tn.length caps wi (fj 0) yc te) (fj i)):=UG hN hiN hx hc B hi (apg hN2 h0 hx2 hl) (fun _ _ _ _=>Rr) (fun _ _ _ _=>he) hsw hs hf
theorem dh {E:XK}(F:Fn X.prog X.w X.K X.mg X.base (aT P w) k x ps sp)(hr:cV l X.A)(ha:PA X (e::es) t)(hk:k<=l:=by decide)(hx:Passes (aT P w) X E:=by exact kz aT.AX)(hg:Gl X x:=by rfl)(AU:(x==("__debug__":Str))=false:=by decide)
  (he:abF (e::es) X.env=(false,abU e X.env)::abF es X.env:=by rfl) (EG:(acu pos (abF es X.env)).any (·.1)=false:=by rfl):PE X (.Call (.Name x p) (e::es) [] pos) (Uw sp [] E t):=bK F (hr.mono hk) hx ha hg AU he EG
theorem FC {E:XK}(F:Fn X.prog X.w X.K X.mg X.base (aT P w) k x ps sp)(hr:cV l X.A)(ha:PA X (e::es) t)(hk:k<=l:=by decide)(hx:Passes (aT P w) X E:=by exact aoZ aT.AX rfl)(hg:Gl X x:=by rfl)(AU:(x==("__debug__":Str))=false:=by decide)
  (he:abF (e::es) X.env=(false,abU e X.env)::abF es X.env:=by rfl) (EG:(acu pos (abF es X.env)).any (·.1)=false:=by rfl):PE X (.Call (.Name x p) (e::es) [] pos) (Uw sp [] E t):=bK F (hr.mono hk) hx ha hg AU he EG
end
theorem aai {E:γ}{Q:γ}(hy:(y.length==0)=false)(hsz:x.length+2<=abl)
  (hq:∀(l:List (Str×Tok))(k:Nat),l.map (·.1)=ab6 x y->Q (.ref s.heap.objs.size) {s with heap:=s.heap.push {cls:=.type "list",data:=.seq (strValues l).toArray},toks:=k}):
  abz (abx prog w) A (call (.builtin "str.split") [.str x t,.str y u]) Q E s:=by
 have hn:(Builtin.Str.partsBetween x (acw x y 0 x.length (x.length+1)) y.length).length<=abl:=by
  have e1:=StrLaws.occ_length_le x y 0 x.length (x.length+1);rw [len_partsBetween];omega
 cases h1:(decide (x.length<y.length) || decide (Builtin.Str.strKind x<Builtin.Str.strKind y))
 ·cases hf:(acw x y 0 x.length (x.length+1)).isEmpty
  ·refine call_meets F.slot_str_split (adz _ _ _) F.entry_str_split (F.args_str_split_2 _ _) (meets_str_split_sep x y t u h1 hy hf (by omega) hn) ?_
   show wants Q E _ {s with toks:=_,heap:=s.heap.push {cls:=.type "list",data:=.seq (strsFrom s.toks (Builtin.Str.partsBetween x (acw x y 0 x.length (x.length+1)) y.length)).toArray}};rw [strsFrom_eq];exact hq (numbered s.toks _) _ ((numbered_texts _ _).trans ((abp (ne_true_of_eq_false h1)).trans (abp (ne_true_of_eq_false hf))).symm)
  ·exact call_meets F.slot_str_split (adz _ _ _) F.entry_str_split (F.args_str_split_2 _ _) (meets_str_split_not_found x y t u h1 hy hf) (hq [(x,t)] s.toks ((abp (ne_true_of_eq_false h1)).trans (abv hf)).symm)
 ·exact call_meets F.slot_str_split (adz _ _ _) F.entry_str_split (F.args_str_split_2 _ _) (meets_str_split_cannot_occur x y t u h1) (hq [(x,t)] s.toks (abv h1).symm)
theorem FD:∀l:List (Str×Tok),Vals ((l.map (·.1)).map V.str) (strValues l)
 | []=>.nil
 | p::l=>.cons ⟨p.2,rfl⟩ (FD l)
section
variable {X:Cx}
inductive aaj (x:V)(vs:ε)(H:Hp)(Q:VK):Prop
|mk (z y:_)(_:x=.str z)(_:vs=[.str y])(_:(y.length==0)=false)(_:z.length+2<=abl)(_:∀l,H l=none->Q (.ref l) (upd H l (.lst ((ab6 z y).map V.str))))
theorem sP:MtM X "str.split" aaj:=by
 intro pins s σ H x vs v us Q I rx rv h;obtain ⟨z,y,rfl,rfl,hy,hz,q⟩:=h;obtain ⟨t,rfl⟩:=rx;obtain ⟨u,rfl,ru⟩:=rv.one;obtain ⟨t',rfl⟩:=ru;have hn:=I.cg.fresh (aaM s.heap.objs.size);refine aai hy hz fun l k el=>?_
 have hl:(ab6 z y).length<=abl:=by
  have:=split_le z y;omega
 have I2:=I.laid (h':=s.heap.push {cls:=.type "list",data:=.seq (strValues l).toArray}) (t':=k) (o:=.lst ((ab6 z y).map V.str)) (fun b o e=>abr _ e) (aaM _) ⟨by rw [ir];exact hl,strValues l,0,by rw [<-el];exact FD l,abI _ rfl⟩;exact ⟨.ref _,_,I2,rfl,q _ hn⟩
end
def jn (c:Nat):List (List Nat)->List Nat
 | []=>[]
 | [w]=>w
 | w::v::ws=>w++c::jn c (v::ws)
theorem akK :∀{as bs:List (List Nat)},as≠[]->bs≠[]->(∀a∈as,c∉a)->(∀b∈bs,c∉b)->jn c as=jn c bs->as=bs:=by
 have cut:∀{a b r s:Θ},c∉a->c∉b->a++c::r=b++c::s->a=b/\r=s:=by
  intro a
  induction a with
  | nil=>
   intro b r s _ hb e;cases b with
   | nil=>exact ⟨rfl,(ahx e).2⟩
   | cons x b=>exact abo (by rw [(ahx e).1];exact aa_) hb
  | cons x a ih=>
   intro b r s ha hb e;cases b with
   | nil=>exact abo (by rw [(ahx e).1];exact aa_) ha
   | cons y b=>
    obtain ⟨e1,e2⟩:=ahx e;obtain ⟨h1,h2⟩:=ih (fun z=>ha (aa2 _ z)) (fun z=>hb (aa2 _ z)) e2;exact ⟨by rw [e1,h1],h2⟩
 have no:∀{a b r:Θ},c∉a->a≠b++c::r:=fun ha e=>ha (by rw [e];simp);intro as
 induction as with
 | nil=>intro bs h;exact abo rfl h
 | cons a as ih=>
  intro bs _ hb h1 h2 e;cases bs with
  | nil=>exact abo rfl hb
  | cons b bs=>
   have ha:=h1 a aa_;have xq :=h2 b aa_;cases as with
   | nil=>
    cases bs with
    | nil=>
     have e':a=b:=e;rw [e']
    | cons b2 bs=>exact abo e (no ha)
   | cons a2 as=>
    cases bs with
    | nil=>exact abo e.symm (no xq)
    | cons b2 bs=>
     obtain ⟨h3,h4⟩:=cut ha xq e;rw [h3,ih (by simp) (by simp) (fun z hz=>h1 z (aa2 _ hz)) (fun z hz=>h2 z (aa2 _ hz)) h4]
theorem pC (c:Nat):∀ws:List Str,(Str.join ⟨#[c]⟩ ws).cps.toList=jn c (ws.map fun w=>w.cps.toList)
 | []=>rfl
 | [w]=>rfl
 | w::v::ws=>by
  have ih:=pC c (v::ws);show (w++(⟨#[c]⟩:Str)++Str.join ⟨#[c]⟩ (v::ws)).cps.toList=w.cps.toList++c::jn c ((v::ws).map fun w=>w.cps.toList);rw [<-ih];show (w.cps++ #[c]++(Str.join ⟨#[c]⟩ (v::ws)).cps).toList=_;simp
theorem afa {x y:Str}(h:x.cps.toList=y.cps.toList):x=y:=by
 cases x;cases y;congr 1;exact aoI.mp h
theorem qR {ws:η}(ne:ws≠[])(h:∀w∈ws,c∉w.cps.toList):ab6 (abN ⟨#[c]⟩ ws) ⟨#[c]⟩=ws:=by
 have e0:abN ⟨#[c]⟩ ws=Str.join ⟨#[c]⟩ ws:=adn _ _;have e1:=abV (fun x:Str=>x.cps.toList) (StrLaws.join_split (abN ⟨#[c]⟩ ws) ⟨#[c]⟩)
 have e2:jn c ((ab6 (abN ⟨#[c]⟩ ws) ⟨#[c]⟩).map fun w=>w.cps.toList)=jn c (ws.map fun w=>w.cps.toList):=by
  rw [<-pC,<-pC,<-e0];exact e1
 have p1:=split_pos (abN ⟨#[c]⟩ ws) ⟨#[c]⟩
 have e3:=akK (fun z=>by rw [ajZ] at z;rw [z] at p1;simp at p1) (fun z=>ne (ajZ.mp z)) (fun a ha=>by
  obtain ⟨w,hw,rfl⟩:=ac3.mp ha
  exact StrLaws.split_free _ c w hw) (fun a ha=>by
  obtain ⟨w,hw,rfl⟩:=ac3.mp ha
  exact h w hw) e2
 have inj:∀{as bs:η},(as.map fun w=>w.cps.toList)=(bs.map fun w=>w.cps.toList)->as=bs:=by
  intro as
  induction as with
  | nil=>intro bs e;exact (ajZ.mp e.symm).symm
  | cons a as ih=>
   intro bs e;cases bs with
   | nil=>simp at e
   | cons b bs=>
    rw [ada,ada] at e;obtain ⟨h1,h2⟩:=ahx e;rw [afa h1,ih h2]
 exact inj e3
section
variable {X:Cx}
theorem afb (he:PEx X e te):PSx X (.Return (some e) pos) (fun D E σ H=>te σ H (fun v H1=>D.rt v H1) (E σ)):=by
 intro pins s σ H D E I h;refine wpAny_Return_some (abH (he pins s σ H _ _ I h) (fun v s1 z=>?_) fun e s' z=>⟨σ,z⟩);obtain ⟨y,H1,I1,r1,q1⟩:=z;exact ⟨y,σ,H1,I1,r1,q1⟩
inductive UU (K:Frag)(x:V)(y:V)(H:Hp)(Q:VK):Prop
|mk (l us:_)(_:x=.bG)(_:y=.ref l)(_:aZ K H l us)(_:(∀u∈us,mS u=true\/∃p xs,u=.ref p/\dG K H p xs))(_:Q (.bl (us.any fun u=>decide (u=V.bG))) H)
theorem V5 (hu:X.A.units+64<adj):pJ X (ab3 .In) (UU X.K):=by
 intro pins s σ H x y v u Q I rx ry h;obtain ⟨l,us,rfl,rfl,hq,hk,q⟩:=h;cases ry;cases rx;obtain ⟨its,rv,pl,hz⟩:=I.list hq;let e:Value->Bool:=fun y=>match y with | .none=>true|_=>false
 have key:∀(j:Nat)(y:Value),its[j]?=some y->∃w,us[j]?=some w/\RelV w y:=fun j y ey=>aY (kF rv) ey
 have he:∀(w:V)(y:Value),RelV w y->(mS w=true\/∃p xs,w=.ref p/\dG X.K H p xs)->SeqAt.EqAt X.A.in1 s y .none (e y)/\e y=decide (w=V.bG):=fun w y r hw=>by
  rcases hw with hf|⟨p,xs,rfl,ht⟩
  ·cases w with
   | bG=>cases r;exact ⟨.same _,rfl⟩
   | bl b=>cases r;exact ⟨.bool_none b,rfl⟩
   | int i=>obtain ⟨t,rfl⟩:=r;exact ⟨.int_none i t,rfl⟩
   | str z=>obtain ⟨t,rfl⟩:=r;exact ⟨.str_none z t,rfl⟩
   | _=>exact abo (show false=true from hf) acZ
  ·cases r
   obtain ⟨its',_,t',_⟩:=I.tuple ht;exact ⟨.tuple_none t' (by rw [in1_units];omega),rfl⟩
 refine SeqAt.in_listAt e pl.isList (fun y hy=>?_) ⟨.bl _,H,I,rfl,?_⟩
 ·obtain ⟨j,hj,ej⟩:=ahh.mp (by simpa using hy:y∈its)
  obtain ⟨w,ew,EB⟩:=key j y (by rw [gE hj,ej]);exact (he w y EB (hk w (aaP ew))).1
 ·have ea:its.toArray.any e=us.any fun u=>decide (u=V.bG):=by
   rw [ahF];simp only [List.any_toArray,List.any_eq_true];constructor
   ·rintro ⟨y,hy,ey⟩
    obtain ⟨j,hj,ej⟩:=ahh.mp hy;obtain ⟨w,ew,EB⟩:=key j y (by rw [gE hj,ej]);have:=(he w y EB (hk w (aaP ew))).2;exact ⟨w,aaP ew,by rw [<-this];exact ey⟩
   ·rintro ⟨w,hw,ew⟩
    obtain ⟨j,hj,ej⟩:=ahh.mp hw;obtain ⟨y,ey,ry⟩:=aY rv (by rw [gE hj,ej]);have:=(he w y ry (hk w hw)).2;exact ⟨y,aaP ey,by rw [this];exact ew⟩
  rw [ea];exact q
end
theorem aak {cap:L2.St}(Rel:Nat->V->Hp->Prop)(nD:H1 D=none)(hn:x.cps.size<abl)
  (hR:∀i v H H' ys,H D=some (.lst ys)->fq D H H' ->Rel i v H->Rel i v H')
  (he:∀(i:Nat)(c:Nat) H (R:VK),x.cps[i]?=some c->au H1 H->(∀v H6,au H H6->Rel i v H6->R v H6)->te (some (.str ⟨#[c]⟩)::cap) H R)
  (hd:∀ys H,ys.length=x.cps.size->(∀i v,ys[i]?=some v->Rel i v H)->au H1 H->H D=some (.lst ys)->Q (.ref D) H):
  BA D (fj 0) yc te (Its x) (none::cap) H1 Q:=by
 refine yi x.cps.size (fun i=>.str ⟨#[(x.cps[i]?).getD 0]⟩) Rel nD hn (fun i H hi s=>⟨hi,fun v H' y=>?_⟩) (fun H s=>rfl) hR (fun i H R hi s k=>?_) hd
 ·obtain ⟨y1,c,y2,y3⟩:=y
  refine ⟨y1,?_⟩;rw [y3,y2];rfl
 ·have e:x.cps[i]?=some x.cps[i]:=alh hi
  have k':=he i _ H R e s k;rw [<-(show (x.cps[i]?).getD 0=x.cps[i] by rw [e];rfl)] at k';exact k'
end Ty
namespace T_k83
open PySem PySem.Spec PyProof.Rows L2 Ty
open Builtin.Int (intBits)
theorem z0L:0<=abl:=by decide
theorem z1L:1<=abl:=by decide
theorem z2L:2<=abl:=by decide
theorem z3L:3<=abl:=by decide
theorem z4L:4<=abl:=by decide
theorem z5L:5<=abl:=by decide
theorem z6L:6<=abl:=by decide
theorem z7L:7<=abl:=by decide
theorem z8L:8<=abl:=by decide
theorem z9L:9<=abl:=by decide
seal L2.PE L2.PS L2.PSs L2.PA
abbrev zaa:List Str:=["_law_world","_law_own","_law_row","_law_prefix","_law_x","_law_y"]
abbrev zab:List Str:=["lay","NAME","NAME","NUMBER","NUMBER","MANY","NUMBER","NUMBER"]
abbrev zac:List Str:=["pin","NAME","NUMBER","NUMBER","roller","NUMBER","NUMBER"]
abbrev zad:List Str:=["self","pin"]
abbrev zae:List Str:=["_law_world","_law_rows_here","_law_prefix","_law_x","_law_y"]
abbrev zaf:List Str:=["ground","laying","row"]
abbrev zag:List Str:=["one","other"]
abbrev zah:List Str:=["pin","NAME","NUMBER","NUMBER","fixed"]
abbrev zai:List Str:=["lay","NAME","NAME","NUMBER","NUMBER"]
abbrev zaj:List Str:=["_law_script","_law_names","_law_pieces","_law_parts","_law_start","_law_k","_law_many","_law_outside","_law_world","_law_text_here","_law_found"]
abbrev zak:List Str:=["self","name","one","other"]
abbrev zal:List Str:=["self","name"]
abbrev zam:List Str:=["self"]
abbrev zan:List Str:=["ground","rows","prefix","spot"]
abbrev zao:List Str:=["pin","NAME","NUMBER","NUMBER"]
abbrev zap:List Str:=["bar","NAME","NAME","NAME"]
abbrev zaq:List Str:=["top","bottom"]
abbrev zar:List Str:=["_law_world","_law_own","_law_row","_law_prefix"]
abbrev zas:List Str:=["self","bar"]
abbrev zat:List Str:=["_law_cell"]
abbrev zau:List Str:=["_law_row"]
abbrev zav:List Str:=["_law_outside","_law_pieces","_law_early"]
abbrev zaw:List Str:=["_law_cells","_law_names","_law_pieces"]
abbrev zax:List Str:=["_law_cell","_law_names","_law_pieces"]
abbrev zay:List Str:=["_law_cell","_law_names","_law_known"]
abbrev zaz:List Str:=["_law_outside","_law_pieces","_law_early","_law_first","_law_lines","_law_k"]
abbrev zaA:List Str:=["_law_frame","_law_pins","_law_bars"]
abbrev zaB:List Str:=["piece","NAME"]
abbrev zaC:List Str:=["ground","laying","row","prefix","apart","spot","below","name","pin"]
abbrev zaD:List Str:=["self","values"]
abbrev zaE:List Str:=["kind","word"]
abbrev zaF:List Str:=["_law_x","_law_y"]
abbrev zaG:List Str:=["_law_cell","_law_k"]
abbrev zaH:List Str:=["_law_top","_law_bottom"]
abbrev zaI:List Str:=["text","rows","sheet","at","row","values"]
abbrev zaJ:List Str:=["self","name","pin"]
abbrev zaK:List Str:=["word"]
abbrev zaL:List Str:=["self","prefix","spot"]
abbrev zaM:List Str:=["_law_script","_law_k"]
abbrev zaN:List Str:=["text","parts","top","bottom","one"]
abbrev zaO:List Str:=["_law_cell","_law_names"]
abbrev zaP:List Str:=["number","pair"]
abbrev zaQ:List Str:=["text"]
abbrev zaR:List Str:=["ground","rows","prefix","spot","laying","row"]
abbrev zaS:List Str:=["self","name","x","y","hold"]
abbrev zaT:List Str:=["_law_cell","_law_k","_law_mixed","_law_j"]
abbrev zaU:List Str:=["self","name","x","y","hold","pin","spot"]
abbrev zaV:List Str:=["self","pieces"]
abbrev zaW:List Str:=["self","x","y"]
abbrev zaX:List Str:=["forms","row","words","form","values"]
abbrev zaY:List Str:=["ground","laying","row","one","other"]
abbrev zaZ:List Str:=["end"]
abbrev za0:List Str:=["ground","laying","row","spot","pin"]
abbrev za1:List Str:=["_law_text_here"]
abbrev za2:List Str:=["kinds","words"]
abbrev za3:List Str:=["rows","pieces"]
abbrev za4:List Str:=["self","at"]
abbrev za5:List Str:=["forms","row"]
abbrev za6:List Str:=["_law_one"]
abbrev za7:List Str:=["values"]
theorem sq {N P:η}{sc:Scope}(a:sc.kind=.function:=by exact rfl)(b:sc.isCoroutine=false:=by exact rfl)(c:sc.isGenerator=false:=by exact rfl)(d:N.Nodup:=by decide+kernel)(e:N.take P.length=P:=by exact rfl)(f:∀x∈P,sc.names.lookup x=some .local\/sc.names.lookup x=some .cell:=by decide+kernel)(g:∀y∈sc.names,y.2≠.free:=by decide+kernel):aC N P sc:=⟨a,b,c,d,e,f,g⟩
theorem pY (P:abJ)(w:World){X:Cx}:Passes (aT P w) X.wm E0:=kz aT.AX
theorem pX {X:Cx}:Passes (aT P w) X.wm E0:=kz aT.AX
theorem _root_.L2.cV.mo (r:L2.cV k A)(h:j<=k:=by decide):L2.cV j A:=r.mono h
theorem aI (h:PE X a ta):PE X (.Subscript a (.Constant (.int i) j p1) p2) (tOp (aeC X.K) ta (tC (.int i))):=Zh Zi h ak (fun _ _=>rfl)
theorem cT (h:PE X a ta):PE X (.Subscript a (.Constant (.int i) j p1) p2) (tOp (aeB X.K) ta (tC (.int i))):=Zh dw h ak (fun _ _=>rfl)
theorem bl1{P:List Value->Prop}(h:∀a:Value,P [a]):∀us:List Value,us.length=1->P us|[_],_=>h _
theorem blS{P:List Value->Prop}{n:Nat}(h:∀a us,us.length=n->P (a::us)):∀us:List Value,us.length=n+1->P us|a::us,e=>h a us (Nat.succ.inj e)
theorem bl2{P:List Value->Prop}(h:∀a b:Value,P [a,b]):∀us:List Value,us.length=2->P us:=blS fun a=>bl1 (h a)
theorem bl3{P:List Value->Prop}(h:∀a b c:Value,P [a,b,c]):∀us:List Value,us.length=3->P us:=blS fun a=>bl2 (h a)
theorem bl4{P:List Value->Prop}(h:∀a b c d:Value,P [a,b,c,d]):∀us:List Value,us.length=4->P us:=blS fun a=>bl3 (h a)
theorem bl5{P:List Value->Prop}(h:∀a b c d e:Value,P [a,b,c,d,e]):∀us:List Value,us.length=5->P us:=blS fun a=>bl4 (h a)
theorem bl6{P:List Value->Prop}(h:∀a b c d e f:Value,P [a,b,c,d,e,f]):∀us:List Value,us.length=6->P us:=blS fun a=>bl5 (h a)
theorem bl7{P:List Value->Prop}(h:∀a b c d e f g:Value,P [a,b,c,d,e,f,g]):∀us:List Value,us.length=7->P us:=blS fun a=>bl6 (h a)
theorem _root_.L2.mf.pD {K:Frag}{st:Stmt}(F:L2.mf K x qual st f fd)
 (h:∀(kV doc pm:Value)(an:ς)(cdv ct:Value)(us:θ),us.length=ps.length->bindArgs (fnOf x qual (av st) (aq st) (aa st) .none kV doc pm an cdv ct) ⟨us,[]⟩=pure (ps.zip us):=by first|exact fun _ _ _ _ _ _=>bl1 fun _=>rfl|exact fun _ _ _ _ _ _=>bl2 fun _ _=>rfl|exact fun _ _ _ _ _ _=>bl3 fun _ _ _=>rfl|exact fun _ _ _ _ _ _=>bl4 fun _ _ _ _=>rfl|exact fun _ _ _ _ _ _=>bl5 fun _ _ _ _ _=>rfl):Binds K fd ps []:=F.binds h
inductive HXx (K:Frag)(x:Str)(st:Stmt):Prop|mk{f:abj}{oc:Value}{od an:ς}{qG:Δ}{kV doc pm cdv ct:Value}(a:nsIn K abA x=some (some (.ref f)))(l:K.lookup f=some ⟨oc,od,.func (fnOf x x (av st) (aq st) (aa st) .none kV doc pm an cdv ct),qG⟩)(c:codeIn K cdv x=true)(k:keepIn K (.ref f)=true):HXx K x st
inductive HXy (K:Frag)(C:abj)(x q:Str)(st:Stmt):Prop|mk{f:abj}{oc:Value}{od an:ς}{qG:Δ}{kV doc pm cdv ct:Value}(a:abt K (.ref C) x=some (some (.ref f)))(i:adv K (.ref f)=true)(l:K.lookup f=some ⟨oc,od,.func (fnOf x q (av st) (aq st) (aa st) .none kV doc pm an cdv ct),qG⟩)(c:codeIn K cdv q=true)(k:keepIn K (.ref f)=true):HXy K C x q st
theorem ke {K:Frag}{mg:ζ}{st:Stmt}(X:K.In h)(G:h.Ns abA mg)(H:HXx K x st)
 (b:∀(kV doc pm:Value)(an:ς)(cdv ct:Value)(us:θ),us.length=ps.length->bindArgs (fnOf x x (av st) (aq st) (aa st) .none kV doc pm an cdv ct) ⟨us,[]⟩=pure (ps.zip us):=by first|exact fun _ _ _ _ _ _=>bl1 fun _=>rfl|exact fun _ _ _ _ _ _=>bl2 fun _ _=>rfl|exact fun _ _ _ _ _ _=>bl3 fun _ _ _=>rfl|exact fun _ _ _ _ _ _=>bl4 fun _ _ _ _=>rfl|exact fun _ _ _ _ _ _=>bl5 fun _ _ _ _ _=>rfl|exact fun _ _ _ _ _ _=>bl6 fun _ _ _ _ _ _=>rfl|exact fun _ _ _ _ _ _=>bl7 fun _ _ _ _ _ _ _=>rfl):Def K mg x st ps:=have ⟨a,l,c,k⟩:=H;Def.of (bZ l c k) ((bZ l c k).binds b) (mg_of X G a)
def top (i:Nat):Stmt:=PySem.Challenge.pw_trussyard_k83_whole_pieces_laid.main.body.getD i (.Pass ⟨0,0,0,0⟩)
abbrev cC:Stmt:=top 16
abbrev jS:Stmt:=top 17
abbrev d7:Stmt:=top 18
abbrev iF:Stmt:=top 19
abbrev NO:Stmt:=top 20
abbrev V6:Stmt:=top 21
abbrev f6:Stmt:=top 25
abbrev cX:Stmt:=top 26
abbrev dM:Stmt:=top 27
abbrev gP:Stmt:=top 38
abbrev fK:Stmt:=top 39
abbrev d8:Stmt:=top 44
abbrev gQ:Stmt:=top 45
abbrev iG:Stmt:=top 46
abbrev iH:Stmt:=top 47
abbrev d4:Stmt:=top 48
abbrev cf:Stmt:=top 49
abbrev lQ:Stmt:=top 50
abbrev g6:Stmt:=top 51
abbrev gR:Stmt:=top 56
abbrev lS:Stmt:=top 57
abbrev gS:Stmt:=top 58
abbrev jL:Stmt:=top 59
abbrev g7:Stmt:=top 60
abbrev iI:Stmt:=top 61
abbrev cY:Stmt:=top 65
abbrev V7:Stmt:=top 67
abbrev fM:Stmt:=top 68
abbrev V8:Stmt:=top 69
abbrev gT:Stmt:=top 70
abbrev eM:Stmt:=top 71
abbrev iJ:Stmt:=top 72
abbrev iK:Stmt:=top 73
abbrev V9:Stmt:=top 74
abbrev eO:Stmt:=top 75
abbrev eP:Stmt:=top 76
abbrev eQ:Stmt:=top 77
abbrev g8:Stmt:=top 78
abbrev iL:Stmt:=top 79
abbrev iM:Stmt:=top 80
abbrev fO:Stmt:=top 81
abbrev dY:Stmt:=top 82
abbrev dZ:Stmt:=top 83
abbrev dq:Stmt:=top 84
abbrev iN:Stmt:=top 85
abbrev eT:Stmt:=top 86
abbrev lT:Stmt:=top 87
abbrev oh:Stmt:=top 88
abbrev V_:Stmt:=inClass (top 6) 0
abbrev di:Stmt:=inClass (top 7) 0
abbrev V':Stmt:=inClass (top 8) 0
abbrev dE:Stmt:=inClass (top 9) 0
abbrev dF:Stmt:=inClass (top 11) 0
abbrev eU:Stmt:=inClass (top 13) 0
abbrev Wa:Stmt:=inClass (top 31) 0
abbrev uO:Stmt:=inClass (top 31) 1
abbrev RF:Stmt:=inClass (top 31) 2
abbrev RG:Stmt:=inClass (top 31) 3
abbrev Wb:Stmt:=inClass (top 31) 4
abbrev Wc:Stmt:=inClass (top 31) 7
abbrev We:Stmt:=inClass (top 31) 8
abbrev Wf:Stmt:=inClass (top 31) 9
abbrev Wg:Stmt:=inClass (top 31) 10
abbrev Wh:Stmt:=inClass (top 31) 11
abbrev afc:Stmt:=inClass (top 33) 0
abbrev Wi:Stmt:=inClass (top 34) 0
abbrev Wj:Stmt:=inClass (top 34) 1
abbrev Wk:Stmt:=inClass (top 35) 0
abbrev eV:Stmt:=inClass (top 42) 0
abbrev cD:Stmt:=inClass (top 42) 1
abbrev eY:Stmt:=inClass (top 43) 0
abbrev cE:Stmt:=inClass (top 43) 1
abbrev bO:Stmt:=inClass (top 43) 2
abbrev cp:Stmt:=inClass (top 43) 3
abbrev dj:Stmt:=inClass (top 43) 4
abbrev f7:Stmt:=inClass (top 64) 0
abbrev cL:Stmt:=inClass (top 64) 1
abbrev f9:Stmt:=inClass (top 64) 2
section
variable {P:abJ}{w:World}{K:Frag}{mg:ζ}{base:Heap}{CX:uI}
structure Okn (k:Nat)(q:Int×Int):Prop where
 pos:0<q.2
 top:intBits q.1<=k
 bot:intBits q.2<=k
theorem a_ (h:H p=none)(o:HO):au H (upd H p o):=fun b u q=>by rw [ah (aj q h)];exact q
theorem nw (n:H l=none)(e:upd H l o=H'):au H H'/\H' l=some o:=by subst e;exact ⟨a_ n o,ai⟩
def gives (H:Hp)(Q:VK)(q:Int×Int):Prop:=∀(p:abj)(H':Hp),au H H' ->H' p=some (.tup [.int q.1,.int q.2])->Q (.ref p) H'
inductive yC (vs:ε)(H:Hp)(Q:VK)(E_:XK):Prop
|mk (a b:Int)(_:vs=[.int a,.int b])(_:Q (.int (gz a b)) H)
def addQ (x y:Int×Int):Int×Int:=low (x.1*y.2+y.1*x.2) (x.2*y.2)
def mulQ (x y:Int×Int):Int×Int:=low (x.1*y.1) (x.2*y.2)
theorem UW (hx:Okn k x)(hy:Okn l y):x.2*y.2≠0:=ahM (ahU hx.pos hy.pos)
theorem AS {a b:V}:ng [a,b] 0=some a:=rfl
theorem vS {a b:V}:ng [a,b] 1=some b:=rfl
theorem UX:aC ["one","other","left"] zag (aa V6):=sq
theorem api (D:Def K mg "greatest_shared" V6 zag)(FE:mg "abs"=none):Fn P w K mg base CX 1 "greatest_shared" zag yC:=by
 refine D.oo UX fun H hr h=>?_;obtain ⟨a,b,rfl,q⟩:=h
 refine ⟨_,(ag (xJ abW (aL nL (pv 1) ak) (ag (aR (i:=2) UX.nd (aD bE (pv 0) (pv 1))) (ag (aR (i:=0) UX.nd (pv 1)) (ae (aR (i:=1) UX.nd (pv 2)))))) (ae (aH (a8 MM rfl FE ahb (aE (pv 0)))))),?_⟩
 refine xM (fun σ H'=>Ex3 fun (x y:Int) (l:ω)=>σ=[some (.int x),some (.int y),l]/\H'=H/\ae' x y=ae' a b) (fun σ _=>match σ with|[_,some (.int y),_]=>y.natAbs|_=>0) ⟨a,b,none,rfl,rfl,rfl⟩ ?_ ?_
 ·rintro σ H' ⟨x,y,l,rfl,rfl,g⟩
  refine ⟨_,rfl,rfl,_,rfl,?_⟩;refine aK (fun c=>?_) (fun c=>?_)
  ·have hy:y≠0:=by
    intro z;subst z;simp at c
   exact ⟨_,rfl,_,rfl,_,_,rfl,rfl,hy,_,rfl,_,rfl,⟨_,_,_,rfl,rfl,by rw [MX];exact g⟩,EO hy⟩
  ·have hy:y=0:=by
    have:=ac4.mpr c;simp at this;exact this
   subst hy;refine ⟨_,rfl,x,rfl,?_⟩
   have e:(if x<0 then -x else x)=gz a b:=by
    rw [anp] at g;unfold gz;rw [<-g];split<;>omega
   rw [e];exact q
 ·rintro σ H' Q1 Q2 h ⟨v,e1,e2,k,ek,z⟩
  exact ⟨v,e1,e2,k,ek,h _ _ z⟩
inductive lU (vs:ε)(H:Hp)(Q:VK)(E_:XK):Prop
|mk (t b:Int)(_:vs=[.int t,.int b])(_:b≠0)(_:gives H Q (low t b))
theorem aal:aC ["top","bottom","shared"] zaq (aa NO):=sq
theorem apj (ht:P.given.tree=none)(D:Def K mg "lowest_terms" NO zaq)(axB:Fn P w K mg base (aT P w) 1 "greatest_shared" zag yC):Fn P w K mg base (aT P w) 33 "lowest_terms" zaq lU:=by
 refine D.op aal fun f cdv A outer s H vs Q E hr h=>?_;obtain ⟨t,b,rfl,hb,q⟩:=h
 have apk:∃tt,PSs (kh (aT P w) P w K mg base ["top","bottom","shared"] "lowest_terms" (aa NO) f cdv A outer s H E).wm ((aq NO).drop 2) tt/\∀g:Int,g=sg t b->tt {nx:=fun _ H'=>Q .bG H',rt:=Q} [some (.int t),some (.int b),some (.int g)] H:=by
  refine ⟨_,(ae (aH (aX (aU (aD (sM ht (Ty.cV.py hr (by decide)) rfl rfl rfl rfl rfl) (pv 0) (pv 2)) (aD (sM ht (Ty.cV.py hr (by decide)) rfl rfl rfl rfl rfl) (pv 1) (pv 2)))))),?_⟩;rintro g rfl;have c:=xY (t:=t) hb;refine ⟨_,rfl,_,rfl,_,_,rfl,rfl,c,_,rfl,_,rfl,_,_,rfl,rfl,c,z2L,fun p hp=>?_⟩;exact q p _ (a_ hp _) ai
 obtain ⟨t2,p2,q2⟩:=apk;refine ⟨_,(ag (aR (i:=2) aal.nd (dh axB hr (aU (pv 0) (pv 1)))) (ag (aS (aL vH (pv 1) ak) (ae (aR (i:=2) aal.nd (ML xN (pv 2)))) aG) p2)),_,rfl,_,rfl,t,b,rfl,_,rfl,_,_,rfl,rfl,_,rfl,?_⟩;refine aK (fun c=>?_) (fun c=>?_)
 ·refine ⟨_,rfl,_,rfl,q2 _ ?_⟩
  have c':b<0:=abn c;unfold sg;rw [abv c']
 ·refine q2 _ ?_
  have c':¬ b<0:=of_decide_eq_false (ac4.mpr c);unfold sg;rw [abp c']
inductive uP (K:Frag)(f:Int×Int->Int×Int->Int×Int)(vs:ε)(H:Hp)(Q:VK)(E_:XK):Prop
|mk (u v:V)(x y:Int×Int)(_:vs=[u,v])(_:uz K H u x)(_:uz K H v y)(_:Okn 100000 x)(_:Okn 100000 y)(_:gives H Q (f x y))
theorem Wl:aC zag zag (aa jS):=sq
theorem Wm (hM:qJ CX)(D:Def K mg "sum_of" jS zag)(Wn:Fn P w K mg base CX 33 "lowest_terms" zaq lU):Fn P w K mg base CX 34 "sum_of" zag (uP K addQ):=by
 refine D.op Wl fun f cdv A outer s H vs Q E hr h=>?_;obtain ⟨u,v,x,y,rfl,⟨p1,rfl,h1⟩,⟨p2,rfl,h2⟩,k1,k2,q⟩:=h;have px:=kz (X:=kh CX P w K mg base zag "sum_of" (aa jS) f cdv A outer s H E) hM;refine ⟨_,(ae (aH (bK Wn hr.mo px (aU (aD dW (aD d6 (aI (pv 0)) (aI (pv 1))) (aD d6 (aI (pv 1)) (aI (pv 0)))) (aD d6 (aI (pv 0)) (aI (pv 1))))))),?_⟩;have b1:=k1.top;have b2:=k1.bot;have b3:=k2.top;have b4:=k2.bot;have c:∀{i j:Int},intBits i<=100000->intBits j<=100000->vL i j:=fun a b=>⟨aah a (by decide),aah b (by decide)⟩;exact ⟨_,rfl,p1,_,_,_,rfl,rfl,h1,AS,_,rfl,p2,_,_,_,rfl,rfl,h2,vS,_,_,rfl,rfl,c b1 b4,_,rfl,p2,_,_,_,rfl,rfl,h2,AS,_,rfl,p1,_,_,_,rfl,rfl,h1,vS,_,_,rfl,rfl,c b3 b2,_,_,rfl,rfl,_,rfl,p1,_,_,_,rfl,rfl,h1,vS,_,rfl,p2,_,_,_,rfl,rfl,h2,vS,_,_,rfl,rfl,c b2 b4,_,_,rfl,UW k1 k2,q⟩
theorem BE:aC zag zag (aa d7):=sq
theorem BF (hM:qJ CX)(D:Def K mg "product_of" d7 zag)(Wn:Fn P w K mg base CX 33 "lowest_terms" zaq lU):Fn P w K mg base CX 34 "product_of" zag (uP K mulQ):=by
 refine D.op BE fun f cdv A outer s H vs Q E hr h=>?_;obtain ⟨u,v,x,y,rfl,⟨p1,rfl,h1⟩,⟨p2,rfl,h2⟩,k1,k2,q⟩:=h;have px:=kz (X:=kh CX P w K mg base zag "product_of" (aa d7) f cdv A outer s H E) hM;refine ⟨_,(ae (aH (bK Wn hr.mo px (aU (aD d6 (aI (pv 0)) (aI (pv 1))) (aD d6 (aI (pv 0)) (aI (pv 1))))))),?_⟩;have b1:=k1.top;have b2:=k1.bot;have b3:=k2.top;have b4:=k2.bot;have c:∀{i j:Int},intBits i<=100000->intBits j<=100000->vL i j:=fun a b=>⟨aah a (by decide),aah b (by decide)⟩;exact ⟨_,rfl,p1,_,_,_,rfl,rfl,h1,AS,_,rfl,p2,_,_,_,rfl,rfl,h2,AS,_,_,rfl,rfl,c b1 b3,_,rfl,p1,_,_,_,rfl,rfl,h1,vS,_,rfl,p2,_,_,_,rfl,rfl,h2,vS,_,_,rfl,rfl,c b2 b4,_,_,rfl,UW k1 k2,q⟩
inductive qS (K:Frag)(f:Rat->Rat->Rat)(vs:ε)(H:Hp)(Q:VK)(E_:XK):Prop
|mk (u v:V)(x y:Rat)(_:vs=[u,v])(_:jR K H u x)(_:jR K H v y)(_:Sz 100000 x)(_:Sz 100000 y)(_:gives H Q (qr (f x y)))
theorem HN (h:Sz k r):Okn k (qr r):=⟨js r,h.top,h.bot⟩
theorem aam (F:Fn P w K mg base CX k x ps (uP K addQ)):Fn P w K mg base CX k x ps (qS K fun a b=>a+b):=by
 obtain ⟨f,fd,G,r⟩:=F.ex;refine ⟨f,fd,G.imp fun vs H Q E h=>?_,r⟩;obtain ⟨u,v,a,b,e,h1,h2,k1,k2,q⟩:=h;refine ⟨u,v,qr a,qr b,e,h1,h2,HN k1,HN k2,?_⟩;unfold addQ;rw [aac];exact q
theorem akL (F:Fn P w K mg base CX k x ps (uP K mulQ)):Fn P w K mg base CX k x ps (qS K fun a b=>a*b):=by
 obtain ⟨f,fd,G,r⟩:=F.ex;refine ⟨f,fd,G.imp fun vs H Q E h=>?_,r⟩;obtain ⟨u,v,a,b,e,h1,h2,k1,k2,q⟩:=h;refine ⟨u,v,qr a,qr b,e,h1,h2,HN k1,HN k2,?_⟩;unfold mulQ;rw [aad];exact q
def aan (K:Frag)(H:Hp)(Q:VK)(p:Rat×Rat):Prop:=∀(v:V)(H':Hp),au H H' ->og K H' v p->Q v H'
inductive yD (K:Frag)(f:Rat->Rat->Rat)(vs:ε)(H:Hp)(Q:VK)(E_:XK):Prop
|mk (u v:V)(x y:Rat×Rat)(_:vs=[u,v])(_:og K H u x)(_:og K H v y)(_:Sz 100000 x.1)(_:Sz 100000 x.2)(_:Sz 100000 y.1)(_:Sz 100000 y.2)(_:aan K H Q (f x.1 y.1,f x.2 y.2))
theorem NP:aC zag zag (aa gP):=sq
theorem NQ (hM:qJ CX)(D:Def K mg "pair_sum" gP zag)(NR:Fn P w K mg base CX 34 "sum_of" zag (qS K fun a b=>a+b)):Fn P w K mg base CX 35 "pair_sum" zag (yD K fun a b=>a+b):=by
 refine D.op NP fun f cdv A outer s H vs Q E hr h=>?_;obtain ⟨u,v,x,y,rfl,⟨p1,a1,a2,rfl,h1,n1,n2⟩,⟨p2,b1,b2,rfl,h2,m1,m2⟩,k1,k2,l1,l2,q⟩:=h;have px:=kz (X:=(kh (aT P w) P w K mg base zag "pair_sum" (aa gP) f cdv A outer s H E)) hM;refine ⟨_,(ae (aH (aX (aU (bK NR hr.mo px (aU (aI (pv 0)) (aI (pv 1)))) (bK NR hr.mo px (aU (aI (pv 0)) (aI (pv 1)))))))),_,rfl,p1,_,_,_,rfl,rfl,h1,AS,_,rfl,p2,_,_,_,rfl,rfl,h2,AS,a1,b1,_,_,rfl,n1,m1,k1,l1,fun c1 H1 s1 e1=>?_⟩;refine ⟨_,rfl,p1,_,_,_,rfl,rfl,Ty.au.cy s1 h1,vS,_,rfl,p2,_,_,_,rfl,rfl,Ty.au.cy s1 h2,vS,a2,b2,_,_,rfl,n2.same s1,m2.same s1,k2,l2,fun c2 H2 s2 e2=>?_⟩;refine ⟨z2L,fun c3 n3=>?_⟩;have s3:=a_ n3 (.tup [.ref c1,.ref c2]);exact q (.ref c3) _ (fun b o z=>s3 _ _ (s2 _ _ (s1 _ _ z))) ⟨c3,_,_,rfl,dG.of ai,⟨c1,rfl,dG.of (s3 _ _ (s2 _ _ e1))⟩,⟨c2,rfl,dG.of (s3 _ _ e2)⟩⟩
inductive oj (K:Frag)(vs:ε)(H:Hp)(Q:VK)(E_:XK):Prop
|mk (u v:V)(x:Rat)(y:Rat×Rat)(_:vs=[u,v])(_:jR K H u x)(_:og K H v y)(_:Sz 100000 x)(_:Sz 100000 y.1)(_:Sz 100000 y.2)(_:aan K H Q (x*y.1,x*y.2))
theorem HP:aC zaP zaP (aa fK):=sq
theorem HQ (hM:qJ CX)(D:Def K mg "stretched" fK zaP)(sQ:Fn P w K mg base CX 34 "product_of" zag (qS K fun a b=>a*b)):Fn P w K mg base CX 35 "stretched" zaP (oj K):=by
 refine D.op HP fun f cdv A outer s H vs Q E hr h=>?_;obtain ⟨u,v,x,y,rfl,n0,⟨p2,b1,b2,rfl,h2,m1,m2⟩,k1,l1,l2,q⟩:=h;have px:=kz (X:=(kh (aT P w) P w K mg base zaP "stretched" (aa fK) f cdv A outer s H E)) hM;refine ⟨_,(ae (aH (aX (aU (bK sQ hr.mo px (aU (pv 0) (aI (pv 1)))) (bK sQ hr.mo px (aU (pv 0) (aI (pv 1)))))))),_,rfl,_,rfl,p2,_,_,_,rfl,rfl,h2,AS,u,b1,_,_,rfl,n0,m1,k1,l1,fun c1 H1 s1 e1=>?_⟩;refine ⟨_,rfl,_,rfl,p2,_,_,_,rfl,rfl,Ty.au.cy s1 h2,vS,u,b2,_,_,rfl,n0.same s1,m2.same s1,k1,l2,fun c2 H2 s2 e2=>?_⟩;refine ⟨z2L,fun c3 n3=>?_⟩;have s3:=a_ n3 (.tup [.ref c1,.ref c2]);exact q (.ref c3) _ (fun b o z=>s3 _ _ (s2 _ _ (s1 _ _ z))) ⟨c3,_,_,rfl,dG.of ai,⟨c1,rfl,dG.of (s3 _ _ (s2 _ _ e1))⟩,⟨c2,rfl,dG.of (s3 _ _ e2)⟩⟩
inductive gk (C:abj)(f:Str)(vs:ε)(H:Hp)(Q:VK)(E_:XK):Prop
|mk (a:abj)(v:V)(_:vs=[.ref a,v])(_:H a=some (lH C a none))(_:∀(d:abj)(H':Hp),(∀b o,b≠a->H b=some o->H' b=some o)->H d=none->H' d=some (LM d [(f,v)])->H' a=some (lH C a (some d))->Q .bG H')
def cj (H:Hp)(E:XK)(C:abj)(f:Str)(v:V):Prop:=∀(d:abj)(H':Hp),au H H' ->H d=none->H' d=some (LM d [(f,v)])->E (.ref C) (some d) H'
theorem cj.go (h:cj H E C f v):∀e,H e=none->gk C f [.ref e,v] (upd H e (lH C e none)) (fun v' H2=>v'=.bG/\∃dx,H2 e=some (lH C e dx)/\E (.ref C) dx (sE H2 e)) E0:=fun e ne=>by
 refine ⟨e,v,rfl,ai,fun d H' k nd hd he=>⟨rfl,some d,he,?_⟩⟩;have de:d≠e:=fun z=>by rw [z,ai] at nd;cases nd
 rw [ah de] at nd;refine h d (sE H' e) (fun b o z=>?_) nd ?_
 ·have be:b≠e:=aj z ne
  rw [gC be];exact k b o be (by rw [ah be];exact z)
 ·rw [gC de]
  exact hd
theorem UY (f:Str)(v:V):ac6 f [(f,v)]=some v:=by simp [ac6]
theorem apl:aC zad zad (aa V_):=sq
theorem apm (F:mf K "__init__" "PinThere.__init__" V_ f fd)(hY:vP K Y)(nh:mg "YardError"=some (.ref Y))(xf:TyExc.lG K C "pin")(hv:abL K C (.type "ValueError")=some true):bT P w K mg base (aT P w) 1 f fd zad (gk C "pin"):=by
 refine dR F apl fun H hr h=>?_;obtain ⟨a,v,rfl,ea,q⟩:=h
 refine ⟨_,(ag (bg (pe hY nh (aU (pv 0) (pv 1)))) (ae (ph (pv 0) (pv 1) rfl))),?_⟩
 refine ⟨_,rfl,_,rfl,a,C,none,[v],rfl,ea,xf.k,hv,z1L,_,rfl,_,rfl,a,C,rfl,xf,.inl ⟨ea,fun d nd ne=>?_⟩⟩;refine q d _ (fun b o n e=>by rw [ah n,ah (aj e nd)];exact e) nd ?_ ai;rw [ah ne,ai]
theorem sT:aC zad zad (aa di):=sq
theorem sU (F:mf K "__init__" "SpotTaken.__init__" di f fd)(hY:vP K Y)(nh:mg "YardError"=some (.ref Y))(xf:TyExc.lG K C "pin")(hv:abL K C (.type "ValueError")=some true):bT P w K mg base (aT P w) 1 f fd zad (gk C "pin"):=by
 refine dR F sT fun H hr h=>?_;obtain ⟨a,v,rfl,ea,q⟩:=h
 refine ⟨_,(ag (bg (pe hY nh (aU (pv 0) (pv 1)))) (ae (ph (pv 0) (pv 1) rfl))),?_⟩
 refine ⟨_,rfl,_,rfl,a,C,none,[v],rfl,ea,xf.k,hv,z1L,_,rfl,_,rfl,a,C,rfl,xf,.inl ⟨ea,fun d nd ne=>?_⟩⟩;refine q d _ (fun b o n e=>by rw [ah n,ah (aj e nd)];exact e) nd ?_ ai;rw [ah ne,ai]
theorem apn:aC zad zad (aa V'):=sq
theorem apo (F:mf K "__init__" "NoPin.__init__" V' f fd)(hY:vP K Y)(nh:mg "YardError"=some (.ref Y))(xf:TyExc.lG K C "pin")(hv:abL K C (.type "ValueError")=some true):bT P w K mg base (aT P w) 1 f fd zad (gk C "pin"):=by
 refine dR F apn fun H hr h=>?_;obtain ⟨a,v,rfl,ea,q⟩:=h
 refine ⟨_,(ag (bg (pe hY nh (aU (pv 0) (pv 1)))) (ae (ph (pv 0) (pv 1) rfl))),?_⟩
 refine ⟨_,rfl,_,rfl,a,C,none,[v],rfl,ea,xf.k,hv,z1L,_,rfl,_,rfl,a,C,rfl,xf,.inl ⟨ea,fun d nd ne=>?_⟩⟩;refine q d _ (fun b o n e=>by rw [ah n,ah (aj e nd)];exact e) nd ?_ ai;rw [ah ne,ai]
theorem uQ:aC zas zas (aa dE):=sq
theorem uR (F:mf K "__init__" "BarThere.__init__" dE f fd)(hY:vP K Y)(nh:mg "YardError"=some (.ref Y))(xf:TyExc.lG K C "bar")(hv:abL K C (.type "ValueError")=some true):bT P w K mg base (aT P w) 1 f fd zas (gk C "bar"):=by
 refine dR F uQ fun H hr h=>?_;obtain ⟨a,v,rfl,ea,q⟩:=h
 refine ⟨_,(ag (bg (pe hY nh (aU (pv 0) (pv 1)))) (ae (ph (pv 0) (pv 1) rfl))),?_⟩
 refine ⟨_,rfl,_,rfl,a,C,none,[v],rfl,ea,xf.k,hv,z1L,_,rfl,_,rfl,a,C,rfl,xf,.inl ⟨ea,fun d nd ne=>?_⟩⟩;refine q d _ (fun b o n e=>by rw [ah n,ah (aj e nd)];exact e) nd ?_ ai;rw [ah ne,ai]
theorem uS:aC zas zas (aa dF):=sq
theorem uT (F:mf K "__init__" "NoLength.__init__" dF f fd)(hY:vP K Y)(nh:mg "YardError"=some (.ref Y))(xf:TyExc.lG K C "bar")(hv:abL K C (.type "ValueError")=some true):bT P w K mg base (aT P w) 1 f fd zas (gk C "bar"):=by
 refine dR F uS fun H hr h=>?_;obtain ⟨a,v,rfl,ea,q⟩:=h
 refine ⟨_,(ag (bg (pe hY nh (aU (pv 0) (pv 1)))) (ae (ph (pv 0) (pv 1) rfl))),?_⟩
 refine ⟨_,rfl,_,rfl,a,C,none,[v],rfl,ea,xf.k,hv,z1L,_,rfl,_,rfl,a,C,rfl,xf,.inl ⟨ea,fun d nd ne=>?_⟩⟩;refine q d _ (fun b o n e=>by rw [ah n,ah (aj e nd)];exact e) nd ?_ ai;rw [ah ne,ai]
theorem yE:aC za4 za4 (aa eU):=sq
theorem yF (F:mf K "__init__" "NoLine.__init__" eU f fd)(hY:vP K Y)(nh:mg "YardError"=some (.ref Y))(xf:TyExc.lG K C "at")(hv:abL K C (.type "ValueError")=some true):bT P w K mg base (aT P w) 1 f fd za4 (gk C "at"):=by
 refine dR F yE fun H hr h=>?_;obtain ⟨a,v,rfl,ea,q⟩:=h
 refine ⟨_,(ag (bg (pe hY nh (aU (pv 0) (pv 1)))) (ae (ph (pv 0) (pv 1) rfl))),?_⟩
 refine ⟨_,rfl,_,rfl,a,C,none,[v],rfl,ea,xf.k,hv,z1L,_,rfl,_,rfl,a,C,rfl,xf,.inl ⟨ea,fun d nd ne=>?_⟩⟩;refine q d _ (fun b o n e=>by rw [ah n,ah (aj e nd)];exact e) nd ?_ ai;rw [ah ne,ai]
inductive HR (K:Frag)(C:abj)(vs:ε)(H:Hp)(Q:VK)(E_:XK):Prop
|mk (a dx:abj)(_:vs=[.ref a])(_:H a=some (.ins C dx []))(_:∀(pP pW pB:abj)(H':Hp),fq a H H' ->H pP=none->H pW=none->H pB=none->jr K H' C a dx pP pW pB [] [] [] [] []->Q .bG H')
theorem afd :dH "pin_places" x []=([("pin_places",x)]:List (Str×V)):=rfl
theorem afe :dH "pin_ways" y [("pin_places",x)]=([("pin_places",x),("pin_ways",y)]:List (Str×V)):=by
 simp only [dH];rw [abp (by decide)]
theorem aff :dH "bar_ends" z [("pin_places",x),("pin_ways",y)]=([("pin_places",x),("pin_ways",y),("bar_ends",z)]:List (Str×V)):=by
 simp only [dH];rw [abp (by decide),abp (by decide)]
theorem apq:aC zam zam (aa Wa):=sq
theorem apr (F:mf K "__init__" "Frame.__init__" Wa f fd)(fc:Z_ K C):bT P w K mg base (aT P w) 1 f fd zam (HR K C):=by
 refine dR F apq fun H hr h=>?_;obtain ⟨a,dx,rfl,ha,q⟩:=h
 refine ⟨_,(ag (gM (pv 0) lJ rfl) (ag (gM (pv 0) lJ rfl) (ae (gM (pv 0) lJ rfl)))),?_⟩
 intro pP nP;have aP:a≠pP:=aj ha nP;refine ⟨_,rfl,a,C,dx,_,rfl,(by rw [ah aP];exact ha),fc.cls,fc.pl,(by show 0<1000;decide),?_⟩;rw [afd];generalize e1:upd (upd H pP (.dK [])) a (.ins C dx [("pin_places",.ref pP)])=H1;have o1:H1 a=some (.ins C dx [("pin_places",.ref pP)]):=by rw [<-e1,ai]
 have p1:H1 pP=some (.dK []):=by rw [<-e1,ah (ac2 aP),ai]
 have k1:∀b o,b≠a->H b=some o->H1 b=some o:=fun b o n e=>by rw [<-e1,ah n,ah (aj e nP)];exact e
 intro pW nW;have aW:a≠pW:=aj o1 nW;refine ⟨_,rfl,a,C,dx,_,rfl,(by rw [ah aW];exact o1),fc.cls,fc.wy,(by show 1<1000;decide),?_⟩;rw [afe];generalize e2:upd (upd H1 pW (.dK [])) a (.ins C dx [("pin_places",.ref pP),("pin_ways",.ref pW)])=H2;have PW:pP≠pW:=aj p1 nW;have o2:H2 a=some (.ins C dx [("pin_places",.ref pP),("pin_ways",.ref pW)]):=by rw [<-e2,ai]
 have w2:H2 pW=some (.dK []):=by rw [<-e2,ah (ac2 aW),ai]
 have k2:∀b o,b≠a->H1 b=some o->H2 b=some o:=fun b o n e=>by rw [<-e2,ah n,ah (aj e nW)];exact e
 intro pB nB;have aB:a≠pB:=aj o2 nB;have p2:=k2 _ _ (ac2 aP) p1;refine ⟨_,rfl,a,C,dx,_,rfl,(by rw [ah aB];exact o2),fc.cls,fc.br,(by show 2<1000;decide),?_⟩;rw [aff];have PB:pP≠pB:=aj p2 nB;have WB:pW≠pB:=aj w2 nB;have k3:∀b o,b≠a->H2 b=some o->(upd (upd H2 pB (.dK [])) a (.ins C dx [("pin_places",.ref pP),("pin_ways",.ref pW),("bar_ends",.ref pB)])) b=some o:=fun b o n e=>by rw [ah n,ah (aj e nB)];exact e
 have f1:∀b,b≠a->H1 b=none->H b=none:=fun b n e=>by
  cases z:H b with
  | none=>rfl
  | some o=>rw [k1 b o n z] at e;cases e
 have f2:∀b,b≠a->H2 b=none->H b=none:=fun b n e=>by
  cases z:H b with
  | none=>rfl
  | some o=>rw [k2 b o n (k1 b o n z)] at e;cases e
 refine q pP pW pB _ (fun b o n e=>k3 b o n (k2 b o n (k1 b o n e))) nP (f1 _ (ac2 aW) nW) (f2 _ (ac2 aB) nB) ⟨ai,k3 _ _ (ac2 aP) p2,k3 _ _ (ac2 aW) w2,?_,PW,PB,WB,.nil,.nil⟩;rw [ah (ac2 aB),ai]
inductive yG (K:Frag)(C:abj)(vs:ε)(H:Hp)(Q:VK)(E_:XK):Prop
|mk (a dx pP pW pB:abj)(ps:χ)(bs:ο)(kP kW kB:ι)(_:vs=[.ref a])(_:jr K H C a dx pP pW pB ps bs kP kW kB)(_:∀(l:abj)(H':Hp),au H H' ->H l=none->H' l=some (.lst ((ps.map (·.1)).map V.str))->Q (.ref l) H')
theorem aps:aC zam zam (aa Wc):=sq
theorem apt (F:mf K "pins" "Frame.pins" Wc f fd)(fc:Z_ K C)(jt:mg "list"=none):bT P w K mg base (aT P w) 1 f fd zam (yG K C):=by
 refine dR F aps fun H hr h=>?_;obtain ⟨a,dx,pP,pW,pB,ps,bs,kP,kW,kB,rfl,R,q⟩:=h;refine ⟨_,(ae (aH (cB (yw rfl) rfl jt GQ (aE (bo (pv 0) rfl))))),_,rfl,a,C,dx,_,_,rfl,R.obj,fc.cls,fc.pl,rfl,pP,kP,rfl,.inl R.pl,fun l nl=>?_⟩;refine q l _ (a_ nl _) nl ?_;rw [ai]
 have e:kP.map (fun kv=>kV kv.1)=(ps.map (·.1)).map V.str:=by
  have z:kP.map (fun kv=>kV kv.1)=(kP.map (·.1)).map kV:=by rw [ae5];rfl
  rw [z,R.UQ,ae5];rfl
 rw [e]
inductive jf (K:Frag)(C CN:abj)(vs:ε)(H:Hp)(Q:VK)(E:XK):Prop
|mk (a dx pP pW pB:abj)(ps:χ)(bs:ο)(kP kW kB:ι)(x:Str)(_:vs=[.ref a,.str x])(_:jr K H C a dx pP pW pB ps bs kP kW kB)(_:(x∈ps.map (·.1)->Q .bG H))(_:(x∉ps.map (·.1)->cj H E CN "pin" (.str x)))
theorem apu:aC zad zad (aa Wb):=sq
theorem apv (F:mf K "check_pin" "Frame.check_pin" Wb f fd)(fc:Z_ K C)(HS:mg "NoPin"=some (.ref CN))(Wo:qM K CN fN)(akM:bT P w K mg base (aT P w) 1 fN fdN zad (gk CN "pin"))(Wq:Binds K fdN zad []):bT P w K mg base (aT P w) 3 f fd zad (jf K C CN):=by
 refine mF F apu (fun vs H Q E h=>?_) (fun cdv A outer s H vs Q E hr h=>?_)
 ·obtain ⟨a,dx,pP,pW,pB,ps,bs,kP,kW,kB,x,rfl,_⟩:=h
  rfl
 obtain ⟨a,dx,pP,pW,pB,ps,bs,kP,kW,kB,x,rfl,R,q1,q2⟩:=h;refine ⟨_,(ae (aS (kU (jK (bB hr) (pv 1) (bo (pv 0) rfl))) (ae (df Wo akM hr.mo Wq HS (aE (pv 1)))) aG)),_,rfl,_,rfl,a,C,dx,_,_,rfl,R.obj,fc.cls,fc.pl,rfl,pP,_,rfl,dC.k (k:=.inr x) R.pl,_,rfl,?_⟩;rw [R.pin x];by_cases hx:x∈ps.map (·.1)
 ·rw [abu hx]
  exact q1 hx
 ·rw [aby hx]
  exact ⟨_,rfl,z1L,(q2 hx).go⟩
theorem afg (M:bH P w K mg base CX k C m ps sp)(h:∀vs H Q E,sp' vs H Q E->sp vs H Q E):bH P w K mg base CX k C m ps sp':=by
 obtain ⟨f,fd,a,b,c,d⟩:=M.ex;exact ⟨f,fd,a,b,c.imp h,d⟩
inductive mG (K:Frag)(C:abj)(vs:ε)(H:Hp)(Q:VK)(E_:XK):Prop
|mk (a dx pP pW pB:abj)(ps:χ)(bs:ο)(kP kW kB:ι)(x:Str)(_:vs=[.ref a,.str x])(_:jr K H C a dx pP pW pB ps bs kP kW kB)(_:x∈ps.map (·.1))(_:Q .bG H)
theorem yH (M:bH P w K mg base CX k C "check_pin" zad (jf K C CN)):bH P w K mg base CX k C "check_pin" zad (mG K C):=afg M fun vs H Q E ⟨a,dx,pP,pW,pB,ps,bs,kP,kW,kB,x,e,R,hx,q⟩=>⟨a,dx,pP,pW,pB,ps,bs,kP,kW,kB,x,e,R,fun _=>q,fun n=>abo hx n⟩
inductive sV (K:Frag)(C:abj)(vs:ε)(H:Hp)(Q:VK)(E_:XK):Prop
|mk (a dx pP pW pB:abj)(ps:χ)(bs:ο)(kP kW kB:ι)(x:Str)(p:Pt)(_:vs=[.ref a,.str x])(_:jr K H C a dx pP pW pB ps bs kP kW kB)(_:(ps.map (·.1)).Nodup)(_:(x,p)∈ps)(_:∀v,Spot K H v p->Q v H)
theorem apx:aC zad zad (aa Wf):=sq
theorem apy (F:mf K "place" "Frame.place" Wf f fd)(fc:Z_ K C)(MC:bH P w K mg base (aT P w) 3 C "check_pin" zad (mG K C)):bT P w K mg base (aT P w) 4 f fd zad (sV K C):=by
 refine dR F apx fun H hr h=>?_;obtain ⟨a,dx,pP,pW,pB,ps,bs,kP,kW,kB,x,p,rfl,R,nd,hx,q⟩:=h
 refine ⟨_,(ag (bg (cN (k:=3) (pv 0) hr.mo (q_Y P w) (aE (pv 1)))) (ae (aH (bL (bB hr) (bo (pv 0) rfl) (pv 1) (fun _ _=>rfl))))),?_⟩
 refine ⟨_,rfl,a,C,dx,_,_,_,rfl,R.obj,rfl,MC,_,rfl,a,dx,pP,pW,pB,ps,bs,kP,kW,kB,x,rfl,R,ac3.mpr ⟨_,hx,rfl⟩,?_⟩;obtain ⟨v,ev,hv⟩:=R.place nd hx;exact ⟨_,rfl,a,C,dx,_,_,rfl,R.obj,fc.cls,fc.pl,rfl,_,rfl,pP,v,rfl,(by rw [<-ev];exact dC.k (k:=.inr x) R.pl),q v hv⟩
inductive HU (K:Frag)(C:abj)(vs:ε)(H:Hp)(Q:VK)(E_:XK):Prop
|mk (a dx pP pW pB:abj)(ps:χ)(bs:ο)(kP kW kB:ι)(_:vs=[.ref a])(_:jr K H C a dx pP pW pB ps bs kP kW kB)(_:∀(l:abj)(H':Hp),au H H' ->H l=none->H' l=some (.lst ((bs.map (·.1)).map V.str))->Q (.ref l) H')
theorem apz:aC zam zam (aa We):=sq
theorem apA (F:mf K "bars" "Frame.bars" We f fd)(fc:Z_ K C)(jt:mg "list"=none):bT P w K mg base (aT P w) 1 f fd zam (HU K C):=by
 refine dR F apz fun H hr h=>?_;obtain ⟨a,dx,pP,pW,pB,ps,bs,kP,kW,kB,rfl,R,q⟩:=h;refine ⟨_,(ae (aH (cB (yw rfl) rfl jt GQ (aE (bo (pv 0) rfl))))),_,rfl,a,C,dx,_,_,rfl,R.obj,fc.cls,fc.br,rfl,pB,kB,rfl,.inl R.br,fun l nl=>?_⟩;refine q l _ (a_ nl _) nl ?_;rw [ai]
 have e:kB.map (fun kv=>kV kv.1)=(bs.map (·.1)).map V.str:=by
  have z:kB.map (fun kv=>kV kv.1)=(kB.map (·.1)).map kV:=by rw [ae5];rfl
  rw [z,R.UP,ae5];rfl
 rw [e]
inductive HV (K:Frag)(C:abj)(vs:ε)(H:Hp)(Q:VK)(E_:XK):Prop
|mk (a dx pP pW pB:abj)(ps:χ)(bs:ο)(kP kW kB:ι)(x one other:Str)(_:vs=[.ref a,.str x])(_:jr K H C a dx pP pW pB ps bs kP kW kB)(_:(bs.map (·.1)).Nodup)(_:(x,one,other)∈bs)(_:∀p,Rd H p (.tup [.str one,.str other])->Q (.ref p) H)
theorem apB:aC zas zas (aa Wh):=sq
theorem apC (F:mf K "ends" "Frame.ends" Wh f fd)(fc:Z_ K C):bT P w K mg base (aT P w) 1 f fd zas (HV K C):=by
 refine dR F apB fun H hr h=>?_;obtain ⟨a,dx,pP,pW,pB,ps,bs,kP,kW,kB,x,one,other,rfl,R,nd,hx,q⟩:=h
 refine ⟨_,(ag (aS (kU (jK (bB hr) (pv 1) (bo (pv 0) rfl))) (ae (MJ)) aG) (ae (aH (bL (bB hr) (bo (pv 0) rfl) (pv 1) (fun _ _=>rfl))))),?_⟩
 have hm:x∈bs.map (·.1):=ac3.mpr ⟨_,hx,rfl⟩;refine ⟨_,rfl,_,rfl,a,C,dx,_,_,rfl,R.obj,fc.cls,fc.br,rfl,pB,_,rfl,dC.k (k:=.inr x) R.br,_,rfl,?_⟩;rw [R.bar x,abu hm];obtain ⟨p,ev,hv⟩:=R.ends nd hx;exact ⟨_,rfl,a,C,dx,_,_,rfl,R.obj,fc.cls,fc.br,rfl,_,rfl,pB,.ref p,rfl,(by rw [<-ev];exact dC.k (k:=.inr x) R.br),q p hv⟩
inductive HW (K:Frag)(C:abj)(vs:ε)(H:Hp)(Q:VK)(E_:XK):Prop
|mk (a dx pP pW pB:abj)(ps:χ)(bs:ο)(kP kW kB:ι)(pw:List (Str×List (Rat×Rat)))(x:Str)(ws:υ)(_:vs=[.ref a,.str x])(_:jr K H C a dx pP pW pB ps bs kP kW kB)(_:WyR K H pw kW)(_:(pw.map (·.1)).Nodup)(_:(x,ws)∈pw)(_:x∈ps.map (·.1))(_:∀(l:abj)(us:ε)(H':Hp),au H H' ->H l=none->H' l=some (.lst us)->sN K H' us ws->Q (.ref l) H')
theorem apD:aC zad zad (aa Wg):=sq
theorem apE (F:mf K "ways" "Frame.ways" Wg f fd)(fc:Z_ K C)(jt:mg "list"=none)(MC:bH P w K mg base (aT P w) 3 C "check_pin" zad (mG K C)):bT P w K mg base (aT P w) 4 f fd zad (HW K C):=by
 refine dR F apD fun H hr h=>?_;obtain ⟨a,dx,pP,pW,pB,ps,bs,kP,kW,kB,pw,x,ws,rfl,R,W,nd,hx,hp,q⟩:=h
 refine ⟨_,(ag (bg (cN (k:=3) (pv 0) hr.mo (q_Y P w) (aE (pv 1)))) (ae (aH (cB yk rfl jt GQ (aE (bL (bB hr) (bo (pv 0) rfl) (pv 1) (fun _ _=>rfl))))))),?_⟩
 refine ⟨_,rfl,a,C,dx,_,_,_,rfl,R.obj,rfl,MC,_,rfl,a,dx,pP,pW,pB,ps,bs,kP,kW,kB,x,rfl,R,hp,?_⟩;obtain ⟨v,ev,l,us,el,hl,pt⟩:=qQ W nd hx;have el':v=.ref l:=el;subst el';exact ⟨_,rfl,a,C,dx,_,_,rfl,R.obj,fc.cls,fc.wy,rfl,_,rfl,pW,.ref l,rfl,(by rw [<-ev];exact dC.k (k:=.inr x) R.wy),l,us,rfl,aZ.of hl,fun l2 n2=>q l2 us _ (a_ n2 _) n2 ai (pt.same (a_ n2 _))⟩
inductive akN where
 | there|pin (p:Str)|length|many|done
def qT (pn bn:η)(x one other:Str):akN:=if x∈bn then .there else if one∉pn then .pin one else if other∉pn then .pin other else if one=other then .length else if 60<=bn.length then .many else .done
def akO (CB CN CL CT:abj)(x:Str)(H:Hp)(E:XK)(q:Prop):akN->Prop
 | .there=>cj H E CB "bar" (.str x)
 | .pin p=>cj H E CN "pin" (.str p)
 | .length=>cj H E CL "bar" (.str x)
 | .many=>E (.ref CT) none H
 | .done=>q
inductive kG (K:Frag)(C CB CN CL CT:abj)(vs:ε)(H:Hp)(Q:VK)(E:XK):Prop
|mk (a dx pP pW pB:abj)(ps:χ)(bs:ο)(kP kW kB:ι)(x one other:Str)(_:vs=[.ref a,.str x,.str one,.str other])(_:jr K H C a dx pP pW pB ps bs kP kW kB)(_:akO CB CN CL CT x H E (Q .bG H) (qT (ps.map (·.1)) (bs.map (·.1)) x one other))
theorem apF:aC zak zak (aa RG):=sq
theorem apG (F:mf K "check_bar" "Frame.check_bar" RG f fd)(fc:Z_ K C)(akP:mg "MOST_BARS"=some (.int 60 tkB))(bF:mg "len"=none)
  (Wr:mg "BarThere"=some (.ref CB)) (akQ:qM K CB fB) (wu:bT P w K mg base (aT P w) 1 fB fdB zas (gk CB "bar")) (ju:Binds K fdB zas [])
  (Ws:mg "NoLength"=some (.ref CL)) (akR:qM K CL fL) (wz:bT P w K mg base (aT P w) 1 fL fdL zas (gk CL "bar")) (jv:Binds K fdL zas [])
  (wA:mg "TooMany"=some (.ref CT)) (HX:aco K CT Yr "ValueError.__new__"=true)
  (MC:bH P w K mg base (aT P w) 3 C "check_pin" zad (jf K C CN)):bT P w K mg base (aT P w) 4 f fd zak (kG K C CB CN CL CT):=by
 refine mF F apF (fun vs H Q E h=>?_) (fun cdv A outer s H vs Q E hr h=>?_)
 ·obtain ⟨a,dx,pP,pW,pB,ps,bs,kP,kW,kB,x,one,other,rfl,_⟩:=h
  rfl
 obtain ⟨a,dx,pP,pW,pB,ps,bs,kP,kW,kB,x,one,other,rfl,R,q⟩:=h;have px:Passes (aT P w) (hZ P w K mg base zak "Frame.check_bar" (aa RG) f cdv A outer s H E) E:=fZ;have L1:1<=abl:=by decide
 unfold qT at q
 refine ⟨_,(ag (aS (kU (uK (bB hr) (pv 1) (bo (pv 0) rfl))) (ae (df akQ wu hr.mo ju Wr (aE (pv 1)))) aG) (ag (bg (cN (k:=3) (pv 0) hr.mo px (aE (pv 2)))) (ag (bg (cN (k:=3) (pv 0) hr.mo px (aE (pv 3)))) (ag (aS (aL cn (pv 2) (pv 3)) (ae (df akR wz hr.mo jv Ws (aE (pv 1)))) aG) (ae (aS (aL ED (a8 FA rfl bF fm (aE (bo (pv 0) rfl))) (fh (v:=.int 60) rfl akP ⟨_,rfl⟩)) (ae (dm abE wA HX hr.hd (aE aw))) aG)))))),?_⟩
 refine ⟨_,rfl,_,rfl,a,C,dx,_,_,rfl,R.obj,fc.cls,fc.br,rfl,pB,_,rfl,dC.k (k:=.inr x) R.br,_,rfl,?_⟩;rw [R.bar x];by_cases hx:x∈bs.map (·.1)
 ·rw [abu hx]
  rw [abv hx] at q;exact ⟨_,rfl,L1,cj.go q⟩
 rw [aby hx];rw [abp hx] at q;refine ⟨_,rfl,a,C,dx,_,_,_,rfl,R.obj,rfl,MC,_,rfl,a,dx,pP,pW,pB,ps,bs,kP,kW,kB,one,rfl,R,fun h1=>?_,fun h1=>?_⟩
 ·rw [abp (fun z=>z h1)] at q
  refine ⟨_,rfl,a,C,dx,_,_,_,rfl,R.obj,rfl,MC,_,rfl,a,dx,pP,pW,pB,ps,bs,kP,kW,kB,other,rfl,R,fun h2=>?_,fun h2=>?_⟩
  ·rw [abp (fun z=>z h2)] at q
   refine ⟨_,rfl,_,rfl,rfl,_,rfl,?_⟩;by_cases ne:one=other
   ·rw [abv ne] at q
    refine aK (fun _=>?_) (fun c=>abo (by rw [ne];simp [AR]) c);exact ⟨_,rfl,L1,cj.go q⟩
   ·rw [abp ne] at q
    refine aK (fun c=>abo (by simpa [AR] using c) ne) (fun _=>?_);have lk:kB.length=bs.length:=(abK R.rb).symm;refine ⟨_,rfl,a,C,dx,_,_,rfl,R.obj,fc.cls,fc.br,rfl,pB,kB,rfl,.inl R.br,_,_,rfl,rfl,_,rfl,?_⟩;by_cases hl:60<=(bs.map (·.1)).length
    ·rw [abv hl] at q
     rw [ir] at hl;refine aK (fun _=>?_) (fun c=>abo (abu (show (60:Int)<=(kB.length:Int) by omega)) c);exact ⟨L1,q⟩
    ·rw [abp hl] at q
     rw [ir] at hl;refine aK (fun c=>?_) (fun _=>q);have c':(60:Int)<=(kB.length:Int):=abn c;omega
  ·rw [abv h2] at q
   exact q
 ·rw [abv h1] at q
  exact q
inductive pE (K:Frag)(C CB CN CL CT:abj)(vs:ε)(H:Hp)(Q:VK)(E:XK):Prop
|mk (a dx pP pW pB:abj)(ps:χ)(bs:ο)(kP kW kB:ι)(x one other:Str)(_:vs=[.ref a,.str x,.str one,.str other])(_:jr K H C a dx pP pW pB ps bs kP kW kB)(_:bs.length<500)(_:akO CB CN CL CT x H E (∀(H':Hp)(kB':ι),fq pB H H' ->jr K H' C a dx pP pW pB ps (bs++[(x,one,other)]) kP kW kB' ->Q .bG H') (qT (ps.map (·.1)) (bs.map (·.1)) x one other))
theorem aao (h:qT pn bn x one other=.done):x∉bn:=fun z=>by
 unfold qT at h;rw [abv z] at h;cases h
theorem apI:aC zak zak (aa RF):=sq
theorem apJ (F:mf K "put_bar" "Frame.put_bar" RF f fd)(fc:Z_ K C)
  (MC:bH P w K mg base (aT P w) 4 C "check_bar" zak (kG K C CB CN CL CT)):bT P w K mg base (aT P w) 5 f fd zak (pE K C CB CN CL CT):=by
 refine mF F apI (fun vs H Q E h=>?_) (fun cdv A outer s H vs Q E hr h=>?_)
 ·obtain ⟨a,dx,pP,pW,pB,ps,bs,kP,kW,kB,x,one,other,rfl,_⟩:=h
  rfl
 obtain ⟨a,dx,pP,pW,pB,ps,bs,kP,kW,kB,x,one,other,rfl,R,hl,q⟩:=h;have px:Passes (aT P w) (hZ P w K mg base zak "Frame.put_bar" (aa RF) f cdv A outer s H E) E:=fZ
 refine ⟨_,(ag (bg (cN (k:=4) (pv 0) hr.mo px (gO (pv 1) (pv 2) (pv 3)))) (ae (cW (bB hr) (bo (pv 0) rfl) (pv 1) (aX (aU (pv 2) (pv 3))) rfl))),?_⟩
 refine ⟨_,rfl,a,C,dx,_,_,_,rfl,R.obj,rfl,MC,_,rfl,_,rfl,_,rfl,a,dx,pP,pW,pB,ps,bs,kP,kW,kB,x,one,other,rfl,R,?_⟩;cases eb:qT (ps.map (·.1)) (bs.map (·.1)) x one other with
 | there=>rw [eb] at q;exact q
 | pin p=>rw [eb] at q;exact q
 | length=>rw [eb] at q;exact q
 | many=>rw [eb] at q;exact q
 | done=>
  rw [eb] at q;have hx:=aao eb;unfold akO at q ⊢;refine ⟨_,rfl,_,rfl,z2L,fun t nt=>?_⟩;have s:=a_ nt (.tup [.str one,.str other]);have R':=R.same s;have lk:kB.length=bs.length:=(abK R.rb).symm;refine ⟨_,rfl,a,C,dx,_,_,rfl,R'.obj,fc.cls,fc.br,rfl,_,rfl,pB,_,rfl,je.k (k:=.inr x) R'.br (aaW (show kB.length<=1000 by omega) (by decide)),?_⟩;have e:putK kB (.inr x) (.ref t)=kB++[(.inr x,.ref t)]:=ig _ (dX (by rw [R.UP];exact fun z=>hx (fu.mp z)));rw [e];refine q _ _ (fun b o n z=>?_) (R'.akG (.inl ai));rw [ah n];exact s _ _ z
def akS (K:Frag)(H:Hp)(Q:VK)(ws:υ):Prop:=∀(l:abj)(us:ε)(H':Hp),au H H' ->H l=none->H' l=some (.lst us)->sN K H' us ws->Q (.ref l) H'
theorem UZ (h:(qr x).1=0):x=0:=by
 have:=vR x;unfold vl at this;rw [h] at this;have z:=aab (r:=x);have e:((0:Int):Rat)=0:=by rfl
 rw [e] at this;grind
inductive HY (K:Frag)(C:abj)(vs:ε)(H:Hp)(Q:VK)(E_:XK):Prop
|mk (a dx:abj)(ux uy:V)(x y:Rat)(_:vs=[.ref a,ux,uy])(_:H a=some (.ins C dx []))(_:jR K H ux x)(_:jR K H uy y)(_:¬ (x=0/\y=0))(_:∀p,H p=none->Q .bG (upd (upd H p (.tup [ux,uy])) a (.ins C dx [("way",.ref p)])))
theorem apK:aC zaW zaW (aa Wi):=sq
theorem apL (F:mf K "__init__" "Roller.__init__" Wi f fd)(cl:xQ K C)(nw:dQ K C "way"):bT P w K mg base (aT P w) 1 f fd zaW (HY K C):=by
 refine dR F apK fun H hr h=>?_;obtain ⟨a,dx,ux,uy,x,y,rfl,ha,⟨p1,rfl,h1⟩,⟨p2,rfl,h2⟩,nz,q⟩:=h;have sz:(2:Nat)<=abl:=by decide
 refine ⟨_,(ag (aS (PW.pt (jO (aL cn (aI (pv 1)) ak) (iV (aL cn (aI (pv 2)) ak)))) (ae (MJ)) aG) (ae (gM (pv 0) (aX (aU (pv 1) (pv 2))) rfl))),?_⟩
 refine ⟨_,rfl,p1,_,_,_,rfl,rfl,h1,AS,rfl,_,rfl,?_⟩;refine aK (fun c1=>?_) (fun c1=>?_)
 ·have e1:(qr x).1=0:=by simpa using abn c1
  refine ⟨_,rfl,p2,_,_,_,rfl,rfl,h2,AS,rfl,_,rfl,?_⟩;refine aK (fun c2=>?_) (fun c2=>?_)
  ·have e2:(qr y).1=0:=by simpa using abn c2
   exact abo ⟨UZ e1,UZ e2⟩ nz
  ·exact ⟨_,rfl,_,rfl,sz,fun p hp=>⟨_,rfl,a,C,dx,[],rfl,(by rw [ah (aj ha hp)];exact ha),cl,nw,(by show 0<1000;decide),q p hp⟩⟩
 ·refine dz ?_
  exact ⟨_,rfl,_,rfl,sz,fun p hp=>⟨_,rfl,a,C,dx,[],rfl,(by rw [ah (aj ha hp)];exact ha),cl,nw,(by show 0<1000;decide),q p hp⟩⟩
inductive sX (K:Frag)(C:abj)(vs:ε)(H:Hp)(Q:VK)(E_:XK):Prop
|mk (a dx p:abj)(w:Rat×Rat)(_:vs=[.ref a])(_:H a=some (.ins C dx [("way",.ref p)]))(_:og K H (.ref p) w)(_:akS K H Q [w])
theorem apM:aC zam zam (aa Wj):=sq
theorem apN (F:mf K "ways" "Roller.ways" Wj f fd)(cl:xQ K C)(nw:dQ K C "way"):bT P w K mg base (aT P w) 1 f fd zam (sX K C):=by
 refine dR F apM fun H hr h=>?_;obtain ⟨a,dx,p,w,rfl,ha,hw,q⟩:=h;refine ⟨_,(ae (aH (bY (aE (bo (pv 0) rfl))))),_,rfl,a,C,dx,_,.ref p,rfl,ha,cl,nw,(by simp),z1L,fun l hl=>?_⟩;exact q l [.ref p] _ (a_ hl _) hl ai (.cons (hw.same (a_ hl _)) .nil)
inductive sY (K:Frag)(vs:ε)(H:Hp)(Q:VK)(E_:XK):Prop
|mk (a:abj)(_:vs=[.ref a])(_:akS K H Q [(1,0),(0,1)])
theorem aap:qr 1=(1,1):=by
 have:=oa 1;simpa using this
theorem eZ:qr 0=(0,1):=by
 have:=oa 0;simpa using this
theorem ahy (ea:qr a=x)(eb:qr b=y)(h:H p=some (.tup [.ref p1,.ref p2]))(h1:H p1=some (.tup [.int x.1,.int x.2]))(h2:H p2=some (.tup [.int y.1,.int y.2])):og K H (.ref p) (a,b):=
 ⟨p,.ref p1,.ref p2,rfl,dG.of h,⟨p1,rfl,by rw [ea];exact dG.of h1⟩,⟨p2,rfl,by rw [eb];exact dG.of h2⟩⟩
theorem apO:aC zam zam (aa Wk):=sq
theorem apP (F:mf K "ways" "Fixed.ways" Wk f fd):bT P w K mg base (aT P w) 1 f fd zam (sY K):=by
 refine dR F apO fun H hr h=>?_;obtain ⟨a,rfl,q⟩:=h;have sz:(2:Nat)<=abl:=by decide
 refine ⟨_,(ae (aH (bY (aU (aX (aU (aX (aU ak ak)) (aX (aU ak ak)))) (aX (aU (aX (aU ak ak)) (aX (aU ak ak)))))))),sz,fun p1 n1=>?_⟩;have s1:=a_ n1 (.tup [.int 1,.int 1]);have e1:upd H p1 (.tup [.int 1,.int 1]) p1=some (.tup [.int 1,.int 1]):=ai;generalize upd H p1 (.tup [.int 1,.int 1])=H1 at s1 e1 ⊢;refine ⟨sz,fun p2 n2=>?_⟩;have s2:=a_ n2 (.tup [.int 0,.int 1]);have e2:upd H1 p2 (.tup [.int 0,.int 1]) p2=some (.tup [.int 0,.int 1]):=ai;generalize upd H1 p2 (.tup [.int 0,.int 1])=H2 at s2 e2 ⊢;refine ⟨sz,fun p3 n3=>?_⟩;have s3:=a_ n3 (.tup [.ref p1,.ref p2]);have e3:upd H2 p3 (.tup [.ref p1,.ref p2]) p3=some (.tup [.ref p1,.ref p2]):=ai;generalize upd H2 p3 (.tup [.ref p1,.ref p2])=H3 at s3 e3 ⊢;refine ⟨sz,fun p4 n4=>?_⟩;have s4:=a_ n4 (.tup [.int 0,.int 1]);have e4:upd H3 p4 (.tup [.int 0,.int 1]) p4=some (.tup [.int 0,.int 1]):=ai;generalize upd H3 p4 (.tup [.int 0,.int 1])=H4 at s4 e4 ⊢;refine ⟨sz,fun p5 n5=>?_⟩;have s5:=a_ n5 (.tup [.int 1,.int 1]);have e5:upd H4 p5 (.tup [.int 1,.int 1]) p5=some (.tup [.int 1,.int 1]):=ai;generalize upd H4 p5 (.tup [.int 1,.int 1])=H5 at s5 e5 ⊢;refine ⟨sz,fun p6 n6=>?_⟩;have s6:=a_ n6 (.tup [.ref p4,.ref p5]);have e6:upd H5 p6 (.tup [.ref p4,.ref p5]) p6=some (.tup [.ref p4,.ref p5]):=ai;generalize upd H5 p6 (.tup [.ref p4,.ref p5])=H6 at s6 e6 ⊢;refine ⟨sz,fun l nl=>?_⟩;have s7:=a_ nl (.lst [.ref p3,.ref p6]);have e7:upd H6 l (.lst [.ref p3,.ref p6]) l=some (.lst [.ref p3,.ref p6]):=ai;generalize upd H6 l (.lst [.ref p3,.ref p6])=H7 at s7 e7 ⊢;have s16:=s1.trans (s2.trans (s3.trans (s4.trans (s5.trans s6))));have w1:og K H7 (.ref p3) (1,0):=ahy aap eZ (s7 _ _ (s6 _ _ (s5 _ _ (s4 _ _ e3)))) (s7 _ _ (s6 _ _ (s5 _ _ (s4 _ _ (s3 _ _ (s2 _ _ e1)))))) (s7 _ _ (s6 _ _ (s5 _ _ (s4 _ _ (s3 _ _ e2)))));have w2:og K H7 (.ref p6) (0,1):=ahy eZ aap (s7 _ _ e6) (s7 _ _ (s6 _ _ (s5 _ _ e4))) (s7 _ _ (s6 _ _ e5));exact q l [.ref p3,.ref p6] H7 (s16.trans s7) (s16.free nl) e7 (.cons w1 (.cons w2 .nil))
inductive apQ where
 | there|aaq (z:Str)|many|done
def akT (ps:χ)(x:Str)(p:Pt):apQ:=if x∈ps.map (·.1) then .there else match ps.find? (fun z=>decide (z.2=p)) with
 | some z=>.aaq z.1
 | none=>if 24<=ps.length then .many else .done
def apR (CP CS CT:abj)(x:Str)(H:Hp)(E:XK)(q:Prop):apQ->Prop
 | .there=>cj H E CP "pin" (.str x)
 | .aaq z=>cj H E CS "pin" (.str z)
 | .many=>∀H',au H H' ->E (.ref CT) none H'
 | .done=>q
abbrev KyR {α:Type}(l:List (Str×α))(kW:ι):Prop:=Paired (fun (b:Str×α) (kv:Key×V)=>kv.1=(afG b.1:Key)/\True) l kW
theorem KyR.keys {l:List (Str×α)}(h:KyR l kW):kW.map (·.1)=(l.map (·.1)).map (fun b=>(afG b:Key)):=by
 rw [kE h,ae5];rfl
inductive ahA (P:abJ)(w:World)(K:Frag)(mg:ζ)(base:Heap)(H:Hp)(h:abj)(ws:υ):Prop
|mk (Ch dxh:abj)(fsh:Η)(psh:η)(sph:Sp)(_:H h=some (.ins Ch dxh fsh))(_:fsh.lookup ("ways":Str)=none)(_:bH P w K mg base (aT P w) 4 Ch "ways" psh sph)(_:∀H1,H1 h=some (.ins Ch dxh fsh)->bf H H1->∀Q' E2,akS K H1 Q' ws->sph [.ref h] H1 Q' E2)
def ahB (P:abJ)(w:World)(K:Frag)(mg:ζ)(base:Heap)(H:Hp)(hv:V)(ws:υ):Prop:=(hv=.bG/\ws=[])\/∃h,hv=.ref h/\ahA P w K mg base H h ws
inductive lV (P:abJ)(w:World)(K:Frag)(mg:ζ)(base:Heap)(C CP CS CT:abj)(vs:ε)(H:Hp)(Q:VK)(E:XK):Prop
|mk (a dx pP pW pB:abj)(ps:χ)(bs:ο)(kP kW kB:ι)(x:Str)(u v:V)(p:Pt)(hv:V)(ws:υ)(_:vs=[.ref a,.str x,u,v,hv])(_:jr K H C a dx pP pW pB ps bs kP kW kB)(_:KyR ps kW)(_:uz K H u p.1)(_:uz K H v p.2)(_:ps.length<500)(_:ahB P w K mg base H hv ws)(_:apR CP CS CT x H E (∀(H':Hp)(kP':ι)(l2:abj)(us:ε),(∀b o,b≠pP->b≠pW->H b=some o->H' b=some o)->jr K H' C a dx pP pW pB (ps++[(x,p)]) bs kP' (kW++[(.inr x,.ref l2)]) kB->H l2=none->H' l2=some (.lst us)->sN K H' us ws->Q .bG H') (akT ps x p))
theorem aar:aC zaU zaS (aa uO):=sq
theorem apT (F:akF K "put_pin" "Frame.put_pin" uO f fd)(fc:Z_ K C)(akU:mg "MOST_PINS"=some (.int 24 tkP))(bF:mg "len"=none)(jt:mg "list"=none)
  (HZ:mg "PinThere"=some (.ref CP)) (Wt:qM K CP fP) (akV:bT P w K mg base (aT P w) 1 fP fdP zad (gk CP "pin")) (Wu:Binds K fdP zad [])
  (akW:mg "SpotTaken"=some (.ref CS)) (akX:qM K CS fS) (uU:bT P w K mg base (aT P w) 1 fS fdS zad (gk CS "pin")) (iO:Binds K fdS zad [])
  (wA:mg "TooMany"=some (.ref CT)) (HX:aco K CT Yr "ValueError.__new__"=true):bT P w K mg base (aT P w) 5 f fd zaS (lV P w K mg base C CP CS CT):=by
 refine ae9 (sp':=fun vs H Q E1=>∃E,E1=thE H E/\lV P w K mg base C CP CS CT vs H Q E) (fun vs H Q E h=>?_) (fun vs H Q E h=>⟨E,rfl,h⟩) (aaf F aar (fun vs H Q E h=>?_) (fun cdv A outer s H vs Q E hr h=>?_))
 ·obtain ⟨a,dx,pP,pW,pB,ps,bs,kP,kW,kB,x,u,v,p,hvv,ws,rfl,_⟩:=h
  rfl
 ·obtain ⟨E',_,a,dx,pP,pW,pB,ps,bs,kP,kW,kB,x,u,v,p,hvv,ws,rfl,_⟩:=h
  rfl
 have px:Passes (aT P w) (hZ P w K mg base zaU "Frame.put_pin" (aa uO) f cdv A outer s H E) E:=fZ;have L1:1<=abl:=by decide
 refine ⟨_,(ag (aS (kU (uK (bB hr) (pv 1) (bo (pv 0) rfl))) (ae (df Wt akV hr.mo Wu HZ (aE (pv 1)))) aG) (ag (UO (dU acE rfl (yx (bo (pv 0) rfl)) (mv rfl (cb (hU (i:=5) aar.nd) (cb (hU (i:=6) aar.nd) jB))) (ae (aS (aL (xj hr.units) (pv 6) (aX (aU (pv 2) (pv 3)))) (ae (df akX uU hr.mo iO akW (aE (pv 5)))) aG)))) (ag (aS (aL ED (a8 FA rfl bF fm (aE (bo (pv 0) rfl))) (fh (v:=.int 24) rfl akU ⟨_,rfl⟩)) (ae (dm abE wA HX hr.hd (aE aw))) aG) (ag (cW (bB hr) (bo (pv 0) rfl) (pv 1) (aX (aU (pv 2) (pv 3))) rfl) (ae (cW (bB hr) (bo (pv 0) rfl) (pv 1) (fF (aL iC (pv 4) bS) (bY h_) (cB yk rfl jt GQ (aE (sI (k:=4) (pv 4) hr.mo px)))) rfl)))))),?_⟩
 clear px;obtain ⟨E',rfl,a,dx,pP,pW,pB,ps,bs,kP,kW,kB,x,u,v,p,hvv,ws,rfl,R,W,hu,hv,hl,hH,q⟩:=h;refine ⟨_,rfl,_,rfl,a,C,dx,_,_,rfl,R.obj,fc.cls,fc.pl,rfl,pP,_,rfl,dC.k (k:=.inr x) R.pl,_,rfl,?_⟩;rw [R.pin x];unfold akT at q;by_cases hx:x∈ps.map (·.1)
 ·rw [abu hx]
  rw [abv hx] at q;refine ⟨_,rfl,L1,cj.go fun d H' sH nd hd=>.inl (q d H' sH nd hd)⟩
 rw [aby hx];rw [abp hx] at q;have lk:kP.length=ps.length:=(abK R.rp).symm;refine ⟨_,rfl,a,C,dx,_,_,rfl,R.obj,fc.cls,fc.pl,rfl,pP,kP,rfl,R.pl,fun o=>?_⟩;have k0:fq pP H (upd H pP (.iT o (.dK kP))):=fun b o' n e=>by rw [ah n];exact e
 refine uN (d:=pP) (o:=o) (kvs:=kP) (fun t σ H'=>Ex2 fun (o2 o3:ω)=>σ=[some (.ref a),some (.str x),some u,some v,some hvv,o2,o3]/\fq pP H H'/\H' pP=some (.iT o (.dK kP))/\∀z∈ps.take t,z.2≠p) ⟨none,none,rfl,k0,ai,by simp⟩ (fun t σ H' _ h=>by
   obtain ⟨_,_,_,_,h,_⟩:=h
   exact h) ?_ ?_
 ·rintro t k y σ H6 p7 ekv ⟨o2,o3,rfl,k6,hd6,hs⟩ n7
  obtain ⟨z,ez,hz1,hz2⟩:=aY (kF R.rp) ekv;have axF :k=.inr z.1:=hz1;subst axF
  have s6:bf H H6:=fun b xs r=>by
   rcases r with r|⟨o',r⟩
   ·exact .inl (k6 _ _ (fun e=>by rw [e,R.pl] at r;cases r) r)
   ·exact .inr ⟨o',k6 _ _ (fun e=>by rw [e,R.pl] at r;cases r) r⟩
  have s7:=a_ n7 (.tup [kV (.inr z.1),y]);have s67:bf H (upd H6 p7 (.tup [kV (.inr z.1),y])):=s6.trans (.of s7);refine ⟨p7,_,rfl,dG.of ai,rfl,_,_,rfl,_,_,rfl,rfl,_,rfl,_,rfl,_,rfl,z2L,fun t8 n8=>?_⟩;have s8:=a_ n8 (.tup [u,v]);have s78:bf H (upd (upd H6 p7 (.tup [kV (.inr z.1),y])) t8 (.tup [u,v])):=s67.trans (.of s8);refine ⟨ij z.2,ij p,.inl ⟨(Spot.aQ hz2 s78).is,(Spot.is (p:=p) ⟨t8,u,v,rfl,dG.of ai,hu.aQ s78,hv.aQ s78⟩)⟩,n_ _ _,pq _,?_⟩;rw [yy];refine ⟨_,rfl,?_⟩;have ks8:fq pP H (upd (upd H6 p7 (.tup [kV (.inr z.1),y])) t8 (.tup [u,v])):=fun b o' n e=>s8 _ _ (s7 _ _ (k6 b o' n e));have hd8:=s8 _ _ (s7 _ _ hd6);generalize upd (upd H6 p7 (.tup [kV (.inr z.1),y])) t8 (.tup [u,v])=H8 at ks8 hd8 ⊢;refine aK (fun c=>?_) (fun c=>?_)
  ·have ep:z.2=p:=abn c
   have ef:ps.find? (fun z=>decide (z.2=p))=some z:=by
    have eps:ps=ps.take t++z::ps.drop (t+1):=by
     have lt:=(Wp.mp ez).1;have e2:=(Wp.mp ez).2;rw [<-e2,am4,ahP]
    rw [eps,aoa];have n1:(ps.take t).find? (fun z=>decide (z.2=p))=none:=af_.mpr fun w hw=>by simpa using hs w hw
    rw [n1];simp [ep]
   rw [ef] at q;refine ⟨_,rfl,L1,cj.go fun d H' sH nd hd=>.inr ⟨pP,o,kP,sH _ _ hd8,(fun o' u' z=>by rw [R.pl] at z;cases z),?_⟩⟩;have dp:d≠pP:=fun z=>by rw [z,hd8] at nd;cases nd
   refine q d _ (fun b o' e=>?_) ?_ (by rw [ah dp];exact hd)
   ·by_cases n:b=pP
    ·subst n
     rw [R.pl] at e;rw [ai];exact e
    ·rw [ah n]
     exact sH _ _ (ks8 b o' n e)
   ·cases e:H d with
    | none=>rfl
    | some o'=>rw [ks8 d o' dp e] at nd;cases nd
  ·refine ⟨_,_,rfl,ks8,hd8,fun w hw=>?_⟩
   rw [take_snoc ez] at hw
   rcases abh.mp hw with h|h
   ·exact hs w h
   ·rw [aaT.mp h]
    exact fun e=>c (abu e)
 ·rintro σ H1 ⟨o2,o3,rfl,k1,hd1,hs⟩
  rw [lk,afL] at hs;have ef:ps.find? (fun z=>decide (z.2=p))=none:=af_.mpr fun w hw=>by simpa using hs w hw
  rw [ef] at q;refine ⟨pP,o,kP,hd1,fun o' u' z=>(by have z':H pP=some (.iT o' u'):=z;rw [R.pl] at z';cases z'),?_⟩
  have s2:au H (upd H1 pP (.dK kP)):=fun b o' e=>by
   by_cases n:b=pP
   ·subst n
    rw [R.pl] at e;rw [ai];exact e
   ·rw [ah n]
    exact k1 b o' n e
  generalize upd H1 pP (.dK kP)=H2 at s2 ⊢;have R2:=R.same s2;refine ⟨_,rfl,a,C,dx,_,_,rfl,R2.obj,fc.cls,fc.pl,rfl,pP,kP,rfl,.inl R2.pl,_,_,rfl,rfl,_,rfl,?_⟩;dsimp only at q;by_cases h24:24<=ps.length
  ·rw [abv h24] at q
   refine aK (fun _=>?_) (fun c=>abo (abu (show (24:Int)<=(kP.length:Int) by omega)) c);exact ⟨L1,.inl (q H2 s2)⟩
  rw [abp h24] at q;refine aK (fun c=>?_) (fun _=>?_)
  ·have c':(24:Int)<=(kP.length:Int):=abn c
   omega
  unfold apR at q;refine ⟨_,rfl,_,rfl,z2L,fun t nt=>?_⟩;have s3:=a_ nt (.tup [u,v]);have R3:=R2.same s3;have hu3:=(hu.same s2).same s3;have hv3:=(hv.same s2).same s3;refine ⟨_,rfl,a,C,dx,_,_,rfl,R3.obj,fc.cls,fc.pl,rfl,_,rfl,pP,_,rfl,je.k (k:=.inr x) R3.pl (aaW (show kP.length<=1000 by omega) (by decide)),?_⟩;have e:putK kP (.inr x) (.ref t)=kP++[(.inr x,.ref t)]:=ig _ (dX (by rw [R.UQ];exact fun z=>hx (fu.mp z)));rw [e];have R4:=R3.akH (x:=x) (p:=p) (t:=t) ⟨t,u,v,rfl,dG.of ai,hu3,hv3⟩;have k4:∀b o,b≠pP->H b=some o->(upd (upd H2 t (.tup [u,v])) pP (.dK (kP++[(.inr x,.ref t)]))) b=some o:=fun b o n e=>by rw [ah n];exact s3 _ _ (s2 _ _ e)
  generalize upd (upd H2 t (.tup [u,v])) pP (.dK (kP++[(.inr x,.ref t)]))=H4 at R4 k4 ⊢;have lw:kW.length=ps.length:=(abK W).symm
  have t4:bf H H4:=fun b xs r=>by
   rcases r with r|⟨o',r⟩
   ·exact .inl (k4 _ _ (fun e=>by rw [e,R.pl] at r;cases r) r)
   ·exact .inr ⟨o',k4 _ _ (fun e=>by rw [e,R.pl] at r;cases r) r⟩
  refine ⟨_,rfl,rfl,_,rfl,?_⟩
  have n2a:∀{H5:Hp} {l2:abj},au H4 H5->H5 l2=none->H l2=none:=fun {H5 l2} s5 n6=>by
   cases z:H l2 with
   | none=>rfl
   | some o=>
    by_cases c:l2=pP
    ·rw [c,s5 _ _ R4.pl] at n6;cases n6
    ·rw [s5 _ _ (k4 _ _ c z)] at n6;cases n6
  rcases hH with ⟨rfl,rfl⟩|⟨h,rfl,Ch,dxh,fsh,psh,sph,hh,hlk,MH,EL⟩
  ·refine aK (fun _=>?_) (fun c=>abo (by decide) c)
   refine ⟨by show 0<=abl;decide,fun l2 n6=>?_⟩;have s6:=a_ n6 (.lst []);have R6:=R4.same s6;refine ⟨_,rfl,a,C,dx,_,_,rfl,R6.obj,fc.cls,fc.wy,rfl,_,rfl,pW,_,rfl,je.k (k:=.inr x) R6.wy (aaW (show kW.length<=1000 by omega) (by decide)),?_⟩;have ek:putK kW (.inr x) (.ref l2)=kW++[(.inr x,.ref l2)]:=ig _ (dX (by rw [KyR.keys W];exact fun z=>hx (fu.mp z)));rw [ek];have ne6:l2≠pW:=fun z=>by have h:=R6.wy;rw [<-z,ai] at h;cases h
   exact q _ _ l2 [] (fun b o n1 n2 e=>by rw [ah n2];exact s6 _ _ (k4 b o n1 e)) (R6.UR _) (n2a (au.refl _) n6) (by rw [ah ne6,ai]) .nil
  have h4:H4 h=some (.ins Ch dxh fsh):=k4 _ _ (fun e=>by rw [e,R.pl] at hh;cases hh) hh;refine aK (fun c=>abo (abn c) (fun z=>nomatch z)) (fun _=>?_);refine ⟨_,rfl,h,Ch,dxh,fsh,psh,sph,rfl,h4,hlk,MH,EL H4 h4 t4 _ _ fun l1 us H5 s5 n5 e5 p5=>?_⟩;refine ⟨l1,us,rfl,aZ.of e5,fun l2 n6=>?_⟩;have s6:=a_ n6 (.lst us);have R6:=(R4.same s5).same s6;refine ⟨_,rfl,a,C,dx,_,_,rfl,R6.obj,fc.cls,fc.wy,rfl,_,rfl,pW,_,rfl,je.k (k:=.inr x) R6.wy (aaW (show kW.length<=1000 by omega) (by decide)),?_⟩;have ek:putK kW (.inr x) (.ref l2)=kW++[(.inr x,.ref l2)]:=ig _ (dX (by rw [KyR.keys W];exact fun z=>hx (fu.mp z)));rw [ek];have s46:au H4 (upd H5 l2 (.lst us)):=fun b o z=>s6 _ _ (s5 _ _ z);have ne6:l2≠pW:=fun z=>by have h:=R6.wy;rw [<-z,ai] at h;cases h
  refine q _ _ l2 us (fun b o n1 n2 e=>by rw [ah n2];exact s46 _ _ (k4 b o n1 e)) (R6.UR _) (n2a s5 n6) (by rw [ah ne6,ai]) ((p5.same s6).aQ (.dict R6.wy))
abbrev hV (r:Rat):Str:=nt (qr r)
theorem lh (h:q.2=1):nt q=tx q.1:=abv h
theorem mH (h:q.2≠1):nt q=tx q.1++kC++tx q.2:=abp h
theorem aas (h:Sz 100 r):(qr r).1.natAbs.log2<1900/\(qr r).2.natAbs.log2<1900:=by
 have z:∀n:Int,intBits n<=100->n.natAbs.log2<1900:=fun n hn=>by
  have h1:=intBits_le_iff.mp hn;by_cases c:n.natAbs=0
  ·rw [c]
   decide
  ·exact aaS ((ahT c).mpr h1) (by decide)
 exact ⟨z _ h.top,z _ h.bot⟩
inductive sZ (K:Frag)(vs:ε)(H:Hp)(Q:VK)(E_:XK):Prop
|mk (u:V)(q:Int×Int)(_:vs=[u])(_:uz K H u q)(_:q.1.natAbs.log2<1900)(_:q.2.natAbs.log2<1900)(_:Q (.str (nt q)) H)
inductive RH (K:Frag)(vs:ε)(H:Hp)(Q:VK)(E_:XK):Prop
|mk (u:V)(r:Rat)(_:vs=[u])(_:jR K H u r)(_:Sz 100 r)(_:Q (.str (hV r)) H)
theorem afi (F:Fn P w K mg base CX k x ps (sZ K)):Fn P w K mg base CX k x ps (RH K):=by
 obtain ⟨f,fd,G,r⟩:=F.ex;refine ⟨f,fd,G.imp fun vs H Q E h=>?_,r⟩;obtain ⟨u,a,e,h1,z,q⟩:=h;exact ⟨u,qr a,e,h1,(aas z).1,(aas z).2,q⟩
theorem lj:aC ["one","top","bottom"] ["one"] (aa f6):=sq
theorem BG (D:Def K mg "show_ratio" f6 ["one"])(dA:mg "str"=none):Fn P w K mg base CX 1 "show_ratio" ["one"] (sZ K):=by
 refine D.op lj fun f cdv A outer s H vs Q E hr h=>?_;obtain ⟨u,q,rfl,⟨p,rfl,h⟩,l1,l2,k'⟩:=h
 refine ⟨_,(ag (aR (i:=1) lj.nd (cB cG rfl dA kx (aE (aI (pv 0))))) (ag (aS (aL cn (aI (pv 0)) ak) (ae (aH (pv 1))) aG) (ag (aR (i:=2) lj.nd (cB cG rfl dA kx (aE (aI (pv 0))))) (ae (aH (xr (jD (ZP (pv 1)) (jD aw (jD (ZP (pv 2)) HH))))))))),?_⟩
 have t1:(tx q.1).length<=1921:=adD (by omega);have t2:(tx q.2).length<=1921:=adD (by omega);have sz:(1921:Nat)<=abl:=by decide
 refine ⟨_,rfl,p,_,_,_,rfl,rfl,h,AS,q.1,rfl,by omega,_,rfl,p,_,_,_,rfl,rfl,h,vS,rfl,_,rfl,?_⟩;refine aK (fun c=>?_) (fun c=>?_)
 ·have e:q.2=1:=by simpa using abn c
  rw [lh e] at k';exact ⟨_,rfl,k'⟩
 ·have e:q.2≠1:=by
   have:=of_decide_eq_false (ac4.mpr c);intro z;exact this (by rw [z])
  rw [mH e] at k';refine ⟨_,rfl,p,_,_,_,rfl,rfl,h,vS,q.2,rfl,by omega,_,rfl,tx q.1,rfl,aah t1 sz,tx q.1,rfl,aah t1 (by decide),kC,rfl,(by decide+kernel),_,rfl,tx q.2,rfl,aah t2 sz,tx q.2,rfl,aah t2 (by decide),?_⟩;show Q (.str (((ab4++tx q.1)++kC)++tx q.2)) H;rw [empty_app];exact k'
inductive Odd (H:Hp):V->Prop where
 | bG:Odd H .bG
 | bl (b:Bool):Odd H (.bl b)
 | str (x:Str):Odd H (.str x)
 | lst {a:abj} {xs:ε} (e:H a=some (.lst xs)):Odd H (.ref a)
 | tup {a:abj} {xs:ε} (e:H a=some (.tup xs)):Odd H (.ref a)
theorem axJ:abZ K (.type "int") (.type "int")=some true:=by unfold abZ;rw [abv (by decide)]
theorem axK:abZ K (.type "bool") (.type "bool")=some true:=by unfold abZ;rw [abv (by decide)]
theorem axL:abZ K (.type "int") (.type "bool")=some false:=fJ ⟨by decide,fun _=>⟨by decide+kernel,by decide+kernel⟩⟩
theorem axM:abZ K (.type "bool") (.type "int")=some true:=fJ ⟨by decide,fun _=>⟨by decide+kernel,by decide+kernel⟩⟩
theorem axN:abZ K (.type "NoneType") (.type "int")=some false:=fJ ⟨by decide,fun _=>⟨by decide+kernel,by decide+kernel⟩⟩
theorem axO:abZ K (.type "str") (.type "int")=some false:=fJ ⟨by decide,fun _=>⟨by decide+kernel,by decide+kernel⟩⟩
theorem axP:abZ K (.type "list") (.type "int")=some false:=fJ ⟨by decide,fun _=>⟨by decide+kernel,by decide+kernel⟩⟩
theorem axQ:abZ K (.type "tuple") (.type "int")=some false:=fJ ⟨by decide,fun _=>⟨by decide+kernel,by decide+kernel⟩⟩
def U0:Sp:=fun vs H Q _=>(∃i,vs=[.int i]/\Q (.bl true) H)\/(∃x,vs=[x]/\Odd H x/\Q (.bl false) H)
theorem NS:aC ["value"] ["value"] (aa iF):=sq
theorem NT (D:Def K mg "is_whole" iF ["value"])(bM:mg "isinstance"=none)(yI:mg "int"=none)(H_:mg "bool"=none):Fn P w K mg base CX 1 "is_whole" ["value"] U0:=by
 refine D.ok NS (fun vs H Q E h=>?_) (fun f cdv A outer s H vs Q E hr h=>?_)
 ·rcases h with ⟨i,rfl,_⟩|⟨x,rfl,_⟩<;>rfl
 rcases h with ⟨i,rfl,q⟩|⟨x,rfl,od,q⟩
 ·refine ⟨_,(ae (aH (xI (a8 jc rfl bM dI (aU (pv 0) (vM rfl yI Zt))) (uF (Y6 (a8 jc rfl bM dI (aU (pv 0) (vM rfl H_ Zu)))))))),_,rfl,_,_,_,true,rfl,rfl,.int i,axJ,_,rfl,fY ?_⟩
  exact ⟨_,rfl,_,_,_,false,rfl,rfl,.int i,axL,_,rfl,q⟩
 ·refine ⟨_,(ae (aH (xI (a8 jc rfl bM dI (aU (pv 0) (vM rfl yI Zt))) (uF (Y6 (a8 jc rfl bM dI (aU (pv 0) (vM rfl H_ Zu)))))))),?_⟩
  cases od with
  | bG=>exact ⟨_,rfl,_,_,_,false,rfl,rfl,.bG,axN,_,rfl,dz q⟩
  | str y=>exact ⟨_,rfl,_,_,_,false,rfl,rfl,.str y,axO,_,rfl,dz q⟩
  | lst e=>exact ⟨_,rfl,_,_,_,false,rfl,rfl,.lst e,axP,_,rfl,dz q⟩
  | tup e=>exact ⟨_,rfl,_,_,_,false,rfl,rfl,.tup e,axQ,_,rfl,dz q⟩
  | bl b=>exact ⟨_,rfl,_,_,_,true,rfl,rfl,.bl b,axM,_,rfl,fY ⟨_,rfl,_,_,_,true,rfl,rfl,.bl b,axK,_,rfl,q⟩⟩
inductive Bad (H:Hp):V->V->Prop where
 | one {x y:V} (h:Odd H x):Bad H x y
 | two {i:Int} {y:V} (h:Odd H y):Bad H (.int i) y
 | akY (i:Int):Bad H (.int i) (.int 0)
def IA (C:abj):Sp:=fun vs H Q E=>(∃t b:Int,vs=[.int t,.int b]/\b≠0/\intBits b<=9000/\gives H Q (low t b))\/(∃x y,vs=[x,y]/\Bad H x y/\E (.ref C) none H)
theorem NU:aC zaq zaq (aa cC):=sq
theorem NV (D:aeI K mg "ratio_of" cC zaq ds)(iP:mg "NoNumber"=some (.ref C))(iQ:aco K C ZC "ValueError.__new__"=true)
  (mI:Fn P w K mg base (aT P w) 1 "is_whole" ["value"] U0) (Wn:Fn P w K mg base (aT P w) 33 "lowest_terms" zaq lU):Fn P w K mg base (aT P w) 34 "ratio_of" zaq (IA C)/\FnD P w K mg base (aT P w) 34 "ratio_of" zaq ds (IA C):=by
 refine D.ZA NU (fun vs H Q E h=>?_) (fun f cdv A outer s H vs Q E hr h=>?_)
 ·rcases h with ⟨t,b,rfl,_⟩|⟨x,y,rfl,_⟩<;>rfl
 have px:=fZ (P:=P) (w:=w) (K:=K) (mg:=mg) (base:=base) (N:=zaq) (qual:="ratio_of") (scope:=aa cC) (f:=f) (cdv:=cdv) (A:=A) (outer:=outer) (s0:=s) (H0:=H) (E:=E)
 rcases h with ⟨t,b,rfl,hb,bb,q⟩|⟨x,y,rfl,hB,q⟩
 ·refine ⟨_,(ag (aS (PW.pt (pZ (h9 (gi (bK mI hr.mo px (aE (pv 0))))) (mn (h9 (gi (bK mI hr.mo px (aE (pv 1)))))))) (ae (dm abE iP iQ hr.hd (aE aw))) aG) (ag (aS (aL cn (pv 1) ak) (ae (dm abE iP iQ hr.hd (aE aw))) aG) (ae (aH (bK Wn hr.mo px (aU (pv 0) (pv 1))))))),?_⟩
  refine ⟨_,rfl,.inl ⟨t,rfl,_,rfl,?_⟩⟩;refine aK (fun c=>nomatch c) (fun _=>?_);refine ⟨_,rfl,.inl ⟨b,rfl,_,rfl,?_⟩⟩;refine aK (fun c=>nomatch c) (fun _=>?_);refine ⟨_,rfl,rfl,_,rfl,?_⟩;refine aK (fun z=>?_) (fun _=>?_)
  ·exact abo (by simpa using abn z) hb
  ·exact ⟨_,rfl,_,rfl,t,b,rfl,hb,q⟩
 ·refine ⟨_,(ag (aS (PW.pt (pZ (h9 (gi (bK mI hr.mo px (aE (pv 0))))) (mn (h9 (gi (bK mI hr.mo px (aE (pv 1)))))))) (ae (dm abE iP iQ hr.hd (aE aw))) aG) (ag (aS (aL cn (pv 1) ak) (ae (dm abE iP iQ hr.hd (aE aw))) aG) (ae (aH (bK Wn hr.mo px (aU (pv 0) (pv 1))))))),?_⟩
  have sz:(1:Nat)<=abl:=by decide
  cases hB with
  | one od=>
   refine ⟨_,rfl,.inr ⟨_,rfl,od,_,rfl,?_⟩⟩;refine aK (fun _=>?_) (fun c=>abo rfl c);exact fY ⟨sz,q⟩
  | @two i _ od=>
   refine ⟨_,rfl,.inl ⟨i,rfl,_,rfl,?_⟩⟩;refine aK (fun c=>nomatch c) (fun _=>?_);refine ⟨_,rfl,.inr ⟨_,rfl,od,_,rfl,?_⟩⟩;exact aK (fun _=>⟨sz,q⟩) (fun c=>abo rfl c)
  | akY i=>
   refine ⟨_,rfl,.inl ⟨i,rfl,_,rfl,?_⟩⟩;refine aK (fun c=>nomatch c) (fun _=>?_);refine ⟨_,rfl,.inl ⟨0,rfl,_,rfl,?_⟩⟩;refine aK (fun c=>nomatch c) (fun _=>?_);exact ⟨_,rfl,rfl,_,rfl,aK (fun _=>⟨sz,q⟩) (fun c=>abo rfl c)⟩
inductive s_ (H:Hp):V->Prop where
 | bG:s_ H .bG
 | bl (b:Bool):s_ H (.bl b)
 | int (i:Int):s_ H (.int i)
 | lst {a:abj} {xs:ε} (e:H a=some (.lst xs)):s_ H (.ref a)
 | tup {a:abj} {xs:ε} (e:H a=some (.tup xs)):s_ H (.ref a)
theorem s_.ty (h:s_ H x):∃t,rZ K H x t/\abZ K t (aki (.ty "str"))=some false:=by
 cases h with
 | bG=>exact ⟨_,.bG,fJ ⟨by decide,fun _=>⟨by decide+kernel,by decide+kernel⟩⟩⟩
 | bl b=>exact ⟨_,.bl b,fJ ⟨by decide,fun _=>⟨by decide+kernel,by decide+kernel⟩⟩⟩
 | int i=>exact ⟨_,.int i,fJ ⟨by decide,fun _=>⟨by decide+kernel,by decide+kernel⟩⟩⟩
 | lst e=>exact ⟨_,.lst e,fJ ⟨by decide,fun _=>⟨by decide+kernel,by decide+kernel⟩⟩⟩
 | tup e=>exact ⟨_,.tup e,fJ ⟨by decide,fun _=>⟨by decide+kernel,by decide+kernel⟩⟩⟩
theorem apW:abZ K (.type "str") (.type "str")=some true:=by unfold abZ;rw [abv (by decide)]
theorem Wv:∀{cs:Θ},adE cs->NumText.digitsVal cs<10^cs.length:=by
 intro cs
 have go:∀(cs:Θ)(acc:Nat),adE cs->cs.foldl (fun acc c=>acc*10+(c-48)) acc<(acc+1)*10^cs.length:=by
  intro cs
  induction cs with
  | nil=>intro acc _;simp
  | cons c r ih=>
   intro acc h;have hc:=h.head;have:=ih (acc*10+(c-48)) h.tail;rw [List.foldl_cons,ac5,Nat.pow_succ];refine aaS this ?_
   have e:(acc+1)*(10^r.length*10)=((acc+1)*10)*10^r.length:=by
    rw [Nat.mul_comm (10^r.length) 10,Nat.mul_assoc]
   rw [e];exact anb _ (by omega)
 intro h;have:=go cs 0 h;simpa [NumText.digitsVal] using this
def NW (cs:Θ):List Nat:=match cs with
 | []=>[]
 | d::r=>if d=45 then r else d::r
inductive akZ (C:abj)(vs:ε)(H:Hp)(Q:VK)(E:XK):Prop
|mk (x:Str)(_:vs=[.str x])(_:Ys x)(_:(∀n H',n.natAbs<10^60->au H H' ->(∀m:Int,m.natAbs<10^60->x=tx m->n=m)->Q (.int n) H'))(_:((∀m:Int,m.natAbs<10^60->x≠tx m)->∀H',au H H' ->E (.ref C) none H'))
theorem RI (h:x.cps.toList=[]):adA x ⟨#[45]⟩=false:=by
 have hl:x.length=0:=by rw [cK,h];rfl
 unfold adA;have e1:decide (0+(⟨#[45]⟩:Str).length<=x.length)=false:=aby (by rw [Ty.one_sign,hl];omega);rw [e1,aph]
theorem U1 (m:Int):NW (tx m).cps.toList=dg m.natAbs:=by
 rw [yg];split
 ·rfl
 ·cases e:dg m.natAbs with
  | nil=>rfl
  | cons d r=>
   have:=qP m.natAbs d (by rw [e];exact aa_);show (if d=45 then r else d::r)=d::r;rw [abp (by omega)]
theorem U2 (cs:Θ):((cs.map fun c=>decide (c∈(ab0 "0123456789").cps.toList)).all id)=true ↔ adE cs:=by
 rw [afP];constructor
 ·intro h c hc
  have:=h _ (List.mem_map_of_mem hc);have m:c∈(ab0 "0123456789").cps.toList:=abn this;have e:(ab0 "0123456789").cps.toList=[48,49,50,51,52,53,54,55,56,57]:=by decide+kernel
  rw [e] at m;simp at m;omega
 ·intro h b hb
  obtain ⟨c,hc,rfl⟩:=ac3.mp hb;exact abu (ZV (h c hc))
theorem qd:aC ["text","figures"] zaQ (aa dM):=sq
theorem BH (D:Def K mg "read_whole" dM zaQ)(bF:mg "len"=none)(FF:mg "all"=none)(yI:mg "int"=none)(jM:mg "FIGURES"=some (.str "0123456789" tkF))(jT:mg "MOST_FIGURES"=some (.int 60 tkM))
  (dr:mg "NoText"=some (.ref C)) (eI:aco K C ZC "ValueError.__new__"=true):Fn P w K mg base (aT P w) 1 "read_whole" zaQ (akZ C):=by
 refine D.ZA qd (fun vs H Q E h=>?_) (fun f cdv A outer s H vs Q E hr h=>?_)
 ·obtain ⟨x,rfl,_⟩:=h
  rfl
 obtain ⟨x,rfl,hx,q,qe⟩:=h;have hl:=hx.len;have hz:x.length<=abl:=aah hl (by decide);have sz:(1:Nat)<=abl:=by decide
 have tail:∃t,PSs (hZ P w K mg base ["text","figures"] "read_whole" (aa dM) f cdv A outer s H E) ((aq dM).drop 1) t/\∀g:Str,g.cps.toList=NW x.cps.toList->t {nx:=fun _ H'=>Q .bG H',rt:=Q} [some (.str x),some (.str g)] H:=by
  refine ⟨_,(ag (aS (h9 (xO EC EC ak (a8 mB rfl bF fm (aE (pv 1))) (fh (v:=.int 60) rfl jT ⟨_,rfl⟩))) (ae (dm abE dr eI hr.hd (aE aw))) aG) (ag (aS (h9 (gi (a8 (EV rfl) rfl FF ahc (aE (iX (tn:=["sign"]) (fr:=[]) (caps:=[]) (ZO (pv 1)) (jC uG (pv 0) (fh (v:=.str "0123456789") rfl jM ⟨_,rfl⟩) rfl)))))) (ae (dm abE dr eI hr.hd (aE (xr (jD aw (jD (Rx (pv 0)) HH)))))) aG) (ae (aH (cB BD rfl yI Zt (aE (pv 0))))))),?_⟩;intro g hg;have gl:g.length=(NW x.cps.toList).length:=by rw [cK,hg]
  have gx:g.length<=400:=by
   rw [gl];rw [cK] at hl;cases e:x.cps.toList with
   | nil=>simp [NW]
   | cons d r=>
    rw [e] at hl;unfold NW;simp only at hl ⊢;split<;>(simp at hl ⊢;omega)
  have gz':g.length<=abl:=aah gx (by decide)
  have no1:¬ ((1:Int)<=(g.length:Int)/\(g.length:Int)<=60)->∀m:Int,m.natAbs<10^60->x≠tx m:=fun n m hm e=>by
   rw [e,U1] at gl;have h1:=ZT (by decide) hm
   have h2:1<=(dg m.natAbs).length:=by
    cases z:dg m.natAbs with
    | nil=>exact abo z (ZS _)
    | cons c r=>simp
   exact n (by omega)
  refine ⟨_,rfl,g,rfl,gz',_,_,rfl,rfl,_,rfl,?_⟩;refine aK (fun c1=>?_) (fun c1=>?_)
  ·have c1':(1:Int)<=(g.length:Int):=abn c1
   refine ⟨_,_,rfl,rfl,_,rfl,?_⟩;refine aK (fun c2=>?_) (fun c2=>?_)
   ·have c2':¬ (g.length:Int)<=60:=of_decide_eq_false (by simpa using c2)
    exact ⟨sz,qe (no1 fun z=>c2' z.2) H (au.refl H)⟩
   ·have c2':(g.length:Int)<=60:=abn (by simpa using c2)
    refine ⟨_,rfl,g,rfl,fun D nD=>ZM (cap:=[]) g.cps.size (fun i=>.str ⟨#[g.cps.getD i 0]⟩) (fun i ys H'=>ys=((g.cps.toList.take i).map fun c=>decide (c∈(ab0 "0123456789").cps.toList)).map V.bl/\au H H') ⟨rfl,a_ nD _⟩ ?_ (fun ys H' _=>rfl) ?_ ?_⟩
    ·intro i ys H' hi _
     refine ⟨hi,fun x H'' y=>?_⟩;obtain ⟨e1,c,ec,ex⟩:=y;refine ⟨e1,?_⟩
     have:g.cps.getD i 0=c:=by
      rw [Array.getD_eq_getD_getElem?,ec];rfl
     rw [this];exact ex
    ·rintro i ys H' R hi ⟨hy,s1⟩ hD k
     have hi':i<g.cps.toList.length:=by simpa using hi
     have eg:g.cps.getD i 0=g.cps.toList[i]:=by simp [Array.getD,hi]
     refine ⟨_,rfl,_,_,rfl,rfl,?_⟩;rw [Ru];have yl:ys.length<=i:=by rw [hy,ir,ir,aep];omega
     refine k _ _ hD (aaS (show ys.length<401 by have:g.cps.size=g.length:=rfl;omega) (by decide)) ⟨?_,fun b o e=>?_⟩
     ·rw [hy,List.take_succ_eq_append_getElem hi',ac1,ac1,eg]
      rfl
     ·rw [ah (aj e nD)]
      exact s1 _ _ e
    ·rintro ys H' ⟨hy,s1⟩ hD
     have ht:g.cps.toList.take g.cps.size=g.cps.toList:=ae1 (by simp);rw [ht] at hy;refine ⟨D,g.cps.toList.map fun c=>decide (c∈(ab0 "0123456789").cps.toList),rfl,by rw [<-hy];exact aZ.of hD,_,rfl,?_⟩;by_cases ad:adE g.cps.toList
     ·rw [(U2 _).mpr ad]
      refine aeW ?_;rw [hg] at ad;have ne:NW x.cps.toList≠[]:=fun z=>by rw [z] at gl;simp at gl;omega
      have fl:(NW x.cps.toList).length<=60:=by omega
      have vb:=aaS (Wv ad) (afI (show 0<10 by decide) fl);have axS:x.length<=640:=aah hl (by decide);have ahD:x.length<=4300:=aah hl (by decide)
      obtain ⟨n,hn,bn⟩:∃n:Int,PySem.intText? x=some n/\n.natAbs<10^60:=by
       cases e:x.cps.toList with
       | nil=>rw [e] at ne;exact abo rfl ne
       | cons d r=>
        rw [e] at ad ne vb;by_cases hd:d=45
        ·subst hd
         exact ⟨_,intText_neg e ad ne ahD,by rw [apS];exact vb⟩
        ·have f1:NW (d::r)=d::r:=abp hd
         rw [f1] at ad ne vb;exact ⟨_,intText_digits (by rw [e];exact ad) (by rw [e];exact ne) ahD,by rw [e];exact vb⟩
      refine ⟨_,rfl,x,n,rfl,hn,axS,q n _ bn s1 fun m hm e=>?_⟩;rw [e,ie (aaS hm (afI (by decide) (by decide)))] at hn;exact (aaQ hn).symm
     ·have:((g.cps.toList.map fun c=>decide (c∈(ab0 "0123456789").cps.toList)).all id)=false:=ac4.mpr fun z=>ad ((U2 _).mp z)
      rw [this];refine HG ?_;refine ⟨ab0 "not all of these are figures: ",rfl,(by decide+kernel),_,rfl,x,rfl,hx,fun y hy=>⟨y,rfl,hy,?_⟩⟩;refine ⟨sz,qe (fun m hm e=>ad ?_) H' s1⟩;rw [hg,e,U1];exact qP _
  ·have c1':¬ (1:Int)<=(g.length:Int):=of_decide_eq_false (ac4.mpr c1)
   refine ⟨_,rfl,HG ?_⟩;exact ⟨sz,qe (no1 fun z=>c1' z.1) H (au.refl H)⟩
 obtain ⟨t1,p1,q1⟩:=tail;refine ⟨_,ag (aR (i:=1) qd.nd (fF (gi (gA ab5 PySem.F.slot_str_startswith PySem.F.type_str_startswith BC (pv 0) (aE aw))) (jb akw (pv 0) (iW ak) o_) (pv 0))) p1,_,rfl,rfl,x,⟨#[45]⟩,rfl,rfl,_,rfl,?_⟩;cases e:x.cps.toList with
 | nil=>
  rw [RI e];refine dz ?_;exact ⟨_,rfl,q1 x (by rw [e];rfl)⟩
 | cons d r=>
  rw [Rv e];refine aK (fun c=>?_) (fun c=>?_)
  ·have hd:d=45:=abn c
   refine ⟨_,rfl,1,rfl,x,rfl,hz,q1 _ ?_⟩;rw [VY e,e];exact (abv hd).symm
  ·have hd:d≠45:=of_decide_eq_false (ac4.mpr c)
   refine ⟨_,rfl,q1 _ ?_⟩;rw [e];exact (abp hd).symm
structure Good (q:Int×Int):Prop where
 pos:0<q.2
 low:ae' q.1 q.2=1
 top:q.1.natAbs<10^60
 bot:q.2.natAbs<10^60
theorem FG {n:Int}(h:n.natAbs<10^60):n.natAbs.log2<1900:=by
 by_cases z:n.natAbs=0
 ·rw [z];decide
 ·exact (ahT z).mpr (aaS h (by decide+kernel))
theorem RJ (h:n.natAbs<10^60):intBits n<=200:=intBits_le_iff.mpr (aaS h (by decide+kernel))
theorem aat (hb:b≠0)(h1:t.natAbs<10^60)(h2:b.natAbs<10^60):Good (low t b):=
 ⟨sf hb,xi hb,aaW (xZ hb) h1,aaW (x6 hb) h2⟩
def apX (C:abj):Sp:=fun vs H Q E=>(∃x:Str,vs=[.str x]/\Ys x/\(∀q,Good q->x=nt q->gives H Q q)/\((∀q,Good q->x≠nt q)->∀H',au H H' ->E (.ref C) none H'))\/
 (∃u:V,vs=[u]/\s_ H u/\E (.ref C) none H)
theorem U3 (h:Ys x)(l:y.length<=x.length)(s:∀c∈y.cps.toList,c∈x.cps.toList):Ys y:=⟨aah l h.len,fun c hc=>h.cod c (s c hc)⟩
theorem ak0 (hq:Good q)(hr:Good r)(h:nt q=nt r):q=r:=by
 have key:∀{q r:Int×Int},Good q->Good r->nt q=nt r->q.2=1->q=r:=fun {q r} gq gr h e=>by
  by_cases e':r.2=1
  ·rw [lh e,lh e'] at h
   have h1:=ie (n:=q.1) (aaS gq.top (afI (by decide) (by decide)));rw [h,ie (aaS gr.top (afI (by decide) (by decide)))] at h1;exact agV (aaQ h1).symm (e.trans e'.symm)
  ·exfalso
   rw [lh e,mH e'] at h
   have:(47:Nat)∈(tx r.1++kC++tx r.2).cps.toList:=by
    rw [cps_append,cps_append,pj];simp
   rw [<-h] at this;exact EW (by decide) (by decide) this
 by_cases e:q.2=1
 ·exact key hq hr h e
 ·by_cases e':r.2=1
  ·exact (key hr hq h.symm e').symm
  ·have p1:=HI (a:=tx q.1) (b:=tx q.2) (EW (by decide) (by decide))
   have p2:=HI (a:=tx r.1) (b:=tx r.2) (EW (by decide) (by decide));rw [mH e,mH e'] at h;have h':tx q.1++(⟨#[47]⟩:Str)++tx q.2=tx r.1++(⟨#[47]⟩:Str)++tx r.2:=h;rw [h',p2] at p1;have a:tx r.1=tx q.1:=abV anf p1;have b:tx r.2=tx q.2:=abV (fun z=>z.2.2) p1;have up:∀{n:Int},n.natAbs<10^60->n.natAbs<10^4000:=fun h=>aaS h (afI (by decide) (by decide));have a1:=ie (up hq.top);rw [<-a,ie (up hr.top)] at a1;have b1:=ie (up hq.bot);rw [<-b,ie (up hr.bot)] at b1;exact agV (aaQ a1).symm (aaQ b1).symm
theorem cH:aC zaN zaQ (aa cX):=sq
theorem BI (D:Def K mg "read_ratio" cX zaQ)(bM:mg "isinstance"=none)(dA:mg "str"=none)(dr:mg "NoText"=some (.ref C))(eI:aco K C ZC "ValueError.__new__"=true)
  (jF:Fn P w K mg base (aT P w) 1 "read_whole" zaQ (akZ C))
  (yJ:Fn P w K mg base (aT P w) 34 "ratio_of" zaq (IA CN)) (tf:Fn P w K mg base (aT P w) 1 "show_ratio" ["one"] (sZ K)):Fn P w K mg base (aT P w) 35 "read_ratio" zaQ (apX C):=by
 refine D.ZA cH (fun vs H Q E h=>?_) (fun f cdv A outer s H vs Q E hr h=>?_)
 ·rcases h with ⟨x,rfl,_⟩|⟨u,rfl,_⟩<;>rfl
 have px:=fZ (P:=P) (w:=w) (K:=K) (mg:=mg) (base:=base) (N:=zaN) (qual:="read_ratio") (scope:=aa cX) (f:=f) (cdv:=cdv) (A:=A) (outer:=outer) (s0:=s) (H0:=H) (E:=E);have sz:(1:Nat)<=abl:=by decide
 rcases h with ⟨x,rfl,hx,q,qe⟩|⟨u,rfl,hu,qe⟩
 ·have hz:x.length<=abl:=aah hx.len (by decide)
  have tail:∃t,PSs (hZ P w K mg base zaN "read_ratio" (aa cX) f cdv A outer s H E) ((aq cX).drop 4) t/\∀(H1:Hp)(o:ω)(n m:Int),au H H1->n.natAbs<10^60->m.natAbs<10^60->(∀r,Good r->x=nt r->r=(n,m))->
    t {nx:=fun _ H'=>Q .bG H',rt:=Q} [some (.str x),o,some (.int n),some (.int m),none] H1:=by
   refine ⟨_,(ag (aS (aL cn (pv 3) ak) (ae (dm abE dr eI hr.hd (aE aw))) aG) (ag (aR (i:=4) cH.nd (bK yJ hr.mo px (aU (pv 2) (pv 3)))) (ag (aS (aL nL (bK tf hr.mo px (aE (pv 4))) (pv 0)) (ae (dm abE dr eI hr.hd (aE (xr (jD aw (jD (Rx (pv 0)) HH)))))) aG) (ae (aH (pv 4)))))),?_⟩;intro H1 o n m s1 hn hm LO;refine ⟨_,rfl,rfl,_,rfl,?_⟩;refine aK (fun c=>?_) (fun c=>?_)
   ·have e:m=0:=by simpa using abn c
    refine ⟨sz,qe (fun r gr z=>?_) H1 s1⟩;have e':=LO r gr z;have p:=gr.pos;rw [e',e] at p;exact abo (show (0:Int)<0 from p) (by decide)
   ·have e:m≠0:=by
     have:=of_decide_eq_false (ac4.mpr c);intro z;exact this (by rw [z])
    have gl:=aat e hn hm;refine ⟨_,rfl,_,rfl,.inl ⟨n,m,rfl,e,aah (RJ hm) (by decide),fun p H2 s2 e2=>?_⟩⟩;refine ⟨_,rfl,_,low n m,rfl,⟨p,rfl,dG.of e2⟩,FG gl.top,FG gl.bot,_,rfl,rfl,_,rfl,?_⟩;by_cases ez:nt (low n m)=x
    ·refine aoG (abV V.str ez) ?_
     exact ⟨_,rfl,q _ gl ez.symm p H2 (s1.trans s2) e2⟩
    ·rw [aby (fun z=>ez (V.str.inj z))]
     refine HG ?_;refine ⟨ab0 "not as a number is written: ",rfl,(by decide+kernel),_,rfl,x,rfl,hx,fun y hy=>⟨y,rfl,hy,?_⟩⟩;refine ⟨sz,qe (fun r gr z=>ez ?_) H2 (s1.trans s2)⟩;have e':=LO r gr z
     have e3:low n m=r:=by
      rw [e'];have h1:=gr.pos;have h2:=gr.low;rw [e'] at h1 h2;exact x8 h1 h2
     rw [e3];exact z.symm
  obtain ⟨t4,p4,q4⟩:=tail;refine ⟨_,(ag (aS (h9 (gi (a8 jc rfl bM dI (aU (pv 0) (vM rfl dA kx))))) (ae (dm abE dr eI hr.hd (aE aw))) aG) (ag (aR (i:=1) cH.nd (gA ab5 PySem.F.slot_str_partition PySem.F.type_str_partition sJ (pv 0) (aE aw))) (ag (aR (i:=2) cH.nd (bK jF hr.mo px (aE (aI (pv 1))))) (ag (aR (i:=3) cH.nd (fF (aL cn (aI (pv 1)) aw) (bK jF hr.mo px (aE (aI (pv 1)))) ak)) p4)))),_,rfl,_,_,_,true,rfl,rfl,.str x,apW,_,rfl,aK (fun c=>nomatch c) (fun _=>?_)⟩;refine ⟨_,rfl,rfl,x,⟨#[47]⟩,rfl,rfl,rfl,hz,fun p np=>?_⟩
  rcases partition_whole x ⟨#[47]⟩ with ⟨e1,hn⟩|⟨i,e1,hi,hk⟩
  ·have axT:47∉x.cps.toList:=fun m=>by obtain ⟨i,hi⟩:=(mem_iff_at x 47).mp m;exact hn i hi
   have one:∀r,Good r->x=nt r->r.2=1/\x=tx r.1:=fun r gr z=>by
    by_cases e:r.2=1
    ·exact ⟨e,by rw [z,lh e]⟩
    ·exfalso
     refine axT ?_;rw [z,mH e,cps_append,cps_append,pj];simp
   rw [e1];have s1:=a_ np (.tup [.str x,.str ab4,.str ab4]);have h1:upd H p (.tup [.str x,.str ab4,.str ab4]) p=some (.tup [.str x,.str ab4,.str ab4]):=ai;refine ⟨_,rfl,p,_,_,_,rfl,rfl,dG.of h1,rfl,x,rfl,hx,fun n H2 QH s2 hm2=>?_,fun nt' H2 s2=>qe (fun r gr z=>nt' r.1 gr.top (one r gr z).2) H2 (s1.trans s2)⟩;refine ⟨_,rfl,p,_,_,_,rfl,rfl,dG.of (s2 _ _ h1),rfl,rfl,_,rfl,aK (fun c=>abo (abn c) (by decide+kernel)) (fun _=>?_)⟩;refine q4 H2 (some (.ref p)) n 1 (s1.trans s2) QH (by decide+kernel) fun r gr z=>?_;obtain ⟨a,b⟩:=one r gr z;exact agV (hm2 r.1 gr.top b).symm a
  ·rw [e1]
   have sub:∀(i j:Nat)(c:Nat),c∈(abX x i j).cps.toList->c∈x.cps.toList:=fun i j c hc=>by
    have:(abX x i j).cps.toList=(x.cps.toList.take j).drop i:=by
     show (x.cps.extract i j).toList=_;simp [ak1,anc]
    rw [this] at hc;exact aeP (afj hc)
   have apZ:∀(i j:Nat),(abX x i j).length<=x.length:=fun i j=>by
    show (x.cps.extract i j).size<=x.cps.size;simp;omega
   have ka:=U3 hx (apZ 0 i) (sub 0 i);have kb:=U3 hx (apZ (i+(⟨#[47]⟩:Str).length) x.length) (sub (i+(⟨#[47]⟩:Str).length) x.length)
   have two:∀r,Good r->x=nt r->abX x 0 i=tx r.1/\abX x (i+(⟨#[47]⟩:Str).length) x.length=tx r.2:=fun r gr z=>by
    by_cases e:r.2=1
    ·exfalso
     have:(47:Nat)∈x.cps.toList:=(mem_iff_at x 47).mpr ⟨i,hi⟩;rw [z,lh e] at this;exact EW (by decide) (by decide) this
    ·have p1:=HI (a:=tx r.1) (b:=tx r.2) (EW (by decide) (by decide))
     have z':x=tx r.1++(⟨#[47]⟩:Str)++tx r.2:=by rw [z,mH e];rfl
     rw [<-z',e1] at p1;exact ⟨abV anf p1,abV (fun z=>z.2.2) p1⟩
   generalize abX x 0 i=sa at ka two ⊢;generalize abX x (i+(⟨#[47]⟩:Str).length) x.length=sb at kb two ⊢;have s1:=a_ np (.tup [.str sa,.str ⟨#[47]⟩,.str sb]);have h1:upd H p (.tup [.str sa,.str ⟨#[47]⟩,.str sb]) p=some (.tup [.str sa,.str ⟨#[47]⟩,.str sb]):=ai;refine ⟨_,rfl,p,_,_,_,rfl,rfl,dG.of h1,rfl,sa,rfl,ka,fun n H2 QH s2 hm2=>?_,fun nt' H2 s2=>qe (fun r gr z=>nt' r.1 gr.top (two r gr z).1) H2 (s1.trans s2)⟩;refine ⟨_,rfl,p,_,_,_,rfl,rfl,dG.of (s2 _ _ h1),rfl,rfl,_,rfl,aK (fun _=>?_) (fun c=>abo (abu (by decide+kernel)) c)⟩;refine ⟨_,rfl,p,_,_,_,rfl,rfl,dG.of (s2 _ _ h1),rfl,sb,rfl,kb,fun m H3 hn3 s3 hm3=>?_,fun nt' H3 s3=>qe (fun r gr z=>nt' r.2 gr.bot (two r gr z).2) H3 ((s1.trans s2).trans s3)⟩;refine q4 H3 (some (.ref p)) n m ((s1.trans s2).trans s3) QH hn3 fun r gr z=>?_;obtain ⟨a,b⟩:=two r gr z;exact agV (hm2 r.1 gr.top a).symm (hm3 r.2 gr.bot b).symm
 ·refine ⟨_,(ag (aS (h9 (gi (a8 jc rfl bM dI (aU (pv 0) (vM rfl dA kx))))) (ae (dm abE dr eI hr.hd (aE aw))) aG) (ag (aR (i:=1) cH.nd (gA ab5 PySem.F.slot_str_partition PySem.F.type_str_partition sJ (pv 0) (aE aw))) (ag (aR (i:=2) cH.nd (bK jF hr.mo px (aE (aI (pv 1))))) (ag (aR (i:=3) cH.nd (fF (aL cn (aI (pv 1)) aw) (bK jF hr.mo px (aE (aI (pv 1)))) ak)) (ag (aS (aL cn (pv 3) ak) (ae (dm abE dr eI hr.hd (aE aw))) aG) (ag (aR (i:=4) cH.nd (bK yJ hr.mo px (aU (pv 2) (pv 3)))) (ag (aS (aL nL (bK tf hr.mo px (aE (pv 4))) (pv 0)) (ae (dm abE dr eI hr.hd (aE (xr (jD aw (jD (Rx (pv 0)) HH)))))) aG) (ae (aH (pv 4)))))))))),?_⟩
  obtain ⟨t,ty,kt⟩:=hu.ty (K:=K);refine ⟨_,rfl,_,_,t,false,rfl,rfl,ty,kt,_,rfl,aK (fun _=>?_) (fun c=>abo rfl c)⟩;exact ⟨sz,qe⟩
inductive U4 (K:Frag)(vs:ε)(H:Hp)(Q:VK)(E_:XK):Prop
|mk (x:Str)(_:vs=[.str x])(_:Ys x)(_:(∀r:Rat,Good (qr r)->x=hV r->∀v H',au H H' ->jR K H' v r->Q v H'))(_:((∀r:Rat,Good (qr r)->x≠hV r)->∀H',au H H' ->Q .bG H'))
theorem IC:aC zaK zaK (aa g7):=sq
theorem ID (D:Def K mg "number_of" g7 zaK)(dr:mg "NoText"=some (.ref C))(e1:abD K (.ref C) (.ref C)=some true)(hC:(ab7 K C).isSome=true)
  (IE:Fn P w K mg base (aT P w) 35 "read_ratio" zaQ (apX C)):Fn P w K mg base (aT P w) 36 "number_of" zaK (U4 K):=by
 refine D.op IC fun f cdv A outer s H vs Q E hr h=>?_;obtain ⟨x,rfl,hx,q1,q2⟩:=h;refine ⟨_,(ae (Zy ⟨rfl,rfl⟩ (afb (ahd IE hr.mo (aE (pv 0)))) (ahw (AY.own dr) (fun a=>(ae (aH bS))) Zw))),?_⟩;refine ⟨_,rfl,.inl ⟨x,rfl,hx,fun q g e p H' s e2=>?_,fun no H' s=>?_⟩⟩
 ·have eq:=US g.pos g.low
  refine q1 (vl q) (by rw [<-eq];exact g) (by rw [e];unfold hV;rw [<-eq]) _ H' s ⟨p,rfl,?_⟩;rw [<-eq];exact dG.of e2
 ·exact ⟨true,e1,q2 (fun r g e=>no (qr r) g e) H' s⟩
def eJ (c:Nat):Bool:=decide (c∈("abcdefghijklmnopqrstuvwxyz":Str).cps.toList) || decide (c∈("0123456789":Str).cps.toList)
def isName (x:Str):Bool:= !decide (V.str x=V.str "") && x.cps.toList.all eJ
inductive yK (vs:ε)(H:Hp)(Q:VK)(E_:XK):Prop
|mk (x:Str)(_:vs=[.str x])(_:x.length<=400)(_:∀H',au H H' ->Q (.bl (isName x)) H')
theorem RK:aC zaK zaK (aa jL):=sq
theorem RL (hM:qJ CX)(D:Def K mg "is_name" jL zaK)(FF:mg "all"=none)(jM:mg "FIGURES"=some (.str "0123456789" tkF))(uV:mg "LETTERS"=some (.str "abcdefghijklmnopqrstuvwxyz" tkL)):Fn P w K mg base CX 1 "is_name" zaK yK:=by
 refine D.oo RK fun H hr h=>?_;obtain ⟨x,rfl,hx,q⟩:=h;have hx':x.cps.size<=400:=hx;refine ⟨_,(ae (aH (xI (jC nL (pv 0) aw (qF _)) (uF (a8 (EV rfl) rfl FF ahc (aE (iX (tn:=["sign"]) (fr:=[]) (caps:=[]) (ZO (pv 0)) (aof (jC uG (pv 0) (fh (v:=.str "abcdefghijklmnopqrstuvwxyz") rfl uV ⟨_,rfl⟩) rfl) (uF (jC uG (pv 0) (fh (v:=.str "0123456789") rfl jM ⟨_,rfl⟩) rfl)))))))))),_,rfl,rfl,_,rfl,?_⟩;by_cases c:V.str x=V.str ""
 ·rw [abu c]
  refine dz ?_;have:=q H (au.refl H);unfold isName at this;rw [abu c] at this;exact this
 rw [aby c];refine fY ?_;refine ⟨_,rfl,x,rfl,fun D nD=>aak (x:=x) (fun i v _=>∃c,x.cps[i]?=some c/\v=.bl (eJ c)) nD (aaW hx' (by decide)) (fun _ _ _ _ _ _ _ h=>h) (fun i c H2 R hc s2 k=>?_) (fun ys H2 ly hy s2 hD=>?_)⟩
 ·refine ⟨_,rfl,_,_,rfl,rfl,?_⟩
  rw [Ru];by_cases c1:c∈("abcdefghijklmnopqrstuvwxyz":Str).cps.toList
  ·rw [abu c1]
   refine ⟨_,rfl,fY (k _ H2 (au.refl _) ⟨c,hc,?_⟩)⟩;unfold eJ;rw [abu c1];rfl
  ·rw [aby c1]
   refine ⟨_,rfl,dz ⟨_,rfl,_,_,rfl,rfl,?_⟩⟩;rw [Ru];refine k _ H2 (au.refl _) ⟨c,hc,?_⟩;unfold eJ;rw [aby c1];rfl
 ·have ey:ys=(x.cps.toList.map eJ).map V.bl:=by
   refine agW fun i=>?_;rw [aaU,aaU];by_cases hi:i<ys.length
   ·obtain ⟨c,e1,e2⟩:=hy i ys[i] (gE hi)
    rw [gE hi,e2];have e3:x.cps.toList[i]?=some c:=by rw [Array.getElem?_toList];exact e1
    rw [e3];rfl
   ·rw [ac7 (by omega)]
    have e3:x.cps.toList[i]?=none:=ac7 (by rw [ai_];omega);rw [e3];rfl
  refine ⟨D,x.cps.toList.map eJ,rfl,by rw [<-ey];exact aZ.of hD,?_⟩;have:=q H2 s2;unfold isName at this;rw [aby c] at this;rw [akf];exact this
open Classical in
noncomputable def numOf (x:Str):Option Rat:=if h:∃r:Rat,Good (qr r)/\x=hV r then some h.choose else none
theorem uW (g:Good (qr r)):numOf (hV r)=some r:=by
 unfold numOf;have h:∃r':Rat,Good (qr r')/\hV r=hV r':=⟨r,g,rfl⟩;rw [dif_pos h];have:=h.choose_spec;exact abV some (yB (ak0 g this.1 this.2)).symm
theorem NX (h:∀r:Rat,Good (qr r)->x≠hV r):numOf x=none:=by
 unfold numOf;rw [dif_neg];rintro ⟨r,g,e⟩;exact h r g e
def U5 (r:Rat):Option Int:=if (qr r).2=1/\1<=(qr r).1/\(qr r).1<=60 then some (qr r).1 else none
noncomputable def mJ (x:Str):Option Int:=(numOf x).bind U5
theorem yL (g:Good (qr r)):mJ (hV r)=U5 r:=by
 unfold mJ;rw [uW g];rfl
theorem Ww (h:∀r:Rat,Good (qr r)->x≠hV r):mJ x=none:=by
 unfold mJ;rw [NX h];rfl
inductive RM (vs:ε)(H:Hp)(Q:VK)(E_:XK):Prop
|mk (x:Str)(_:vs=[.str x])(_:Ys x)(_:(∀k,mJ x=some k->∀H',au H H' ->Q (.int k) H'))(_:(mJ x=none->∀H',au H H' ->Q .bG H'))
theorem yM:aC ["word","number"] zaK (aa iI):=sq
theorem RN (hM:qJ (aT P w))(D:Def K mg "many_of" iI zaK)(jw:mg "GREATEST_MANY"=some (.int 60 tkG))(om:Fn P w K mg base (aT P w) 36 "number_of" zaK (U4 K)):Fn P w K mg base (aT P w) 37 "many_of" zaK RM:=by
 refine D.op yM fun f cdv A outer s H vs Q E hr h=>?_;obtain ⟨x,rfl,hx,q1,q2⟩:=h;have px:=kz (X:=(kh (aT P w) P w K mg base ["word","number"] "many_of" (aa iI) f cdv A outer s H E)) hM
 refine ⟨_,(ag (aR (i:=1) yM.nd (bK om hr.mo px (aE (pv 0)))) (ag (aS (PW.pt (pZ (aL iC (pv 1) bS) (pZ (aL nL (aI (pv 1)) ak) (mn (h9 (xO EC EC ak (aI (pv 1)) (fh (v:=.int 60) rfl jw ⟨_,rfl⟩))))))) (ae (aH bS)) aG) (ae (aH (aI (pv 1)))))),?_⟩
 refine ⟨_,rfl,x,rfl,hx,fun r g e v H' s h=>?_,fun no H' s=>?_⟩
 ·obtain ⟨p,rfl,h⟩:=h
  rw [e,yL g] at q1 q2;unfold U5 at q1 q2;refine ⟨_,rfl,rfl,_,rfl,aK (fun c=>abo (abn c) (fun z=>nomatch z)) (fun _=>?_)⟩;refine ⟨_,rfl,p,_,_,_,rfl,rfl,h,vS,rfl,_,rfl,?_⟩;by_cases c1:(qr r).2=1
  ·refine aK (fun c=>abo c1 (by simpa using c)) (fun _=>?_)
   refine ⟨_,rfl,p,_,_,_,rfl,rfl,h,AS,_,_,rfl,rfl,_,rfl,?_⟩;by_cases c2:1<=(qr r).1
   ·refine aK (fun _=>?_) (fun c=>abo (abu c2) c)
    refine ⟨_,_,rfl,rfl,_,rfl,?_⟩;by_cases c3:(qr r).1<=60
    ·refine aK (fun c=>abo c3 (of_decide_eq_false (by simpa using c))) (fun _=>?_)
     exact ⟨_,rfl,p,_,_,_,rfl,rfl,h,AS,q1 _ (abv ⟨c1,c2,c3⟩) H' s⟩
    ·refine aK (fun _=>?_) (fun c=>abo (abn (by simpa using c)) c3)
     exact q2 (abp fun z=>c3 z.2.2) H' s
   ·refine aK (fun c=>abo (abn c) c2) (fun _=>?_)
    refine ⟨_,rfl,fY ?_⟩;exact q2 (abp fun z=>c2 z.2.1) H' s
  ·refine aK (fun _=>?_) (fun c=>abo (by simpa using c) c1)
   exact q2 (abp fun z=>c1 z.1) H' s
 ·refine ⟨_,rfl,rfl,_,rfl,aK (fun _=>?_) (fun c=>abo (by decide) c)⟩
  exact q2 (Ww no) H' s
inductive RV where
 | w (s:Str)
 | q (r:Rat)
 | n (k:Int)
def mU (K:Frag)(H:Hp)(v:V):RV->Prop
 | .w s=>v=.str s
 | .q r=>jR K H v r
 | .n k=>v=.int k
theorem mU.aQ (h:mU K H v a)(s:bf H H'):mU K H' v a:=by
 cases a with
 | w x=>exact h
 | q r=>exact jR.aQ h s
 | n k=>exact h
def OvR (K:Frag)(H:Hp)(v:V):Option RV->Prop
 | none=>v=.bG
 | some a=>mU K H v a
theorem OvR.aQ (h:OvR K H v a)(s:bf H H'):OvR K H' v a:=by
 cases a with
 | none=>exact h
 | some r=>exact mU.aQ h s
noncomputable def valOf (k x:Str):Option RV:=
 if V.str k=V.str "NUMBER" then (numOf x).map RV.q else
 if V.str k=V.str "MANY" then (mJ x).map RV.n else
 if V.str k=V.str "NAME" then (if (isName x && decide ((x.length:Int)<=20))=true then some (.w x) else none) else
 if V.str k=V.str "WORD" then (if isName x=true then some (.w x) else none) else
 if V.str x=V.str k then some (.w x) else none
inductive aau (K:Frag)(vs:ε)(H:Hp)(Q:VK)(E_:XK):Prop
|mk (k x:Str)(_:vs=[.str k,.str x])(_:Ys x)(_:∀v H',au H H' ->OvR K H' v (valOf k x)->Q v H')
theorem NY:aC zaE zaE (aa gS):=sq
theorem NZ (hM:qJ (aT P w))(D:Def K mg "value_of" gS zaE)(bF:mg "len"=none)(jU:mg "LONGEST_NAME"=some (.int 20 tkN))(om:Fn P w K mg base (aT P w) 36 "number_of" zaK (U4 K))(Wx:Fn P w K mg base (aT P w) 37 "many_of" zaK RM)(FH:Fn P w K mg base (aT P w) 1 "is_name" zaK yK):Fn P w K mg base (aT P w) 38 "value_of" zaE (aau K):=by
 refine D.op NY fun f cdv A outer s H vs Q E hr h=>?_;obtain ⟨k,x,rfl,hx,q⟩:=h;have px:=kz (X:=(kh (aT P w) P w K mg base zaE "value_of" (aa gS) f cdv A outer s H E)) hM;have x4:=hx.len;have xz:x.length<=abl:=aah x4 (by decide)
 refine ⟨_,(ag (aS (aL cn (pv 0) aw) (ae (aH (bK om hr.mo px (aE (pv 1))))) aG) (ag (aS (aL cn (pv 0) aw) (ae (aH (bK Wx hr.mo px (aE (pv 1))))) aG) (ag (aS (aL cn (pv 0) aw) (ae (aH (fF (PW.pt (jO (gi (bK FH hr.mo px (aE (pv 1)))) (iV (aL EC (a8 mB rfl bF fm (aE (pv 1))) (fh (v:=.int 20) rfl jU ⟨_,rfl⟩))))) (pv 1) bS))) aG) (ag (aS (aL cn (pv 0) aw) (ae (aH (fF (gi (bK FH hr.mo px (aE (pv 1)))) (pv 1) bS))) aG) (ae (aH (fF (aL cn (pv 1) (pv 0)) (pv 1) bS))))))),?_⟩
 refine ⟨_,rfl,rfl,_,rfl,?_⟩;refine aK (fun c=>?_) (fun c=>?_)
 ·have c':=abn c
  refine ⟨_,rfl,x,rfl,hx,fun r g e v H' s h=>q v H' s ?_,fun no H' s=>q _ H' s ?_⟩
  ·unfold valOf
   rw [abv c',e,uW g];exact h
  ·unfold valOf
   rw [abv c',NX no];rfl
 have c1:=of_decide_eq_false (ac4.mpr c);refine ⟨_,rfl,rfl,_,rfl,?_⟩;refine aK (fun c=>?_) (fun c=>?_)
 ·have c':=abn c
  have e:valOf k x=(mJ x).map RV.n:=by
   unfold valOf;rw [abp c1,abv c']
  refine ⟨_,rfl,x,rfl,hx,fun m em H' s=>q _ H' s ?_,fun em H' s=>q _ H' s ?_⟩
  ·rw [e,em]
   rfl
  ·rw [e,em]
   rfl
 have cm:=of_decide_eq_false (ac4.mpr c);refine ⟨_,rfl,rfl,_,rfl,?_⟩;refine aK (fun c=>?_) (fun c=>?_)
 ·have c':=abn c
  refine ⟨_,rfl,x,rfl,x4,fun H' s=>?_⟩
  have e:valOf k x=if (isName x && decide ((x.length:Int)<=20))=true then some (.w x) else none:=by
   unfold valOf;rw [abp c1,abp cm,abv c']
  refine ⟨_,rfl,?_⟩;refine aK (fun n1=>?_) (fun n1=>?_)
  ·refine ⟨_,rfl,x,rfl,xz,_,_,rfl,rfl,_,rfl,?_⟩
   refine aK (fun n2=>?_) (fun n2=>?_)
   ·refine ⟨_,rfl,q _ H' s ?_⟩
    rw [e,n1,n2];rfl
   ·refine q _ H' s ?_
    rw [e,ac4.mpr n2,aku];rfl
  ·refine q _ H' s ?_
   rw [e,ac4.mpr n1];rfl
 have c2:=of_decide_eq_false (ac4.mpr c);refine ⟨_,rfl,rfl,_,rfl,?_⟩;refine aK (fun c=>?_) (fun c=>?_)
 ·have c':=abn c
  refine ⟨_,rfl,x,rfl,x4,fun H' s=>?_⟩
  have e:valOf k x=if isName x=true then some (.w x) else none:=by
   unfold valOf;rw [abp c1,abp cm,abp c2,abv c']
  refine ⟨_,rfl,?_⟩;refine aK (fun n1=>?_) (fun n1=>?_)
  ·refine ⟨_,rfl,q _ H' s ?_⟩
   rw [e,abv n1];rfl
  ·refine q _ H' s ?_
   rw [e,abp n1];rfl
 have c3:=of_decide_eq_false (ac4.mpr c)
 have e:valOf k x=if V.str x=V.str k then some (.w x) else none:=by
  unfold valOf;rw [abp c1,abp cm,abp c2,abp c3]
 refine ⟨_,rfl,_,rfl,rfl,_,rfl,?_⟩;refine aK (fun c=>?_) (fun c=>?_)
 ·refine ⟨_,rfl,q _ H (au.refl H) ?_⟩
  rw [e,abv (abn c)];rfl
 ·refine q _ H (au.refl H) ?_
  rw [e,abp (of_decide_eq_false (ac4.mpr c))];rfl
def iY:List (Option RV)->Option (List RV)
 | []=>some []
 | none::_=>none
 | some a::t=>(iY t).map (a::·)
noncomputable def fit (ks ws:η):Option (List RV):=if ks.length=ws.length then iY (akm valOf ks ws) else none
theorem all_some :∀{us:ε} {os:List (Option RV)},Paired (OvR K H) us os->(us.any (fun u=>decide (u=V.bG))=true/\iY os=none)\/(us.any (fun u=>decide (u=V.bG))=false/\∃rs,iY os=some rs/\Paired (mU K H) us rs)
 | [],[],.nil=>.inr ⟨rfl,[],rfl,.nil⟩
 | u::us,o::os,.cons h t=>by
  rw [ag8];cases o with
  | none=>
   have e:u=V.bG:=h;rw [abu e];exact .inl ⟨rfl,rfl⟩
  | some a=>
   have ne:u≠V.bG:=fun e=>by
    rw [e] at h;cases a with
    | w x=>exact V.noConfusion (show V.bG=V.str x from h)
    | q r=>
     obtain ⟨p,z,_⟩:=(show uz K H V.bG (qr r) from h);cases z
    | n k=>exact V.noConfusion (show V.bG=V.int k from h)
   rw [aby ne,aqd]
   rcases all_some t with ⟨e1,e2⟩|⟨e1,rs,e2,e3⟩
   ·refine .inl ⟨e1,?_⟩
    show (iY os).map (a::·)=none;rw [e2];rfl
   ·refine .inr ⟨e1,a::rs,?_,.cons h e3⟩
    show (iY os).map (a::·)=some (a::rs);rw [e2];rfl
inductive aav (K:Frag)(vs:ε)(H:Hp)(Q:VK)(E_:XK):Prop
|mk (l1 l2:abj)(ks ws:η)(_:vs=[.ref l1,.ref l2])(_:H l1=some (.lst (ks.map V.str)))(_:H l2=some (.lst (ws.map V.str)))(_:ks.length<=100)(_:ws.length<=1000)(_:(∀x∈ws,Ys x))(_:(fit ks ws=none->∀H',au H H' ->Q .bG H'))(_:∀rs,fit ks ws=some rs->∀(l:abj)(us:ε)(H':Hp),au H H' ->H l=none->H' l=some (.lst us)->Paired (mU K H') us rs->Q (.ref l) H')
theorem FI:aC ["kinds","words","values"] za2 (aa lS):=sq
theorem Wy (hM:qJ (aT P w))(D:Def K mg "fitted" lS za2)(bF:mg "len"=none)(aaw:mg "zip"=none)(RO:Fn P w K mg base (aT P w) 38 "value_of" zaE (aau K)):Fn P w K mg base (aT P w) 39 "fitted" za2 (aav K):=by
 refine D.op FI fun f cdv A outer s H vs Q E hr h=>?_;obtain ⟨l1,l2,ks,ws,rfl,h1,h2,lk,lw,tk,qn,qs⟩:=h
 refine ⟨_,(ag (aS (aL nL (a8 bh rfl bF fm (aE (pv 0))) (a8 bh rfl bF fm (aE (pv 1)))) (ae (aH bS)) aG) (ag (RE (i:=2) (tn:=zaE) (fr:=[]) (caps:=[]) FI.nd (aky rfl aaw (aU (pv 0) (pv 1))) (fun _ _ _ _=>(aeX (K:=K) (n:=2) rfl rfl (cb (mq (i:=0) (show (zaE:List Str).Nodup from by decide+kernel) rfl (am0 rfl)) (cb (mq (i:=1) (show (zaE:List Str).Nodup from by decide+kernel) rfl (am0 rfl)) jB)))) (fun _ _ _ _=>Rr) (FC RO hr (aU (pv 0) (pv 1)))) (ae (aH (fF (xa (V5 hr.units) bS (pv 2) rfl) bS (pv 2)))))),?_⟩
 refine ⟨_,rfl,l1,_,rfl,.inl (aZ.of h1),_,rfl,l2,_,rfl,.inl (aZ.of h2),rfl,_,rfl,?_⟩;rw [ir,ir];refine aK (fun c=>?_) (fun c=>?_)
 ·have ne:ks.length≠ws.length:=fun e=>by rw [e] at c;simp at c
  exact qn (by unfold fit;rw [abp ne]) H (au.refl H)
 have ee:ks.length=ws.length:=by
  have:=ac4.mpr c;simp at this;omega
 have ef:fit ks ws=iY (akm valOf ks ws):=by unfold fit;rw [abv ee]
 refine ⟨_,rfl,_,rfl,l1,l2,rfl,⟨_,aZ.of h1⟩,⟨_,aZ.of h2⟩,fun D nD=>Z0 (K:=K) (a:=l1) (b:=l2) (xs:=ks.map V.str) (ys:=ws.map V.str) (fun i v H'=>∃k x,ks[i]?=some k/\ws[i]?=some x/\OvR K H' v (valOf k x)) nD (by rw [ir];exact aaW lk (by decide)) (by rw [ir,ir,ee]) (fun H' s=>aZ.of (s _ _ h1)) (fun H' s=>aZ.of (s _ _ h2)) (fun i v H2 H3 ys e k h=>?_) (fun i x y H2 R ex ey s2 k=>?_) (fun zs H2 lz hz s2 hD=>?_)⟩
 ·obtain ⟨k',x',a1,a2,a3⟩:=h
  refine ⟨k',x',a1,a2,a3.aQ fun b xs r=>?_⟩
  rcases r with r|⟨o,r⟩
  ·exact .inl (k _ _ (fun z=>by rw [z,e] at r;cases r) r)
  ·exact .inr ⟨o,k _ _ (fun z=>by rw [z,e] at r;cases r) r⟩
 ·rw [aaU] at ex ey
  obtain ⟨k',e1,rfl⟩:=ab_.mp ex;obtain ⟨x',e2,rfl⟩:=ab_.mp ey;exact ⟨_,rfl,_,rfl,k',x',rfl,tk x' (aaP e2),fun v H' s' h=>k v H' s' ⟨k',x',e1,e2,h⟩⟩
 ·rw [ir] at lz
  have pr:Paired (OvR K H2) zs (akm valOf ks ws):=lM (by rw [lz,anj];omega) fun i a b ea eb=>by
   obtain ⟨k',x',a1,a2,a3⟩:=hz i a ea;rw [am_,a1,a2] at eb;rw [<-aaQ eb];exact a3
  refine ⟨_,rfl,D,zs,rfl,rfl,aZ.of hD,fun u hu=>?_,_,rfl,?_⟩
  ·obtain ⟨i,hi,ei⟩:=ahh.mp hu
   obtain ⟨k',x',a1,a2,a3⟩:=hz i u (by rw [gE hi,ei]);cases e:valOf k' x' with
   | none=>
    rw [e] at a3;have z:u=V.bG:=a3;rw [z];exact .inl rfl
   | some a=>
    rw [e] at a3;cases a with
    | w x=>
     have z:u=V.str x:=a3;rw [z];exact .inl rfl
    | q r=>
     obtain ⟨p,z,t⟩:=(show uz K H2 u (qr r) from a3);exact .inr ⟨p,_,z,t⟩
    | n k=>
     have z:u=V.int k:=a3;rw [z];exact .inl rfl
  ·rcases all_some pr with ⟨e1,e2⟩|⟨e1,rs,e2,e3⟩
   ·rw [e1]
    refine fY ?_;exact qn (by rw [ef];exact e2) H2 s2
   ·rw [e1]
    refine dz ?_;exact ⟨_,rfl,qs rs (by rw [ef];exact e2) D zs H2 s2 nD hD e3⟩
noncomputable def dy (f:Str):List Str:=ab6 f " "
noncomputable def dB:List Str->List Str->Option (List RV)
 | [],_=>none
 | f::fs,ws=>match fit (dy f) ws with
  | some rs=>some rs
  | none=>dB fs ws
inductive aax (K:Frag)(vs:ε)(H:Hp)(Q:VK)(E_:XK):Prop
|mk (p:abj)(fs:η)(x:Str)(_:vs=[.ref p,.str x])(_:dG K H p (fs.map V.str))(_:(∀f∈fs,f.length<=90))(_:x.length+2<=abl)(_:(ab6 x " ").length<=1000)(_:(∀w∈ab6 x " ",Ys w))(_:(dB fs (ab6 x " ")=none->∀H',au H H' ->Q .bG H'))(_:∀rs,dB fs (ab6 x " ")=some rs->∀(l:abj)(us:ε)(H':Hp),au H H' ->H l=none->H' l=some (.lst us)->Paired (mU K H') us rs->Q (.ref l) H')
theorem kH:aC zaX za5 (aa gR):=sq
theorem N_ (hM:qJ (aT P w))(D:Def K mg "read_row" gR za5)(aay:Fn P w K mg base (aT P w) 39 "fitted" za2 (aav K)):Fn P w K mg base (aT P w) 40 "read_row" za5 (aax K):=by
 refine D.op kH fun f cdv A outer s H vs Q E hr h=>?_;obtain ⟨p,fs,x,rfl,hp,fl,hz,lw,tk,qn,q⟩:=h;have px:=kz (X:=(kh (aT P w) P w K mg base zaX "read_row" (aa gR) f cdv A outer s H E)) hM;have l1:((" ":Str).length==0)=false:=by decide+kernel
 refine ⟨_,(ag (aR (i:=2) kH.nd (gA ab5 adh adi sP (pv 1) (aE aw))) (ag (dU abW rfl (aj7 (pv 0)) (hU (i:=3) kH.nd) (ag (aR (i:=4) kH.nd (bK aay hr.mo px (aU (gA ab5 adh adi sP (pv 3) (aE aw)) (pv 2)))) (ae (aS (aL oZ (pv 4) bS) (ae (aH (pv 4))) aG)))) (ae (aH bS)))),?_⟩
 refine ⟨_,rfl,rfl,x," ",rfl,rfl,l1,hz,?_⟩;intro lW nW;generalize eX:upd _ lW _=H1;have ⟨sW,eW⟩:=nw nW eX;generalize ab6 x " "=ws at lw tk qn q eW
 refine ⟨_,rfl,p,rfl,⟨_,Ty.au.cy sW hp⟩,aeq (K:=K) (a:=p) (xs:=fs.map V.str) (fun i σ H'=>Ex2 fun (o3 o4:ω)=>σ=[some (.ref p),some (.str x),some (.ref lW),o3,o4]/\au H H'/\H' lW=some (.lst (ws.map V.str))/\dB fs ws=dB (fs.drop i) ws) ⟨none,none,rfl,sW,eW,rfl⟩ (fun i σ H' _ h=>by
   obtain ⟨_,_,_,h,_⟩:=h
   exact Ty.au.cy h hp) ?_ ?_⟩
 ·rintro i z σ H2 hi ⟨o3,o4,rfl,s2,e2,r2⟩
  rw [aaU] at hi;obtain ⟨f',ef,rfl⟩:=ab_.mp hi;have il:i<fs.length:=(Wp.mp ef).1
  have ed:fs.drop i=f'::fs.drop (i+1):=by
   rw [aeD il];rw [gE il] at ef;rw [aaQ ef]
  rw [ed] at r2;have f90:=fl f' (aaP ef);refine ⟨_,rfl,rfl,f'," ",rfl,rfl,l1,aah (show f'.length+2<=100 by omega) (by decide),?_⟩;intro lK nK;generalize eX:upd _ lK _=H3;have ⟨sK,eK⟩:=nw nK eX
  have kl:(dy f').length<=100:=by
   have:=split_le f' " ";unfold dy;omega
  refine ⟨_,rfl,lK,lW,dy f',ws,rfl,eK,sK _ _ e2,kl,lw,tk,?_,?_⟩
  ·intro fn H4 s4
   refine ⟨_,rfl,rfl,_,rfl,aK (fun c=>by simp at c) (fun _=>?_)⟩;refine ⟨_,_,rfl,aJ s2 (aJ sK s4),s4 _ _ (sK _ _ e2),?_⟩;rw [r2];show (match fit (dy f') ws with|some rs=>some rs|none=>dB (fs.drop (i+1)) ws)=_;rw [fn]
  ·intro rs' fn l us H4 s4 n4 e4 p4
   have e5:dB fs ws=some rs':=by
    rw [r2];show (match fit (dy f') ws with|some rs=>some rs|none=>dB (fs.drop (i+1)) ws)=_;rw [fn]
   refine ⟨_,rfl,rfl,_,rfl,aK (fun _=>?_) (fun c=>by simp at c)⟩;exact ⟨_,rfl,q rs' e5 l us H4 (aJ s2 (aJ sK s4)) (aO (aJ s2 sK) n4) e4 p4⟩
 ·rintro σ H2 ⟨o3,o4,rfl,s2,e2,r2⟩
  rw [ir,afF] at r2;exact qn r2 H2 s2
def oq:List (Rat×Rat)->List RV
 | []=>[]
 | [w]=>[.w "roller",.q w.1,.q w.2]
 | _=>[.w "fixed"]
def uX (p:hJ):List RV:=[RV.w "pin",.w p.nm,.q p.sp.1,.q p.sp.2]++oq p.ws
structure bD (x:Str):Prop where
 nm:isName x=true
 len:x.length<=20
theorem sign_of (h:eJ c=true):c<1000/\c≠32/\c≠10:=by
 have k1:∀c∈("abcdefghijklmnopqrstuvwxyz":Str).cps.toList,c<1000/\c≠32/\c≠10:=by decide+kernel
 have k2:∀c∈("0123456789":Str).cps.toList,c<1000/\c≠32/\c≠10:=by decide+kernel
 unfold eJ at h;rw [Bool.or_eq_true] at h
 rcases h with h|h
 ·exact k1 c (abn h)
 ·exact k2 c (abn h)
theorem bD.signs (h:bD x):∀c∈x.cps.toList,c<1000/\c≠32/\c≠10:=fun c hc=>by
 have:=h.nm;unfold isName at this;rw [ac8,afP] at this;exact sign_of (this.2 c hc)
structure Wd (x:Str):Prop where
 len:x.length<=400
 cod:∀c∈x.cps.toList,c<1000/\c≠32/\c≠10
theorem Wd.txk (h:Wd x):Ys x:=⟨h.len,fun c hc=>(h.cod c hc).1⟩
theorem Wd.no (h:Wd x):32∉x.cps.toList/\10∉x.cps.toList:=⟨fun z=>(h.cod _ z).2.1 rfl,fun z=>(h.cod _ z).2.2 rfl⟩
theorem bD.wd (h:bD x):Wd x:=⟨aah h.len (by decide),h.signs⟩
theorem RP (n:Int):∀c∈(tx n).cps.toList,c<1000/\c≠32/\c≠10:=fun c hc=>by
 have h1:c=45\/(48<=c/\c<=57):=by
  by_cases e:c=45
  ·exact .inl e
  ·refine .inr ?_
   by_cases z:c<48\/57<c
   ·exact abo hc (EW e z)
   ·omega
 omega
theorem afk (g:Good (qr r)):Wd (hV r):=by
 have t1:=gj (n:=(qr r).1) (k:=60) (by decide) g.top;have t2:=gj (n:=(qr r).2) (k:=60) (by decide) g.bot;by_cases c:(qr r).2=1
 ·rw [show hV r=tx (qr r).1 from lh c]
  exact ⟨by omega,RP _⟩
 ·rw [show hV r=tx (qr r).1++kC++tx (qr r).2 from mH c]
  refine ⟨?_,fun d hd=>?_⟩
  ·rw [cK,cps_append,cps_append,aae,aae,pj,<-cK]
   have e2:(tx (qr r).2).cps.toList.length=(tx (qr r).2).length:=(cK _).symm;rw [e2];show (tx (qr r).1).length+1+(tx (qr r).2).length<=400;omega
  ·rw [cps_append,cps_append,abh,abh,pj] at hd
   rcases hd with (h|h)|h
   ·exact RP _ d h
   ·rw [aaT] at h
    omega
   ·exact RP _ d h
theorem blank:(" ":Str)=⟨#[32]⟩:=by decide+kernel
theorem aaz:("\n":Str)=⟨#[10]⟩:=by decide+kernel
theorem mK {ws:η}(ne:ws≠[])(h:∀x∈ws,Wd x):ab6 (abN " " ws) " "=ws:=by
 rw [blank];exact qR ne fun w hw=>(h w hw).no.1
theorem ahE (n:d≠c):∀ws:List (List Nat),(∀w∈ws,d∉w)->d∉jn c ws
 | [],_=>fun z=>nomatch z
 | [w],h=>h w aa_
 | w::v::ws,h=>fun z=>by
  have z':d∈w++c::jn c (v::ws):=z;rw [abh,aa3] at z'
  rcases z' with z'|z'|z'
  ·exact h w aa_ z'
  ·exact n z'
  ·exact ahE n (v::ws) (fun x hx=>h x (aa2 _ hx)) z'
theorem ak2 {ws:η}(h:∀x∈ws,Wd x):10∉(abN " " ws).cps.toList:=by
 rw [blank,show abN (⟨#[32]⟩:Str) ws=Str.join ⟨#[32]⟩ ws from adn _ _,pC];refine ahE (by decide) _ fun w hw=>?_;obtain ⟨x,hx,rfl⟩:=ac3.mp hw;exact (h x hx).no.2
theorem ne_str (h:x≠y):V.str x≠V.str y:=fun z=>h (V.str.inj z)
theorem kinds_of {ks:η}(e:abN " " ks=f)(ne:ks≠[])(h:∀k∈ks,32∉k.cps.toList):dy f=ks:=by
 unfold dy;rw [<-e,blank];exact qR ne h
theorem ak3:dy "pin NAME NUMBER NUMBER"=(zao:List Str):=kinds_of (by decide+kernel) (by simp) (by decide+kernel)
theorem ak4:dy "pin NAME NUMBER NUMBER fixed"=(zah:List Str):=kinds_of (by decide+kernel) (by simp) (by decide+kernel)
theorem ak5:dy "pin NAME NUMBER NUMBER roller NUMBER NUMBER"=(zac:List Str):=kinds_of (by decide+kernel) (by simp) (by decide+kernel)
theorem ak6:dy "bar NAME NAME NAME"=(zap:List Str):=kinds_of (by decide+kernel) (by simp) (by decide+kernel)
theorem ak7:dy "piece NAME"=(zaB:List Str):=kinds_of (by decide+kernel) (by simp) (by decide+kernel)
theorem ak8:dy "end"=(zaZ:List Str):=kinds_of (by decide+kernel) (by simp) (by decide+kernel)
theorem ak9:dy "lay NAME NAME NUMBER NUMBER"=(zai:List Str):=kinds_of (by decide+kernel) (by simp) (by decide+kernel)
theorem ak':dy "lay NAME NAME NUMBER NUMBER MANY NUMBER NUMBER"=(zab:List Str):=kinds_of (by decide+kernel) (by simp) (by decide+kernel)
def cZ:List Str:=["pin NAME NUMBER NUMBER","pin NAME NUMBER NUMBER fixed","pin NAME NUMBER NUMBER roller NUMBER NUMBER","bar NAME NAME NAME","piece NAME","end","lay NAME NAME NUMBER NUMBER","lay NAME NAME NUMBER NUMBER MANY NUMBER NUMBER"]
theorem Wz:∀f∈cZ,f.length<=90:=by decide+kernel
theorem aV (h:ks.length≠ws.length):fit ks ws=none:=by
 unfold fit;rw [abp h]
structure Gd where
 pins:List hJ
 b8:List (Str×Str×Str)
 done:Nat
inductive fQ where
 | there (x:Str)|yN (x:Str)|ot (x:Str)|length (x:Str)|many
abbrev _root_.Λ:=fQ->Prop
inductive Rw where
 | pin (p:hJ)
 | bar (x one other:Str)
 | lay (pc pre:Str) (a:Rat×Rat) (st:τ)
abbrev _root_.ν:=List (Str×List Rw)
abbrev _root_.ρ:=List (List Rw)
abbrev _root_.Α:=List Rw
abbrev Own:=List (Str×Str)
def bq (own:Own):List (Key×V):=own.map fun z=>(.inr z.1,.str z.2)
def gu:Rw->List RV
 | .pin p=>uX p
 | .bar x a b=>[.w "bar",.w x,.w a,.w b]
 | .lay pc pre a none=>[.w "lay",.w pc,.w pre,.q a.1,.q a.2]
 | .lay pc pre a (some (k,s))=>[.w "lay",.w pc,.w pre,.q a.1,.q a.2,.n (k:Int),.q s.1,.q s.2]
def nF (c s:Rat×Rat):Rat×Rat:=(c.1+s.1,c.2+s.2)
def marks (pre:Str)(a:Rat×Rat):Option (Nat×(Rat×Rat))->List (Str×(Rat×Rat))
 | none=>[(pre,a)]
 | some (k,s)=>(afD k).map fun (i:Nat)=>(pre++tx (i:Int),nF a ((i:Rat)*s.1,(i:Rat)*s.2))
abbrev GO:=Gd->Own->Prop
abbrev _root_.Ξ:=Str->Str->Rat×Rat->Gd->GO->(fQ->Prop)->Prop
def FJ (g:Gd)(x:Str)(s:Rat×Rat)(ws:υ):Gd:={g with pins:=g.pins++[⟨x,s,ws⟩]}
open Classical in
noncomputable def lX (x:Str)(c:Rat×Rat)(p:hJ)(g:Gd)(own:Own)(Q:GO)(E:Λ):Prop:=
 if p.nm∈own.map (·.1) then E (.there (x++p.nm)) else
 match g.pins.find? (fun z=>decide (z.sp=nF c p.sp)) with
 | some z=>Q g (own++[(p.nm,z.nm)])
 | none=>if x++p.nm∈g.pins.map (·.nm) then E (.there (x++p.nm)) else if 24<=g.pins.length then E .many else Q (FJ g (x++p.nm) (nF c p.sp) p.ws) (own++[(p.nm,x++p.nm)])
def aaA (x:Str)(g:Gd)(n:Str)(a b:Str)(own:Own)(Q:GO)(E:Λ):akN->Prop
 | .there=>E (.ot (x++n))
 | .pin p=>E (.yN p)
 | .length=>E (.length (x++n))
 | .many=>E .many
 | .done=>Q {g with b8:=g.b8++[(x++n,a,b)]} own
def ownAt (own:Own)(y:Str):Option Str:=(own.find? (fun z=>decide (z.1=y))).map (·.2)
def nj (x n one other:Str)(g:Gd)(own:Own)(Q:GO)(E:Λ):Prop:=
 match ownAt own one with
 | none=>E (.yN one)
 | some a=>match ownAt own other with
  | none=>E (.yN other)
  | some b=>aaA x g n a b own Q E (qT (g.pins.map (·.nm)) (g.b8.map (·.1)) (x++n) a b)
def d9 (x m:Str):Own->Own->(Own->Prop)->(fQ->Prop)->Prop
 | [],own,Q,_=>Q own
 | z::t,own,Q,E=>if m++z.1∈own.map (·.1) then E (.there (x++(m++z.1))) else d9 x m t (own++[(m++z.1,z.2)]) Q E
def gU (rec:Str->Rat×Rat->Gd->GO->(fQ->Prop)->Prop)(x:Str)(c:Rat×Rat):List (Str×(Rat×Rat))->Gd->Own->GO->(fQ->Prop)->Prop
 | [],g,own,Q,_=>Q g own
 | (m,a)::t,g,own,Q,E=>rec (x++m) (nF c a) g (fun g1 below=>d9 x m below own (fun bz=>gU rec x c t g1 bz Q E) E) E
noncomputable def ala (rec:Ξ)(x:Str)(c:Rat×Rat)(g:Gd)(own:Own)(Q:GO)(E:Λ):Rw->Prop
 | .pin p=>lX x c p g own Q E
 | .bar n a b=>nj x n a b g own Q E
 | .lay pc pre a st=>gU (rec pc) x c (marks pre a st) g own Q E
noncomputable def gF (rec:Ξ)(x:Str)(c:Rat×Rat):List Rw->Gd->Own->GO->(fQ->Prop)->Prop
 | [],g,own,Q,_=>Q g own
 | r::t,g,own,Q,E=>if 500<=g.done then E .many else ala rec x c {g with done:=g.done+1} own (fun g1 bz=>gF rec x c t g1 bz Q E) E r
def rowsOf (ps:ν)(pc:Str):List Rw:=((ps.find? (fun z=>decide (z.1=pc))).map (·.2)).getD []
noncomputable def jx (ps:ν):Nat->List Rw->Str->Rat×Rat->Gd->GO->(fQ->Prop)->Prop
 | 0,rows,x,c,g,Q,E=>gF (fun _ _ _ _ _ E=>E .many) x c rows g [] Q E
 | n+1,rows,x,c,g,Q,E=>gF (fun pc x c g Q E=>jx ps n (rowsOf ps pc) x c g Q E) x c rows g [] Q E
inductive Sg where
 | ik (n:Str)|fin|row (r:Rw)
def d_:Sg->List RV
 | .ik n=>[.w "piece",.w n]
 | .fin=>[.w "end"]
 | .row r=>gu r
def BJ:Rw->Prop
 | .pin p=>bD p.nm/\Good (qr p.sp.1)/\Good (qr p.sp.2)/\(p.ws=[]\/p.ws=[(1,0),(0,1)]\/∃w,p.ws=[w]/\Good (qr w.1)/\Good (qr w.2))
 | .bar x a b=>bD x/\bD a/\bD b
 | .lay pc pre a st=>bD pc/\bD pre/\Good (qr a.1)/\Good (qr a.2)/\∀k s,st=some (k,s)->1<=k/\k<=60/\Good (qr s.1)/\Good (qr s.2)
def N':Sg->Prop
 | .ik n=>bD n
 | .fin=>True
 | .row r=>BJ r
theorem aaB {ws vs:υ}(h1:ws=[]\/ws=[(1,0),(0,1)]\/∃w,ws=[w])(h2:vs=[]\/vs=[(1,0),(0,1)]\/∃w,vs=[w])(e:oq ws=oq vs):ws=vs:=by
 rcases h1 with rfl|rfl|⟨w,rfl⟩<;>rcases h2 with rfl|rfl|⟨v,rfl⟩<;>first|rfl|(simp [oq] at e)|skip
 all_goals first|(obtain ⟨e1,e2⟩:=e;exact abV (fun z=>[z]) (agV e1 e2))|skip
structure Sh where
 outside:List Rw
 pieces:List (Str×List Rw)
 cur:Option Str
open Classical in
noncomputable def cI (sh:Sh):Sg->Bool
 | .ik n=>decide (sh.cur=none) && !decide (n∈sh.pieces.map (·.1))
 | .fin=> !decide (sh.cur=none)
 | .row (.lay pc _ _ _)=>decide (pc∈sh.pieces.map (·.1)) && !decide (sh.cur=some pc)
 | .row (.pin p)=> !decide (p.ws=[(0,0)])
 | .row (.bar _ _ _)=>true
def cO (ps:ν)(n:Str)(r:Rw):List (Str×List Rw):=ps.map fun p=>if p.1=n then (p.1,p.2++[r]) else p
def iB (sh:Sh):Sg->Sh
 | .ik n=>{sh with cur:=some n,pieces:=sh.pieces++[(n,[])]}
 | .fin=>{sh with cur:=none}
 | .row r=>match sh.cur with
  | none=>{sh with outside:=sh.outside++[r]}
  | some n=>{sh with pieces:=cO sh.pieces n r}
theorem WA :(cO ps n r).map (·.1)=ps.map (·.1):=by
 unfold cO;rw [ae5];refine aj0 fun p _=>?_;show (if p.1=n then (p.1,p.2++[r]) else p).1=p.1;split<;>rfl
def qU (ps:ν)(n:Nat)(rows:Α):Prop:=∀pc pre a st,Rw.lay pc pre a st∈rows->pc∈(ps.take n).map (·.1)
structure RQ (sh:Sh):Prop where
 nd:(sh.pieces.map (·.1)).Nodup
 ok:∀r∈sh.outside,BJ r
 Yu:∀p∈sh.pieces,∀r∈p.2,BJ r
 hold:∀p:hJ,(Rw.pin p∈sh.outside\/∃q∈sh.pieces,Rw.pin p∈q.2)->p.ws≠[(0,0)]
 out:qU sh.pieces sh.pieces.length sh.outside
 lay:∀i p,sh.pieces[i]?=some p->qU sh.pieces i p.2
 cur:∀n,sh.cur=some n->(sh.pieces.map (·.1)).getLast?=some n
theorem yO {ps qs:ν}(h:qs.map (·.1)=ps.map (·.1))(i:Nat):(qs.take i).map (·.1)=(ps.take i).map (·.1):=by
 rw [ahz,ahz,h]
noncomputable def d5 (R:Str->Option Sg):List Str->Nat->Sh->(Sh->Prop)->(Nat->Prop)->Prop
 | [],k,sh,Q,E=>if sh.cur=none then Q sh else E k
 | x::t,k,sh,Q,E=>match R x with
  | none=>E k
  | some sg=>if cI sh sg=true then d5 R t (k+1) (iB sh sg) Q E else E k
theorem uY (h:qU ps i rows)(l:i<=j):qU ps j rows:=fun pc pre a st m=>by
 have:=h pc pre a st m;rw [ahz] at this ⊢;exact aeP (by rw [List.take_take,am8 l];exact this)
theorem OA (h:qU ps i rows):qU (ps++qs) i rows:=fun pc pre a st m=>by
 have:=h pc pre a st m;rw [List.take_append,ac1];exact agU _ this
theorem yP {α:Type}{l:List α}{x:α}(h:l.getLast?=some x):l[l.length-1]?=some x:=by
 rw [<-List.getLast?_eq_getElem?];exact h
theorem RQ.last (h:RQ sh)(e:sh.cur=some n):0<sh.pieces.length/\∀i p,sh.pieces[i]?=some p->(p.1=n ↔ i=sh.pieces.length-1):=by
 have l:=yP (h.cur n e);rw [ir] at l
 have p0:0<sh.pieces.length:=by
  cases z:sh.pieces with
  | nil=>rw [z] at l;cases l
  | cons a t=>simp
 refine ⟨p0,fun i p ei=>⟨fun en=>?_,fun Yv =>?_⟩⟩
 ·have e1:(sh.pieces.map (·.1))[i]?=some n:=by rw [aaU,ei,<-en];rfl
  have li:=(Wp.mp ei).1;exact (alG (by rw [ir];exact li) h.nd).mp (e1.trans l.symm)
 ·rw [Yv,] at ei
  rw [aaU,ei] at l;exact aaQ l
theorem afl {sg:Sg}(h:RQ sh)(st:cI sh sg=true)(ok:N' sg):RQ (iB sh sg):=by
 cases sg with
 | ik n=>
  simp only [cI,ac8,decide_eq_true_eq,aeM,decide_eq_false_iff_not] at st;obtain ⟨c,nn⟩:=st;refine ⟨?_,h.ok,?_,?_,?_,?_,?_⟩
  ·show ((sh.pieces++[(n,([]:List Rw))]).map anf).Nodup
   rw [ac1,ag_];exact ⟨h.nd,by simp,fun a ha b hb z=>nn (by rw [show b=n by simpa using hb] at z;rw [<-z];exact ha)⟩
  ·intro p hp r hr
   rcases abh.mp hp with hp|hp
   ·exact h.Yu p hp r hr
   ·rw [aaT.mp hp] at hr
    cases hr
  ·intro p hp
   refine h.hold p ?_
   rcases hp with hp|⟨q,hq,hp⟩
   ·exact .inl hp
   ·rcases abh.mp hq with hq|hq
    ·exact .inr ⟨q,hq,hp⟩
    ·rw [aaT.mp hq] at hp
     cases hp
  ·show qU (sh.pieces++[(n,[])]) (sh.pieces++[(n,[])]).length sh.outside
   exact uY (OA h.out) (by rw [aae];omega)
  ·intro i p ei
   have Yv :(sh.pieces++[(n,[])])[i]?=some p:=ei;show qU (sh.pieces++[(n,[])]) i p.2;by_cases l:i<sh.pieces.length
   ·rw [ad_ l] at Yv
    exact OA (h.lay i p Yv)
   ·rw [ac' (by omega)] at Yv
    have:=aaP Yv;rw [aaT] at this;rw [this];intro pc pre a st m;cases m
  ·intro m em
   have em':some n=some m:=em;show ((sh.pieces++[(n,([]:List Rw))]).map anf).getLast?=some m;rw [ac1,<-em'];simp
 | fin=>exact ⟨h.nd,h.ok,h.Yu,h.hold,h.out,h.lay,fun n e=>nomatch (show (none:Option Str)=some n from e)⟩
 | row r=>
  have hr:BJ r:=ok
  have hh:∀p,r=.pin p->p.ws≠[(0,0)]:=fun p e=>by
   rw [e] at st;simpa [cI] using st
  have hl:∀pc pre a s,r=.lay pc pre a s->pc∈sh.pieces.map (·.1)/\sh.cur≠some pc:=fun pc pre a s e=>by
   rw [e] at st;simp only [cI,ac8,decide_eq_true_eq,aeM,decide_eq_false_iff_not] at st;exact st
  cases c:sh.cur with
  | none=>
   have ek:iB sh (.row r)={sh with outside:=sh.outside++[r]}:=by simp only [iB,c]
   rw [ek];refine ⟨h.nd,?_,h.Yu,?_,?_,h.lay,fun n e=>h.cur n e⟩
   ·intro r' m
    rcases abh.mp m with m|m
    ·exact h.ok r' m
    ·rw [aaT.mp m]
     exact hr
   ·intro p m
    rcases m with m|m
    ·rcases abh.mp m with m|m
     ·exact h.hold p (.inl m)
     ·exact hh p (aaT.mp m).symm
    ·exact h.hold p (.inr m)
   ·intro pc pre a s m
    rcases abh.mp m with m|m
    ·exact h.out pc pre a s m
    ·rw [afL]
     exact (hl pc pre a s (aaT.mp m).symm).1
  | some n=>
   obtain ⟨p0,last⟩:=h.last c;have ek:iB sh (.row r)={sh with pieces:=cO sh.pieces n r}:=by simp only [iB,c]
   rw [ek];have nm:=WA (ps:=sh.pieces) (n:=n) (r:=r);have len:(cO sh.pieces n r).length=sh.pieces.length:=by unfold cO;rw [ir]
   have alb:∀{i rows},qU sh.pieces i rows->qU (cO sh.pieces n r) i rows:=fun {i rows} z pc pre a s m=>by
    rw [yO nm];exact z pc pre a s m
   have inv:∀q∈cO sh.pieces n r,∃p∈sh.pieces,q.1=p.1/\∀r' ∈q.2,r' ∈p.2\/(r'=r):=fun q hq=>by
    obtain ⟨p,hp,rfl⟩:=ac3.mp hq;refine ⟨p,hp,?_⟩;by_cases e:p.1=n
    ·rw [abv e]
     refine ⟨rfl,fun r' m=>?_⟩
     rcases abh.mp m with m|m
     ·exact .inl m
     ·exact .inr (aaT.mp m)
    ·rw [abp e]
     exact ⟨rfl,fun r' m=>.inl m⟩
   refine ⟨?_,h.ok,?_,?_,?_,?_,?_⟩
   ·show ((cO sh.pieces n r).map (·.1)).Nodup
    rw [nm];exact h.nd
   ·intro q hq r' m
    obtain ⟨p,hp,_,z⟩:=inv q hq
    rcases z r' m with z|z
    ·exact h.Yu p hp r' z
    ·rw [z]
     exact hr
   ·intro p m
    rcases m with m|⟨q,hq,m⟩
    ·exact h.hold p (.inl m)
    ·obtain ⟨p',hp,_,z⟩:=inv q hq
     rcases z _ m with z|z
     ·exact h.hold p (.inr ⟨p',hp,z⟩)
     ·exact hh p z.symm
   ·show qU (cO sh.pieces n r) (cO sh.pieces n r).length sh.outside
    rw [len];exact alb h.out
   ·intro i q ei
    have Yv :(sh.pieces.map fun p=>if p.1=n then (p.1,p.2++[r]) else p)[i]?=some q:=ei;rw [aaU] at Yv;obtain ⟨p,ep,rfl⟩:=ab_.mp Yv;show qU (cO sh.pieces n r) i _;by_cases e:p.1=n
    ·rw [abv e]
     have il:=(last i p ep).mp e;intro pc pre a s m
     rcases abh.mp m with m|m
     ·exact alb (h.lay i p ep) pc pre a s m
     ·obtain ⟨m1,m2⟩:=hl pc pre a s (aaT.mp m).symm
      rw [yO nm,ahz,il];obtain ⟨j,ej⟩:=ade m1;have jl:=(Wp.mp ej).1;rw [ir] at jl
      have jn:j≠sh.pieces.length-1:=fun z=>by
       have:=yP (h.cur n c);rw [ir,<-z,ej] at this;exact m2 (by rw [c,<-aaQ this])
      exact aaP (i:=j) (by rw [aht (by omega)];exact ej)
    ·rw [abp e]
     exact alb (h.lay i p ep)
   ·intro m em
    show ((cO sh.pieces n r).map (·.1)).getLast?=some m;rw [nm];exact h.cur m em
theorem alc:RQ ⟨[],[],none⟩:=⟨alf,(fun _ h=>nomatch h),(fun _ h=>nomatch h),(fun _ h=>by rcases h with h|⟨_,h,_⟩<;>cases h),(fun _ _ _ _ h=>nomatch h),(fun _ _ h=>by simp at h),(fun _ h=>nomatch h)⟩
abbrev OB (lo dp:abj)(cv:V):List (Str×V):=[("outside",.ref lo),("pieces",.ref dp),("current",cv)]
structure ShC (K:Frag)(C:abj):Prop where
 cls:xQ K C
 ou:dQ K C "outside"
 pi:dQ K C "pieces"
 cu:dQ K C "current"
inductive yQ (K:Frag)(C:abj)(vs:ε)(H:Hp)(Q:VK)(E_:XK):Prop
|mk (a dx:abj)(_:vs=[.ref a])(_:H a=some (.ins C dx []))(_:∀(lo dp:abj)(H':Hp),fq a H H' ->H lo=none->H dp=none->H' a=some (.ins C dx (OB lo dp .bG))->H' lo=some (.lst [])->H' dp=some (.dK [])->Q .bG H')
theorem afm :dH "outside" x []=([("outside",x)]:List (Str×V)):=rfl
theorem afn :dH "pieces" y [("outside",x)]=([("outside",x),("pieces",y)]:List (Str×V)):=by
 simp only [dH];rw [abp (by decide)]
theorem afo :dH "current" z [("outside",x),("pieces",y)]=([("outside",x),("pieces",y),("current",z)]:List (Str×V)):=by
 simp only [dH];rw [abp (by decide),abp (by decide)]
theorem BK:aC zam zam (aa f7):=sq
theorem BL (F:mf K "__init__" "Sheet.__init__" f7 f fd)(fc:ShC K C):bT P w K mg base (aT P w) 1 f fd zam (yQ K C):=by
 refine dR F BK fun H hr h=>?_;obtain ⟨a,dx,rfl,ha,q⟩:=h
 refine ⟨_,(ag (gM (pv 0) (bY h_) rfl) (ag (gM (pv 0) lJ rfl) (ae (gM (pv 0) bS rfl)))),?_⟩
 refine ⟨z0L,?_⟩;intro lo nl;have al:a≠lo:=aj ha nl;refine ⟨_,rfl,a,C,dx,_,rfl,(by rw [ah al];exact ha),fc.cls,fc.ou,(by show 0<1000;decide),?_⟩;rw [afm];generalize e1:upd (upd H lo (.lst [])) a (.ins C dx [("outside",.ref lo)])=H1;have o1:H1 a=some (.ins C dx [("outside",.ref lo)]):=by rw [<-e1,ai]
 have p1:H1 lo=some (.lst []):=by rw [<-e1,ah (ac2 al),ai]
 have k1:∀b o,b≠a->H b=some o->H1 b=some o:=fun b o n e=>by rw [<-e1,ah n,ah (aj e nl)];exact e
 intro dp np;have ap:a≠dp:=aj o1 np;refine ⟨_,rfl,a,C,dx,_,rfl,(by rw [ah ap];exact o1),fc.cls,fc.pi,(by show 1<1000;decide),?_⟩;rw [afn];generalize e2:upd (upd H1 dp (.dK [])) a (.ins C dx [("outside",.ref lo),("pieces",.ref dp)])=H2;have o2:H2 a=some (.ins C dx [("outside",.ref lo),("pieces",.ref dp)]):=by rw [<-e2,ai]
 have w2:H2 dp=some (.dK []):=by rw [<-e2,ah (ac2 ap),ai]
 have k2:∀b o,b≠a->H1 b=some o->H2 b=some o:=fun b o n e=>by rw [<-e2,ah n,ah (aj e np)];exact e
 refine ⟨_,rfl,a,C,dx,_,rfl,o2,fc.cls,fc.cu,(by show 2<1000;decide),?_⟩;rw [afo]
 have f1:∀b,b≠a->H1 b=none->H b=none:=fun b n e=>by
  cases z:H b with
  | none=>rfl
  | some o=>rw [k1 b o n z] at e;cases e
 exact q lo dp _ (fun b o n e=>by rw [ah n];exact k2 b o n (k1 b o n e)) nl (f1 _ (ac2 ap) np) ai (by rw [ah (ac2 al)];exact k2 _ _ (ac2 al) p1) (by rw [ah (ac2 ap)];exact w2)
theorem ap1 {lo dp:abj}:ac6 ("outside":Str) (OB lo dp cv)=some (.ref lo):=rfl
theorem aaC {lo dp:abj}:ac6 ("pieces":Str) (OB lo dp cv)=some (.ref dp):=by
 have h:(("pieces":Str)=="outside")=false:=by decide+kernel
 simp [ac6,h]
theorem OC {lo dp:abj}:ac6 ("current":Str) (OB lo dp cv)=some cv:=by
 have h:(("current":Str)=="outside")=false:=by decide+kernel
 have h2:(("current":Str)=="pieces")=false:=by decide+kernel
 simp [ac6,h,h2]
theorem U6 {lo dp:abj}:dH "current" v (OB lo dp cv)=OB lo dp v:=by
 simp only [dH,OB];rw [abp (by decide),abp (by decide),abv (by decide)]
def RS:Option Str->V
 | none=>.bG
 | some n=>.str n
inductive RowC (K:Frag)(H:Hp)(cs:ξ)(u:V)(r:Rw):Prop
|mk (l:abj)(us:ε)(_:u=.ref l)(_:l∉cs)(_:H l=some (.lst us))(_:Paired (mU K H) us (gu r))
def cU (ps:ν)(ls:ξ):List (Key×V):=akm (fun (p:Str×List Rw) l=>((.inr p.1:Key),V.ref l)) ps ls
theorem pF:∀{ps:ν} {ls:ξ},ls.length=ps.length->(cU ps ls).map (·.1)=(ps.map (·.1)).map (fun b=>(afG b:Key))
 | [],[],_=>rfl
 | _::ps,_::ls,h=>by
  show _::(cU ps ls).map (·.1)=_::_;rw [pF (aqt h)]
structure ShR (K:Frag)(H:Hp)(C sa sd lo dp:abj)(ls:ξ)(sh:Sh):Prop where
 obj:H sa=some (.ins C sd (OB lo dp (RS sh.cur)))
 nd:(lo::ls).Nodup
 out:∃xs,H lo=some (.lst xs)/\Paired (RowC K H (lo::ls)) xs sh.outside
 fE:H dp=some (.dK (cU sh.pieces ls))
 len:ls.length=sh.pieces.length
 bj:∀(i:Nat)(l:abj)(p:Str×List Rw),ls[i]?=some l->sh.pieces[i]?=some p->∃ys,H l=some (.lst ys)/\Paired (RowC K H (lo::ls)) ys p.2
theorem RowC.same (h:RowC K H cs u r)(s:au H H'):RowC K H' cs u r:=by
 obtain ⟨l,us,e,n,hl,p⟩:=h;exact ⟨l,us,e,n,s _ _ hl,Paired.bJ p fun _ _ z=>z.aQ (.of s)⟩
theorem ShR.same {C sa sd lo dp:abj}(h:ShR K H C sa sd lo dp ls sh)(s:au H H'):ShR K H' C sa sd lo dp ls sh:=by
 obtain ⟨xs,e1,e2⟩:=h.out;refine ⟨s _ _ h.obj,h.nd,⟨xs,s _ _ e1,Paired.bJ e2 fun _ _ z=>z.same s⟩,s _ _ h.fE,h.len,fun i l p a b=>?_⟩;obtain ⟨ys,e3,e4⟩:=h.bj i l p a b;exact ⟨ys,s _ _ e3,Paired.bJ e4 fun _ _ z=>z.same s⟩
theorem ShR.has {C sa sd lo dp:abj}(h:ShR K H C sa sd lo dp ls sh)(x:Str):(fb (cU sh.pieces ls) (.inr x)).isSome=decide (x∈sh.pieces.map (·.1)):=by
 by_cases c:x∈sh.pieces.map (·.1)
 ·obtain ⟨v,e⟩:=lO (kvs:=cU sh.pieces ls) (k:=.inr x) (by rw [pF h.len];exact fu.mpr c)
  rw [e,abu c];rfl
 ·rw [dX (by rw [pF h.len];exact fun z=>c (fu.mp z)),aby c]
  rfl
def iz:RV->Da
 | .w s=>.v (.str s)
 | .q r=>.t [.v (.int (qr r).1),.v (.int (qr r).2)]
 | .n k=>.v (.int k)
theorem ap2 (h:mU K H v a):Is K H (iz a) v:=by
 cases a with
 | w s=>
  unfold iz Is;exact ⟨h,rfl⟩
 | q r=>exact HL h
 | n k=>
  unfold iz Is;exact ⟨h,rfl⟩
theorem aaD :∀{us:ε} {rs:List RV},Paired (mU K H) us rs->km K H (rs.map iz) us
 | [],[],.nil=>by
  unfold km;trivial
 | _::_,_::_,.cons h t=>by
  show km K H (_::_) _;unfold km;exact ⟨ap2 h,aaD t⟩
theorem uZ (hl:aZ K H l us)(h:Paired (mU K H) us rs):Is K H (.l (rs.map iz)) (.ref l):=by
 unfold Is;exact ⟨l,us,rfl,hl,aaD h⟩
theorem ald (a:RV):dep (iz a)<=1:=by
 cases a<;>simp [iz,dep,kY]
theorem xt:∀rs:List RV,kY (rs.map iz)<=60
 | []=>aer _
 | a::rs=>by
  show max (dep (iz a)) (kY (rs.map iz))<=60;have h1:=ald a;have h2:=xt rs;omega
theorem mM :∀(n:Nat) {l:List α} {m:List β},Paired R l m->Paired R (l.drop n) (m.drop n)
 | 0,_,_,h=>h
 | _+1,_,_,.nil=>.nil
 | n+1,_,_,.cons _ t=>mM n t
theorem ale (xs:ε):r8 xs (some 4) none=xs.drop 4:=by
 unfold r8
 have h:HT.qH xs.length 0 (some 4)=min 4 xs.length:=by
  simp only [HT.qH];split<;>omega
 have h2:HT.qH xs.length xs.length none=xs.length:=rfl;rw [h,h2];by_cases c:4<=xs.length
 ·rw [am8 c,ae1]
  rw [afh];omega
 ·rw [aoL (by omega),am5 (aaM _),am5 (by omega)]
  exact List.take_nil
theorem axU {r:ε}:ng (x::r) 0=some x:=ar (j:=0) rfl
def IF:List RV:=[.w "roller",.q 0,.q 0]
theorem ap3 (x y:Str):kX (iz (.w x)) (iz (.w y))=decide (x=y):=by
 show kX (.v (.str x)) (.v (.str y))=_;unfold kX;by_cases h:x=y<;>simp [AR,h]
theorem ap4 (x y:Rat):kX (iz (.q x)) (iz (.q y))=decide (x=y):=by
 have e:kX (iz (.q x)) (iz (.q y))=(AR (.int (qr x).1) (.int (qr y).1) && (AR (.int (qr x).2) (.int (qr y).2) && true)):=rfl;rw [e];by_cases h:x=y
 ·subst h
  simp [AR]
 ·rw [aby h]
  by_cases h1:(qr x).1=(qr y).1
  ·have h2:(qr x).2≠(qr y).2:=fun z=>h (yB (agV h1 z))
   simp [AR,h2]
  ·simp [AR,h1]
theorem U7 (c:Option Str):decide (RS c=V.bG)=decide (c=none):=by
 cases c<;>simp [RS]
theorem RT (ws:υ):gN ((oq ws).map iz) (IF.map iz)=true:=by
 match ws with
 | []=>rfl
 | [w]=>rfl
 | _::_::_=>rfl
theorem afp (ws:υ):gZ ((oq ws).map iz) (IF.map iz)=decide (ws=[(0,0)]):=by
 match ws with
 | []=>rfl
 | [w]=>
  show (kX (iz (.w "roller")) (iz (.w "roller")) && (kX (iz (.q w.1)) (iz (.q 0)) && (kX (iz (.q w.2)) (iz (.q 0)) && true)))=_;rw [ap3,ap4,ap4];by_cases h1:w.1=0
  ·by_cases h2:w.2=0
   ·have e:w=(0,0):=agV h1 h2
    simp [e]
   ·have e:w≠(0,0):=fun z=>h2 (by rw [z])
    simp [h2,e]
  ·have e:w≠(0,0):=fun z=>h1 (by rw [z])
   simp [h1,e]
 | _::_::_=>
  show (kX (iz (.w "fixed")) (iz (.w "roller")) && _)=_;rw [ap3,aby (by decide+kernel)];simp
def FK:Sg->Str
 | .ik _=> "piece"
 | .fin=> "end"
 | .row (.pin _)=> "pin"
 | .row (.bar _ _ _)=> "bar"
 | .row (.lay _ _ _ _)=> "lay"
theorem IG {us:ε}{sg:Sg}(p:Paired (mU K H) us (d_ sg)):ng us 0=some (.str (FK sg)):=by
 have key:∀{x:Str} {t:List RV},Paired (mU K H) us (.w x::t)->ng us 0=some (.str x):=fun {x t} p=>by
  cases p with
  | cons h _=>
   rw [show _=V.str x from h];exact axU
 cases sg with
 | ik n=>exact key p
 | fin=>exact key p
 | row r=>
  cases r with
  | pin p'=>exact key p
  | bar a b c=>exact key p
  | lay a b c st=>
   cases st with
   | none=>exact key p
   | some z=>exact key p
theorem pG {us:ε}(p:Paired (mU K H) us (.w x::.w y::t)):ng us 1=some (.str y):=by
 cases p with
 | cons h p=>
  cases p with
  | cons h2 _=>
   rw [show _=V.str y from h2];exact ar (j:=1) rfl
theorem yR {us:ε}{st:τ}(p:Paired (mU K H) us (d_ (.row (.lay pc pre a st)))):ng us 1=some (.str pc):=by
 cases st with
 | none=>exact pG p
 | some z=>exact pG p
inductive xu (K:Frag)(C:abj)(vs:ε)(H:Hp)(Q:VK)(E_:XK):Prop
|mk (sa sd lo dp l:abj)(ls:ξ)(sh:Sh)(us:ε)(sg:Sg)(_:vs=[.ref sa,.ref l])(_:ShR K H C sa sd lo dp ls sh)(_:H l=some (.lst us))(_:Paired (mU K H) us (d_ sg))(_:∀H',au H H' ->Q (.bl (cI sh sg)) H')
theorem qV:aC zaD zaD (aa cL):=sq
theorem qW (F:mf K "may_stand" "Sheet.may_stand" cL f fd)(fc:ShC K C)(afq:mg "NOUGHT"=some (.ref aN))(hN:∀H,uz K H (.ref aN) (0,1)):bT P w K mg base (aT P w) 1 f fd zaD (xu K C):=by
 refine dR F qV fun H hr h=>?_;obtain ⟨sa,sd,lo,dp,l,ls,sh,us,sg,rfl,R,hl,pu,q⟩:=h;have ix:=IG pu
 refine ⟨_,(ag (aS (aL cn (cT (pv 1)) aw) (ae (aH (xI (jC iC (bo (pv 0) rfl) bS (qF _)) (uF (Y4 (jK (bB hr) (cT (pv 1)) (bo (pv 0) rfl))))))) aG) (ag (aS (aL cn (cT (pv 1)) aw) (ae (aH (jC oZ (bo (pv 0) rfl) bS (qF _)))) aG) (ag (aS (aL cn (cT (pv 1)) aw) (ae (aH (xI (Y4 (uK (bB hr) (cT (pv 1)) (bo (pv 0) rfl))) (uF (jC nL (cT (pv 1)) (bo (pv 0) rfl) (qF _)))))) aG) (ae (aH (jC (ku hr.units) (jb mx (pv 1) (iW ak) o_) (bY (gO aw (fh (v:=.ref aN) rfl afq rfl) (fh (v:=.ref aN) rfl afq rfl))) (qF _))))))),?_⟩
 refine ⟨_,rfl,l,_,_,_,rfl,rfl,aZ.of hl,ix,rfl,_,rfl,?_⟩;cases sg with
 | ik n=>
  refine aK (fun _=>?_) (fun c=>abo (abu rfl) c);refine ⟨_,rfl,sa,C,sd,_,_,rfl,R.obj,fc.cls,fc.cu,OC,rfl,?_⟩;have e:cI sh (.ik n)=(decide (sh.cur=none) && !decide (n∈sh.pieces.map (·.1))):=by simp only [cI]
  have q':=q H (au.refl H);rw [e] at q';rw [U7];by_cases c:sh.cur=none
  ·rw [abu c] at q' ⊢
   refine ⟨_,rfl,fY ?_⟩;refine ⟨_,rfl,l,_,_,_,rfl,rfl,aZ.of hl,pG pu,_,rfl,sa,C,sd,_,_,rfl,R.obj,fc.cls,fc.pi,aaC,dp,_,rfl,dC.k (k:=.inr n) R.fE,?_⟩;rw [R.has n];exact q'
  ·rw [aby c] at q' ⊢
   exact ⟨_,rfl,dz q'⟩
 | fin=>
  refine aK (fun c=>abo (abn c) (ne_str (by decide+kernel))) (fun _=>?_);refine ⟨_,rfl,l,_,_,_,rfl,rfl,aZ.of hl,ix,rfl,_,rfl,aK (fun _=>?_) (fun c=>abo (abu rfl) c)⟩;have e:cI sh .fin= !decide (sh.cur=none):=by simp only [cI]
  have q':=q H (au.refl H);rw [e] at q';refine ⟨_,rfl,sa,C,sd,_,_,rfl,R.obj,fc.cls,fc.cu,OC,rfl,?_⟩;rw [U7];exact q'
 | row r=>
  have n1:FK (.row r)≠ "piece":=by
   cases r with
   | pin _=>exact (by decide+kernel:("pin":Str)≠ "piece")
   | bar _ _ _=>exact (by decide+kernel:("bar":Str)≠ "piece")
   | lay _ _ _ _=>exact (by decide+kernel:("lay":Str)≠ "piece")
  have n2:FK (.row r)≠ "end":=by
   cases r with
   | pin _=>exact (by decide+kernel:("pin":Str)≠ "end")
   | bar _ _ _=>exact (by decide+kernel:("bar":Str)≠ "end")
   | lay _ _ _ _=>exact (by decide+kernel:("lay":Str)≠ "end")
  refine aK (fun c=>abo (abn c) (ne_str n1)) (fun _=>?_);refine ⟨_,rfl,l,_,_,_,rfl,rfl,aZ.of hl,ix,rfl,_,rfl,aK (fun c=>abo (abn c) (ne_str n2)) (fun _=>?_)⟩;refine ⟨_,rfl,l,_,_,_,rfl,rfl,aZ.of hl,ix,rfl,_,rfl,?_⟩;cases r with
  | lay pc pre a st=>
   refine aK (fun _=>?_) (fun c=>abo (abu rfl) c);have e:cI sh (.row (.lay pc pre a st))=(decide (pc∈sh.pieces.map (·.1)) && !decide (sh.cur=some pc)):=by simp only [cI]
   have q':=q H (au.refl H);rw [e] at q';refine ⟨_,rfl,l,_,_,_,rfl,rfl,aZ.of hl,yR pu,_,rfl,sa,C,sd,_,_,rfl,R.obj,fc.cls,fc.pi,aaC,dp,_,rfl,dC.k (k:=.inr pc) R.fE,?_⟩;rw [R.has pc];by_cases c:pc∈sh.pieces.map (·.1)
   ·rw [abu c] at q' ⊢
    refine ⟨_,rfl,fY ?_⟩;refine ⟨_,rfl,l,_,_,_,rfl,rfl,aZ.of hl,yR pu,_,rfl,sa,C,sd,_,_,rfl,R.obj,fc.cls,fc.cu,OC,(by cases sh.cur<;>rfl),?_⟩
    have e2:(!decide (V.str pc=RS sh.cur))= !decide (sh.cur=some pc):=by
     cases z:sh.cur with
     | none=>simp [RS]
     | some n=>
      by_cases en:pc=n
      ·simp [RS,en]
      ·have en':¬ n=pc:=fun z=>en z.symm
       simp [RS,en,en']
    rw [e2];exact q'
   ·rw [aby c] at q' ⊢
    exact ⟨_,rfl,dz q'⟩
  | pin p=>
   refine aK (fun c=>abo (abn c) (ne_str (by decide+kernel:("pin":Str)≠ "lay"))) (fun _=>?_);refine ⟨_,rfl,4,rfl,l,_,rfl,aZ.of hl,?_⟩;rw [ale];intro l1 m1;generalize eX:upd _ l1 _=H1;have ⟨s1,e1⟩:=nw m1 eX;refine ⟨z3L,?_⟩;intro l2 m2;generalize eX:upd _ l2 _=H2;have ⟨s2,e2⟩:=nw m2 eX;have Yt:=aJ s1 s2;have p1:Paired (mU K H2) (us.drop 4) (oq p.ws):=mM 4 (m:=uX p) (Paired.bJ pu fun _ _ z=>z.aQ (.of Yt));have p2:Paired (mU K H2) [V.str "roller",.ref aN,.ref aN] IF:=.cons rfl (.cons (by show uz K H2 _ (qr 0);rw [eZ];exact hN H2) (.cons (by show uz K H2 _ (qr 0);rw [eZ];exact hN H2) .nil));refine ⟨_,_,.inr ⟨uZ (aZ.of (s2 _ _ e1)) p1,uZ (aZ.of e2) p2⟩,RT _,xt _,?_⟩;have e:cI sh (.row (.pin p))= !decide (p.ws=[(0,0)]):=by simp only [cI]
   have q':=q H2 Yt;rw [e] at q';rw [afp];exact q'
  | bar x a b=>
   refine aK (fun c=>abo (abn c) (ne_str (by decide+kernel:("bar":Str)≠ "lay"))) (fun _=>?_);refine ⟨_,rfl,4,rfl,l,_,rfl,aZ.of hl,?_⟩;rw [ale];intro l1 m1;generalize eX:upd _ l1 _=H1;have ⟨s1,e1⟩:=nw m1 eX;refine ⟨z3L,?_⟩;intro l2 m2;generalize eX:upd _ l2 _=H2;have ⟨s2,e2⟩:=nw m2 eX;have Yt:=aJ s1 s2;have p1:Paired (mU K H2) (us.drop 4) []:=mM 4 (m:=d_ (.row (.bar x a b))) (Paired.bJ pu fun _ _ z=>z.aQ (.of Yt));have p2:Paired (mU K H2) [V.str "roller",.ref aN,.ref aN] IF:=.cons rfl (.cons (by show uz K H2 _ (qr 0);rw [eZ];exact hN H2) (.cons (by show uz K H2 _ (qr 0);rw [eZ];exact hN H2) .nil));exact ⟨_,_,.inr ⟨uZ (aZ.of (s2 _ _ e1)) p1,uZ (aZ.of e2) p2⟩,rfl,xt _,q H2 Yt⟩
theorem FL (e:H b=some o)(n1:∀xs,o≠.tup xs)(n2:∀p xs,o≠.iT p (.tup xs)):bf H (upd H b o'):=fun c xs r=>by
 rcases r with r|⟨p,r⟩
 ·exact .inl (by rw [ah (fun z=>by rw [z,e] at r;exact n1 _ (aaQ r))];exact r)
 ·exact .inr ⟨p,by rw [ah (fun z=>by rw [z,e] at r;exact n2 _ _ (aaQ r))];exact r⟩
theorem u0 (e:H b=some (.ins C d fs)):bf H (upd H b o'):=FL e (fun _ z=>nomatch z) (fun _ _ z=>nomatch z)
theorem RowC.mono (h:RowC K H cs u r)(k:∀b xs,b∉cs->H b=some (.lst xs)->H' b=some (.lst xs))(t:bf H H')(n:∀b,b∈cs' ->b∈cs\/H b=none):RowC K H' cs' u r:=by
 obtain ⟨l,us,e,nl,hl,p⟩:=h;refine ⟨l,us,e,fun z=>?_,k l us nl hl,Paired.bJ p fun _ _ z=>z.aQ t⟩
 rcases n l z with z|z
 ·exact nl z
 ·rw [hl] at z
  cases z
theorem IH:∀{ps:ν} {ls:ξ} {i:Nat} {l:abj} {p:Str×List Rw},(ps.map (·.1)).Nodup->ls[i]?=some l->ps[i]?=some p->fb (cU ps ls) (.inr p.1)=some (.ref l)
 | q::ps,m::ls,0,l,p,_,h1,h2=>by
  cases aaQ h1;cases aaQ h2;exact jQ rfl
 | q::ps,m::ls,i+1,l,p,nd,h1,h2=>by
  rw [ada,afK] at nd
  have ne:(afG q.1:Key)≠.inr p.1:=fun z=>nd.1 (by
   rw [ahR z]
   exact ac3.mpr ⟨p,aaP h2,rfl⟩)
  show fb ((.inr q.1,.ref m)::cU ps ls) (.inr p.1)=some (.ref l);rw [jd ne];exact IH nd.2 h1 h2
theorem FN :∀{ps:ν} {ls:ξ},ls.length=ps.length->cU (ps++[(n,[])]) (ls++[l])=cU ps ls++[(.inr n,.ref l)]
 | [],[],_=>rfl
 | _::ps,_::ls,h=>by
  show _::cU (ps++[(n,[])]) (ls++[l])=_::(cU ps ls++_);rw [FN (aqt h)]
theorem OD :∀{ps:ν} {ls:ξ},cU (cO ps n r) ls=cU ps ls
 | [],_=>rfl
 | _::_,[]=>rfl
 | p::ps,l::ls=>by
  show ((.inr (if p.1=n then (p.1,p.2++[r]) else p).1,.ref l):Key×V)::cU (cO ps n r) ls=(.inr p.1,.ref l)::cU ps ls;rw [OD];split<;>rfl
inductive II (K:Frag)(C:abj)(vs:ε)(H:Hp)(Q:VK)(E_:XK):Prop
|mk (sa sd lo dp l:abj)(ls:ξ)(sh:Sh)(us:ε)(sg:Sg)(_:vs=[.ref sa,.ref l])(_:ShR K H C sa sd lo dp ls sh)(_:RQ sh)(_:H l=some (.lst us))(_:l∉lo::ls)(_:Paired (mU K H) us (d_ sg))(_:cI sh sg=true)(_:sh.outside.length<=1000)(_:sh.pieces.length<=1000)(_:(∀p∈sh.pieces,p.2.length<=1000))(_:∀(H':Hp)(ls':ξ),(∀b o,b≠sa->b≠dp->b∉lo::ls->H b=some o->H' b=some o)->(∀b∈ls',b∈ls\/H b=none)->ShR K H' C sa sd lo dp ls' (iB sh sg)->Q .bG H')
theorem BM:aC zaD zaD (aa f9):=sq
theorem BN (F:mf K "keep" "Sheet.keep" f9 f fd)(fc:ShC K C):bT P w K mg base (aT P w) 1 f fd zaD (II K C):=by
 refine dR F BM fun H hr h=>?_;obtain ⟨sa,sd,lo,dp,l,ls,sh,us,sg,rfl,R,so,hl,nl,pu,st,lo1,lp1,lr1,q⟩:=h;have ix:=IG pu;obtain ⟨xs,hlo,pxs⟩:=R.out;have alo:sa≠lo:=fun z=>by have h:=R.obj;rw [z,hlo] at h;cases h
 have adp:sa≠dp:=fun z=>by have h:=R.obj;rw [z,R.fE] at h;cases h
 have dlo:dp≠lo:=fun z=>by have h:=R.fE;rw [z,hlo] at h;cases h
 have als:∀c∈lo::ls,∃ys,H c=some (.lst ys):=fun c hc=>by
  rcases aa3.mp hc with rfl|hc
  ·exact ⟨xs,hlo⟩
  ·obtain ⟨i,ei⟩:=ade hc
   have il:=(Wp.mp ei).1;have il':i<sh.pieces.length:=by have:=R.len;omega
   obtain ⟨ys,e,_⟩:=R.bj i c sh.pieces[i] ei (gE il');exact ⟨ys,e⟩
 refine ⟨_,(ae (aS (aL cn (cT (pv 1)) aw) (ag (gM (pv 0) (cT (pv 1)) rfl) (ae (cW (bB hr) (bo (pv 0) rfl) (bo (pv 0) rfl) (bY h_) rfl))) (ae (aS (aL cn (cT (pv 1)) aw) (ae (gM (pv 0) bS rfl)) (ae (aS (aL iC (bo (pv 0) rfl) bS) (ae (bg (gA abQ abO abP dc (bo (pv 0) rfl) (aE (pv 1))))) (ae (bg (gA abQ abO abP dc (bL (bB hr) (bo (pv 0) rfl) (bo (pv 0) rfl) (fun _ _=>rfl)) (aE (pv 1))))))))))),?_⟩
 refine ⟨_,rfl,l,_,_,_,rfl,rfl,aZ.of hl,ix,rfl,_,rfl,?_⟩;cases sg with
 | ik n=>
  refine aK (fun _=>?_) (fun c=>abo (abu rfl) c)
  have nn:n∉sh.pieces.map (·.1):=by
   simp only [cI,ac8,decide_eq_true_eq,aeM,decide_eq_false_iff_not] at st;exact st.2
  refine ⟨_,rfl,l,_,_,_,rfl,rfl,aZ.of hl,pG pu,_,rfl,sa,C,sd,_,rfl,R.obj,fc.cls,fc.cu,(by show 3<1000;decide),?_⟩;rw [U6];generalize e1:upd H sa (.ins C sd (OB lo dp (.str n)))=H1;have o1:H1 sa=some (.ins C sd (OB lo dp (.str n))):=by rw [<-e1,ai]
  have k1:∀b o,b≠sa->H b=some o->H1 b=some o:=fun b o n e=>by rw [<-e1,ah n];exact e
  have t1:bf H H1:=by rw [<-e1];exact u0 R.obj
  refine ⟨z0L,fun lN nN=>?_⟩;have s2:=a_ nN (.lst []);have nNa:lN≠sa:=fun z=>by rw [z,o1] at nN;cases nN
  have nN0:H lN=none:=by
   cases z:H lN with
   | none=>rfl
   | some o=>rw [k1 _ _ nNa z] at nN;cases nN
  have d1:(upd H1 lN (.lst [])) dp=some (.dK (cU sh.pieces ls)):=s2 _ _ (k1 _ _ (ac2 adp) R.fE);refine ⟨_,rfl,sa,C,sd,_,_,rfl,s2 _ _ o1,fc.cls,fc.pi,aaC,_,rfl,sa,C,sd,_,_,rfl,s2 _ _ o1,fc.cls,fc.cu,OC,dp,_,rfl,je.k (k:=.inr n) d1 (aaW (show (cU sh.pieces ls).length<=1000 by unfold cU;rw [anj];omega) (by decide)),?_⟩;rw [ig _ (dX (by rw [pF R.len];exact fun z=>nn (fu.mp z)))];have t3:bf H (upd (upd H1 lN (.lst [])) dp (.dK (cU sh.pieces ls++[(.inr n,.ref lN)]))):=(t1.trans (.of s2)).trans (.dict d1);have k3:∀b o,b≠sa->b≠dp->H b=some o->(upd (upd H1 lN (.lst [])) dp (.dK (cU sh.pieces ls++[(.inr n,.ref lN)]))) b=some o:=fun b o n1 n2 e=>by rw [ah n2];exact s2 _ _ (k1 b o n1 e)
  have dN:dp≠lN:=fun z=>by rw [<-z,R.fE] at nN0;cases nN0
  have hN3:(upd (upd H1 lN (.lst [])) dp (.dK (cU sh.pieces ls++[(.inr n,.ref lN)]))) lN=some (.lst []):=by rw [ah (ac2 dN),ai]
  have hd3:(upd (upd H1 lN (.lst [])) dp (.dK (cU sh.pieces ls++[(.inr n,.ref lN)]))) dp=some (.dK (cU sh.pieces ls++[(.inr n,.ref lN)])):=ai;have ha3:(upd (upd H1 lN (.lst [])) dp (.dK (cU sh.pieces ls++[(.inr n,.ref lN)]))) sa=some (.ins C sd (OB lo dp (.str n))):=by rw [ah adp];exact s2 _ _ o1
  generalize upd (upd H1 lN (.lst [])) dp (.dK (cU sh.pieces ls++[(.inr n,.ref lN)]))=H3 at t3 k3 hN3 hd3 ha3 ⊢;have kl:∀b ys,H b=some (.lst ys)->H3 b=some (.lst ys):=fun b ys e=>k3 b _ (fun z=>by rw [z,R.obj] at e;cases e) (fun z=>by rw [z,R.fE] at e;cases e) e
  have rc:∀{u r},RowC K H (lo::ls) u r->RowC K H3 (lo::(ls++[lN])) u r:=fun {u r} z=>z.mono (fun b ys _ e=>kl b ys e) t3 (fun b hb=>by
   rw [<-amX,abh,aaT] at hb
   rcases hb with hb|rfl
   ·exact .inl hb
   ·exact .inr nN0)
  refine q H3 (ls++[lN]) (fun b o n1 n2 _ e=>k3 b o n1 n2 e) (fun b hb=>?_) ⟨ha3,?_,⟨xs,kl _ _ hlo,Paired.bJ pxs fun _ _ z=>rc z⟩,?_,?_,?_⟩
  ·rcases abh.mp hb with hb|hb
   ·exact .inl hb
   ·rw [aaT.mp hb]
    exact .inr nN0
  ·rw [<-amX,ag_]
   refine ⟨R.nd,by simp,fun a ha b hb z=>?_⟩;obtain ⟨ys,e⟩:=als a ha;rw [z,aaT.mp hb,nN0] at e;cases e
  ·show H3 dp=some (.dK (cU (sh.pieces++[(n,[])]) (ls++[lN])))
   rw [FN R.len];exact hd3
  ·show (ls++[lN]).length=(sh.pieces++[(n,[])]).length
   rw [aae,aae,R.len];rfl
  ·intro i c p ec ep
   have MD :(sh.pieces++[(n,[])])[i]?=some p:=ep;by_cases il:i<ls.length
   ·rw [ad_ il] at ec
    rw [ad_ (by have:=R.len;omega)] at MD;obtain ⟨ys,z1,z2⟩:=R.bj i c p ec MD;exact ⟨ys,kl _ _ z1,Paired.bJ z2 fun _ _ z=>rc z⟩
   ·rw [ac' (by omega)] at ec
    rw [ac' (by have:=R.len;omega)] at MD;rw [aaT.mp (aaP ec),aaT.mp (aaP MD)];exact ⟨[],hN3,.nil⟩
 | fin=>
  refine aK (fun c=>abo (abn c) (ne_str (by decide+kernel))) (fun _=>?_);refine ⟨_,rfl,l,_,_,_,rfl,rfl,aZ.of hl,ix,rfl,_,rfl,aK (fun _=>?_) (fun c=>abo (abu rfl) c)⟩;refine ⟨_,rfl,sa,C,sd,_,rfl,R.obj,fc.cls,fc.cu,(by show 3<1000;decide),?_⟩;rw [U6];have t1:bf H (upd H sa (.ins C sd (OB lo dp .bG))):=u0 R.obj;have k1:∀b o,b≠sa->H b=some o->(upd H sa (.ins C sd (OB lo dp .bG))) b=some o:=fun b o n e=>by rw [ah n];exact e
  have kl:∀b ys,H b=some (.lst ys)->(upd H sa (.ins C sd (OB lo dp .bG))) b=some (.lst ys):=fun b ys e=>k1 b _ (fun z=>by rw [z,R.obj] at e;cases e) e;have rc:∀{u r},RowC K H (lo::ls) u r->RowC K (upd H sa (.ins C sd (OB lo dp .bG))) (lo::ls) u r:=fun {u r} z=>z.mono (fun b ys _ e=>kl b ys e) t1 (fun b hb=>.inl hb);refine q _ ls (fun b o n1 n2 _ e=>k1 b o n1 e) (fun b hb=>.inl hb) ⟨ai,R.nd,⟨xs,kl _ _ hlo,Paired.bJ pxs fun _ _ z=>rc z⟩,k1 _ _ (ac2 adp) R.fE,R.len,fun i c p ec ep=>?_⟩;obtain ⟨ys,z1,z2⟩:=R.bj i c p ec ep;exact ⟨ys,kl _ _ z1,Paired.bJ z2 fun _ _ z=>rc z⟩
 | row r=>
  have n1:FK (.row r)≠ "piece":=by
   cases r with
   | pin _=>exact (by decide+kernel:("pin":Str)≠ "piece")
   | bar _ _ _=>exact (by decide+kernel:("bar":Str)≠ "piece")
   | lay _ _ _ _=>exact (by decide+kernel:("lay":Str)≠ "piece")
  have n2:FK (.row r)≠ "end":=by
   cases r with
   | pin _=>exact (by decide+kernel:("pin":Str)≠ "end")
   | bar _ _ _=>exact (by decide+kernel:("bar":Str)≠ "end")
   | lay _ _ _ _=>exact (by decide+kernel:("lay":Str)≠ "end")
  refine aK (fun c=>abo (abn c) (ne_str n1)) (fun _=>?_);refine ⟨_,rfl,l,_,_,_,rfl,rfl,aZ.of hl,ix,rfl,_,rfl,aK (fun c=>abo (abn c) (ne_str n2)) (fun _=>?_)⟩
  have row:∀{c:abj} {ys:ε},c∈lo::ls->H c=some (.lst ys)->RowC K (upd H c (.lst (ys++[.ref l]))) (lo::ls) (.ref l) r/\∀{u r'},RowC K H (lo::ls) u r' ->RowC K (upd H c (.lst (ys++[.ref l]))) (lo::ls) u r':=fun {c ys} hc e=>by
   have t:bf H (upd H c (.lst (ys++[.ref l]))):=.list e;have z:∀{u r'},RowC K H (lo::ls) u r' ->RowC K (upd H c (.lst (ys++[.ref l]))) (lo::ls) u r':=fun {u r'} z=>z.mono (fun b zs nb e=>by rw [ah (fun z=>nb (by rw [z];exact hc))];exact e) t (fun b hb=>.inl hb);exact ⟨z ⟨l,us,rfl,nl,hl,pu⟩,z⟩
  cases c:sh.cur with
  | none=>
   have obj:H sa=some (.ins C sd (OB lo dp .bG)):=by have h:=R.obj;rw [c] at h;exact h
   refine ⟨_,rfl,sa,C,sd,_,_,rfl,obj,fc.cls,fc.cu,OC,rfl,_,rfl,aK (fun _=>?_) (fun c=>abo (by decide) c)⟩;refine ⟨_,rfl,sa,C,sd,_,_,rfl,obj,fc.cls,fc.ou,ap1,.inl ⟨rfl,_,aZ.of hlo⟩,_,rfl,lo,_,_,rfl,rfl,hlo,aaW (show xs.length<=1000 by rw [abK pxs];exact lo1) (by decide),?_⟩;obtain ⟨r1,r2⟩:=row (c:=lo) aa_ hlo;have ek:iB sh (.row r)={sh with outside:=sh.outside++[r]}:=by simp only [iB,c]
   rw [ek] at q;refine q _ ls (fun b o n1 n2 n3 e=>by rw [ah (fun z=>n3 (by rw [z];exact aa_))];exact e) (fun b hb=>.inl hb) ⟨by rw [ah alo];exact R.obj,R.nd,⟨_,ai,acA (Paired.bJ pxs fun _ _ z=>r2 z) r1⟩,by rw [ah dlo];exact R.fE,R.len,fun i c' p ec ep=>?_⟩;obtain ⟨ys,z1,z2⟩:=R.bj i c' p ec ep;refine ⟨ys,?_,Paired.bJ z2 fun _ _ z=>r2 z⟩;have nd:=R.nd;rw [afK] at nd;rw [ah (fun z=>nd.1 (by rw [<-z];exact aaP ec))];exact z1
  | some n=>
   have obj:H sa=some (.ins C sd (OB lo dp (.str n))):=by have h:=R.obj;rw [c] at h;exact h
   obtain ⟨p0,last⟩:=so.last c;have ll:sh.pieces.length-1<sh.pieces.length:=by omega
   have ll':sh.pieces.length-1<ls.length:=by have:=R.len;omega
   have ep:sh.pieces[sh.pieces.length-1]?=some sh.pieces[sh.pieces.length-1]:=gE ll;have el:ls[sh.pieces.length-1]?=some ls[sh.pieces.length-1]:=gE ll';have en:sh.pieces[sh.pieces.length-1].1=n:=(last _ _ ep).mpr rfl;generalize sh.pieces[sh.pieces.length-1]=pL at ep en;generalize ls[sh.pieces.length-1]=lL at el;obtain ⟨ys,hy,pys⟩:=R.bj _ lL pL el ep;have mL:lL∈lo::ls:=aa2 _ (aaP el);have dv:fb (cU sh.pieces ls) (.inr n)=some (.ref lL):=by rw [<-en];exact IH so.nd el ep
   refine ⟨_,rfl,sa,C,sd,_,_,rfl,obj,fc.cls,fc.cu,OC,rfl,_,rfl,aK (fun c=>abo (abn c) (fun z=>nomatch z)) (fun _=>?_)⟩;refine ⟨_,rfl,sa,C,sd,_,_,rfl,obj,fc.cls,fc.pi,aaC,_,rfl,sa,C,sd,_,_,rfl,obj,fc.cls,fc.cu,OC,dp,.ref lL,rfl,(by rw [<-dv];exact dC.k (k:=.inr n) R.fE),.inl ⟨rfl,_,aZ.of hy⟩,_,rfl,lL,_,_,rfl,rfl,hy,aaW (show ys.length<=1000 by rw [abK pys];exact lr1 _ (aaP ep)) (by decide),?_⟩;obtain ⟨r1,r2⟩:=row (c:=lL) mL hy;have ek:iB sh (.row r)={sh with pieces:=cO sh.pieces n r}:=by simp only [iB,c]
   rw [ek] at q;have nd:=R.nd;rw [afK] at nd;have lol:lo≠lL:=fun z=>nd.1 (by rw [z];exact aaP el);refine q _ ls (fun b o n1 n2 n3 e=>by rw [ah (fun z=>n3 (by rw [z];exact mL))];exact e) (fun b hb=>.inl hb) ⟨by rw [ah (fun z=>by have h:=R.obj;rw [z,hy] at h;cases h)];exact R.obj,R.nd,⟨xs,by rw [ah lol];exact hlo,Paired.bJ pxs fun _ _ z=>r2 z⟩,?_,by show ls.length=(cO sh.pieces n r).length;unfold cO;rw [ir];exact R.len,fun i c' p' ec MD =>?_⟩
   ·show upd H lL _ dp=some (.dK (cU (cO sh.pieces n r) ls))
    rw [OD,ah (fun z=>by have h:=R.fE;rw [z,hy] at h;cases h)];exact R.fE
   ·have ep2:(sh.pieces.map fun p=>if p.1=n then (p.1,p.2++[r]) else p)[i]?=some p':=MD
    rw [aaU] at ep2;obtain ⟨p,ep3,rfl⟩:=ab_.mp ep2;by_cases e:p.1=n
    ·have il:=(last i p ep3).mp e
     rw [il] at ec ep3;rw [el] at ec;rw [ep] at ep3;cases ec;cases ep3;rw [abv e];exact ⟨_,ai,acA (Paired.bJ pys fun _ _ z=>r2 z) r1⟩
    ·rw [abp e]
     obtain ⟨zs,z1,z2⟩:=R.bj i c' p ec ep3;refine ⟨zs,?_,Paired.bJ z2 fun _ _ z=>r2 z⟩
     have ne:c'≠lL:=fun z=>by
      rw [z,<-el] at ec;have ii:=(alG (by have:=(Wp.mp ep3).1;have:=R.len;omega) nd.2).mp ec;exact e ((last i p ep3).mpr ii)
     rw [ah ne];exact z1
abbrev RU (fr:abj)(vp:V)(n:Int):List (Str×V):=[("frame",.ref fr),("pieces",vp),("done",.int n)]
structure GrC (K:Frag)(C:abj):Prop where
 cls:xQ K C
 fr:dQ K C "frame"
 pi:dQ K C "pieces"
 dn:dQ K C "done"
theorem afr :ac6 ("frame":Str) (RU fr vp n)=some (.ref fr):=rfl
theorem ap7 :ac6 ("done":Str) (RU fr vp n)=some (.int n):=by
 have h:(("done":Str)=="frame")=false:=by decide+kernel
 have h2:(("done":Str)=="pieces")=false:=by decide+kernel
 simp [ac6,h,h2]
theorem afs :dH "frame" x []=([("frame",x)]:List (Str×V)):=rfl
theorem aft :dH "pieces" y [("frame",x)]=([("frame",x),("pieces",y)]:List (Str×V)):=by
 simp only [dH];rw [abp (by decide)]
theorem afu :dH "done" z [("frame",x),("pieces",y)]=([("frame",x),("pieces",y),("done",z)]:List (Str×V)):=by
 simp only [dH];rw [abp (by decide),abp (by decide)]
theorem afv :dH "done" (.int m) (RU fr vp n)=RU fr vp m:=by
 simp only [dH,RU];rw [abp (by decide),abp (by decide),abv (by decide)]
theorem xw (R:jr K H C a dx pP pW pB ps bs kP kW kB)(e:H b=some (.ins C' d' fs))(n:a≠b):jr K (upd H b (.ins C' d' Uo)) C a dx pP pW pB ps bs kP kW kB:=by
 have s:bf H (upd H b (.ins C' d' Uo)):=fun c xs r=>by
  rcases r with r|⟨o,r⟩
  ·exact .inl (by rw [ah (fun z=>by rw [z,e] at r;cases r)];exact r)
  ·exact .inr ⟨o,by rw [ah (fun z=>by rw [z,e] at r;cases r)];exact r⟩
 exact ⟨by rw [ah n];exact R.obj,by rw [ah (fun z=>by have h:=R.pl;rw [z,e] at h;cases h)];exact R.pl,by rw [ah (fun z=>by have h:=R.wy;rw [z,e] at h;cases h)];exact R.wy,by rw [ah (fun z=>by have h:=R.br;rw [z,e] at h;cases h)];exact R.br,R.ne1,R.ne2,R.ne3,Paired.bJ R.rp fun _ _ h=>⟨h.1,h.2.aQ s⟩,Paired.bJ R.rb fun _ _ h=>⟨h.1,by obtain ⟨p,e,k⟩:=h.2;exact ⟨p,e,s _ _ k⟩⟩⟩
inductive IJ (K:Frag)(C CF:abj)(vs:ε)(H:Hp)(Q:VK)(E_:XK):Prop
|mk (a dx:abj)(vp:V)(_:vs=[.ref a,vp])(_:H a=some (.ins C dx []))(_:∀(fr BO pP pW pB:abj)(H':Hp),fq a H H' ->H fr=none->H pP=none->H pW=none->H pB=none->jr K H' CF fr BO pP pW pB [] [] [] [] []->H' a=some (.ins C dx (RU fr vp 0))->Q .bG H')
theorem yS:aC zaV zaV (aa eV):=sq
theorem yT (F:mf K "__init__" "Ground.__init__" eV f fd)(gc:GrC K C)(ali:Mk K CF fI)(alj:mg "Frame"=some (.ref CF))(axW:bT P w K mg base (aT P w) 1 fI fdI zam (HR K CF))(alk:Binds K fdI zam []):bT P w K mg base (aT P w) 3 f fd zaV (IJ K C CF):=by
 refine dR F yS fun H hr h=>?_;obtain ⟨a,dx,vp,rfl,ha,q⟩:=h
 refine ⟨_,(ag (gM (pv 0) (xU ali axW hr.mo rfl alj alk .nil q_X) rfl) (ag (gM (pv 0) (pv 1) rfl) (ae (gM (pv 0) ak rfl)))),?_⟩
 intro fr BO nf ndf nfd;have sF:au H (upd (upd H BO (.own fr)) fr (.ins CF BO [])):=fun b o e=>by rw [ah (aj e nf),ah (aj e ndf)];exact e
 refine ⟨fr,BO,rfl,ai,fun pP pW pB H1 k1 nP nW nB R1=>⟨rfl,?_⟩⟩;have s1:au H H1:=fun b o e=>k1 b o (aj e nf) (sF _ _ e);have nP:=aO sF nP;have nW:=aO sF nW;have nB:=aO sF nB;have o1:=s1 _ _ ha;have af:fr≠a:=fun z=>by rw [z,ha] at nf;cases nf
 refine ⟨_,rfl,a,C,dx,_,rfl,o1,gc.cls,gc.fr,(by show 0<1000;decide),?_⟩;rw [afs];refine ⟨_,rfl,_,rfl,a,C,dx,_,rfl,ai,gc.cls,gc.pi,(by show 1<1000;decide),?_⟩;rw [aft];refine ⟨_,rfl,a,C,dx,_,rfl,ai,gc.cls,gc.dn,(by show 2<1000;decide),?_⟩;rw [afu];exact q fr BO pP pW pB _ (fun b o n e=>by rw [ah n,ah n,ah n];exact s1 _ _ e) nf nP nW nB (xw (xw (xw R1 o1 af) ai af) ai af) ai
inductive ti (K:Frag)(C CT:abj)(vs:ε)(H:Hp)(Q:VK)(E:XK):Prop
|mk (a dx fr:abj)(vp:V)(n:Int)(_:vs=[.ref a])(_:H a=some (.ins C dx (RU fr vp n)))(_:(500<=n->E (.ref CT) none H))(_:(n<500->Q .bG (upd H a (.ins C dx (RU fr vp (n+1))))))
theorem pK:aC zam zam (aa cD):=sq
theorem pM (F:mf K "count_row" "Ground.count_row" cD f fd)(gc:GrC K C)(oy:mg "MOST_ROWS"=some (.int 500 tkR))(wA:mg "TooMany"=some (.ref CT))(HX:aco K CT Yr "ValueError.__new__"=true):bT P w K mg base (aT P w) 3 f fd zam (ti K C CT):=by
 refine mF F pK (fun vs H Q E h=>?_) (fun cdv A outer s H vs Q E hr h=>?_)
 ·obtain ⟨a,dx,fr,vp,n,rfl,_⟩:=h
  rfl
 obtain ⟨a,dx,fr,vp,n,rfl,ha,qe,q⟩:=h;have L1:1<=abl:=by decide
 refine ⟨_,(ag (aS (aL ED (bo (pv 0) rfl) (fh (v:=.int 500) rfl oy ⟨_,rfl⟩)) (ae (dm abE wA HX hr.hd (aE aw))) aG) (ae (VI (pv 0) ak aka))),?_⟩
 refine ⟨_,rfl,a,C,dx,_,_,rfl,ha,gc.cls,gc.dn,ap7,_,_,rfl,rfl,_,rfl,?_⟩;refine aK (fun c=>?_) (fun c=>?_)
 ·exact ⟨L1,qe (abn c)⟩
 have c':n<500:=by
  have:=of_decide_eq_false (ac4.mpr c);omega
 refine ⟨_,rfl,a,C,dx,_,_,rfl,ha,gc.cls,gc.dn,ap7,_,_,rfl,rfl,dx,_,ha,(by show 3<1000;decide),?_⟩;rw [afv];exact q c'
abbrev lyF (x:Str)(v:V)(o:abj):List (Str×V):=[("prefix",.str x),("spot",v),("own",.ref o)]
structure LyC (K:Frag)(C:abj):Prop where
 cls:xQ K C
 pf:dQ K C "prefix"
 st:dQ K C "spot"
 ow:dQ K C "own"
theorem axX :ac6 ("prefix":Str) (lyF x v o)=some (.str x):=rfl
theorem ap8 :ac6 ("spot":Str) (lyF x v o)=some v:=by
 have h:(("spot":Str)=="prefix")=false:=by decide+kernel
 simp [ac6,h]
theorem aaE :ac6 ("own":Str) (lyF x v o)=some (.ref o):=by
 have h:(("own":Str)=="prefix")=false:=by decide+kernel
 have h2:(("own":Str)=="spot")=false:=by decide+kernel
 simp [ac6,h,h2]
theorem afx :dH "prefix" x []=([("prefix",x)]:List (Str×V)):=rfl
theorem afy :dH "spot" y [("prefix",x)]=([("prefix",x),("spot",y)]:List (Str×V)):=by
 simp only [dH];rw [abp (by decide)]
theorem afz :dH "own" z [("prefix",x),("spot",y)]=([("prefix",x),("spot",y),("own",z)]:List (Str×V)):=by
 simp only [dH];rw [abp (by decide),abp (by decide)]
inductive yU (K:Frag)(C:abj)(vs:ε)(H:Hp)(Q:VK)(E_:XK):Prop
|mk (a dx:abj)(x:Str)(v:V)(_:vs=[.ref a,.str x,v])(_:H a=some (.ins C dx []))(_:∀(o:abj)(H':Hp),fq a H H' ->H o=none->H' a=some (.ins C dx (lyF x v o))->H' o=some (.dK [])->Q .bG H')
theorem yV:aC zaL zaL (aa eY):=sq
theorem yW (F:mf K "__init__" "Laying.__init__" eY f fd)(lc:LyC K C):bT P w K mg base (aT P w) 1 f fd zaL (yU K C):=by
 refine dR F yV fun H hr h=>?_;obtain ⟨a,dx,x,v,rfl,ha,q⟩:=h
 refine ⟨_,(ag (gM (pv 0) (pv 1) rfl) (ag (gM (pv 0) (pv 2) rfl) (ae (gM (pv 0) lJ rfl)))),?_⟩
 refine ⟨_,rfl,_,rfl,a,C,dx,_,rfl,ha,lc.cls,lc.pf,(by show 0<1000;decide),?_⟩;rw [afx];refine ⟨_,rfl,_,rfl,a,C,dx,_,rfl,ai,lc.cls,lc.st,(by show 1<1000;decide),?_⟩;rw [afy];intro o no;rw [show upd (upd H a (.ins C dx [("prefix",.str x)])) a (.ins C dx [("prefix",.str x),("spot",v)])=upd H a (.ins C dx [("prefix",.str x),("spot",v)]) from by funext b;unfold upd;split<;>rfl] at no ⊢;have ao:a≠o:=aj ai no;have no':H o=none:=by rw [ah (ac2 ao)] at no;exact no
 refine ⟨_,rfl,a,C,dx,_,rfl,(by rw [ah ao];exact ai),lc.cls,lc.ow,(by show 2<1000;decide),?_⟩;rw [afz];exact q o _ (fun b o' n e=>by rw [ah n,ah (aj e no'),ah n];exact e) no' ai (by rw [ah (ac2 ao),ai])
inductive qX (K:Frag)(C:abj)(vs:ε)(H:Hp)(Q:VK)(E_:XK):Prop
|mk (a dx o:abj)(x y:Str)(v:V)(_:vs=[.ref a,.str y])(_:H a=some (.ins C dx (lyF x v o)))(_:x.length<=1000)(_:y.length<=1000)(_:Q (.str (x++y)) H)
theorem pN:aC zal zal (aa cE):=sq
theorem pO (F:mf K "full_name" "Laying.full_name" cE f fd)(lc:LyC K C):bT P w K mg base (aT P w) 1 f fd zal (qX K C):=by
 refine dR F pN fun H hr h=>?_;obtain ⟨a,dx,o,x,y,v,rfl,ha,lx,ly,q⟩:=h;exact ⟨_,(ae (aH (aD bx (bo (pv 0) rfl) (pv 1)))),_,rfl,a,C,dx,_,_,rfl,ha,lc.cls,lc.pf,axX,_,rfl,x,y,rfl,rfl,aah (apV lx ly) (by decide),q⟩
theorem yX (own:Own):(bq own).map (·.1)=(own.map (·.1)).map (fun b=>(afG b:Key)):=by
 unfold bq;rw [ae5,ae5];rfl
theorem pH (own:Own)(y:Str):(fb (bq own) (.inr y)).isSome=decide (y∈own.map (·.1)):=by
 by_cases c:y∈own.map (·.1)
 ·obtain ⟨v,e⟩:=lO (kvs:=bq own) (k:=.inr y) (by rw [yX];exact fu.mpr c)
  rw [e,abu c];rfl
 ·rw [dX (by rw [yX];exact fun z=>c (fu.mp z)),aby c]
  rfl
theorem IK:∀(own:Own)(y:Str),fb (bq own) (.inr y)=(ownAt own y).map V.str
 | [],_=>rfl
 | z::t,y=>by
  show fb ((.inr z.1,.str z.2)::bq t) (.inr y)=_;by_cases c:z.1=y
  ·rw [jQ (by rw [c])]
   unfold ownAt;rw [agZ (by simpa using c)];rfl
  ·rw [jd (fun e=>c (ahR e)),IK t y]
   unfold ownAt;rw [ag1 (by simpa using c)]
inductive yY (K:Frag)(C CP:abj)(vs:ε)(H:Hp)(Q:VK)(E:XK):Prop
|mk (a dx o:abj)(x y:Str)(v:V)(own:Own)(_:vs=[.ref a,.str y])(_:H a=some (.ins C dx (lyF x v o)))(_:H o=some (.dK (bq own)))(_:x.length<=1000)(_:y.length<=1000)(_:(y∈own.map (·.1)->cj H E CP "pin" (.str (x++y))))(_:(y∉own.map (·.1)->Q .bG H))
theorem pQ:aC zal zal (aa bO):=sq
theorem pR (F:mf K "check_new" "Laying.check_new" bO f fd)(lc:LyC K C)(MF:bH P w K mg base (aT P w) 1 C "full_name" zal (qX K C))(HZ:mg "PinThere"=some (.ref CP))(Wt:qM K CP fP)(akV:bT P w K mg base (aT P w) 1 fP fdP zad (gk CP "pin"))(Wu:Binds K fdP zad []):bT P w K mg base (aT P w) 3 f fd zal (yY K C CP):=by
 refine mF F pQ (fun vs H Q E h=>?_) (fun cdv A outer s H vs Q E hr h=>?_)
 ·obtain ⟨a,dx,o,x,y,v,own,rfl,_⟩:=h
  rfl
 obtain ⟨a,dx,o,x,y,v,own,rfl,ha,ho,lx,ly,qe,q⟩:=h;have px:Passes (aT P w) (hZ P w K mg base zal "Laying.check_new" (aa bO) f cdv A outer s H E) E:=fZ;have pn:=kz (X:=((hZ P w K mg base zal "Laying.check_new" (aa bO) f cdv A outer s H E)).wm) (aT.AX (P:=P) (w:=w));have L1:1<=abl:=by decide
 refine ⟨_,(ae (aS (kU (uK (bB hr) (pv 1) (bo (pv 0) rfl))) (ae (df Wt akV hr.mo Wu HZ (aE (cN (k:=1) (pv 0) hr.mo pn (aE (pv 1)))))) aG)),_,rfl,_,rfl,a,C,dx,_,_,rfl,ha,lc.cls,lc.ow,aaE,o,_,rfl,dC.k (k:=.inr y) ho,_,rfl,?_⟩;rw [pH];by_cases c:y∈own.map (·.1)
 ·rw [abu c]
  refine fY ?_;refine ⟨_,rfl,a,C,dx,_,_,_,rfl,ha,rfl,MF,_,rfl,a,dx,o,x,y,v,rfl,ha,lx,ly,L1,cj.go (qe c)⟩
 ·rw [aby c]
  exact dz (q c)
theorem tj (h:y∉own.map (·.1)):fb (bq own) (.inr y)=none:=dX (by rw [yX];exact fun z=>h (fu.mp z))
theorem oz (own:Own)(y z:Str):bq own++[(.inr y,.str z)]=bq (own++[(y,z)]):=by
 unfold bq;rw [ac1];rfl
inductive jV (K:Frag)(C CP:abj)(vs:ε)(H:Hp)(Q:VK)(E:XK):Prop
|mk (a dx o:abj)(x y z:Str)(v:V)(own:Own)(_:vs=[.ref a,.str y,.str z])(_:H a=some (.ins C dx (lyF x v o)))(_:H o=some (.dK (bq own)))(_:x.length<=1000)(_:y.length<=1000)(_:own.length<=1000)(_:(y∈own.map (·.1)->cj H E CP "pin" (.str (x++y))))(_:(y∉own.map (·.1)->Q .bG (upd H o (.dK (bq (own++[(y,z)]))))))
theorem qY:aC zaJ zaJ (aa cp):=sq
theorem qZ (F:mf K "name_pin" "Laying.name_pin" cp f fd)(lc:LyC K C)(MN:bH P w K mg base (aT P w) 3 C "check_new" zal (yY K C CP)):bT P w K mg base (aT P w) 4 f fd zaJ (jV K C CP):=by
 refine mF F qY (fun vs H Q E h=>?_) (fun cdv A outer s H vs Q E hr h=>?_)
 ·obtain ⟨a,dx,o,x,y,z,v,own,rfl,_⟩:=h
  rfl
 obtain ⟨a,dx,o,x,y,z,v,own,rfl,ha,ho,lx,ly,lk,qe,q⟩:=h;have px:Passes (aT P w) (hZ P w K mg base zaJ "Laying.name_pin" (aa cp) f cdv A outer s H E) E:=fZ
 refine ⟨_,(ag (bg (cN (k:=3) (pv 0) hr.mo px (aE (pv 1)))) (ae (cW (bB hr) (bo (pv 0) rfl) (pv 1) (pv 2) rfl))),?_⟩
 refine ⟨_,rfl,a,C,dx,_,_,_,rfl,ha,(by rfl),MN,_,rfl,a,dx,o,x,y,v,own,rfl,ha,ho,lx,ly,qe,fun n=>?_⟩;refine ⟨_,rfl,_,rfl,a,C,dx,_,_,rfl,ha,lc.cls,lc.ow,aaE,_,rfl,o,_,rfl,je.k (k:=.inr y) ho (aaW (show (bq own).length<=1000 by unfold bq;rw [ir];exact lk) (by decide)),?_⟩;rw [ig _ (tj n),oz];exact q n
theorem u5 (own:Own)(y:Str):(ownAt own y=none ↔ y∉own.map (·.1)):=by
 unfold ownAt;rw [ahN,af_];constructor
 ·intro h z
  obtain ⟨a,ha,e⟩:=ac3.mp z;exact h a ha (by simpa using e)
 ·intro h a ha e
  exact h (ac3.mpr ⟨a,ha,by simpa using e⟩)
inductive IL (K:Frag)(C CN:abj)(vs:ε)(H:Hp)(Q:VK)(E:XK):Prop
|mk (a dx o:abj)(x y:Str)(v:V)(own:Own)(_:vs=[.ref a,.str y])(_:H a=some (.ins C dx (lyF x v o)))(_:H o=some (.dK (bq own)))(_:(ownAt own y=none->cj H E CN "pin" (.str y)))(_:∀u,ownAt own y=some u->Q (.str u) H)
theorem tm:aC zal zal (aa dj):=sq
theorem tu (F:mf K "own_pin" "Laying.own_pin" dj f fd)(lc:LyC K C)(HS:mg "NoPin"=some (.ref CN))(Wo:qM K CN fN)(akM:bT P w K mg base (aT P w) 1 fN fdN zad (gk CN "pin"))(Wq:Binds K fdN zad []):bT P w K mg base (aT P w) 3 f fd zal (IL K C CN):=by
 refine mF F tm (fun vs H Q E h=>?_) (fun cdv A outer s H vs Q E hr h=>?_)
 ·obtain ⟨a,dx,o,x,y,v,own,rfl,_⟩:=h
  rfl
 obtain ⟨a,dx,o,x,y,v,own,rfl,ha,ho,qe,q⟩:=h;have L1:1<=abl:=by decide
 have dg:=IK own y
 refine ⟨_,(ag (aS (kU (jK (bB hr) (pv 1) (bo (pv 0) rfl))) (ae (df Wo akM hr.mo Wq HS (aE (pv 1)))) aG) (ae (aH (bL (bB hr) (bo (pv 0) rfl) (pv 1) (fun _ _=>rfl))))),?_⟩
 refine ⟨_,rfl,_,rfl,a,C,dx,_,_,rfl,ha,lc.cls,lc.ow,aaE,o,_,rfl,dC.k (k:=.inr y) ho,_,rfl,?_⟩;rw [pH];by_cases c:y∈own.map (·.1)
 ·rw [abu c]
  refine dz ?_;cases e:ownAt own y with
  | none=>exact abo c ((u5 own y).mp e)
  | some u=>
   rw [e] at dg;refine ⟨_,rfl,a,C,dx,_,_,rfl,ha,lc.cls,lc.ow,aaE,_,rfl,o,.str u,rfl,?_,q u e⟩;rw [<-show fb (bq own) (.inr y)=some (.str u) from dg];exact dC.k (k:=.inr y) ho
 ·rw [aby c]
  refine fY ?_;exact ⟨_,rfl,L1,cj.go (qe ((u5 own y).mpr c))⟩
inductive IM (K:Frag)(C:abj)(vs:ε)(H:Hp)(Q:VK)(E_:XK):Prop
|mk (a dx pP pW pB:abj)(ps:χ)(bs:ο)(kP kW kB:ι)(v:V)(p:Pt)(_:vs=[.ref a,v])(_:jr K H C a dx pP pW pB ps bs kP kW kB)(_:(ps.map (·.1)).Nodup)(_:Spot K H v p)(_:(ps.find? (fun z=>decide (z.2=p))=none->∀H',au H H' ->Q .bG H'))(_:∀z,ps.find? (fun z=>decide (z.2=p))=some z->∀H',au H H' ->Q (.str z.1) H')
theorem FO:aC ["F","spot","pin"] ["F","spot"] (aa lQ):=sq
theorem WC (D:Def K mg "pin_at" lQ ["F","spot"])(MPn:bH P w K mg base (aT P w) 1 C "pins" zam (yG K C))(MPl:bH P w K mg base (aT P w) 4 C "place" zad (sV K C)):Fn P w K mg base (aT P w) 5 "pin_at" ["F","spot"] (IM K C):=by
 refine D.oo FO fun H hr h=>?_;obtain ⟨a,dx,pP,pW,pB,ps,bs,kP,kW,kB,v,p,rfl,R,nd,hv,qn,q⟩:=h
 refine ⟨_,(ag (dU abW rfl (cJ (sI (k:=1) (pv 0) hr.mo (q_Y P w))) (hU (i:=2) FO.nd) (ae (aS (aL (xj hr.units) (cN (k:=4) (pv 0) hr.mo (q_Y P w) (aE (pv 2))) (pv 1)) (ae (aH (pv 2))) aG))) (ae (aH bS))),?_⟩
 refine ⟨_,rfl,a,C,dx,_,_,_,rfl,R.obj,rfl,MPn,a,dx,pP,pW,pB,ps,bs,kP,kW,kB,rfl,R,fun l H1 s1 nl el=>?_⟩
 refine ⟨l,rfl,⟨_,aZ.of el⟩,eG (K:=K) (a:=l) (xs:=(ps.map (·.1)).map V.str) (fun i σ H'=>∃(o2:ω),σ=[some (.ref a),some v,o2]/\au H H'/\H' l=some (.lst ((ps.map (·.1)).map V.str))/\∀z∈ps.take i,z.2≠p) ⟨none,rfl,s1,el,by simp⟩ (fun i σ H' _ h=>by
   obtain ⟨_,_,_,h,_⟩:=h
   exact aZ.of h) ?_ ?_⟩
 ·rintro i z σ H2 hi ⟨o2,rfl,s2,l2,hs⟩
  rw [aaU,aaU] at hi;obtain ⟨x,hx,rfl⟩:=ab_.mp hi;obtain ⟨y,ey,rfl⟩:=ab_.mp hx;have my:y∈ps:=aaP ey;have R2:=R.same s2;refine ⟨_,rfl,a,C,dx,_,_,_,rfl,R2.obj,rfl,MPl,_,rfl,a,dx,pP,pW,pB,ps,bs,kP,kW,kB,y.1,y.2,rfl,R2,nd,my,fun u hu=>?_⟩;refine ⟨_,rfl,ij y.2,ij p,.inl ⟨hu.is,(hv.aQ (.of s2)).is⟩,n_ _ _,pq _,?_⟩;rw [yy];refine ⟨_,rfl,?_⟩;refine aK (fun c=>?_) (fun c=>?_)
  ·have ep:y.2=p:=abn c
   have ef:ps.find? (fun z=>decide (z.2=p))=some y:=by
    have eps:ps=ps.take i++y::ps.drop (i+1):=by
     have e2:=(Wp.mp ey).2;rw [<-e2,am4,ahP]
    rw [eps,aoa];have n1:(ps.take i).find? (fun z=>decide (z.2=p))=none:=af_.mpr fun w hw=>by simpa using hs w hw
    rw [n1];simp [ep]
   exact ⟨_,rfl,q y ef H2 s2⟩
  ·refine ⟨_,rfl,s2,l2,fun w hw=>?_⟩
   rw [take_snoc ey] at hw
   rcases abh.mp hw with h|h
   ·exact hs w h
   ·rw [aaT.mp h]
    exact fun e=>c (abu e)
 ·rintro σ H2 ⟨o2,rfl,s2,l2,hs⟩
  rw [ir,ir,afL] at hs;exact qn (af_.mpr fun w hw=>by simpa using hs w hw) H2 s2
theorem RW (ds:List Da):gN ds []=true:=by
 cases ds<;>rfl
theorem aaF (v:V):ac6 ("ways":Str) [(("way":Str),v)]=none:=by
 have h:(("ways":Str)=="way")=false:=by decide+kernel
 simp [ac6,h]
inductive q0 (P:abJ)(w:World)(K:Frag)(mg:ζ)(base:Heap)(vs:ε)(H:Hp)(Q:VK)(E_:XK):Prop
|mk (l:abj)(us:ε)(ws:υ)(_:vs=[.ref l])(_:H l=some (.lst us))(_:Paired (mU K H) us (oq ws))(_:ws.length<=2)(_:(∀w,ws=[w]->¬ (w.1=0/\w.2=0)))(_:(ws.length=2->ws=[(1,0),(0,1)]))(_:∀(hv:V)(H':Hp),au H H' ->ahB P w K mg base H' hv ws->Q hv H')
theorem IP:aC za7 za7 (aa g6):=sq
theorem IQ {CR CF fR:abj}(D:Def K mg "hold_from" g6 za7)(bF:mg "len"=none)
  (alm:mg "Roller"=some (.ref CR)) (aln:mg "Fixed"=some (.ref CF)) (alp:Mk0 K CF) (alq:Mk K CR fR) (axY:bT P w K mg base (aT P w) 1 fR fdR zaW (HY K CR)) (alr:Binds K fdR zaW [])
  (wR:bH P w K mg base (aT P w) 4 CR "ways" zam (sX K CR)) (wF:bH P w K mg base (aT P w) 4 CF "ways" zam (sY K)):Fn P w K mg base (aT P w) 4 "hold_from" za7 (q0 P w K mg base):=by
 refine D.oo IP fun H hr h=>?_;obtain ⟨l,us,ws,rfl,hl,pu,lw,n0,n2,q⟩:=h
 refine ⟨_,(ag (aS (aL (xj hr.units) (pv 0) (bY h_)) (ae (aH bS)) aG) (ae (aH (fF (aL cn (a8 bh rfl bF fm (aE (pv 0))) ak) (akv alp rfl aln) (GH alq axY hr.mo rfl alm alr .nil q_X (aU (cT (pv 0)) (cT (pv 0)))))))),?_⟩
 refine ⟨_,rfl,z0L,?_⟩;intro l1 m1;generalize eX:upd _ l1 _=H1;have ⟨s1,e1⟩:=nw m1 eX;have pu1:Paired (mU K H1) us (oq ws):=Paired.bJ pu fun _ _ z=>z.aQ (.of s1);have WD:=s1 _ _ hl;refine ⟨_,[],.inr ⟨uZ (aZ.of WD) pu1,uZ (rs:=[]) (aZ.of e1) .nil⟩,RW _,xt _,_,rfl,?_⟩
 match ws,lw,n0,n2,us,pu1 with
 | [],_,_,_,[],_=>
  refine aK (fun _=>?_) (fun c=>abo rfl c);exact q _ H1 s1 (.inl ⟨rfl,rfl⟩)
 | [w'],_,n0,_,[u1,u2,u3],.cons h1 (.cons h2 (.cons h3 .nil))=>
  refine aK (fun c=>nomatch c) (fun _=>?_);refine ⟨_,rfl,l,_,rfl,.inl (aZ.of WD),rfl,_,rfl,aK (fun c=>by simp at c) (fun _=>?_)⟩;refine ⟨_,rfl,l,_,_,_,rfl,rfl,aZ.of WD,rfl,_,rfl,l,_,_,_,rfl,rfl,aZ.of WD,rfl,?_⟩;intro qI d1 nh1 nd1 ne1;have s4:au H1 (upd (upd H1 d1 (.own qI)) qI (.ins CR d1 [])):=fun b o e=>by rw [ah (aj e nh1),ah (aj e nd1)];exact e
  have e4:(upd (upd H1 d1 (.own qI)) qI (.ins CR d1 [])) qI =some (.ins CR d1 []):=ai;generalize upd (upd H1 d1 (.own qI)) qI (.ins CR d1 [])=H4 at s4 e4 ⊢;have hm1:jR K H4 u2 w'.1:=jR.same h2 s4;have hm2:jR K H4 u3 w'.2:=jR.same h3 s4;refine ⟨qI,d1,u2,u3,w'.1,w'.2,rfl,e4,hm1,hm2,n0 w' rfl,fun p5 n5=>⟨rfl,?_⟩⟩;have hne:p5≠qI :=fun z=>by rw [z,e4] at n5;cases n5
  have s5:au H1 (upd (upd H4 p5 (.tup [u2,u3])) qI (.ins CR d1 [("way",.ref p5)])):=fun b o e=>by
   have z:b≠qI :=fun z=>by rw [z,nh1] at e;cases e
   rw [ah z];exact a_ n5 _ _ _ (s4 _ _ e)
  have e5:(upd (upd H4 p5 (.tup [u2,u3])) qI (.ins CR d1 [("way",.ref p5)])) qI =some (.ins CR d1 [("way",.ref p5)]):=ai;have t5:(upd (upd H4 p5 (.tup [u2,u3])) qI (.ins CR d1 [("way",.ref p5)])) p5=some (.tup [u2,u3]):=by rw [ah hne,ai]
  generalize upd (upd H4 p5 (.tup [u2,u3])) qI (.ins CR d1 [("way",.ref p5)])=H5 at s5 e5 t5 ⊢;have ax0:og K H5 (.ref p5) w':=⟨p5,u2,u3,rfl,dG.of t5,jR.same h2 s5,jR.same h3 s5⟩;exact q _ H5 (aJ s1 s5) (.inr ⟨qI,rfl,CR,d1,_,zam,sX K CR,e5,aaF _,wR,fun H6 e6 t6 Q' _ an=>⟨qI,d1,p5,w',rfl,e6,ax0.aQ t6,an⟩⟩)
 | [w1,w2],_,_,n2,[u1],_=>
  refine aK (fun c=>nomatch c) (fun _=>?_);refine ⟨_,rfl,l,_,rfl,.inl (aZ.of WD),rfl,_,rfl,aK (fun _=>?_) (fun c=>abo rfl c)⟩;intro qI d1 nh1 nd1 ne1;have s4:au H1 (upd (upd H1 d1 (.own qI)) qI (.ins CF d1 [])):=fun b o e=>by rw [ah (aj e nh1),ah (aj e nd1)];exact e
  have e4:(upd (upd H1 d1 (.own qI)) qI (.ins CF d1 [])) qI =some (.ins CF d1 []):=ai;generalize upd (upd H1 d1 (.own qI)) qI (.ins CF d1 [])=H4 at s4 e4 ⊢;have hw:=n2 rfl;exact q _ H4 (aJ s1 s4) (.inr ⟨qI,rfl,CF,d1,[],zam,sY K,e4,rfl,wF,fun H6 _ _ Q' _ an=>⟨qI,rfl,by rw [hw] at an;exact an⟩⟩)
theorem afA (R:jr K H C a dx pP pW pB ps bs kP kW kB)(e:H b=some (.dK kvs))(n1:b≠pP)(n2:b≠pW)(n3:b≠pB):jr K (upd H b o) C a dx pP pW pB ps bs kP kW kB:=by
 have s:bf H (upd H b o):=.dict e;exact ⟨by rw [ah (fun z=>by have h:=R.obj;rw [z,e] at h;cases h)];exact R.obj,by rw [ah (ac2 n1)];exact R.pl,by rw [ah (ac2 n2)];exact R.wy,by rw [ah (ac2 n3)];exact R.br,R.ne1,R.ne2,R.ne3,Paired.bJ R.rp fun _ _ h=>⟨h.1,h.2.aQ s⟩,Paired.bJ R.rb fun _ _ h=>⟨h.1,by obtain ⟨p,e,k⟩:=h.2;exact ⟨p,e,s _ _ k⟩⟩⟩
structure OE where
 ga:abj
 gd:abj
 fr:abj
 BO:abj
 pP:abj
 pW:abj
 pB:abj
abbrev psF (g:Gd):List (Str×Pt):=g.pins.map fun p=>(p.nm,pz p.sp)
abbrev pwF (g:Gd):List (Str×List (Rat×Rat)):=g.pins.map fun p=>(p.nm,p.ws)
structure QJ (K:Frag)(H:Hp)(CG CF:abj)(A:OE)(vp:V)(g:Gd):Prop where
 qf:H A.ga=some (.ins CG A.gd (RU A.fr vp (g.done:Int)))
 fr:∃kP kW kB,jr K H CF A.fr A.BO A.pP A.pW A.pB (psF g) g.b8 kP kW kB/\WyR K H (pwF g) kW
 nd:(g.pins.map (·.nm)).Nodup
 lp:g.pins.length<=24
 lb:g.b8.length<=60
 ld:g.done<=500
def KP (A:OE)(H H':Hp):Prop:=∀b o,b≠A.pP->b≠A.pW->b≠A.pB->b≠A.ga->H b=some o->H' b=some o
def KO (A:OE)(d:abj)(H H':Hp):Prop:=∀b o,b≠A.pP->b≠A.pW->b≠A.pB->b≠A.ga->b≠d->H b=some o->H' b=some o
def NB (H H':Hp):Prop:=∀b,H' b=none->H b=none
theorem NB.of (s:au H H'):NB H H':=fun _ h=>aO s h
theorem KO.of (s:au H H'):KO A d H H':=fun b o _ _ _ _ _ e=>s b o e
theorem KO.trans (a:KO A d H H')(b:KO A d H' H2):KO A d H H2:=fun c o n1 n2 n3 n4 n5 e=>b c o n1 n2 n3 n4 n5 (a c o n1 n2 n3 n4 n5 e)
theorem KP.of (s:au H H'):KP A H H':=fun b o _ _ _ _ e=>s b o e
theorem KP.trans (a:KP A H H')(b:KP A H' H2):KP A H H2:=fun c o n1 n2 n3 n4 e=>b c o n1 n2 n3 n4 (a c o n1 n2 n3 n4 e)
theorem KP.ko (a:KP A H H'):KO A d H H':=fun b o n1 n2 n3 n4 _ e=>a b o n1 n2 n3 n4 e
def u9 (CP CN CB CL CT:abj)(Kp:Hp->Prop)(H:Hp)(E:XK):fQ->Prop
 | .there x=>∀d H',Kp H' ->H d=none->H' d=some (LM d [("pin",.str x)])->E (.ref CP) (some d) H'
 | .yN x=>∀d H',Kp H' ->H d=none->H' d=some (LM d [("pin",.str x)])->E (.ref CN) (some d) H'
 | .ot x=>∀d H',Kp H' ->H d=none->H' d=some (LM d [("bar",.str x)])->E (.ref CB) (some d) H'
 | .length x=>∀d H',Kp H' ->H d=none->H' d=some (LM d [("bar",.str x)])->E (.ref CL) (some d) H'
 | .many=>∀H',Kp H' ->E (.ref CT) none H'
theorem xx {Kp Kp2:Hp->Prop}(k:∀H',Kp2 H' ->Kp H')(n:NB H H2)(h:u9 CP CN CB CL CT Kp H E e):u9 CP CN CB CL CT Kp2 H2 E e:=by
 cases e with
 | there x=>exact fun d H' a b c=>h d H' (k _ a) (n d b) c
 | yN x=>exact fun d H' a b c=>h d H' (k _ a) (n d b) c
 | ot x=>exact fun d H' a b c=>h d H' (k _ a) (n d b) c
 | length x=>exact fun d H' a b c=>h d H' (k _ a) (n d b) c
 | many=>exact fun H' a=>h H' (k _ a)
structure Apart (A:OE)(d:abj):Prop where
 o1:d≠A.pP
 o2:d≠A.pW
 o3:d≠A.pB
structure uA (K:Frag)(H:Hp)(CG CF CL:abj)(A:OE)(la ld o:abj)(vp sv:V)(x:Str)(c:Rat×Rat)(d0 L:Nat)(g:Gd)(own:Own):Prop where
 gr:QJ K H CG CF A vp g
 oB:H la=some (.ins CL ld (lyF x sv o))
 Yw:og K H sv c
 jy:H o=some (.dK (bq own))
 ap:Apart A o
 gl:A.ga≠la
 fit:own.length+d0<=g.done
 len:∀z∈own,z.1.length<=L
section
variable {CG CF CL:abj}{A:OE}{la ld o:abj}{vp sv:V}{x:Str}{c:Rat×Rat}{d0 L:Nat}{g:Gd}{own:Own}{H H':Hp}
theorem QJ.same (h:QJ K H CG CF A vp g)(s:au H H'):QJ K H' CG CF A vp g:=by
 obtain ⟨kP,kW,kB,R,W⟩:=h.fr;exact {h with qf:=s _ _ h.qf,fr:=⟨kP,kW,kB,R.same s,W.same s⟩}
theorem uA.same (h:uA K H CG CF CL A la ld o vp sv x c d0 L g own)(s:au H H'):uA K H' CG CF CL A la ld o vp sv x c d0 L g own:=
 {h with gr:=h.gr.same s,oB:=s _ _ h.oB,Yw:=h.Yw.same s,jy:=s _ _ h.jy}
theorem QJ.off (h:QJ K H CG CF A vp g){b:abj}{o':HO}(e:H b=some o')(hn:∀kvs,o'≠.dK kvs)(hi:∀d fs,o'≠.ins CG d fs):b≠A.pP/\b≠A.pW/\b≠A.pB/\b≠A.ga:=by
 obtain ⟨kP,kW,kB,R,_⟩:=h.fr;exact ⟨fun z=>by rw [z,R.pl] at e;exact hn _ (aaQ e).symm,fun z=>by rw [z,R.wy] at e;exact hn _ (aaQ e).symm,fun z=>by rw [z,R.br] at e;exact hn _ (aaQ e).symm,fun z=>by rw [z,h.qf] at e;exact hi _ _ (aaQ e).symm⟩
theorem QJ.aQ (h:QJ K H CG CF A vp g)(e:H o=some (.dK kvs))(k:KO A o H H'):bf H H':=fun b xs r=>by
 rcases r with r|⟨q,r⟩
 ·obtain ⟨a1,a2,a3,a4⟩:=h.off r (fun _ z=>nomatch z) (fun _ _ z=>nomatch z)
  exact .inl (k _ _ a1 a2 a3 a4 (fun z=>by rw [z,e] at r;cases r) r)
 ·obtain ⟨a1,a2,a3,a4⟩:=h.off r (fun _ z=>nomatch z) (fun _ _ z=>nomatch z)
  exact .inr ⟨q,k _ _ a1 a2 a3 a4 (fun z=>by rw [z,e] at r;cases r) r⟩
theorem QJ.OF (h:QJ K H CG CF A vp g)(k:KP A H H'):bf H H':=fun b xs r=>by
 rcases r with r|⟨q,r⟩
 ·obtain ⟨a1,a2,a3,a4⟩:=h.off r (fun _ z=>nomatch z) (fun _ _ z=>nomatch z)
  exact .inl (k _ _ a1 a2 a3 a4 r)
 ·obtain ⟨a1,a2,a3,a4⟩:=h.off r (fun _ z=>nomatch z) (fun _ _ z=>nomatch z)
  exact .inr ⟨q,k _ _ a1 a2 a3 a4 r⟩
theorem QJ.lst (h:QJ K H CG CF A vp g)(k:KP A H H'){b:abj}{xs:ε}(e:H b=some (.lst xs)):H' b=some (.lst xs):=by
 obtain ⟨a1,a2,a3,a4⟩:=h.off e (fun _ z=>nomatch z) (fun _ _ z=>nomatch z);exact k _ _ a1 a2 a3 a4 e
theorem uA.lst (h:uA K H CG CF CL A la ld o vp sv x c d0 L g own)(k:KO A o H H'){b:abj}{xs:ε}(e:H b=some (.lst xs)):H' b=some (.lst xs):=by
 obtain ⟨a1,a2,a3,a4⟩:=h.gr.off e (fun _ z=>nomatch z) (fun _ _ z=>nomatch z);exact k _ _ a1 a2 a3 a4 (fun z=>by rw [z,h.jy] at e;cases e) e
theorem QJ.nb (h':QJ K H' CG CF A vp g)(k:KP A H H'):NB H H':=fun b e=>by
 obtain ⟨kP,kW,kB,R,_⟩:=h'.fr;cases z:H b with
 | none=>rfl
 | some q=>rw [k b q (fun y=>by rw [y,R.pl] at e;cases e) (fun y=>by rw [y,R.wy] at e;cases e) (fun y=>by rw [y,R.br] at e;cases e) (fun y=>by rw [y,h'.qf] at e;cases e) z] at e;cases e
theorem uA.nb (h':uA K H' CG CF CL A la ld o vp sv x c d0 L g own)(k:KO A o H H'):NB H H':=fun b e=>by
 obtain ⟨kP,kW,kB,R,_⟩:=h'.gr.fr;cases z:H b with
 | none=>rfl
 | some q=>rw [k b q (fun y=>by rw [y,R.pl] at e;cases e) (fun y=>by rw [y,R.wy] at e;cases e) (fun y=>by rw [y,R.br] at e;cases e) (fun y=>by rw [y,h'.gr.qf] at e;cases e) (fun y=>by rw [y,h'.jy] at e;cases e) z] at e;cases e
theorem uA.name (h:uA K H CG CF CL A la ld o vp sv x c d0 L g own)(l:own.length+1+d0<=g.done)(ly:y.length<=L):uA K (upd H o (.dK (bq (own++[(y,z)])))) CG CF CL A la ld o vp sv x c d0 L g (own++[(y,z)])/\KO A o H (upd H o (.dK (bq (own++[(y,z)])))):=by
 obtain ⟨kP,kW,kB,R,W⟩:=h.gr.fr;have k:KO A o H (upd H o (.dK (bq (own++[(y,z)])))):=fun b o' _ _ _ _ n e=>by rw [ah n];exact e
 refine ⟨⟨{h.gr with qf:= ?_,fr:=⟨kP,kW,kB,afA R h.jy h.ap.o1 h.ap.o2 h.ap.o3,W.dict h.jy⟩},?_,h.Yw.aQ (h.gr.aQ h.jy k),ai,h.ap,h.gl,?_,?_⟩,k⟩
 ·rw [ah (fun z=>by have e:=h.gr.qf;rw [z,h.jy] at e;cases e)]
  exact h.gr.qf
 ·rw [ah (fun z=>by have e:=h.oB;rw [z,h.jy] at e;cases e)]
  exact h.oB
 ·rw [aae,ac0]
  exact l
 ·intro q hq
  rcases abh.mp hq with hq|hq
  ·exact h.len q hq
  ·rw [aaT.mp hq]
   exact ly
end
theorem U8 (h:pz a=pz b):a=b:=by
 unfold pz at h;exact agV (yB (ang h).1) (yB (ang h).2)
theorem xy (s:Rat×Rat):∀ps:List hJ,(ps.map fun p=>(p.nm,pz p.sp)).find? (fun z=>decide (z.2=pz s))=(ps.find? (fun z=>decide (z.sp=s))).map (fun p=>(p.nm,pz p.sp))
 | []=>rfl
 | p::t=>by
  rw [ada];by_cases c:p.sp=s
  ·rw [agZ (by simp [c]),agZ (by simp [c])]
   rfl
  ·rw [ag1 (by simpa using fun z=>c (U8 z)),ag1 (by simpa using c)]
   exact xy s t
theorem yZ (g:Gd):(psF g).map (·.1)=g.pins.map (·.nm):=by
 rw [ae5];rfl
theorem fv (g:Good (qr r)):Sz 300 r:=⟨UA (aaS g.top (by decide+kernel)),UA (aaS g.bot (by decide+kernel))⟩
abbrev WE (K:Frag)(CG CF CL:abj)(A:OE)(la ld o:abj)(vp sv:V)(x:Str)(c:Rat×Rat)(d0 L:Nat)(H:Hp)(Q:VK):GO:=fun g1 bz=>∀H',KO A o H H' ->uA K H' CG CF CL A la ld o vp sv x c d0 L g1 bz->Q .bG H'
inductive y4 (K:Frag)(CG CF CL CP CN CB CO CT:abj)(vs:ε)(H:Hp)(Q:VK)(E:XK):Prop
|mk (A:OE)(la ld o l:abj)(vp sv:V)(x:Str)(c:Rat×Rat)(d0 L:Nat)(g:Gd)(own:Own)(us:ε)(p:hJ)(_:vs=[.ref A.ga,.ref la,.ref l])(_:uA K H CG CF CL A la ld o vp sv x c d0 L g own)(_:own.length+1+d0<=g.done)(_:20<=L)(_:H l=some (.lst us))(_:Paired (mU K H) us (uX p))(_:BJ (.pin p))(_:p.ws≠[(0,0)])(_:x.length<=1000)(_:Sz 90000 c.1)(_:Sz 90000 c.2)(_:lX x c p g own (WE K CG CF CL A la ld o vp sv x c d0 L H Q) (u9 CP CN CB CO CT (KO A o H) H E))
theorem OG {us:ε}(h:Paired (mU K H) us (uX p)):∃u2 u3 ur,us=.str "pin"::.str p.nm::u2::u3::ur/\jR K H u2 p.sp.1/\jR K H u3 p.sp.2/\Paired (mU K H) ur (oq p.ws):=by
 have h':Paired (mU K H) us (RV.w "pin"::.w p.nm::.q p.sp.1::.q p.sp.2::oq p.ws):=h;cases h' with
 | cons a1 t=>
  cases t with
  | cons a2 t=>
   cases t with
   | cons a3 t=>
    cases t with
    | cons a4 t=>exact ⟨_,_,_,by rw [show _=V.str "pin" from a1,show _=V.str p.nm from a2],a3,a4,t⟩
theorem mO:aC za0 zaf (aa iG):=sq
theorem RX (D:Def K mg "lay_pin" iG zaf)(gc:GrC K CG)(lc:LyC K CL)(jW:Fn P w K mg base (aT P w) 35 "pair_sum" zag (yD K fun a b=>a+b))
  (MN:bH P w K mg base (aT P w) 3 CL "check_new" zal (yY K CL CP)) (MF:bH P w K mg base (aT P w) 1 CL "full_name" zal (qX K CL)) (MP:bH P w K mg base (aT P w) 4 CL "name_pin" zaJ (jV K CL CP))
  (aaG:Fn P w K mg base (aT P w) 5 "pin_at" ["F","spot"] (IM K CF)) (OH:Fn P w K mg base (aT P w) 4 "hold_from" za7 (q0 P w K mg base)) (MPp:bH P w K mg base (aT P w) 5 CF "put_pin" zaS (lV P w K mg base CF CP CS CT)):
  Fn P w K mg base (aT P w) 37 "lay_pin" zaf (y4 K CG CF CL CP CN CB CO CT):=by
 refine D.ZA mO (fun vs H Q E h=>?_) (fun f cdv A outer s H vs Q E hr h=>?_)
 ·obtain ⟨A',la,ld,o,l,vp,sv,x,c,d0,L,g,own,us,p,rfl,_⟩:=h
  rfl
 have px:Passes (aT P w) (hZ P w K mg base za0 "lay_pin" (aa iG) f cdv A outer s H E) E:=fZ;obtain ⟨A',la,ld,o,l,vp,sv,x,c,d0,L,g,own,us,p,rfl,hL,ft,l20,hl,pu,ok,nz,lx,z1,z2,q⟩:=h;obtain ⟨u2,u3,ur,eu,h2,h3,LO⟩:=OG pu;have i1:ng us 1=some (.str p.nm):=by rw [eu];exact ar (j:=1) rfl
 have i2:ng us 2=some u2:=by rw [eu];exact ar (j:=2) rfl
 have i3:ng us 3=some u3:=by rw [eu];exact ar (j:=3) rfl
 have e4:us.drop 4=ur:=by rw [eu];rfl
 obtain ⟨okn,ok1,ok2,okw⟩:=ok;have ln:p.nm.length<=1000:=aah okn.len (by decide);have lo:own.length<=1000:=by have:=hL.gr.ld;omega
 have lw:p.ws.length<=2:=by rcases okw with e|e|⟨_,e,_⟩<;>rw [e]<;>simp
 have one:∀w,p.ws=[w]->¬ (w.1=0/\w.2=0):=fun w e z=>nz (by rw [e,show w=(0,0) from agV z.1 z.2]);have two:p.ws.length=2->p.ws=[(1,0),(0,1)]:=fun e=>by rcases okw with z|z|⟨_,z,_⟩<;>rw [z] at e ⊢ <;> cases e
 unfold lX at q
 refine ⟨_,(ag (bg (cN (k:=3) (pv 1) hr.mo px (aE (cT (pv 2))))) (ag (aR (i:=3) mO.nd (bK jW hr.mo px (aU (bo (pv 1) rfl) (aX (aU (cT (pv 2)) (cT (pv 2))))))) (ag (aR (i:=4) mO.nd (bK aaG hr.mo px (aU (bo (pv 0) rfl) (pv 3)))) (ag (aS (aL iC (pv 4) bS) (ag (aR (i:=4) mO.nd (cN (k:=1) (pv 1) hr.mo px (aE (cT (pv 2))))) (ae (bg (cN (k:=5) (bo (pv 0) rfl) hr.mo px (nV (pv 4) (gO (aI (pv 3)) (aI (pv 3)) (bK OH hr.mo px (aE (jb mx (pv 2) (iW ak) o_))))))))) aG) (ae (bg (cN (k:=4) (pv 1) hr.mo px (aU (cT (pv 2)) (pv 4))))))))),?_⟩
 refine ⟨_,rfl,la,CL,ld,_,_,_,rfl,hL.oB,rfl,MN,_,rfl,l,_,_,_,rfl,rfl,aZ.of hl,i1,la,ld,o,x,p.nm,sv,own,rfl,hL.oB,hL.jy,lx,ln,fun no=>?_,fun no=>?_⟩
 ·rw [abv no] at q
  exact fun d H' sH nd hd=>q d H' (.of sH) nd hd
 rw [abp no] at q;refine ⟨_,rfl,la,CL,ld,_,_,rfl,hL.oB,lc.cls,lc.st,ap8,_,rfl,l,_,_,_,rfl,rfl,aZ.of hl,i2,_,rfl,l,_,_,_,rfl,rfl,aZ.of hl,i3,z2L,?_⟩;intro t1 nt1;generalize eX:upd _ t1 _=H1;have ⟨s1,et1⟩:=nw nt1 eX;have L1:=hL.same s1;refine ⟨sv,.ref t1,c,p.sp,rfl,L1.Yw,⟨t1,u2,u3,rfl,dG.of et1,h2.same s1,h3.same s1⟩,z1.up (by decide),z2.up (by decide),(fv ok1).up (by decide),(fv ok2).up (by decide),fun v2 H2 s2 hv2=>?_⟩;have ap9 :og K H2 v2 (nF c p.sp):=hv2;have nG:=aJ s1 s2;have L2:=hL.same nG;obtain ⟨kP,kW,kB,R2,W2⟩:=L2.gr.fr;have ndp:((psF g).map (·.1)).Nodup:=by rw [yZ];exact hL.gr.nd
 refine ⟨_,rfl,A'.ga,CG,A'.gd,_,_,rfl,L2.gr.qf,gc.cls,gc.fr,afr,_,rfl,A'.fr,A'.BO,A'.pP,A'.pW,A'.pB,psF g,g.b8,kP,kW,kB,v2,pz (nF c p.sp),rfl,R2,ndp,ap9,fun fn H3 s3=>?_,fun z fn H3 s3=>?_⟩
 ·rw [xy] at fn
  have fn':=ahN.mp fn;rw [fn'] at q;dsimp only at q;have jm:=aJ nG s3;have L3:=hL.same jm;have WG:=jm _ _ hl;obtain ⟨kP,kW,kB,R3,W3⟩:=L3.gr.fr;refine ⟨_,rfl,rfl,_,rfl,aK (fun _=>?_) (fun c=>abo (by decide) c)⟩;refine ⟨_,rfl,la,CL,ld,_,_,_,rfl,L3.oB,rfl,MF,_,rfl,l,_,_,_,rfl,rfl,aZ.of WG,i1,la,ld,o,x,p.nm,sv,rfl,L3.oB,lx,ln,?_⟩;obtain ⟨sa,y1,y2,rfl,hsq,hn1,QH⟩:=ap9.same s3;refine ⟨_,rfl,A'.ga,CG,A'.gd,_,_,rfl,L3.gr.qf,gc.cls,gc.fr,afr,A'.fr,CF,A'.BO,_,_,_,rfl,R3.obj,rfl,MPp,_,rfl,_,rfl,sa,_,_,_,rfl,rfl,hsq,AS,_,rfl,sa,_,_,_,rfl,rfl,hsq,vS,_,rfl,4,rfl,l,_,rfl,aZ.of WG,?_⟩;rw [ale,e4];intro l4 n4;generalize eX:upd _ l4 _=H4;have ⟨s4,el4⟩:=nw n4 eX;refine ⟨l4,ur,p.ws,rfl,el4,Paired.bJ LO fun _ _ z=>z.aQ (.of (aJ jm s4)),lw,one,two,fun hv H5 s5 hH=>?_⟩;have LQ:=aJ s4 s5;have y6:=aJ jm LQ;have L5:=hL.same y6;obtain ⟨kP,kW,kB,R5,W5⟩:=L5.gr.fr
  have ky:KyR (psF g) kW:=by
   refine lM (by rw [<-abK W5,ir,ir]) fun i a b ea eb=>?_;rw [aaU] at ea;obtain ⟨p',MD,rfl⟩:=ab_.mp ea;obtain ⟨pw,ew,z1,_⟩:=aY (kF W5) eb;rw [aaU,MD] at ew;rw [<-aaQ ew] at z1;exact ⟨z1,trivial⟩
  dsimp only [Rj];refine ⟨A'.fr,A'.BO,A'.pP,A'.pW,A'.pB,psF g,g.b8,kP,kW,kB,x++p.nm,y1,y2,pz (nF c p.sp),hv,p.ws,rfl,R5,ky,hn1.same LQ,QH.same LQ,(by rw [ir];have:=hL.gr.lp;omega),hH,?_⟩;unfold akT;rw [yZ,xy,fn',ir];dsimp only [Option.map];by_cases nn:x++p.nm∈g.pins.map (·.nm)
  ·rw [abv nn] at q ⊢
   exact fun d H' sH nd hd=>q d H' (.of (aJ y6 sH)) (aO y6 nd) hd
  rw [abp nn] at q ⊢;by_cases l24:24<=g.pins.length
  ·rw [abv l24] at q ⊢
   exact fun H' sH=>q H' (.of (aJ y6 sH))
  rw [abp l24] at q ⊢;intro H6 kP' l2 us2 k6 R6 n2 e6 p6;have k06:∀b o',b≠A'.pP->b≠A'.pW->H b=some o' ->H6 b=some o':=fun b o' n1 n2 e=>k6 b o' n1 n2 (y6 _ _ e);have kp6:KP A' H H6:=fun b o' n1 n2 _ _ e=>k06 b o' n1 n2 e;have t06:=hL.gr.OF kp6;have aIJ:= @QJ.off _ _ _ _ _ _ _ hL.gr
  have la6:H6 la=some (.ins CL ld (lyF x sv o)):=by
   obtain ⟨_,_,_,R0,_⟩:=hL.gr.fr;exact k06 _ _ (fun z=>by have e:=hL.oB;rw [z,R0.pl] at e;cases e) (fun z=>by have e:=hL.oB;rw [z,R0.wy] at e;cases e) hL.oB
  have ga6:H6 A'.ga=some (.ins CG A'.gd (RU A'.fr vp (g.done:Int))):=by
   obtain ⟨_,_,_,R0,_⟩:=hL.gr.fr;exact k06 _ _ (fun z=>by have e:=hL.gr.qf;rw [z,R0.pl] at e;cases e) (fun z=>by have e:=hL.gr.qf;rw [z,R0.wy] at e;cases e) hL.gr.qf
  have l6:=hL.gr.lst kp6 hl;have o6:H6 o=some (.dK (bq own)):=k06 _ _ hL.ap.o1 hL.ap.o2 hL.jy
  have W6:WyR K H6 (pwF (FJ g (x++p.nm) (nF c p.sp) p.ws)) (kW++[(.inr (x++p.nm),.ref l2)]):=by
   show WyR K H6 (((g.pins++[_]).map fun (p:hJ)=>(p.nm,p.ws))) _;rw [ac1];refine acA (Paired.bJ W5 fun p' kv z=>⟨z.1,?_⟩) ⟨rfl,l2,us2,rfl,e6,p6⟩;obtain ⟨l',qb,z1,z2,z3⟩:=z.2;have ne1:l'≠A'.pP:=fun y=>by rw [y,R5.pl] at z2;cases z2
   have ne2:l'≠A'.pW:=fun y=>by rw [y,R5.wy] at z2;cases z2
   refine ⟨l',qb,z1,k6 _ _ ne1 ne2 z2,z3.aQ fun b xs r=>?_⟩
   rcases r with r|⟨q',r⟩
   ·exact .inl (k6 _ _ (fun y=>by rw [y,R5.pl] at r;cases r) (fun y=>by rw [y,R5.wy] at r;cases r) r)
   ·exact .inr ⟨q',k6 _ _ (fun y=>by rw [y,R5.pl] at r;cases r) (fun y=>by rw [y,R5.wy] at r;cases r) r⟩
  have L6:uA K H6 CG CF CL A' la ld o vp sv x c d0 L (FJ g (x++p.nm) (nF c p.sp) p.ws) own:=by
   refine ⟨⟨ga6,⟨kP',_,kB,?_,W6⟩,?_,?_,hL.gr.lb,hL.gr.ld⟩,la6,hL.Yw.aQ t06,o6,hL.ap,hL.gl,hL.fit,hL.len⟩
   ·show jr K H6 CF A'.fr A'.BO A'.pP A'.pW A'.pB ((g.pins++[_]).map fun (p:hJ)=>(p.nm,pz p.sp)) g.b8 kP' _ kB
    rw [ac1];exact R6
   ·show ((g.pins++[_]).map hJ.nm).Nodup
    rw [ac1,ag_];refine ⟨hL.gr.nd,by simp,fun a ha b hb e=>nn ?_⟩;have xq :b=x++p.nm:=by simpa using hb
    rw [<-xq,<-e];exact ha
   ·show (g.pins++[_]).length<=24
    rw [aae,ac0];omega
  refine ⟨_,rfl,la,CL,ld,_,_,_,rfl,la6,rfl,MP,_,rfl,l,_,_,_,rfl,rfl,aZ.of l6,i1,_,rfl,la,ld,o,x,p.nm,x++p.nm,sv,own,rfl,la6,o6,lx,ln,lo,fun z=>abo z no,fun _=>?_⟩;obtain ⟨L7,k7⟩:=L6.name (y:=p.nm) (z:=x++p.nm) ft (aah okn.len l20);exact q _ ((KP.ko kp6).trans k7) L7
 ·rw [xy] at fn
  obtain ⟨z',fn',rfl⟩:=ab_.mp fn;rw [fn'] at q;dsimp only at q;have jm:=aJ nG s3;have L3:=hL.same jm;have WG:=jm _ _ hl;refine ⟨_,rfl,rfl,_,rfl,aK (fun c=>abo (abn c) (fun z=>nomatch z)) (fun _=>?_)⟩;refine ⟨_,rfl,la,CL,ld,_,_,_,rfl,L3.oB,rfl,MP,_,rfl,l,_,_,_,rfl,rfl,aZ.of WG,i1,_,rfl,la,ld,o,x,p.nm,z'.nm,sv,own,rfl,L3.oB,L3.jy,lx,ln,lo,fun z=>abo z no,fun _=>?_⟩;obtain ⟨L7,k7⟩:=L3.name (y:=p.nm) (z:=z'.nm) ft (aah okn.len l20);exact q _ ((KO.of jm).trans k7) L7
theorem OI {us:ε}(h:Paired (mU K H) us (gu (.bar x a b))):us=[.str "bar",.str x,.str a,.str b]:=by
 have h':Paired (mU K H) us [RV.w "bar",.w x,.w a,.w b]:=h;cases h' with
 | cons a1 t=>
  cases t with
  | cons a2 t=>
   cases t with
   | cons a3 t=>
    cases t with
    | cons a4 t=>
     cases t;rw [show _=V.str "bar" from a1,show _=V.str x from a2,show _=V.str a from a3,show _=V.str b from a4]
inductive y8 (K:Frag)(CG CF CL CP CN CB CO CT:abj)(vs:ε)(H:Hp)(Q:VK)(E:XK):Prop
|mk (A:OE)(la ld o l:abj)(vp sv:V)(x:Str)(c:Rat×Rat)(d0 L:Nat)(g:Gd)(own:Own)(us:ε)(n one other:Str)(_:vs=[.ref A.ga,.ref la,.ref l])(_:uA K H CG CF CL A la ld o vp sv x c d0 L g own)(_:H l=some (.lst us))(_:Paired (mU K H) us (gu (.bar n one other)))(_:BJ (.bar n one other))(_:x.length<=1000)(_:nj x n one other g own (WE K CG CF CL A la ld o vp sv x c d0 L H Q) (u9 CP CN CB CO CT (KO A o H) H E))
theorem q_:aC zaY zaf (aa iH):=sq
theorem RY (D:Def K mg "lay_bar" iH zaf)(gc:GrC K CG)(lc:LyC K CL)
  (MO:bH P w K mg base (aT P w) 3 CL "own_pin" zal (IL K CL CN)) (MF:bH P w K mg base (aT P w) 1 CL "full_name" zal (qX K CL)) (MPb:bH P w K mg base (aT P w) 5 CF "put_bar" zak (pE K CF CB CN CO CT)):
  Fn P w K mg base (aT P w) 37 "lay_bar" zaf (y8 K CG CF CL CP CN CB CO CT):=by
 refine D.ZA q_ (fun vs H Q E h=>?_) (fun f cdv A outer s H vs Q E hr h=>?_)
 ·obtain ⟨A',la,ld,o,l,vp,sv,x,c,d0,L,g,own,us,n,one,other,rfl,_⟩:=h
  rfl
 have px:Passes (aT P w) (hZ P w K mg base zaY "lay_bar" (aa iH) f cdv A outer s H E) E:=fZ;obtain ⟨A',la,ld,o,l,vp,sv,x,c,d0,L,g,own,us,n,one,other,rfl,hL,hl,pu,ok,lx,q⟩:=h;have eu:=OI pu;have i1:ng us 1=some (.str n):=by rw [eu];exact ar (j:=1) rfl
 have i2:ng us 2=some (.str one):=by rw [eu];exact ar (j:=2) rfl
 have i3:ng us 3=some (.str other):=by rw [eu];exact ar (j:=3) rfl
 have ln:n.length<=1000:=aah ok.1.len (by decide);obtain ⟨kP,kW,kB,R,W⟩:=hL.gr.fr;unfold nj at q
 refine ⟨_,(ag (aR (i:=3) q_.nd (cN (k:=3) (pv 1) hr.mo px (aE (cT (pv 2))))) (ag (aR (i:=4) q_.nd (cN (k:=3) (pv 1) hr.mo px (aE (cT (pv 2))))) (ae (bg (cN (k:=5) (bo (pv 0) rfl) hr.mo px (gO (cN (k:=1) (pv 1) hr.mo px (aE (cT (pv 2)))) (pv 3) (pv 4))))))),?_⟩
 refine ⟨_,rfl,la,CL,ld,_,_,_,rfl,hL.oB,rfl,MO,_,rfl,l,_,_,_,rfl,rfl,aZ.of hl,i2,la,ld,o,x,one,sv,own,rfl,hL.oB,hL.jy,fun z=>?_,fun y1 z1=>?_⟩
 ·rw [z] at q
  exact fun d H' sH nd hd=>q d H' (.of sH) nd hd
 rw [z1] at q;dsimp only at q;refine ⟨_,rfl,la,CL,ld,_,_,_,rfl,hL.oB,rfl,MO,_,rfl,l,_,_,_,rfl,rfl,aZ.of hl,i3,la,ld,o,x,other,sv,own,rfl,hL.oB,hL.jy,fun z=>?_,fun y2 z2=>?_⟩
 ·rw [z] at q
  exact fun d H' sH nd hd=>q d H' (.of sH) nd hd
 rw [z2] at q;dsimp only at q;refine ⟨_,rfl,A'.ga,CG,A'.gd,_,_,rfl,hL.gr.qf,gc.cls,gc.fr,afr,A'.fr,CF,A'.BO,_,_,_,rfl,R.obj,rfl,MPb,_,rfl,la,CL,ld,_,_,_,rfl,hL.oB,rfl,MF,_,rfl,l,_,_,_,rfl,rfl,aZ.of hl,i1,la,ld,o,x,n,sv,rfl,hL.oB,lx,ln,_,rfl,_,rfl,A'.fr,A'.BO,A'.pP,A'.pW,A'.pB,psF g,g.b8,kP,kW,kB,x++n,y1,y2,rfl,R,(by have:=hL.gr.lb;omega),?_⟩;rw [yZ];cases eb:qT (g.pins.map (·.nm)) (g.b8.map (·.1)) (x++n) y1 y2 with
 | there=>
  rw [eb] at q;exact fun d H' sH nd hd=>q d H' (.of sH) nd hd
 | pin p=>
  rw [eb] at q;exact fun d H' sH nd hd=>q d H' (.of sH) nd hd
 | length=>
  rw [eb] at q;exact fun d H' sH nd hd=>q d H' (.of sH) nd hd
 | many=>
  rw [eb] at q;exact q H (.of (au.refl H))
 | done=>
  rw [eb] at q;have q':WE K CG CF CL A' la ld o vp sv x c d0 L H Q {g with b8:=g.b8++[(x++n,y1,y2)]} own:=q;intro H' kB' k' R';have kp:KP A' H H':=fun b o' _ _ n3 _ e=>k' b o' n3 e;have t':=hL.gr.OF kp
  have l60:g.b8.length<60:=by
   unfold qT at eb;split at eb
   ·cases eb
   split at eb
   ·cases eb
   split at eb
   ·cases eb
   split at eb
   ·cases eb
   split at eb
   ·cases eb
   ·next h=>rw [ir] at h;omega
  refine q' H' (KP.ko kp) ⟨⟨k' _ _ (fun z=>by have e:=hL.gr.qf;rw [z,R.br] at e;cases e) hL.gr.qf,⟨kP,kW,kB',R',?_⟩,hL.gr.nd,hL.gr.lp,?_,hL.gr.ld⟩,k' _ _ (fun z=>by have e:=hL.oB;rw [z,R.br] at e;cases e) hL.oB,hL.Yw.aQ t',k' _ _ hL.ap.o3 hL.jy,hL.ap,hL.gl,hL.fit,hL.len⟩
  ·refine Paired.bJ W fun p' kv z=>⟨z.1,?_⟩
   obtain ⟨l',qb,z1,z2,z3⟩:=z.2;exact ⟨l',qb,z1,hL.gr.lst kp z2,z3.aQ t'⟩
  ·show (g.b8++[_]).length<=60
   rw [aae,ac0];omega
def OJ (K:Frag)(H:Hp)(v:V)(m:Str×(Rat×Rat)):Prop:=∃t u,v=.ref t/\dG K H t [.str m.1,u]/\og K H u m.2
theorem OJ.aQ (h:OJ K H v m)(s:bf H H'):OJ K H' v m:=by
 obtain ⟨t,u,e,h1,h2⟩:=h;exact ⟨t,u,e,s.cy h1,h2.aQ s⟩
theorem OK {us:ε}{st:τ}(h:Paired (mU K H) us (gu (.lay pc pre a st))):∃u3 u4 ur,us=.str "lay"::.str pc::.str pre::u3::u4::ur/\jR K H u3 a.1/\jR K H u4 a.2/\(st=none->ur=[])/\∀k s,st=some (k,s)->∃u6 u7,ur=[.int (k:Int),u6,u7]/\jR K H u6 s.1/\jR K H u7 s.2:=by
 have key:∀{t:List RV},Paired (mU K H) us (RV.w "lay"::.w pc::.w pre::.q a.1::.q a.2::t)->∃u3 u4 ur,us=.str "lay"::.str pc::.str pre::u3::u4::ur/\jR K H u3 a.1/\jR K H u4 a.2/\Paired (mU K H) ur t:=fun {t} h=>by
  cases h with
  | cons a1 h=>
   cases h with
   | cons a2 h=>
    cases h with
    | cons a3 h=>
     cases h with
     | cons a4 h=>
      cases h with
      | cons a5 h=>exact ⟨_,_,_,by rw [show _=V.str "lay" from a1,show _=V.str pc from a2,show _=V.str pre from a3],a4,a5,h⟩
 cases st with
 | none=>
  obtain ⟨u3,u4,ur,e,n3,n4,t⟩:=key (t:=[]) h;exact ⟨u3,u4,ur,e,n3,n4,fun _=>by cases t;rfl,fun _ _ z=>nomatch z⟩
 | some z=>
  obtain ⟨k,s⟩:=z;obtain ⟨u3,u4,ur,e,n3,n4,t⟩:=key (t:=[.n (k:Int),.q s.1,.q s.2]) h;refine ⟨u3,u4,ur,e,n3,n4,(fun z=>nomatch z),fun k' s' z=>?_⟩;cases z;cases t with
  | cons b1 t=>
   cases t with
   | cons b2 t=>
    cases t with
    | cons b3 t=>
     cases t;exact ⟨_,_,by rw [show _=V.int (k:Int) from b1],b2,b3⟩
inductive aaH (K:Frag)(vs:ε)(H:Hp)(Q:VK)(E_:XK):Prop
|mk (l:abj)(us:ε)(pc pre:Str)(a:Rat×Rat)(st:τ)(_:vs=[.ref l])(_:H l=some (.lst us))(_:Paired (mU K H) us (gu (.lay pc pre a st)))(_:BJ (.lay pc pre a st))(_:∀(l':abj)(ms:ε)(H':Hp),au H H' ->H l'=none->H' l'=some (.lst ms)->Paired (OJ K H') ms (marks pre a st)->Q (.ref l') H')
theorem alu {k:Nat}(h:H t=some (.tup [.int (k:Int),.int 1])):jR K H (.ref t) (k:Rat):=⟨t,rfl,by rw [show ((k:Nat):Rat)=(((k:Nat):Int):Rat) from (aj6 k).symm,oa];exact dG.of h⟩
theorem fe:aC ["row","first","step"] ["row"] (aa cf):=sq
theorem nu (D:Def K mg "prefixes_and_spots" cf ["row"])(bF:mg "len"=none)(dS:mg "range"=none)(dA:mg "str"=none)(jW:Fn P w K mg base (aT P w) 35 "pair_sum" zag (yD K fun a b=>a+b))(OM:Fn P w K mg base (aT P w) 35 "stretched" zaP (oj K)):Fn P w K mg base (aT P w) 36 "prefixes_and_spots" ["row"] (aaH K):=by
 refine D.oo fe fun H hr h=>?_;obtain ⟨l,us,pc,pre,a,st,rfl,hl,pu,ok,q⟩:=h;obtain ⟨okc,Yu,ok1,ok2,oks⟩:=ok;obtain ⟨u3,u4,ur,eu,n3,n4,en,es⟩:=OK pu;have i2:ng us 2=some (.str pre):=by rw [eu];exact ar (j:=2) rfl
 have i3:ng us 3=some u3:=by rw [eu];exact ar (j:=3) rfl
 have i4:ng us 4=some u4:=by rw [eu];exact ar (j:=4) rfl
 have L2:2<=abl:=by decide
 refine ⟨_,(ag (aR (i:=1) fe.nd (aX (aU (cT (pv 0)) (cT (pv 0))))) (ag (aS (aL cn (a8 bh rfl bF fm (aE (pv 0))) ak) (ae (aH (bY (aE (aX (aU (cT (pv 0)) (pv 1))))))) aG) (ag (aR (i:=2) fe.nd (aX (aU (cT (pv 0)) (cT (pv 0))))) (ae (aH (iX (tn:=["k"]) (fr:=["step","row","first"]) (caps:=[2,0,1]) (jI rfl dS (aE (cT (pv 0)))) (aX (aU (aD bx (iE (ZZ (K:=K) rfl) (pv 2) ak) (cB cG rfl dA kx (aE (pv 0)))) (FC jW hr (aU (pv 3) (FC OM hr (aU (aX (aU (pv 0) ak)) (pv 1))))))))))))),?_⟩
 refine ⟨_,rfl,l,_,_,_,rfl,rfl,aZ.of hl,i3,_,rfl,l,_,_,_,rfl,rfl,aZ.of hl,i4,L2,?_⟩;intro t1 nt1;generalize eX:upd _ t1 _=H1;have ⟨s1,et1⟩:=nw nt1 eX;have WD:=s1 _ _ hl;have hf:og K H1 (.ref t1) a:=⟨t1,u3,u4,rfl,dG.of et1,n3.same s1,n4.same s1⟩;refine ⟨_,rfl,l,_,rfl,.inl (aZ.of WD),rfl,_,rfl,?_⟩;cases st with
 | none=>
  have e5:us.length=5:=by rw [eu,en rfl];rfl
  refine aK (fun _=>?_) (fun c=>abo (abu (by rw [e5];rfl)) c);refine ⟨_,rfl,l,_,_,_,rfl,rfl,aZ.of WD,i2,_,rfl,L2,?_⟩;intro t2 nt2;generalize eX:upd _ t2 _=H2;have ⟨s2,et2⟩:=nw nt2 eX;refine ⟨z1L,?_⟩;intro l3 nl3;generalize eX:upd _ l3 _=H3;have ⟨s3,el3⟩:=nw nl3 eX;have jm:=aJ s1 (aJ s2 s3);exact q l3 [.ref t2] H3 jm (aO (aJ s1 s2) nl3) el3 (.cons ⟨t2,.ref t1,rfl,dG.of (s3 _ _ et2),hf.same (aJ s2 s3)⟩ .nil)
 | some z=>
  obtain ⟨k,sp⟩:=z;obtain ⟨u6,u7,er,n6,n7⟩:=es k sp rfl;obtain ⟨k1,k60,ok6,ok7⟩:=oks k sp rfl;have e8:us.length=8:=by rw [eu,er];rfl
  have i5:ng us 5=some (.int (k:Int)):=by rw [eu,er];exact ar (j:=5) rfl
  have i6:ng us 6=some u6:=by rw [eu,er];exact ar (j:=6) rfl
  have i7:ng us 7=some u7:=by rw [eu,er];exact ar (j:=7) rfl
  refine aK (fun c=>abo (abn c) (by rw [e8];decide)) (fun _=>?_);refine ⟨_,rfl,l,_,_,_,rfl,rfl,aZ.of WD,i6,_,rfl,l,_,_,_,rfl,rfl,aZ.of WD,i7,L2,?_⟩;intro t2 nt2;generalize eX:upd _ t2 _=H2;have ⟨s2,et2⟩:=nw nt2 eX;have nG:=aJ s1 s2;have Yq:og K H2 (.ref t2) sp:=⟨t2,u6,u7,rfl,dG.of et2,n6.same nG,n7.same nG⟩;have hl2:=s2 _ _ WD;have hf2:=hf.same s2;refine ⟨_,rfl,l,_,_,_,rfl,rfl,aZ.of hl2,i5,(k:Int),rfl,by omega,by omega,fun D1 nD=>?_⟩;rw [show ((k:Nat):Int).toNat=k by omega];refine yj (lo:=0) (n:=k) (cap:=[some (.ref t2),some (.ref l),some (.ref t1)]) (fun i v H=>OJ K H v (pre++tx (i:Int),nF a ((i:Rat)*sp.1,(i:Rat)*sp.2))) nD (aaW (show k<=60 from k60) (by decide)) (fun i v Ha Hb ys e0 ks z=>z.aQ (bf.ks e0 ks)) ?_ ?_
  ·intro i Ha Rq hi sa kq
   rw [am6];have lg:(i:Int).natAbs.log2<1920:=aaW (Nat.log2_le_self _) (by show i<1920;omega);have lt:=gj (n:=(i:Int)) (k:=2) (by decide) (by show i<100;omega);refine ⟨_,rfl,l,_,_,_,rfl,rfl,aZ.of (sa _ _ hl2),i2,_,rfl,_,rfl,lg,_,_,rfl,rfl,aah (apV Yu.len lt) (by decide),_,rfl,_,rfl,L2,?_⟩;intro t3 nt3;generalize eX:upd _ t3 _=H3;have ⟨s3,et3⟩:=nw nt3 eX
   have si:Sz 6 ((i:Nat):Rat):=by
    rw [<-aj6];exact HM (k:=6) (by show i<64;omega) (by decide)
   refine ⟨_,rfl,.ref t3,.ref t2,(i:Rat),sp,rfl,alu et3,(Yq.same sa).same s3,si.up (by decide),(fv ok6).up (by decide),(fv ok7).up (by decide),fun v4 H4 s4 h4=>?_⟩;refine ⟨.ref t1,v4,a,_,rfl,((hf2.same sa).same s3).same s4,h4,(fv ok1).up (by decide),(fv ok2).up (by decide),(si.mul (fv ok6)).up (by decide),(si.mul (fv ok7)).up (by decide),fun v5 H5 s5 h5=>⟨L2,?_⟩⟩;intro t6 nt6;generalize eX:upd _ t6 _=H6;have ⟨s6,et6⟩:=nw nt6 eX;exact kq _ _ (aJ s3 (aJ s4 (aJ s5 s6))) ⟨t6,v5,rfl,dG.of et6,h5.same s6⟩
  intro ys Ha ly py sa ea;refine q D1 ys Ha (aJ nG sa) (aO nG nD) ea ?_;refine lM (by rw [ly];show _=((afD k).map _).length;rw [ir,ag']) fun i v m ev em=>?_;have em':((afD k).map fun (i:Nat)=>(pre++tx (i:Int),nF a ((i:Rat)*sp.1,(i:Rat)*sp.2)))[i]?=some m:=em;have hi:=(Wp.mp ev).1;rw [aaU,ani (by omega)] at em';rw [<-aaQ em'];exact py i v ev
theorem u_ (hq:∀g o,Q g o->Q' g o)(he:∀e,E e->E' e)(h:lX x c p g own Q E):lX x c p g own Q' E':=by
 unfold lX at h ⊢;split
 ·next c1=>rw [abv c1] at h;exact he _ h
 next c1=>
 rw [abp c1] at h;cases e:g.pins.find? (fun z=>decide (z.sp=nF c p.sp)) with
 | some z=>
  rw [e] at h;exact hq _ _ h
 | none=>
  rw [e] at h;dsimp only at h ⊢;split
  ·next c2=>rw [abv c2] at h;exact he _ h
  next c2=>
  rw [abp c2] at h;split
  ·next c3=>rw [abv c3] at h;exact he _ h
  ·next c3=>rw [abp c3] at h;exact hq _ _ h
theorem vc (hq:∀g o,Q g o->Q' g o)(he:∀e,E e->E' e)(h:nj x n one other g own Q E):nj x n one other g own Q' E':=by
 unfold nj at h ⊢;cases e1:ownAt own one with
 | none=>rw [e1] at h;exact he _ h
 | some a=>
  rw [e1] at h;dsimp only at h ⊢;cases e2:ownAt own other with
  | none=>rw [e2] at h;exact he _ h
  | some b=>
   rw [e2] at h;dsimp only at h ⊢;cases eb:qT (g.pins.map (·.nm)) (g.b8.map (·.1)) (x++n) a b with
   | there=>rw [eb] at h;exact he _ h
   | pin p=>rw [eb] at h;exact he _ h
   | length=>rw [eb] at h;exact he _ h
   | many=>rw [eb] at h;exact he _ h
   | done=>rw [eb] at h;exact hq _ _ h
theorem vT {E E':Λ}(hq:∀o,Q o->Q' o)(he:∀e,E e->E' e):∀(below own:Own),d9 x m below own Q E->d9 x m below own Q' E'
 | [],_,h=>hq _ h
 | z::t,own,h=>by
  unfold d9 at h ⊢;split
  ·next c=>rw [abv c] at h;exact he _ h
  ·next c=>rw [abp c] at h;exact vT hq he t _ h
abbrev RecM (rec:Str->Rat×Rat->Gd->GO->(fQ->Prop)->Prop):Prop:=∀x c g Q Q' E E',(∀g o,Q g o->Q' g o)->(∀e,E e->E' e)->rec x c g Q E->rec x c g Q' E'
theorem kI (hr:RecM rec){E E':Λ}(hq:∀g o,Q g o->Q' g o)(he:∀e,E e->E' e):∀(ms:List (Str×(Rat×Rat))) (g:Gd) (own:Own),gU rec x c ms g own Q E->gU rec x c ms g own Q' E'
 | [],_,_,h=>hq _ _ h
 | (m,a)::t,g,own,h=>hr _ _ _ _ _ _ _ (fun g1 b z=>vT (fun o z=>kI hr hq he t g1 o z) he b own z) he h
theorem jX (hr:∀pc,RecM (rec pc)){E E':Λ}(hq:∀g o,Q g o->Q' g o)(he:∀e,E e->E' e):∀(rs:Α)(g:Gd)(own:Own),gF rec x c rs g own Q E->gF rec x c rs g own Q' E'
 | [],_,_,h=>hq _ _ h
 | r::t,g,own,h=>by
  unfold gF at h ⊢;split
  ·next c=>rw [abv c] at h;exact he _ h
  next c=>
  rw [abp c] at h;cases r with
  | pin p=>exact u_ (fun g o z=>jX hr hq he t g o z) he h
  | bar n a b=>exact vc (fun g o z=>jX hr hq he t g o z) he h
  | lay pc pre a st=>exact kI (hr pc) (fun g o z=>jX hr hq he t g o z) he _ _ _ h
theorem g9 (ps:ν):∀(n:Nat)(rows:Α),RecM (jx ps n rows)
 | 0,rows=>fun x c g Q Q' E E' hq he h=>jX (fun _ _ _ _ _ _ _ _ _ he h=>he _ h) hq he rows g [] h
 | n+1,rows=>fun x c g Q Q' E E' hq he h=>jX (fun pc=>g9 ps n (rowsOf ps pc)) hq he rows g [] h
def RZ (rows:Α):Prop:=∀r∈rows,BJ r/\∀q,r=.pin q->q.ws≠[(0,0)]
structure alv (ps:ν):Prop where
 nd:(ps.map (·.1)).Nodup
 ok:∀p∈ps,RZ p.2
 lay:∀i p,ps[i]?=some p->qU ps i p.2
structure PcR (K:Frag)(H:Hp)(dp:abj)(ls:ξ)(ps:ν):Prop where
 fE:H dp=some (.dK (cU ps ls))
 len:ls.length=ps.length
 bj:∀(i:Nat)(l:abj)(p:Str×List Rw),ls[i]?=some l->ps[i]?=some p->∃ys,H l=some (.lst ys)/\Paired (RowC K H []) ys p.2
theorem RowC.keep (h:RowC K H [] u r)(k:∀b xs,H b=some (.lst xs)->H' b=some (.lst xs))(t:bf H H'):RowC K H' [] u r:=h.mono (fun b xs _ e=>k b xs e) t (fun b z=>nomatch z)
theorem PcR.keep (h:PcR K H dp ls ps)(d:H' dp=some (.dK (cU ps ls)))(k:∀b xs,H b=some (.lst xs)->H' b=some (.lst xs))(t:bf H H'):PcR K H' dp ls ps:=⟨d,h.len,fun i l p e1 e2=>by
 obtain ⟨ys,a,b⟩:=h.bj i l p e1 e2
 exact ⟨ys,k _ _ a,Paired.bJ b fun _ _ z=>z.keep k t⟩⟩
theorem aaI (nd:(ps.map (·.1)).Nodup)(h:pc∈(ps.take n).map (·.1)):∃i p,i<n/\ps[i]?=some p/\p.1=pc/\rowsOf ps pc=p.2:=by
 obtain ⟨p,hp,e⟩:=ac3.mp h;obtain ⟨i,ei⟩:=ade hp;have il:=(Wp.mp ei).1;rw [aep] at il;rw [aht (by omega)] at ei;refine ⟨i,p,by omega,ei,e,?_⟩;have mp:=aaP ei;unfold rowsOf;cases f:ps.find? (fun z=>decide (z.1=pc)) with
 | none=>exact abo (by simpa using e) (af_.mp f p mp)
 | some z=>
  have hz:=List.find?_some f;have mz:=ahj f;have e2:z.1=p.1:=by rw [e];simpa using hz
  obtain ⟨j,ej⟩:=ade mz;have jl:=(Wp.mp ej).1;have:j=i:=(alG (by rw [ir];exact jl) nd).mp (by rw [aaU,aaU,ej,ei];exact abV some e2);rw [this,ei] at ej;show (some z.2).getD []=p.2;rw [aaQ ej];rfl
theorem ayf :ac6 ("pieces":Str) (RU fr vp n)=some vp:=by
 have h:(("pieces":Str)=="frame")=false:=by decide+kernel
 simp [ac6,h]
section
variable {CG CF CL:abj}{A:OE}{la ld o:abj}{vp sv:V}{x:Str}{c:Rat×Rat}{d0 L:Nat}{g:Gd}{own:Own}{H H':Hp}
theorem uA.other (h:uA K H CG CF CL A la ld o vp sv x c d0 L g own)(e:H d=some ob)(n1:∀xs,ob≠.lst xs)(n2:∀xs,ob≠.tup xs)(n3:∀q xs,ob≠.iT q (.tup xs))(n4:∀c d fs,ob≠.ins c d fs)(ap:Apart A d)(no:d≠o):uA K (upd H d ob') CG CF CL A la ld o vp sv x c d0 L g own:=by
 obtain ⟨kP,kW,kB,R,W⟩:=h.gr.fr;have t:bf H (upd H d ob'):=FL e n2 n3;have ni:∀{b C d':abj} {fs:Η},H b=some (.ins C d' fs)->b≠d:=fun e' z=>by rw [z,e] at e';exact n4 _ _ _ (aaQ e')
 refine ⟨{h.gr with qf:=by rw [ah (ni h.gr.qf)];exact h.gr.qf,fr:=⟨kP,kW,kB,⟨by rw [ah (ni R.obj)];exact R.obj,by rw [ah (ac2 ap.o1)];exact R.pl,by rw [ah (ac2 ap.o2)];exact R.wy,by rw [ah (ac2 ap.o3)];exact R.br,R.ne1,R.ne2,R.ne3,Paired.bJ R.rp fun _ _ h=>⟨h.1,h.2.aQ t⟩,Paired.bJ R.rb fun _ _ h=>⟨h.1,by obtain ⟨p,e,k⟩:=h.2;exact ⟨p,e,t _ _ k⟩⟩⟩,?_⟩},by rw [ah (ni h.oB)];exact h.oB,h.Yw.aQ t,by rw [ah (ac2 no)];exact h.jy,h.ap,h.gl,h.fit,h.len⟩;refine Paired.bJ W fun p' kv z=>⟨z.1,?_⟩;obtain ⟨l',qb,z1,z2,z3⟩:=z.2;exact ⟨l',qb,z1,by rw [ah (fun z=>by rw [z,e] at z2;exact n1 _ (aaQ z2))];exact z2,z3.aQ t⟩
theorem uA.count (h:uA K H CG CF CL A la ld o vp sv x c d0 L g own)(l:g.done<500):uA K (upd H A.ga (.ins CG A.gd (RU A.fr vp (g.done+1:Int)))) CG CF CL A la ld o vp sv x c d0 L {g with done:=g.done+1} own/\KP A H (upd H A.ga (.ins CG A.gd (RU A.fr vp (g.done+1:Int)))):=by
 obtain ⟨kP,kW,kB,R,W⟩:=h.gr.fr;have s:bf H (upd H A.ga (.ins CG A.gd (RU A.fr vp (g.done+1:Int)))):=u0 h.gr.qf
 have nf:A.fr≠A.ga:=fun z=>by
  have e:=R.obj;rw [z,h.gr.qf] at e;have e2:=(HO.ins.inj (aaQ e)).2.2;have e3:=abV anf (ahx e2).1;exact abo (show ("frame":Str)="pin_places" from e3) (by decide+kernel)
 refine ⟨⟨⟨ai,⟨kP,kW,kB,xw R h.gr.qf nf,?_⟩,h.gr.nd,h.gr.lp,h.gr.lb,l⟩,by rw [ah (ac2 h.gl)];exact h.oB,h.Yw.aQ s,by rw [ah (fun z=>by have e:=h.jy;rw [z,h.gr.qf] at e;cases e)];exact h.jy,h.ap,h.gl,aah h.fit (ahf _),h.len⟩,fun b o' _ _ _ n e=>by rw [ah n];exact e⟩;refine Paired.bJ W fun p' kv z=>⟨z.1,?_⟩;obtain ⟨l',qb,z1,z2,z3⟩:=z.2;exact ⟨l',qb,z1,by rw [ah (fun z=>by rw [z,h.gr.qf] at z2;cases z2)];exact z2,z3.aQ s⟩
end
inductive iR (K:Frag)(CG CF CL CP CN CB CO CT:abj)(n:Nat)(vs:ε)(H:Hp)(Q:VK)(E:XK):Prop
|mk (A:OE)(rA dp:abj)(ls:ξ)(sv:V)(x:Str)(c:Rat×Rat)(k:Nat)(g:Gd)(ps:ν)(rows:Α)(Yx:ε)(_:vs=[.ref A.ga,.ref rA,.str x,sv])(_:QJ K H CG CF A (.ref dp) g)(_:PcR K H dp ls ps)(_:Apart A dp)(_:og K H sv c)(_:H rA=some (.lst Yx))(_:Paired (RowC K H []) Yx rows)(_:RZ rows)(_:alv ps)(_:qU ps n rows)(_:k+n<=30)(_:Sz (1000*k+1) c.1)(_:Sz (1000*k+1) c.2)(_:x.length<=24*k)(_:jx ps n rows x c g (fun g1 bz=>∀(la ld o:abj)(H':Hp),KP A H H' ->H la=none->H o=none->uA K H' CG CF CL A la ld o (.ref dp) sv x c g.done (24*(n+1)) g1 bz->Q (.ref la) H') (u9 CP CN CB CO CT (KP A H) H E))
inductive jY (K:Frag)(CG CF CL CP CN CB CO CT:abj)(n:Nat)(vs:ε)(H:Hp)(Q:VK)(E:XK):Prop
|mk (A:OE)(la ld o l dp:abj)(ls:ξ)(sv:V)(x:Str)(c:Rat×Rat)(d0 k:Nat)(g:Gd)(own:Own)(ps:ν)(us:ε)(pc pre:Str)(a:Rat×Rat)(st:τ)(_:vs=[.ref A.ga,.ref la,.ref l])(_:uA K H CG CF CL A la ld o (.ref dp) sv x c d0 (24*(n+2)) g own)(_:PcR K H dp ls ps)(_:Apart A dp)(_:o≠dp)(_:H l=some (.lst us))(_:Paired (mU K H) us (gu (.lay pc pre a st)))(_:BJ (.lay pc pre a st))(_:pc∈(ps.take (n+1)).map (·.1))(_:alv ps)(_:k+n+1<=30)(_:Sz (1000*k+1) c.1)(_:Sz (1000*k+1) c.2)(_:x.length<=24*k)(_:gU (jx ps n (rowsOf ps pc)) x c (marks pre a st) g own (WE K CG CF CL A la ld o (.ref dp) sv x c d0 (24*(n+2)) H Q) (u9 CP CN CB CO CT (KO A o H) H E))
theorem afB {st:τ}(ok:BJ (.lay pc pre a st)):∀m∈marks pre a st,m.1.length<=23/\Sz 900 m.2.1/\Sz 900 m.2.2:=by
 obtain ⟨_,Yu,ok1,ok2,oks⟩:=ok;have lp:=Yu.len;cases st with
 | none=>
  intro m hm;rw [aaT.mp hm];exact ⟨by show pre.length<=23;omega,(fv ok1).up (by decide),(fv ok2).up (by decide)⟩
 | some z=>
  obtain ⟨k,s⟩:=z;obtain ⟨_,k60,o1,o2⟩:=oks k s rfl;intro m hm;obtain ⟨i,hi,rfl⟩:=ac3.mp hm;rw [ahG] at hi;have lt:=gj (n:=(i:Int)) (k:=2) (by decide) (by show i<100;omega)
  have si:Sz 6 ((i:Nat):Rat):=by
   rw [<-aj6];exact HM (k:=6) (by show i<64;omega) (by decide)
  refine ⟨?_,((fv ok1).add (si.mul (fv o1))).up (by decide),((fv ok2).add (si.mul (fv o2))).up (by decide)⟩;show (pre++tx (i:Int)).length<=23;rw [cK,cps_append,aae,<-cK,<-cK];omega
theorem dO:aC zaC zaf (aa d4):=sq
theorem IS (hlv:37<=lv)(D:Def K mg "lay_piece" d4 zaf)(gc:GrC K CG)(lc:LyC K CL)(jW:Fn P w K mg base (aT P w) 35 "pair_sum" zag (yD K fun a b=>a+b))(oC:Fn P w K mg base (aT P w) 36 "prefixes_and_spots" ["row"] (aaH K))
  (MF:bH P w K mg base (aT P w) 1 CL "full_name" zal (qX K CL)) (MP:bH P w K mg base (aT P w) 4 CL "name_pin" zaJ (jV K CL CP)) (ra:Fn P w K mg base (aT P w) lv "lay_rows" zan (iR K CG CF CL CP CN CB CO CT n)):
  Fn P w K mg base (aT P w) (lv+1) "lay_piece" zaf (jY K CG CF CL CP CN CB CO CT n):=by
 refine D.ZA dO (fun vs H Q E h=>?_) (fun f cdv A outer s H vs Q E hr h=>?_)
 ·obtain ⟨A',la,ld,o,l,dp,ls,sv,x,c,d0,k,g,own,ps,us,pc,pre,a,st,rfl,_⟩:=h
  rfl
 have px:Passes (aT P w) (hZ P w K mg base zaC "lay_piece" (aa d4) f cdv A outer s H E) E:=fZ;obtain ⟨A',la,ld,o,l,dp,ls,sv,x,c,d0,k,g,own,ps,us,pc,pre,a,st,rfl,hL,hP,ap,odp,hl,pu,ok,wB,pok,kn,z1,z2,lx,q⟩:=h;obtain ⟨u3,u4,ur,eu,_⟩:=OK pu;have i1:ng us 1=some (.str pc):=by rw [eu];exact ar (j:=1) rfl
 obtain ⟨i,p,hi,ei,ep,er⟩:=aaI pok.nd wB;have il:=(Wp.mp ei).1;have eil:ls[i]?=some (ls[i]'(by rw [hP.len];exact il)):=gE _;generalize ls[i]'(by rw [hP.len];exact il)=lP at eil;have mok:=afB ok;have lx1:x.length<=1000:=by omega
 refine ⟨_,(ae (dU acE rfl (cJ (bK oC (hr.mono (by omega)) px (aE (pv 2)))) (mv rfl (cb (hU (i:=3) dO.nd) (cb (hU (i:=4) dO.nd) jB))) (ag (aR (i:=5) dO.nd (bK jW (hr.mono (by omega)) px (aU (bo (pv 1) rfl) (pv 4)))) (ag (aR (i:=6) dO.nd (bK ra (hr.mono (by omega)) px (nV (pv 0) (gO (bL (bB hr) (bo (pv 0) rfl) (cT (pv 2)) (fun _ _=>rfl)) (cN (k:=1) (pv 1) (hr.mono (by omega)) px (aE (pv 3))) (pv 5))))) (ae (UO (dU acE rfl (yx (bo (pv 6) rfl)) (mv rfl (cb (hU (i:=7) dO.nd) (cb (hU (i:=8) dO.nd) jB))) (ae (bg (cN (k:=4) (pv 1) (hr.mono (by omega)) px (aU (aD bx (pv 3) (pv 7)) (pv 8)))))))))))),?_⟩
 refine ⟨_,rfl,l,us,pc,pre,a,st,rfl,hl,pu,ok,fun lm ms H1 s1 nlm elm pm=>?_⟩;have L1:=hL.same s1;have P1:PcR K H1 dp ls ps:=hP.keep (s1 _ _ hP.fE) (fun b xs e=>s1 _ _ e) (.of s1);have WD:=s1 _ _ hl;have lmm:ms.length=(marks pre a st).length:=abK pm
 refine ⟨lm,rfl,⟨_,aZ.of elm⟩,eG (K:=K) (a:=lm) (xs:=ms) (fun j σ H'=>Ex8 fun (o3 o4 o5 o6 o7 o8:ω) (g1:Gd) (bz:Own)=>σ=[some (.ref A'.ga),some (.ref la),some (.ref l),o3,o4,o5,o6,o7,o8]/\KO A' o H1 H'/\uA K H' CG CF CL A' la ld o (.ref dp) sv x c d0 (24*(n+2)) g1 bz/\gU (jx ps n (rowsOf ps pc)) x c ((marks pre a st).drop j) g1 bz (WE K CG CF CL A' la ld o (.ref dp) sv x c d0 (24*(n+2)) H Q) (u9 CP CN CB CO CT (KO A' o H) H E)) ⟨none,none,none,none,none,none,g,own,rfl,.of (au.refl _),L1,q⟩ (fun j σ H' _ h=>by
   obtain ⟨_,_,_,_,_,_,_,_,_,h,_⟩:=h
   exact aZ.of (L1.lst h elm)) ?_ ?_⟩
 ·rintro j v σ H2 ej ⟨o3,o4,o5,o6,o7,o8,g1,bz,rfl,k2,L2,q2⟩
  obtain ⟨m,em,t,ua,rfl,ht,hua⟩:=aY pm ej;have jl:=(Wp.mp em).1
  have ed:(marks pre a st).drop j=m::(marks pre a st).drop (j+1):=by
   rw [aeD jl];rw [gE jl] at em;rw [aaQ em]
  rw [ed] at q2;obtain ⟨ml,mz1,mz2⟩:=mok m (aaP em);have t12:bf H1 H2:=L1.gr.aQ L1.jy k2;have dp2:H2 dp=some (.dK (cU ps ls)):=k2 _ _ ap.o1 ap.o2 ap.o3 (fun z=>by have e:=L1.gr.qf;rw [<-z,P1.fE] at e;cases e) (ac2 odp) P1.fE;have P2:=P1.keep dp2 (fun b xs e=>L1.lst k2 e) t12;have hl2:=L1.lst k2 WD;refine ⟨t,_,rfl,t12.cy ht,rfl,_,_,rfl,_,_,rfl,rfl,?_⟩;have sz1:Sz 100000 c.1:=z1.up (by omega);have sz2:Sz 100000 c.2:=z2.up (by omega);refine ⟨_,rfl,la,CL,ld,_,_,rfl,L2.oB,lc.cls,lc.st,ap8,_,rfl,sv,ua,c,m.2,rfl,L2.Yw,hua.aQ t12,sz1,sz2,mz1.up (by decide),mz2.up (by decide),fun v3 H3 s3 h3=>?_⟩;have L3:=L2.same s3;have P3:PcR K H3 dp ls ps:=P2.keep (s3 _ _ P2.fE) (fun b xs e=>s3 _ _ e) (.of s3);have WG:=s3 _ _ hl2;have dv:fb (cU ps ls) (.inr pc)=some (.ref lP):=by rw [<-ep];exact IH pok.nd eil ei
  obtain ⟨ys,hy,pys⟩:=P3.bj i lP p eil ei;refine ⟨_,rfl,_,rfl,A'.ga,CG,A'.gd,_,_,rfl,L3.gr.qf,gc.cls,gc.pi,ayf,_,rfl,l,_,_,_,rfl,rfl,aZ.of WG,i1,dp,.ref lP,rfl,(by rw [<-dv];exact dC.k (k:=.inr pc) P3.fE),_,rfl,la,CL,ld,_,_,_,rfl,L3.oB,rfl,MF,_,rfl,la,ld,o,x,m.1,sv,rfl,L3.oB,lx1,(by omega),_,rfl,?_⟩;have s13:KO A' o H1 H3:=k2.trans (.of s3);have jm:KO A' o H H3:=(KO.of s1).trans s13;have nb3:NB H H3:=L3.nb jm;have z1':Sz (1000*(k+1)+1) (nF c m.2).1:=(z1.add mz1).up (by omega);have z2':Sz (1000*(k+1)+1) (nF c m.2).2:=(z2.add mz2).up (by omega)
  have lx':(x++m.1).length<=24*(k+1):=by
   rw [cK,cps_append,aae,<-cK,<-cK];omega
  refine ⟨A',lP,dp,ls,v3,x++m.1,nF c m.2,k+1,g1,ps,rowsOf ps pc,ys,rfl,L3.gr,P3,ap,h3,hy,(by rw [er];exact pys),(by rw [er];exact pok.ok p (aaP ei)),pok,(by rw [er];exact uY (pok.lay i p ei) (by omega)),by omega,z1',z2',lx',g9 ps n (rowsOf ps pc) _ _ _ _ _ _ _ (fun g2 below q4 lb lbd ob H4 k4 nlb U9 L4=>?_) (fun e he=>xx (fun H' kk=>jm.trans (KP.ko kk)) nb3 he) q2⟩;have k14:KO A' o H1 H4:=s13.trans (KP.ko k4);have no4:ob≠o:=fun z=>by rw [z,L3.jy] at U9;cases U9
  have LL4:uA K H4 CG CF CL A' la ld o (.ref dp) sv x c d0 (24*(n+2)) g2 bz:=by
   have hn:∀{b:abj} {ob':HO},H3 b=some ob' ->(∀kvs,ob'≠.dK kvs)->(∀d fs,ob'≠.ins CG d fs)->H4 b=some ob':=fun {b ob'} e h1 h2=>by
    obtain ⟨a1,a2,a3,a4⟩:=L3.gr.off e h1 h2;exact k4 _ _ a1 a2 a3 a4 e
   refine ⟨L4.gr,?_,L3.Yw.aQ (L3.gr.OF k4),?_,L3.ap,L3.gl,?_,L3.len⟩
   ·obtain ⟨_,_,_,R3,_⟩:=L3.gr.fr
    exact k4 _ _ (fun z=>by have e:=L3.oB;rw [z,R3.pl] at e;cases e) (fun z=>by have e:=L3.oB;rw [z,R3.wy] at e;cases e) (fun z=>by have e:=L3.oB;rw [z,R3.br] at e;cases e) (ac2 L3.gl) L3.oB
   ·exact k4 _ _ L3.ap.o1 L3.ap.o2 L3.ap.o3 (fun z=>by have e:=L3.jy;rw [z,L3.gr.qf] at e;cases e) L3.jy
   ·have a1:=L3.fit
    have a2:=L4.fit;omega
  have ayl:bz.length+d0+below.length<=g2.done:=by
   have a1:=L3.fit;have a2:=L4.fit;omega
  refine ⟨_,rfl,lb,CL,lbd,_,_,rfl,L4.oB,lc.cls,lc.ow,aaE,ob,_,rfl,L4.jy,fun oo=>?_⟩;have eob:H4 ob=some (.dK (bq below)):=L4.jy;have LL5:=LL4.other (ob':=.iT oo (.dK (bq below))) eob (fun _ z=>nomatch z) (fun _ z=>nomatch z) (fun _ _ z=>nomatch z) (fun _ _ _ z=>nomatch z) L4.ap no4;have alw:H1 ob=none:=L3.nb s13 ob U9;have k15:KO A' o H1 (upd H4 ob (.iT oo (.dK (bq below)))):=fun b o' n1 n2 n3 n4 n5 e=>by rw [ah (aj e alw)];exact k14 b o' n1 n2 n3 n4 n5 e
  have e5:(upd H4 ob (.iT oo (.dK (bq below)))) ob=some (.iT oo (.dK (bq below))):=ai;generalize upd H4 ob (.iT oo (.dK (bq below)))=H5 at LL5 k15 e5 ⊢
  refine uN (d:=ob) (o:=oo) (kvs:=bq below) (fun t σ H'=>Ex3 fun (o7 o8:ω) (cP:Own)=>σ=[some (.ref A'.ga),some (.ref la),some (.ref l),some (.str m.1),some ua,some v3,some (.ref lb),o7,o8]/\KO A' o H1 H'/\H' ob=some (.iT oo (.dK (bq below)))/\uA K H' CG CF CL A' la ld o (.ref dp) sv x c d0 (24*(n+2)) g2 cP/\cP.length=bz.length+t/\d9 x m.1 (below.drop t) cP (fun aym=>gU (jx ps n (rowsOf ps pc)) x c ((marks pre a st).drop (j+1)) g2 aym (WE K CG CF CL A' la ld o (.ref dp) sv x c d0 (24*(n+2)) H Q) (u9 CP CN CB CO CT (KO A' o H) H E)) (u9 CP CN CB CO CT (KO A' o H) H E)) ⟨_,_,bz,rfl,k15,e5,LL5,rfl,q4⟩ (fun t σ H' _ h=>by
    obtain ⟨_,_,_,_,_,h,_⟩:=h
    exact h) ?_ ?_
  ·rintro t k7 y σ H6 p7 ekv ⟨o7,o8,cP,rfl,k6,e6,L6,l6,q6⟩ n7
   unfold bq at ekv;rw [aaU] at ekv;obtain ⟨z,ez,ekz⟩:=ab_.mp ekv;obtain ⟨rfl,rfl⟩:=ang ekz;have tl:=(Wp.mp ez).1
   have edz:below.drop t=z::below.drop (t+1):=by
    rw [aeD tl];rw [gE tl] at ez;rw [aaQ ez]
   rw [edz] at q6;unfold d9 at q6;have lz:=L4.len z (aaP ez);have s7:=a_ n7 (.tup [kV (.inr z.1),.str z.2]);have et7:(upd H6 p7 (.tup [kV (.inr z.1),.str z.2])) p7=some (.tup [kV (.inr z.1),.str z.2]):=ai;have L7:=L6.same s7;have e7:=s7 _ _ e6;have k7':KO A' o H1 (upd H6 p7 (.tup [kV (.inr z.1),.str z.2])):=k6.trans (.of s7);generalize upd H6 p7 (.tup [kV (.inr z.1),.str z.2])=H7 at s7 et7 L7 e7 k7' ⊢;refine ⟨p7,_,rfl,dG.of et7,rfl,_,_,rfl,_,_,rfl,rfl,?_⟩;have lmz:(m.1++z.1).length=m.1.length+z.1.length:=by rw [cK,cps_append,aae,<-cK,<-cK]
   refine ⟨_,rfl,la,CL,ld,_,_,_,rfl,L7.oB,rfl,MP,_,rfl,_,rfl,m.1,z.1,rfl,rfl,aah (show m.1.length+z.1.length<=1000 by omega) (by decide),_,rfl,?_⟩;refine ⟨la,ld,o,x,m.1++z.1,z.2,sv,cP,rfl,L7.oB,L7.jy,lx1,by omega,(by have:=L7.gr.ld;have:=L7.fit;omega),fun ht=>?_,fun ht=>?_⟩
   ·rw [abv ht] at q6
    have k07:KO A' o H H7:=(KO.of s1).trans k7';exact fun d H' sH nd hd=>q6 d H' (k07.trans (.of sH)) (L7.nb k07 d nd) hd
   ·rw [abp ht] at q6
    obtain ⟨L8,k8⟩:=L7.name (y:=m.1++z.1) (z:=z.2) (by have:=ayl;have:t<below.length:=tl;omega) (by omega);refine ⟨_,_,_,rfl,k7'.trans k8,?_,L8,?_,q6⟩
    ·rw [ah no4]
     exact e7
    ·rw [aae,ac0,l6]
     omega
  ·rintro σ H6 ⟨o7,o8,cP,rfl,k6,e6,L6,l6,q6⟩
   have lk:(bq below).length=below.length:=by unfold bq;rw [ir]
   rw [lk,afF] at q6;refine ⟨ob,oo,bq below,e6,fun o' u' z=>(by have z':H ob=some (.iT o' u'):=z;rw [aO s1 alw] at z';cases z'),?_⟩;have L8:=L6.other (ob':=.dK (bq below)) e6 (fun _ z=>nomatch z) (fun _ z=>nomatch z) (fun _ _ z=>nomatch z) (fun _ _ _ z=>nomatch z) L4.ap no4;exact ⟨_,_,_,_,_,_,g2,cP,rfl,fun b o' n1 n2 n3 n4 n5 e=>by rw [ah (aj e alw)];exact k6 b o' n1 n2 n3 n4 n5 e,L8,q6⟩
 ·rintro σ H2 ⟨o3,o4,o5,o6,o7,o8,g1,bz,rfl,k2,L2,q2⟩
  rw [lmm,afF] at q2;exact q2 H2 ((KO.of s1).trans k2) L2
theorem aaJ {us:ε}(p:Paired (mU K H) us (gu r)):ng us 0=some (.str (FK (.row r))):=IG (sg:=.row r) p
theorem oE:aC zaR zan (aa gQ):=sq
theorem ON (hlv:37<=lv)(D:Def K mg "lay_rows" gQ zan)(y_:Mk K CL fL)(za:mg "Laying"=some (.ref CL))(BP:bT P w K mg base (aT P w) 1 fL fdL zaL (yU K CL))(lA:Binds K fdL zaL [])
  (MC:bH P w K mg base (aT P w) 3 CG "count_row" zam (ti K CG CT)) (WH:Fn P w K mg base (aT P w) 37 "lay_pin" zaf (y4 K CG CF CL CP CN CB CO CT)) (WI:Fn P w K mg base (aT P w) 37 "lay_bar" zaf (y8 K CG CF CL CP CN CB CO CT))
  (OO:Fn P w K mg base (aT P w) lv "lay_piece" zaf spP) (hP:∀m,n=m+1->∀vs H Q E,jY K CG CF CL CP CN CB CO CT m vs H Q E->spP vs H Q E):
  Fn P w K mg base (aT P w) (lv+1) "lay_rows" zan (iR K CG CF CL CP CN CB CO CT n):=by
 refine D.ZA oE (fun vs H Q E h=>?_) (fun f cdv A outer s H vs Q E hr h=>?_)
 ·obtain ⟨A',rA,dp,ls,sv,x,c,k,g,ps,rows,Yx,rfl,_⟩:=h
  rfl
 have px:Passes (aT P w) (hZ P w K mg base zaR "lay_rows" (aa gQ) f cdv A outer s H E) E:=fZ;obtain ⟨A',rA,dp,ls,sv,x,c,k,g,ps,rows,Yx,rfl,G0,P0,ap,Yw,hrA,pr,rok,pok,lay,kn,z1,z2,lx,q⟩:=h;have lr:Yx.length=rows.length:=abK pr
 refine ⟨_,(ag (aR (i:=4) oE.nd (GH y_ BP (hr.mono (by omega)) rfl za lA .nil px (aU (pv 2) (pv 3)))) (ag (dU acE rfl (cJ (pv 1)) (hU (i:=5) oE.nd) (ag (bg (sI (k:=3) (pv 0) (hr.mono (by omega)) px)) (ae (aS (aL cn (cT (pv 5)) aw) (ae (bg (bK WH (hr.mono (by omega)) px (gO (pv 0) (pv 4) (pv 5))))) (ae (aS (aL cn (cT (pv 5)) aw) (ae (bg (bK WI (hr.mono (by omega)) px (gO (pv 0) (pv 4) (pv 5))))) (ae (bg (bK OO (hr.mono (by omega)) px (gO (pv 0) (pv 4) (pv 5))))))))))) (ae (aH (pv 4))))),?_⟩
 refine ⟨_,rfl,_,rfl,?_⟩;intro la ld nla nld nel;have sL:au H (upd (upd H ld (.own la)) la (.ins CL ld [])):=fun b o e=>by rw [ah (aj e nla),ah (aj e nld)];exact e
 refine ⟨la,ld,x,sv,rfl,ai,fun o H1 k1 no ayp ho1=>⟨rfl,?_⟩⟩;have no:=aO sL no;have s1:au H H1:=fun b o e=>k1 b o (aj e nla) (sL _ _ e);obtain ⟨kP,kW,kB,R0,W0⟩:=G0.fr;have L1:uA K H1 CG CF CL A' la ld o (.ref dp) sv x c g.done (24*(n+1)) g []:=⟨G0.same s1,ayp,Yw.same s1,ho1,⟨fun z=>(by rw [z,R0.pl] at no;cases no),fun z=>(by rw [z,R0.wy] at no;cases no),fun z=>(by rw [z,R0.br] at no;cases no)⟩,aj G0.qf nla,(by show 0+g.done<=g.done;omega),(fun _ h=>nomatch h)⟩
 let R8 :Str->Str->Rat×Rat->Gd->GO->(fQ->Prop)->Prop:=match n with
  | 0=>fun _ _ _ _ _ E=>E .many
  | m+1=>fun pc x c g Q E=>jx ps m (rowsOf ps pc) x c g Q E
 have alx:∀Q' E',jx ps n rows x c g Q' E'=gF R8 x c rows g [] Q' E':=fun Q' E'=>by
  cases n with
  | zero=>rfl
  | succ m=>rfl
 rw [alx] at q;have kko:∀{H2 H':Hp},KP A' H H2->KO A' o H2 H' ->KP A' H H':=fun {H2 H'} a b c' o' n1 n2 n3 n4 e=>b c' o' n1 n2 n3 n4 (aj e no) (a c' o' n1 n2 n3 n4 e);have odp:o≠dp:=fun z=>by rw [z,P0.fE] at no;cases no
 refine ⟨_,rfl,rA,rfl,⟨_,aZ.of (s1 _ _ hrA)⟩,eG (K:=K) (a:=rA) (xs:=Yx) (fun i σ H'=>Ex3 fun (o5:ω) (g1:Gd) (bz:Own)=>σ=[some (.ref A'.ga),some (.ref rA),some (.str x),some sv,some (.ref la),o5]/\KP A' H H'/\uA K H' CG CF CL A' la ld o (.ref dp) sv x c g.done (24*(n+1)) g1 bz/\gF R8 x c (rows.drop i) g1 bz (fun g1 bz=>∀(la ld o:abj)(H':Hp),KP A' H H' ->H la=none->H o=none->uA K H' CG CF CL A' la ld o (.ref dp) sv x c g.done (24*(n+1)) g1 bz->Q (.ref la) H') (u9 CP CN CB CO CT (KP A' H) H E)) ⟨none,g,[],rfl,.of s1,L1,q⟩ (fun i σ H' _ h=>by
   obtain ⟨_,_,_,_,h,_⟩:=h
   exact aZ.of (G0.lst h hrA)) ?_ ?_⟩
 ·rintro i u σ H2 ei ⟨o5,g1,bz,rfl,k2,L2,q2⟩
  obtain ⟨r,er,l,us,rfl,_,hl,pu⟩:=aY pr ei;have jl:=(Wp.mp er).1;have mr:r∈rows:=aaP er
  have ed:rows.drop i=r::rows.drop (i+1):=by
   rw [aeD jl];rw [gE jl] at er;rw [aaQ er]
  rw [ed] at q2;unfold gF at q2;have t2:=G0.OF k2;refine ⟨_,rfl,A'.ga,CG,A'.gd,_,_,_,rfl,L2.gr.qf,rfl,MC,A'.ga,A'.gd,A'.fr,.ref dp,(g1.done:Int),rfl,L2.gr.qf,fun c5=>?_,fun c5=>?_⟩
  ·rw [abv (by omega)] at q2
   exact q2 H2 k2
  rw [abp (by omega)] at q2;obtain ⟨L3,kc⟩:=L2.count (by omega);have k3:=k2.trans kc;generalize upd H2 A'.ga (.ins CG A'.gd (RU A'.fr (.ref dp) ((g1.done:Int)+1)))=H3 at L3 kc k3 ⊢;have t3:=G0.OF k3;have WG:=G0.lst k3 hl;have pu3:Paired (mU K H3) us (gu r):=Paired.bJ pu fun _ _ z=>z.aQ t3;have i0:=aaJ pu;obtain ⟨okr,okh⟩:=rok r mr;have lxx:x.length<=1000:=by omega
  have eup:∀e,u9 CP CN CB CO CT (KP A' H) H E e->u9 CP CN CB CO CT (KO A' o H3) H3 E e:=fun e he=>xx (fun H' kk=>kko k3 kk) (L3.gr.nb k3) he;have L3g:bz.length+g.done<=g1.done:=L2.fit;refine ⟨_,rfl,l,_,_,_,rfl,rfl,aZ.of WG,i0,rfl,_,rfl,?_⟩;cases r with
  | pin p=>
   refine aK (fun _=>?_) (fun c=>abo (abu rfl) c);exact ⟨_,rfl,_,rfl,_,rfl,A',la,ld,o,l,.ref dp,sv,x,c,g.done,24*(n+1),{g1 with done:=g1.done+1},bz,us,p,rfl,L3,(by show bz.length+1+g.done<=g1.done+1;omega),by omega,WG,pu3,okr,okh p rfl,lxx,z1.up (by omega),z2.up (by omega),u_ (fun g2 cP z H' kk LL=>⟨_,g2,cP,rfl,kko k3 kk,LL,z⟩) eup q2⟩
  | bar nm one other=>
   refine aK (fun c=>abo (abn c) (ne_str (by decide+kernel:("bar":Str)≠ "pin"))) (fun _=>?_);refine ⟨_,rfl,l,_,_,_,rfl,rfl,aZ.of WG,i0,rfl,_,rfl,aK (fun _=>?_) (fun c=>abo (abu rfl) c)⟩;exact ⟨_,rfl,_,rfl,_,rfl,A',la,ld,o,l,.ref dp,sv,x,c,g.done,24*(n+1),{g1 with done:=g1.done+1},bz,us,nm,one,other,rfl,L3,WG,pu3,okr,lxx,vc (fun g2 cP z H' kk LL=>⟨_,g2,cP,rfl,kko k3 kk,LL,z⟩) eup q2⟩
  | lay pc pre a st=>
   refine aK (fun c=>abo (abn c) (ne_str (by decide+kernel:("lay":Str)≠ "pin"))) (fun _=>?_);refine ⟨_,rfl,l,_,_,_,rfl,rfl,aZ.of WG,i0,rfl,_,rfl,aK (fun c=>abo (abn c) (ne_str (by decide+kernel:("lay":Str)≠ "bar"))) (fun _=>?_)⟩;have wB:=lay pc pre a st mr;cases n with
   | zero=>cases wB
   | succ m=>
    have d3:H3 dp=some (.dK (cU ps ls)):=k3 _ _ ap.o1 ap.o2 ap.o3 (fun z=>by have e:=G0.qf;rw [<-z,P0.fE] at e;cases e) P0.fE;have P3:=P0.keep d3 (fun b xs e=>G0.lst k3 e) t3;refine ⟨_,rfl,_,rfl,_,rfl,hP m rfl _ _ _ _ ⟨A',la,ld,o,l,dp,ls,sv,x,c,g.done,k,{g1 with done:=g1.done+1},bz,ps,us,pc,pre,a,st,rfl,L3,P3,ap,odp,WG,pu3,okr,wB,pok,by omega,z1,z2,lx,?_⟩⟩;exact kI (g9 ps m (rowsOf ps pc)) (fun g2 cP z H' kk LL=>⟨_,g2,cP,rfl,kko k3 kk,LL,z⟩) eup _ _ _ q2
 ·rintro σ H2 ⟨o5,g1,bz,rfl,k2,L2,q2⟩
  rw [lr,afF] at q2;exact ⟨_,rfl,q2 la ld o H2 k2 nla no L2⟩
theorem U_ (DP:Def K mg "lay_piece" d4 zaf)
  (zero:∀{lv:Nat} {spP:Sp} {n:Nat},37<=lv->Fn P w K mg base (aT P w) lv "lay_piece" zaf spP->(∀m,n=m+1->∀vs H Q E,jY K CG CF CL CP CN CB CO CT m vs H Q E->spP vs H Q E)->Fn P w K mg base (aT P w) (lv+1) "lay_rows" zan (iR K CG CF CL CP CN CB CO CT n))
  (step:∀{lv n:Nat},37<=lv->Fn P w K mg base (aT P w) lv "lay_rows" zan (iR K CG CF CL CP CN CB CO CT n)->Fn P w K mg base (aT P w) (lv+1) "lay_piece" zaf (jY K CG CF CL CP CN CB CO CT n)):
  ∀n,Fn P w K mg base (aT P w) (38+2*n) "lay_rows" zan (iR K CG CF CL CP CN CB CO CT n)
 | 0=>zero (lv:=37) (spP:=fun _ _ _ _=>False) (aaM _) (DP.ZA dO (fun _ _ _ _ h=>h.elim) (fun _ _ _ _ _ _ _ _ _ _ h=>h.elim)) (fun _ z=>nomatch z)
 | n+1=>zero (lv:=38+2*n+1) (by omega) (step (by omega) (U_ DP zero step n)) (fun m e vs H Q E h=>by cases e;exact h)
structure FrG (K:Frag)(H:Hp)(CF a:abj)(g:Gd):Prop where
 ex:∃BO pP pW pB kP kW kB,jr K H CF a BO pP pW pB (psF g) g.b8 kP kW kB/\WyR K H (pwF g) kW
 nd:(g.pins.map (·.nm)).Nodup
 lp:g.pins.length<=24
 lb:g.b8.length<=60
theorem FrG.same (h:FrG K H CF a g)(s:au H H'):FrG K H' CF a g:=by
 obtain ⟨BO,pP,pW,pB,kP,kW,kB,R,W⟩:=h.ex;exact {h with ex:=⟨BO,pP,pW,pB,kP,kW,kB,R.same s,W.same s⟩}
def aaK (K:Frag)(CF CP CN CB CO CT:abj)(ps:ν)(rows:Α)(H:Hp)(Q:VK)(E:XK):Prop:=jx ps 13 rows "" (0,0) ⟨[],[],0⟩ (fun g1 _=>∀a H',au H H' ->FrG K H' CF a g1->Q (.ref a) H') (u9 CP CN CB CO CT (au H) H E)
inductive R9 (K:Frag)(CF CP CN CB CO CT:abj)(vs:ε)(H:Hp)(Q:VK)(E:XK):Prop
|mk (rA dp:abj)(ls:ξ)(ps:ν)(rows:Α)(Yx:ε)(_:vs=[.ref rA,.ref dp])(_:PcR K H dp ls ps)(_:H rA=some (.lst Yx))(_:Paired (RowC K H []) Yx rows)(_:RZ rows)(_:alv ps)(_:qU ps 13 rows)(_:aaK K CF CP CN CB CO CT ps rows H Q E)
theorem FP (h:1<=k):Sz k (0:Rat):=by
 have z:Sz 1 (0:Rat):=⟨by rw [eZ];decide,by rw [eZ];decide⟩;exact z.up h
theorem qg:aC ["rows","pieces","ground"] za3 (aa d8):=sq
theorem BQ (D:Def K mg "laid_frame" d8 za3)(gc:GrC K CG)(zb:Mk K CG fG)(zc:mg "Ground"=some (.ref CG))(BR:bT P w K mg base (aT P w) 3 fG fdG zaV (IJ K CG CF))(lB:Binds K fdG zaV [])
  (aly:mg "NO_MOVE"=some (.ref aM)) (hM':∀H,og K H (.ref aM) (0,0)) (ra:Fn P w K mg base (aT P w) 64 "lay_rows" zan (iR K CG CF CL CP CN CB CO CT 13)):
  Fn P w K mg base (aT P w) 65 "laid_frame" za3 (R9 K CF CP CN CB CO CT):=by
 refine D.ZA qg (fun vs H Q E h=>?_) (fun f cdv A outer s H vs Q E hr h=>?_)
 ·obtain ⟨rA,dp,ls,ps,rows,Yx,rfl,_⟩:=h
  rfl
 have px:Passes (aT P w) (hZ P w K mg base ["rows","pieces","ground"] "laid_frame" (aa d8) f cdv A outer s H E) E:=fZ;obtain ⟨rA,dp,ls,ps,rows,Yx,rfl,hP,hrA,pr,rok,pok,lay,q⟩:=h
 refine ⟨_,(ag (aR (i:=2) qg.nd (GH zb BR hr.mo rfl zc lB .nil px (aE (pv 1)))) (ag (bg (bK ra hr.mo px (nV (pv 2) (gO (pv 0) aw (fh (v:=.ref aM) rfl aly rfl))))) (ae (aH (bo (pv 2) rfl))))),?_⟩
 refine ⟨_,rfl,?_⟩;intro ga gd nga ngd neg;have sG:au H (upd (upd H gd (.own ga)) ga (.ins CG gd [])):=fun b o e=>by rw [ah (aj e nga),ah (aj e ngd)];exact e
 refine ⟨ga,gd,.ref dp,rfl,ai,fun fr BO pP pW pB H1 k1 nf nP nW nB R1 hg1=>⟨rfl,?_⟩⟩;have nf:=aO sG nf;have nP:=aO sG nP;have nW:=aO sG nW;have nB:=aO sG nB;have s1:au H H1:=fun b o e=>k1 b o (aj e nga) (sG _ _ e);have kp:∀{H'},KP ⟨ga,gd,fr,BO,pP,pW,pB⟩ H1 H' ->au H H':=fun {H'} k b o e=>k b o (aj e nP) (aj e nW) (aj e nB) (aj e nga) (s1 _ _ e);refine ⟨_,rfl,_,rfl,⟨ga,gd,fr,BO,pP,pW,pB⟩,rA,dp,ls,.ref aM,"",(0,0),0,⟨[],[],0⟩,ps,rows,Yx,rfl,⟨hg1,⟨[],[],[],R1,.nil⟩,alf,by decide,by decide,by decide⟩,hP.keep (s1 _ _ hP.fE) (fun b xs e=>s1 _ _ e) (.of s1),⟨aj hP.fE nP,aj hP.fE nW,aj hP.fE nB⟩,hM' H1,s1 _ _ hrA,Paired.bJ pr fun _ _ z=>z.keep (fun b xs e=>s1 _ _ e) (.of s1),rok,pok,lay,by decide,FP (by decide),FP (by decide),by decide+kernel,g9 ps 13 rows _ _ _ _ _ _ _ (fun g1 bz z la ld o H2 k2 _ _ L2=>?_) (fun e he=>xx (fun H' k=>kp k) (.of s1) he) q⟩;obtain ⟨kP,kW,kB,R2,W2⟩:=L2.gr.fr;exact ⟨_,rfl,ga,CG,gd,_,_,rfl,L2.gr.qf,gc.cls,gc.fr,afr,z fr H2 (kp k2) ⟨⟨_,_,_,_,kP,kW,kB,R2,W2⟩,L2.gr.nd,L2.gr.lp,L2.gr.lb⟩⟩
noncomputable def jZ (x:Str):List Str:=if x="" then [] else ab6 x "\n"
structure U' (R:Str->Option Sg)(x:Str):Prop where
 len:x.length+2<=abl
 ws:(ab6 x " ").length<=1000
 tk:∀w∈ab6 x " ",Ys w
 rd:dB cZ (ab6 x " ")=(R x).map d_
 ok:∀sg,R x=some sg->N' sg
def Va (K:Frag)(CF CP CN CB CO CT CX:abj):Sp:=fun vs H Q E=>(∃(x:Str)(R:Str->Option Sg),vs=[.str x]/\x.length+2<=abl/\(jZ x).length<=900/\(∀r∈jZ x,U' R r)/\d5 R (jZ x) 0 ⟨[],[],none⟩ (fun sh=>sh.pieces.length<=13/\aaK K CF CP CN CB CO CT sh.pieces sh.outside H Q E) (fun k=>cj H E CX "at" (.int (k:Int))))\/
 (∃u:V,vs=[u]/\s_ H u/\cj H E CX "at" (.int 0))
structure ShL (sh:Sh)(m:Nat):Prop where
 o:sh.outside.length<=m
 p:sh.pieces.length<=m
 r:∀p∈sh.pieces,p.2.length<=m
theorem aaL (h:ShL sh m)(sg:Sg):ShL (iB sh sg) (m+1):=by
 have ho:=h.o;have hp:=h.p;have hr:∀p∈sh.pieces,p.2.length<=m+1:=fun p hp=>ae_ (h.r p hp);cases sg with
 | ik n=>
  refine ⟨ae_ ho,?_,fun p hp=>?_⟩
  ·show (sh.pieces++[(n,[])]).length<=m+1
   rw [aae,ac0];omega
  ·rcases abh.mp hp with z|z
   ·exact hr p z
   ·rw [aaT.mp z]
    exact aer _
 | fin=>exact ⟨ae_ ho,ae_ hp,hr⟩
 | row r=>
  cases c:sh.cur with
  | none=>
   have ek:iB sh (.row r)={sh with outside:=sh.outside++[r]}:=by simp only [iB,c]
   rw [ek];refine ⟨?_,ae_ hp,hr⟩;show (sh.outside++[r]).length<=m+1;rw [aae,ac0];omega
  | some n=>
   have ek:iB sh (.row r)={sh with pieces:=cO sh.pieces n r}:=by simp only [iB,c]
   rw [ek];refine ⟨ae_ ho,?_,fun p hp=>?_⟩
   ·show (cO sh.pieces n r).length<=m+1
    unfold cO;rw [ir];omega
   ·obtain ⟨q,hq,rfl⟩:=ac3.mp hp
    have:=h.r q hq;split
    ·show (q.2++[r]).length<=m+1
     rw [aae,ac0];omega
    ·omega
theorem RowC.any (h:RowC K H cs u r):RowC K H [] u r:=by
 obtain ⟨l,us,e,n,hl,p⟩:=h;exact ⟨l,us,e,(fun z=>nomatch z),hl,p⟩
theorem b_:aC zaI zaQ (aa cY):=sq
theorem BS {CS CF CP CN CB CO CT CX fS fX aF:abj}(D:Def K mg "read_frame" cY zaQ)(bM:mg "isinstance"=none)(dA:mg "str"=none)(bF:mg "len"=none)(kJ:mg "enumerate"=none)(sc:ShC K CS)(xA:Mk K CS fS)(xB:mg "Sheet"=some (.ref CS))(tw:bT P w K mg base (aT P w) 1 fS fdS zam (yQ K CS))(jG:Binds K fdS zam [])
  (jg:mg "NoLine"=some (.ref CX)) (jh:qM K CX fX) (e_:bT P w K mg base (aT P w) 1 fX fdX za4 (gk CX "at")) (c8:Binds K fdX za4 [])
  (MS:bH P w K mg base (aT P w) 1 CS "may_stand" zaD (xu K CS)) (MK:bH P w K mg base (aT P w) 1 CS "keep" zaD (II K CS))
  (xC:mg "FORMS"=some (.ref aF)) (hF:∀H,dG K H aF (cZ.map V.str)) (zd:Fn P w K mg base (aT P w) 40 "read_row" za5 (aax K)) (tD:Fn P w K mg base (aT P w) 65 "laid_frame" za3 (R9 K CF CP CN CB CO CT)):
  Fn P w K mg base (aT P w) 66 "read_frame" zaQ (Va K CF CP CN CB CO CT CX):=by
 refine D.ZA b_ (fun vs H Q E h=>?_) (fun f cdv A outer s H vs Q E hr h=>?_)
 ·rcases h with ⟨x,R,rfl,_⟩|⟨u,rfl,_⟩<;>rfl
 have px:Passes (aT P w) (hZ P w K mg base zaI "read_frame" (aa cY) f cdv A outer s H E) E:=fZ;have L1:1<=abl:=by decide
 rcases h with ⟨x,R,rfl,lz,l9,rd,q⟩|⟨u,rfl,hu,qe⟩
 ·have ln:(("\n":Str).length==0)=false:=by decide+kernel
  have tail:∃t,PSs (hZ P w K mg base zaI "read_frame" (aa cY) f cdv A outer s H E) ((aq cY).drop 2) t/\∀(lR:abj)(H1:Hp),au H H1->H1 lR=some (.lst ((jZ x).map V.str))->
    t {nx:=fun _ H'=>Q .bG H',rt:=Q} [some (.str x),some (.ref lR),none,none,none,none] H1:=by
   refine ⟨_,(ag (aR (i:=2) b_.nd (xU xA tw hr.mo rfl xB jG .nil px)) (ag (dU acE rfl (UN rfl kJ (aE (pv 1))) (mv rfl (cb (hU (i:=3) b_.nd) (cb (hU (i:=4) b_.nd) jB))) (ag (aR (i:=5) b_.nd (bK zd hr.mo px (aU (fh (v:=.ref aF) rfl xC rfl) (pv 4)))) (ag (aS (PW.pt (pZ (aL iC (pv 5) bS) (mn (h9 (gi (cN (k:=1) (pv 2) hr.mo px (aE (pv 5)))))))) (ae (df jh e_ hr.mo c8 jg (aE (pv 3)))) aG) (ae (bg (cN (k:=1) (pv 2) hr.mo px (aE (pv 5)))))))) (ag (aS (aL oZ (bo (pv 2) rfl) bS) (ae (df jh e_ hr.mo c8 jg (aE (a8 bh rfl bF fm (aE (pv 1)))))) aG) (ae (aH (bK tD hr.mo px (aU (bo (pv 2) rfl) (bo (pv 2) rfl)))))))),?_⟩
   intro lR H1 s1 eR;intro sa sd nsa nsd nes;have sS:au H1 (upd (upd H1 sd (.own sa)) sa (.ins CS sd [])):=fun b o e=>by rw [ah (aj e nsa),ah (aj e nsd)];exact e
   refine ⟨sa,sd,rfl,ai,fun lo dp H2 k2 nlo ndp ha2 ayw ayx=>⟨rfl,?_⟩⟩;have nlo:=aO sS nlo;have ndp:=aO sS ndp;have s2:au H1 H2:=fun b o e=>k2 b o (aj e nsa) (sS _ _ e);have R2:ShR K H2 CS sa sd lo dp [] ⟨[],[],none⟩:=⟨ha2,by simp,⟨[],ayw,.nil⟩,ayx,rfl,fun i l p e=>by simp at e⟩;generalize jZ x=rows at q rd l9 eR ⊢
   refine ⟨_,rfl,lR,rfl,⟨_,aZ.of (s2 _ _ eR)⟩,Z9 (K:=K) (a:=lR) (xs:=rows.map V.str) (fun i σ H'=>Ex5 fun (o3 o4 o5:ω) (ls:ξ) (sh:Sh)=>σ=[some (.str x),some (.ref lR),some (.ref sa),o3,o4,o5]/\au H1 H'/\ShR K H' CS sa sd lo dp ls sh/\RQ sh/\(∀b∈lo::ls,H1 b=none)/\ShL sh i/\d5 R (rows.drop i) i sh (fun sh=>sh.pieces.length<=13/\aaK K CF CP CN CB CO CT sh.pieces sh.outside H Q E) (fun k=>cj H E CX "at" (.int (k:Int)))) ⟨none,none,none,[],⟨[],[],none⟩,rfl,s2,R2,alc,(fun b hb=>by rw [aaT.mp hb];exact nlo),⟨aaM _,aaM _,(fun p h=>nomatch h)⟩,q⟩ (fun i σ H' _ h=>by
     obtain ⟨_,_,_,_,_,_,h,_⟩:=h
     exact aZ.of (h _ _ eR)) ?_ ?_⟩
   ·rintro i z σ H3 p hi ⟨o3,o4,o5,ls,sh,rfl,s3,R3,so3,n3,l3,q3⟩ np
    rw [aaU] at hi;obtain ⟨y,ey,rfl⟩:=ab_.mp hi;have il:=(Wp.mp ey).1
    have ed:rows.drop i=y::rows.drop (i+1):=by
     rw [aeD il];rw [gE il] at ey;rw [aaQ ey]
    have ry:=rd y (aaP ey);rw [ed] at q3;unfold d5 at q3;have s4:=a_ np (.tup [.int (i:Int),.str y]);have e4:(upd H3 p (.tup [.int (i:Int),.str y])) p=some (.tup [.int (i:Int),.str y]):=ai;generalize upd H3 p (.tup [.int (i:Int),.str y])=H4 at s4 e4 ⊢;refine ⟨p,_,rfl,dG.of e4,rfl,_,_,rfl,_,_,rfl,rfl,?_⟩;have s14:=aJ s3 s4;have BU:=aJ s1 s14;refine ⟨_,rfl,aF,cZ,y,rfl,hF H4,Wz,ry.len,ry.ws,ry.tk,fun no H5 s5=>?_,fun rs ers l us H5 s5 nl el pr=>?_⟩
    ·rw [ry.rd,ahN] at no
     rw [no] at q3;dsimp only at q3;refine ⟨_,rfl,rfl,_,rfl,aK (fun _=>?_) (fun c=>abo (by decide) c)⟩;have y6:=aJ BU s5;exact ⟨_,rfl,L1,cj.go fun d H' sH nd hd=>q3 d H' (aJ y6 sH) (aO y6 nd) hd⟩
    ·rw [ry.rd] at ers
     obtain ⟨sg,esg,rfl⟩:=ab_.mp ers;rw [esg] at q3;dsimp only at q3;have sgk:=ry.ok sg esg;have LQ:=aJ s4 s5;have R5:=R3.same LQ;refine ⟨_,rfl,rfl,_,rfl,aK (fun c=>abo (abn c) (fun z=>nomatch z)) (fun _=>?_)⟩;refine ⟨_,rfl,sa,CS,sd,_,_,_,rfl,R5.obj,rfl,MS,_,rfl,sa,sd,lo,dp,l,ls,sh,us,sg,rfl,R5,el,pr,fun H6 s6=>⟨_,rfl,?_⟩⟩;have s36:=aJ LQ s6;have s16:=aJ s3 s36;have s06:=aJ s1 s16;by_cases st:cI sh sg=true
     ·rw [abv st] at q3
      rw [st];refine aK (fun c=>nomatch c) (fun _=>?_);have R6:=R3.same s36
      have nlL:l∉lo::ls:=fun z=>by
       rw [aa3] at z
       rcases z with z|z
       ·obtain ⟨xs,hx,_⟩:=(R3.same s4).out
        rw [z,hx] at nl;cases nl
       ·obtain ⟨i',Yv⟩:=ade z
        have:=(Wp.mp Yv).1;obtain ⟨ys,hy,_⟩:=(R3.same s4).bj i' l (sh.pieces[i']'(by rw [<-R3.len];exact this)) Yv (gE _);rw [hy] at nl;cases nl
      have a1:=l3.o;have a2:=l3.p;refine ⟨_,rfl,sa,CS,sd,_,_,_,rfl,R6.obj,rfl,MK,_,rfl,sa,sd,lo,dp,l,ls,sh,us,sg,rfl,R6,so3,s6 _ _ el,nlL,Paired.bJ pr fun _ _ z=>z.aQ (.of s6),st,by omega,by omega,(fun p hp=>aah (l3.r p hp) (by omega)),fun H7 ls' k7 nls R7=>?_⟩
      have n7:∀b∈lo::ls',H1 b=none:=fun b hb=>by
       rcases aa3.mp hb with z|z
       ·rw [z]
        exact nlo
       ·rcases nls b z with z|z
        ·exact n3 b (aa2 _ z)
        ·exact aO s16 z
      exact ⟨_,_,_,ls',iB sh sg,rfl,fun b o e=>k7 b o (aj e nsa) (aj e ndp) (fun z=>by rw [n3 b z] at e;cases e) (s16 _ _ e),R7,afl so3 st sgk,n7,aaL l3 sg,q3⟩
     ·rw [abp st] at q3
      rw [ac4.mpr st];refine aK (fun _=>?_) (fun c=>abo rfl c);exact ⟨_,rfl,L1,cj.go fun d H' sH nd hd=>q3 d H' (aJ s06 sH) (aO s06 nd) hd⟩
   ·rintro σ H3 ⟨o3,o4,o5,ls,sh,rfl,s3,R3,so3,n3,l3,q3⟩
    rw [ir,afF] at q3;unfold d5 at q3;have jm:=aJ s1 s3;refine ⟨_,rfl,sa,CS,sd,_,_,rfl,R3.obj,sc.cls,sc.cu,OC,rfl,_,rfl,?_⟩;cases c:sh.cur with
    | some n=>
     rw [c,abp (fun z=>nomatch z)] at q3;refine aK (fun _=>?_) (fun c=>abo rfl c);refine ⟨_,rfl,lR,_,rfl,.inl (aZ.of (s3 _ _ eR)),L1,?_⟩;rw [ir];exact cj.go fun d H' sH nd hd=>q3 d H' (aJ jm sH) (aO jm nd) hd
    | none=>
     rw [c,abv rfl] at q3;obtain ⟨l13,q3⟩:=q3;refine aK (fun c=>nomatch c) (fun _=>?_);obtain ⟨xs,hxs,pxs⟩:=R3.out;refine ⟨_,rfl,sa,CS,sd,_,_,rfl,R3.obj,sc.cls,sc.ou,ap1,_,rfl,sa,CS,sd,_,_,rfl,R3.obj,sc.cls,sc.pi,aaC,lo,dp,ls,sh.pieces,sh.outside,xs,rfl,⟨R3.fE,R3.len,fun i l p e1 e2=>?_⟩,hxs,Paired.bJ pxs fun _ _ z=>z.any,fun r hr=>⟨so3.ok r hr,fun p e=>so3.hold p (.inl (by rw [<-e];exact hr))⟩,⟨so3.nd,fun p hp r hr=>⟨so3.Yu p hp r hr,fun q e=>so3.hold q (.inr ⟨p,hp,by rw [<-e];exact hr⟩)⟩,so3.lay⟩,uY so3.out l13,?_⟩
     ·obtain ⟨ys,e3,e4⟩:=R3.bj i l p e1 e2
      exact ⟨ys,e3,Paired.bJ e4 fun _ _ z=>z.any⟩
     ·exact g9 _ 13 _ _ _ _ _ _ _ _ (fun g1 _ z a H' sH fg=>z a H' (aJ jm sH) fg) (fun e he=>xx (fun H' k=>aJ jm k) (.of jm) he) q3
  obtain ⟨t4,p4,q4⟩:=tail;refine ⟨_,(ag (aS (h9 (gi (a8 jc rfl bM dI (aU (pv 0) (vM rfl dA kx))))) (ae (df jh e_ hr.mo c8 jg (aE ak))) aG) (ag (aR (i:=1) b_.nd (fF (aL cn (pv 0) aw) (bY h_) (gA ab5 adh adi sP (pv 0) (aE aw)))) p4)),_,rfl,_,_,_,true,rfl,rfl,.str _,apW,_,rfl,aK (fun c=>nomatch c) (fun _=>?_)⟩;refine ⟨_,rfl,rfl,_,rfl,?_⟩;by_cases er:x=""
  ·refine aK (fun _=>?_) (fun c=>abo (abu (by rw [er])) c)
   refine ⟨z0L,?_⟩;intro lR nR;generalize eX:upd _ lR _=H1;have ⟨sR,eR⟩:=nw nR eX;exact q4 lR H1 sR (by unfold jZ;rw [abv er];exact eR)
  ·refine aK (fun c=>abo (V.str.inj (abn c)) er) (fun _=>?_)
   refine ⟨_,rfl,rfl,_,"\n",rfl,rfl,ln,lz,?_⟩;intro lR nR;generalize eX:upd _ lR _=H1;have ⟨sR,eR⟩:=nw nR eX;exact q4 lR H1 sR (by unfold jZ;rw [abp er];exact eR)
 ·refine ⟨_,(ag (aS (h9 (gi (a8 jc rfl bM dI (aU (pv 0) (vM rfl dA kx))))) (ae (df jh e_ hr.mo c8 jg (aE ak))) aG) (ag (aR (i:=1) b_.nd (fF (aL cn (pv 0) aw) (bY h_) (gA ab5 adh adi sP (pv 0) (aE aw)))) (ag (aR (i:=2) b_.nd (xU xA tw hr.mo rfl xB jG .nil px)) (ag (dU acE rfl (UN rfl kJ (aE (pv 1))) (mv rfl (cb (hU (i:=3) b_.nd) (cb (hU (i:=4) b_.nd) jB))) (ag (aR (i:=5) b_.nd (bK zd hr.mo px (aU (fh (v:=.ref aF) rfl xC rfl) (pv 4)))) (ag (aS (PW.pt (pZ (aL iC (pv 5) bS) (mn (h9 (gi (cN (k:=1) (pv 2) hr.mo px (aE (pv 5)))))))) (ae (df jh e_ hr.mo c8 jg (aE (pv 3)))) aG) (ae (bg (cN (k:=1) (pv 2) hr.mo px (aE (pv 5)))))))) (ag (aS (aL oZ (bo (pv 2) rfl) bS) (ae (df jh e_ hr.mo c8 jg (aE (a8 bh rfl bF fm (aE (pv 1)))))) aG) (ae (aH (bK tD hr.mo px (aU (bo (pv 2) rfl) (bo (pv 2) rfl)))))))))),?_⟩
  obtain ⟨t,ht,hk⟩:=hu.ty (K:=K);refine ⟨_,rfl,_,_,_,false,rfl,rfl,ht,hk,_,rfl,aK (fun _=>?_) (fun c=>abo rfl c)⟩;exact ⟨L1,cj.go qe⟩
abbrev alz:=GO->(fQ->Prop)->Prop
def Det (f:alz):Prop:=(∃g o,∀(Q:GO)(E:Λ),Q g o->f Q E)\/(∃e,∀(Q:GO)(E:Λ),E e->f Q E)
theorem aaN (x:Str)(c:Rat×Rat)(p:hJ)(g:Gd)(own:Own):Det (lX x c p g own):=by
 by_cases c1:p.nm∈own.map (·.1)
 ·exact .inr ⟨_,fun Q E h=>by unfold lX;rw [abv c1];exact h⟩
 cases e:g.pins.find? (fun z=>decide (z.sp=nF c p.sp)) with
 | some z=>exact .inl ⟨_,_,fun Q E h=>by unfold lX;rw [abp c1,e];exact h⟩
 | none=>
  by_cases c2:x++p.nm∈g.pins.map (·.nm)
  ·exact .inr ⟨_,fun Q E h=>by unfold lX;rw [abp c1,e];dsimp only;rw [abv c2];exact h⟩
  by_cases c3:24<=g.pins.length
  ·exact .inr ⟨_,fun Q E h=>by unfold lX;rw [abp c1,e];dsimp only;rw [abp c2,abv c3];exact h⟩
  ·exact .inl ⟨_,_,fun Q E h=>by unfold lX;rw [abp c1,e];dsimp only;rw [abp c2,abp c3];exact h⟩
theorem aaO (x n one other:Str)(g:Gd)(own:Own):Det (nj x n one other g own):=by
 cases e1:ownAt own one with
 | none=>exact .inr ⟨_,fun Q E h=>by unfold nj;rw [e1];exact h⟩
 | some a=>
  cases e2:ownAt own other with
  | none=>exact .inr ⟨_,fun Q E h=>by unfold nj;rw [e1];dsimp only;rw [e2];exact h⟩
  | some b=>
   have k:∀{Q:GO} {E:Λ},aaA x g n a b own Q E (qT (g.pins.map (·.nm)) (g.b8.map (·.1)) (x++n) a b)->nj x n one other g own Q E:=fun {Q E} h=>by unfold nj;rw [e1];dsimp only;rw [e2];exact h
   cases eb:qT (g.pins.map (·.nm)) (g.b8.map (·.1)) (x++n) a b with
   | there=>exact .inr ⟨_,fun Q E h=>k (by rw [eb];exact h)⟩
   | pin p=>exact .inr ⟨_,fun Q E h=>k (by rw [eb];exact h)⟩
   | length=>exact .inr ⟨_,fun Q E h=>k (by rw [eb];exact h)⟩
   | many=>exact .inr ⟨_,fun Q E h=>k (by rw [eb];exact h)⟩
   | done=>exact .inl ⟨_,_,fun Q E h=>k (by rw [eb];exact h)⟩
theorem ze (x m:Str):∀(below own:Own),(∃o,∀(Q:Own->Prop)(E:Λ),Q o->d9 x m below own Q E)\/(∃e,∀(Q:Own->Prop)(E:Λ),E e->d9 x m below own Q E)
 | [],own=>.inl ⟨own,fun _ _ h=>h⟩
 | z::t,own=>by
  by_cases c:m++z.1∈own.map (·.1)
  ·exact .inr ⟨_,fun Q E h=>by unfold d9;rw [abv c];exact h⟩
  rcases ze x m t (own++[(m++z.1,z.2)]) with ⟨o,h⟩|⟨e,h⟩
  ·exact .inl ⟨o,fun Q E q=>by unfold d9;rw [abp c];exact h Q E q⟩
  ·exact .inr ⟨e,fun Q E q=>by unfold d9;rw [abp c];exact h Q E q⟩
theorem zf {rec:Str->Rat×Rat->Gd->alz}(hr:∀x c g,Det (rec x c g))(x:Str)(c:Rat×Rat):∀(ms:List (Str×(Rat×Rat))) (g:Gd) (own:Own),Det (gU rec x c ms g own)
 | [],g,own=>.inl ⟨g,own,fun _ _ h=>h⟩
 | (m,a)::t,g,own=>by
  rcases hr (x++m) (nF c a) g with ⟨g1,b,h⟩|⟨e,h⟩
  ·rcases ze x m b own with ⟨o,h2⟩|⟨e,h2⟩
   ·rcases zf hr x c t g1 o with ⟨g3,o3,h3⟩|⟨e,h3⟩
    ·exact .inl ⟨g3,o3,fun Q E q=>h _ _ (h2 _ _ (h3 Q E q))⟩
    ·exact .inr ⟨e,fun Q E q=>h _ _ (h2 _ _ (h3 Q E q))⟩
   ·exact .inr ⟨e,fun Q E q=>h _ _ (h2 _ _ q)⟩
  ·exact .inr ⟨e,fun Q E q=>h _ _ q⟩
theorem vd {rec:Str->Str->Rat×Rat->Gd->alz}(hr:∀pc x c g,Det (rec pc x c g))(x:Str)(c:Rat×Rat):∀(rs:Α)(g:Gd)(own:Own),Det (gF rec x c rs g own)
 | [],g,own=>.inl ⟨g,own,fun _ _ h=>h⟩
 | r::t,g,own=>by
  by_cases c5:500<=g.done
  ·exact .inr ⟨_,fun Q E h=>by unfold gF;rw [abv c5];exact h⟩
  have one:Det (fun Q E=>ala rec x c {g with done:=g.done+1} own Q E r):=by
   cases r with
   | pin p=>exact aaN x c p _ own
   | bar n a b=>exact aaO x n a b _ own
   | lay pc pre a st=>exact zf (hr pc) x c _ _ own
  rcases one with ⟨g1,o1,h⟩|⟨e,h⟩
  ·rcases vd hr x c t g1 o1 with ⟨g2,o2,h2⟩|⟨e,h2⟩
   ·exact .inl ⟨g2,o2,fun Q E q=>by unfold gF;rw [abp c5];exact h _ _ (h2 Q E q)⟩
   ·exact .inr ⟨e,fun Q E q=>by unfold gF;rw [abp c5];exact h _ _ (h2 Q E q)⟩
  ·exact .inr ⟨e,fun Q E q=>by unfold gF;rw [abp c5];exact h _ _ q⟩
theorem OP (ps:ν):∀(n:Nat)(rows:Α)(x:Str)(c:Rat×Rat)(g:Gd),Det (jx ps n rows x c g)
 | 0,rows,x,c,g=>vd (fun _ _ _ _=>.inr ⟨.many,fun _ _ h=>h⟩) x c rows g []
 | n+1,rows,x,c,g=>vd (fun pc x c g=>OP ps n (rowsOf ps pc) x c g) x c rows g []
theorem cz {x m:Int}(h:0<m):0<=x.fmod m/\x.fmod m<m:=⟨agX x h,akq x h⟩
inductive R_ (K:Frag)(vs:ε)(H:Hp)(Q:VK)(E_:XK):Prop
|mk (a:abj)(ns:List Int)(k:Int)(_:vs=[.ref a,.int k])(_:aZ K H a (ns.map V.int))(_:(∀i∈ns,intBits i<=1048576))(_:0<=k)(_:k<=100)(_:∀v,intBits v<=1048576->Q (.int v) H)
theorem aqh:aC zaM zaM (aa V7):=sq
theorem aqi (D:Def K mg "_law_cell_at" V7 zaM)(bF:mg "len"=none):Fn P w K mg base CX 1 "_law_cell_at" zaM (R_ K):=by
 refine D.oo aqh fun H hr h=>?_;obtain ⟨a,ns,k,rfl,hS,hb,h0,h1,q⟩:=h
 refine ⟨_,(ag (aS (aL vH (pv 1) (a8 bh rfl bF fm (aE (pv 0)))) (ae (aH (iE dw (pv 0) (pv 1)))) aG) (ae (aH (aD bE (aD d6 (aD bE (aD d6 (aD dW (pv 1) ak) (aD GG ak ak)) ak) (aD dW (pv 1) ak)) ak)))),?_⟩
 have hl:(ns.map V.int).length=ns.length:=ir _;refine ⟨_,rfl,_,rfl,a,_,rfl,.inl hS,_,_,rfl,rfl,_,rfl,?_⟩;refine aK (fun c=>?_) (fun c=>?_)
 ·have c':k<(((ns.map V.int).length:Nat):Int):=abn c
  rw [hl] at c';have hk:k.toNat<ns.length:=by omega
  have ek:k=((k.toNat:Nat):Int):=by omega
  have e:ng (ns.map V.int) k=some (.int ns[k.toNat]):=by
   have z:ng (ns.map V.int) ((k.toNat:Nat):Int)=some (.int ns[k.toNat]):=ar (by rw [aaU,gE hk];rfl);rw [<-ek] at z;exact z
  exact ⟨_,rfl,_,rfl,a,_,k,_,rfl,rfl,hS,e,q _ (hb _ (aoN hk))⟩
 ·have b1:intBits (k+7)<=64:=acp (by omega) (by omega)
  have b2:intBits (k+3)<=64:=acp (by omega) (by omega);have e1:=cz (x:=(k+7)*48271^(2:Int).toNat) (m:=2147483647) (by decide);have b3:intBits (((k+7)*48271^(2:Int).toNat).fmod 2147483647)<=64:=acp (by omega) (by omega);have e2:=cz (x:=((k+7)*48271^(2:Int).toNat).fmod 2147483647*(k+3)) (m:=2147483587) (by decide);have b4:intBits ((((k+7)*48271^(2:Int).toNat).fmod 2147483647*(k+3)).fmod 2147483587)<=64:=acp (by omega) (by omega);have c:∀{i j:Int},intBits i<=64->intBits j<=64->vL i j:=fun a b=>⟨aah a (by decide),aah b (by decide)⟩;exact ⟨_,rfl,_,_,rfl,rfl,_,_,rfl,rfl,⟨by decide,by decide,by decide⟩,_,_,rfl,rfl,c b1 (by decide+kernel),_,_,rfl,rfl,nz (by decide),_,rfl,_,_,rfl,rfl,_,_,rfl,rfl,c b3 b2,_,_,rfl,rfl,nz (by decide),q _ (aah b4 (by decide))⟩
theorem OQ {a:Int}(h:1<=m):(a.fdiv m).natAbs<=a.natAbs:=by
 rw [alg _ (by omega)];have h1:=Int.mul_ediv_add_emod a m;have h2:=Int.emod_nonneg a (show m≠0 by omega);have h3:=Int.emod_lt_of_pos a (show 0<m by omega);by_cases c:0<=a
 ·have:=Int.ediv_nonneg c (show 0<=m by omega)
  have h4:=Int.ediv_le_self m c;omega
 ·have h5:a / m<0:=Int.ediv_neg_of_neg_of_pos (by omega) (by omega)
  have h6:a<=a / m:=Int.le_ediv_of_mul_le (by omega) (by
   have:=Int.mul_le_mul_of_nonpos_left (a:=a) (b:=m) (c:=1) (by omega) h
   omega)
  omega
theorem bits_fdiv (h:1<=m)(b:intBits a<=k):intBits (a.fdiv m)<=k:=intBits_le_of_natAbs (OQ h) b
inductive zg (vs:ε)(H:Hp)(Q:VK)(E_:XK):Prop
|mk (c k:Int)(_:vs=[.int c,.int k])(_:intBits c<=2000000)(_:0<=k)(_:k<9)(_:∀(r:Int)(H':Hp),0<=r->r<1000000000000000000->au H H' ->Q (.int r) H')
theorem kK:aC zaT zaG (aa fM):=sq
theorem OR (D:Def K mg "_law_part" fM zaG)(dS:mg "range"=none):Fn P w K mg base CX 1 "_law_part" zaG zg:=by
 refine D.op kK fun f cdv A outer s H vs Q E hr h=>?_;obtain ⟨c,k,rfl,bc,k0,k9,q⟩:=h;obtain ⟨kn,rfl⟩:∃n:Nat,k=(n:Int):=⟨k.toNat,by omega⟩;have e18:(10:Int)^(18:Int).toNat=1000000000000000000:=by decide+kernel
 have p18:aoo 10 18:=⟨by decide,by decide,by decide⟩;have d18:∀i,Uz i ((10:Int)^(18:Int).toNat):=fun i=>⟨by rw [e18];decide,by rw [e18];decide+kernel⟩
 have tail:∃tt,PSs (kh (aT P w) P w K mg base zaT "_law_part" (aa fM) f cdv A outer s H E).wm ((aq fM).drop 1) tt/\tt {nx:=fun _ H'=>Q .bG H',rt:=Q} [some (.int c),some (.int (kn:Int)),none,none] H:=by
  refine ⟨_,(ag (dU abW rfl (jI rfl dS (aE (pv 1))) (hU (i:=3) kK.nd) (ae (aR (i:=0) kK.nd (aD cS (pv 0) (aD GG ak ak))))) (ae (aH (aD bE (pv 0) (aD GG ak ak))))),?_⟩;refine ⟨_,rfl,(kn:Int),rfl,by omega,by omega,oY (lo:=0) (n:=kn) (fun i σ H'=>Ex2 fun (c':Int) (o:ω)=>σ=[some (.int c'),some (.int (kn:Int)),none,o]/\H'=H/\intBits c' <=2000000) ⟨c,none,rfl,rfl,bc⟩ ?_ ?_⟩
  ·rintro i σ H' hi ⟨c',o,rfl,rfl,b'⟩
   exact ⟨_,rfl,_,_,rfl,rfl,p18,_,_,rfl,rfl,d18 _,_,_,rfl,rfl,bits_fdiv (by rw [e18];decide) b'⟩
  ·rintro σ H' ⟨c',o,rfl,rfl,b'⟩
   have m:=cz (x:=c') (m:=1000000000000000000) (by decide);refine ⟨_,rfl,_,_,rfl,rfl,p18,_,_,rfl,rfl,by rw [e18];exact nz (by decide),?_⟩;rw [e18];exact q _ _ m.1 m.2 (au.refl _)
 obtain ⟨tt,pt,ht⟩:=tail
 refine ⟨_,(ag (aS (xO EC vH ak (pv 0) (aD GG ak ak)) (ag (aR (i:=2) kK.nd (aD bE (aD d6 (aD dW (pv 0) ak) (iE dw (bY (nV ak (nV ak (nV ak (nV ak (nV ak (nV ak (gO ak ak ak)))))))) (pv 1))) ak)) (ae (aH (aD bE (aD d6 (pv 2) (aD dW (aD dW (aD cS (pv 2) ak) (pv 1)) ak)) ak)))) aG) pt),?_⟩
 refine ⟨_,rfl,_,_,rfl,rfl,_,rfl,?_⟩;refine aK (fun c1=>?_) (fun c1=>?_)
 ·refine ⟨_,_,rfl,rfl,p18,_,_,rfl,rfl,_,rfl,aK (fun c2=>?_) (fun c2=>ht)⟩
  have h1:0<=c:=abn c1;have h2:c<10^(18:Int).toNat:=abn c2;rw [e18] at h2
  have ix:∃m:Int,ng [V.int 40692,.int 48271,.int 104729,.int 1299709,.int 15485863,.int 611953,.int 7919,.int 69621,.int 32452843] (kn:Int)=some (.int m)/\0<=m/\m<100000000:=by
   have:kn<9:=by omega
   match kn,this with
   | 0,_=>exact ⟨_,rfl,by decide,by decide⟩
   | 1,_=>exact ⟨_,rfl,by decide,by decide⟩
   | 2,_=>exact ⟨_,rfl,by decide,by decide⟩
   | 3,_=>exact ⟨_,rfl,by decide,by decide⟩
   | 4,_=>exact ⟨_,rfl,by decide,by decide⟩
   | 5,_=>exact ⟨_,rfl,by decide,by decide⟩
   | 6,_=>exact ⟨_,rfl,by decide,by decide⟩
   | 7,_=>exact ⟨_,rfl,by decide,by decide⟩
   | 8,_=>exact ⟨_,rfl,by decide,by decide⟩
  obtain ⟨m,em,m0,m1⟩:=ix;have cm:∀{i j:Int},intBits i<=64->intBits j<=64->vL i j:=fun a b=>⟨aah a (by decide),aah b (by decide)⟩;refine ⟨_,rfl,_,_,rfl,rfl,z9L,fun p np=>?_⟩;have s1:=a_ np (.lst [V.int 40692,.int 48271,.int 104729,.int 1299709,.int 15485863,.int 611953,.int 7919,.int 69621,.int 32452843]);refine ⟨_,rfl,p,_,_,_,rfl,rfl,aZ.of ai,em,_,_,rfl,rfl,cm (acp (by omega) (by omega)) (acp (by omega) (by omega)),_,_,rfl,rfl,nz (by decide),?_⟩;have e1:=cz (x:=(c+7919)*m) (m:=2147483647) (by decide);have e2:(((c+7919)*m).fmod 2147483647).fdiv 7=(((c+7919)*m).fmod 2147483647) / 7:=alg _ (by decide);refine ⟨_,rfl,_,rfl,_,_,rfl,rfl,⟨by decide,by decide+kernel⟩,_,rfl,_,_,rfl,rfl,_,_,rfl,rfl,_,_,rfl,rfl,cm (acp (by omega) (by omega)) (acp (by omega) (by omega)),_,_,rfl,rfl,nz (by decide),?_⟩;have e3:=cz (x:=((c+7919)*m).fmod 2147483647*((((c+7919)*m).fmod 2147483647).fdiv 7+(kn:Int)+1)) (m:=2147483587) (by decide);exact q _ _ e3.1 (by omega) s1
 ·exact ⟨_,rfl,ht⟩
inductive iZ (vs:ε)(H:Hp)(Q:VK)(E_:XK):Prop
|mk (t b:Int)(_:vs=[.int t,.int b])(_:0<b)(_:gives H Q (low t b))
theorem Vb:aC ["_law_top","_law_bottom","_law_one","_law_other"] zaH (aa V8):=sq
theorem aqj (ht:P.given.tree=none)(D:Def K mg "_law_lowest" V8 zaH)(FE:mg "abs"=none):Fn P w K mg base (aT P w) 33 "_law_lowest" zaH iZ:=by
 refine D.oo Vb fun H hr h=>?_;obtain ⟨t,b,rfl,hb,q⟩:=h
 refine ⟨_,(ag (aR (i:=2) Vb.nd (a8 MM rfl FE ahb (aE (pv 0)))) (ag (aR (i:=3) Vb.nd (pv 1)) (ag (xJ abW (aL nL (pv 3) ak) (ae (aj5 (i:=2) (j:=3) rfl Vb.nd rfl rfl (by decide) rfl rfl (aU (pv 3) (aD bE (pv 2) (pv 3))) rfl))) (ae (aH (aX (aU (aD (sM ht (Ty.cV.py hr (by decide)) rfl rfl rfl rfl rfl) (pv 0) (pv 2)) (aD (sM ht (Ty.cV.py hr (by decide)) rfl rfl rfl rfl rfl) (pv 1) (pv 2))))))))),?_⟩
 refine ⟨_,rfl,t,rfl,_,rfl,?_⟩;refine xM (fun σ H'=>∃x y:Int,σ=[some (.int t),some (.int b),some (.int x),some (.int y)]/\H'=H/\0<=x/\0<=y/\ae' x y=ae' t b) (fun σ _=>match σ with|[_,_,_,some (.int y)]=>y.natAbs|_=>0) ⟨_,b,rfl,rfl,?_,by omega,?_⟩ ?_ ?_
 ·split<;>omega
 ·split
  ·exact Int.neg_gcd
  ·rfl
 ·rintro σ H' ⟨x,y,rfl,rfl,hx,hy,g⟩
  refine ⟨_,rfl,rfl,_,rfl,?_⟩;refine aK (fun c=>?_) (fun c=>?_)
  ·have hy0:y≠0:=by
    intro z;subst z;simp at c
   exact ⟨_,rfl,_,rfl,_,rfl,_,_,rfl,rfl,hy0,_,_,rfl,⟨_,_,rfl,rfl,hy,agX _ (by omega),by rw [MX];exact g⟩,EO hy0⟩
  ·have hy0:y=0:=by
    have:=ac4.mpr c;simp at this;exact this
   subst hy0
   have e:x=sg t b:=by
    rw [anp] at g;unfold sg;rw [abp (by omega)];unfold gz;rw [<-g];omega
   subst e;have hbn:b≠0:=by omega
   have c:=xY (t:=t) hbn;refine ⟨_,rfl,_,rfl,_,_,rfl,rfl,c,_,rfl,_,rfl,_,_,rfl,rfl,c,z2L,fun p hp=>?_⟩;exact q p _ (a_ hp _) ai
 ·rintro σ H' Q1 Q2 h ⟨v,e1,e2,k,ek,z⟩
  exact ⟨v,e1,e2,k,ek,h _ _ z⟩
theorem OS:aC zaF zaF (aa gT):=sq
theorem OT (hM:qJ CX)(D:Def K mg "_law_plus" gT zaF)(alA:Fn P w K mg base CX 33 "_law_lowest" zaH iZ):Fn P w K mg base CX 34 "_law_plus" zaF (uP K addQ):=by
 refine D.op OS fun f cdv A outer s H vs Q E hr h=>?_;obtain ⟨u,v,x,y,rfl,⟨p1,rfl,h1⟩,⟨p2,rfl,h2⟩,k1,k2,q⟩:=h;have px:=kz (X:=kh CX P w K mg base zaF "_law_plus" (aa gT) f cdv A outer s H E) hM;refine ⟨_,(ae (aH (bK alA hr.mo px (aU (aD dW (aD d6 (aI (pv 0)) (aI (pv 1))) (aD d6 (aI (pv 1)) (aI (pv 0)))) (aD d6 (aI (pv 0)) (aI (pv 1))))))),?_⟩;have b1:=k1.top;have b2:=k1.bot;have b3:=k2.top;have b4:=k2.bot;have c:∀{i j:Int},intBits i<=100000->intBits j<=100000->vL i j:=fun a b=>⟨aah a (by decide),aah b (by decide)⟩;exact ⟨_,rfl,p1,_,_,_,rfl,rfl,h1,AS,_,rfl,p2,_,_,_,rfl,rfl,h2,vS,_,_,rfl,rfl,c b1 b4,_,rfl,p2,_,_,_,rfl,rfl,h2,AS,_,rfl,p1,_,_,_,rfl,rfl,h1,vS,_,_,rfl,rfl,c b3 b2,_,_,rfl,rfl,_,rfl,p1,_,_,_,rfl,rfl,h1,vS,_,rfl,p2,_,_,_,rfl,rfl,h2,vS,_,_,rfl,rfl,c b2 b4,_,_,rfl,ahU k1.pos k2.pos,q⟩
theorem zh:aC za6 za6 (aa eM):=sq
theorem zi (D:Def K mg "_law_text_of" eM za6)(dA:mg "str"=none):Fn P w K mg base CX 1 "_law_text_of" za6 (sZ K):=by
 refine D.oo zh fun H hr h=>?_;obtain ⟨u,q,rfl,⟨p,rfl,h⟩,l1,l2,k'⟩:=h
 refine ⟨_,(ag (aS (aL cn (aI (pv 0)) ak) (ae (aH (cB cG rfl dA kx (aE (aI (pv 0)))))) aG) (ae (aH (aD bx (aD bx (cB cG rfl dA kx (aE (aI (pv 0)))) aw) (cB cG rfl dA kx (aE (aI (pv 0)))))))),?_⟩
 have t1:(tx q.1).length<=1921:=adD (by omega);have t2:(tx q.2).length<=1921:=adD (by omega);have t3:kC.length=1:=by decide+kernel
 refine ⟨_,rfl,p,_,_,_,rfl,rfl,h,vS,rfl,_,rfl,?_⟩;refine aK (fun c=>?_) (fun c=>?_)
 ·have e:q.2=1:=by simpa using abn c
  rw [lh e] at k';exact ⟨_,rfl,p,_,_,_,rfl,rfl,h,AS,q.1,rfl,by omega,k'⟩
 ·have e:q.2≠1:=by
   have:=of_decide_eq_false (ac4.mpr c);intro z;exact this (by rw [z])
  rw [mH e] at k';exact ⟨_,rfl,p,_,_,_,rfl,rfl,h,AS,q.1,rfl,by omega,tx q.1,kC,rfl,rfl,aah (show (tx q.1).length+kC.length<=5000 by omega) (by decide),_,rfl,p,_,_,_,rfl,rfl,h,vS,q.2,rfl,by omega,tx q.1++kC,tx q.2,rfl,rfl,aah (show (tx q.1++kC).length+(tx q.2).length<=5000 by rw [abG];omega) (by decide),k'⟩
inductive IT (vs:ε)(H:Hp)(Q:VK)(E_:XK):Prop
|mk (c:Int)(_:vs=[.int c])(_:∀r:Rat,Sz 50 r->gives H Q (qr r))
theorem OU:aC zat zat (aa iJ):=sq
theorem OV (D:Def K mg "_law_half" iJ zat)(alA:Fn P w K mg base (aT P w) 33 "_law_lowest" zaH iZ):Fn P w K mg base (aT P w) 34 "_law_half" zat IT:=by
 refine D.oo OU fun H hr h=>?_;obtain ⟨c,rfl,q⟩:=h;have m:=cz (x:=c) (m:=7) (by decide);have m2:=cz (x:=c.fdiv 7) (m:=2) (by decide);refine ⟨_,(ae (aH (dh alA hr (aU (aD Za (aD bE (pv 0) ak) ak) (aD dW ak (aD bE (aD cS (pv 0) ak) ak)))))),_,rfl,_,_,rfl,rfl,nz (by decide),_,_,rfl,rfl,_,rfl,_,_,rfl,rfl,⟨by decide,by decide+kernel⟩,_,_,rfl,rfl,nz (by decide),_,_,rfl,rfl,_,_,rfl,by omega,?_⟩;rw [yA (by omega)];exact q _ (RC (by omega) (intBits_le_iff.mpr (by show _<1125899906842624;omega)) (intBits_le_iff.mpr (by show _<1125899906842624;omega)))
def Sn (x:Str):Prop:=∀c∈x.cps.toList,eJ c=true
theorem lC (h1:Sn x)(h2:Sn y):Sn (x++y):=fun c hc=>by
 rw [cps_append] at hc
 rcases abh.mp hc with z|z
 ·exact h1 c z
 ·exact h2 c z
theorem ahI (h:ng (ab0 "abcdefghijklmnopqrstuvwxyz0123456789").cps.toList i=some d):Sn (⟨#[d]⟩:Str):=by
 have k:∀c∈(ab0 "abcdefghijklmnopqrstuvwxyz0123456789").cps.toList,eJ c=true:=by decide+kernel
 obtain ⟨j,_,e,_⟩:=xg h;intro c hc;have:c=d:=by simpa using hc
 rw [this];exact k d (aaP e)
theorem i9 (h:Sn x)(l1:1<=x.length)(l2:x.length<=20):bD x:=by
 refine ⟨?_,l2⟩;unfold isName;rw [aby (fun z=>?_),afP.mpr h]
 ·rfl
 ·rw [V.str.inj z] at l1
  exact abo l1 (by decide+kernel)
theorem aqk (c:Int):∃d:Nat,ng (ab0 "abcdefghijklmnopqrstuvwxyz0123456789").cps.toList (c.fmod 36)=some d:=by
 have m:=cz (x:=c) (m:=36) (by decide);obtain ⟨n,en⟩:∃n:Nat,c.fmod 36=(n:Int):=⟨(c.fmod 36).toNat,by omega⟩;rw [en] at m ⊢;have hn:n<36:=by omega
 have hl:(ab0 "abcdefghijklmnopqrstuvwxyz0123456789").cps.toList.length=36:=by decide+kernel
 exact ⟨_,ar (gE (by omega))⟩
theorem ahJ:(ab0 "abcdefghijklmnopqrstuvwxyz0123456789").length<=abl:=by decide+kernel
inductive Sa (vs:ε)(H:Hp)(Q:VK)(E_:XK):Prop
|mk (c:Int)(_:vs=[.int c])(_:∀(l:abj)(xs:η)(H':Hp),xs.length=6->(∀x∈xs,bD x/\x.length<=3)->au H H' ->H l=none->H' l=some (.lst (xs.map V.str))->Q (.ref l) H')
theorem kL:aC ["_law_cell","_law_signs","_law_one","_law_other"] zat (aa iK):=sq
theorem OW (D:Def K mg "_law_menu" iK zat):Fn P w K mg base CX 1 "_law_menu" zat Sa:=by
 refine D.oo kL fun H hr h=>?_;obtain ⟨c,rfl,q⟩:=h
 refine ⟨_,(ag (aR (i:=1) kL.nd aw) (ag (aR (i:=2) kL.nd (iE Zj (pv 1) (aD bE (pv 0) ak))) (ag (aR (i:=3) kL.nd (iE Zj (pv 1) (aD bE (aD dW (aD dW (pv 0) ak) (aD bE (aD cS (pv 0) ak) ak)) ak))) (ae (aH (bY (nV (pv 2) (nV (pv 3) (nV (aD bx (pv 2) (pv 3)) (gO (aD bx aw (pv 2)) (aD bx (pv 2) aw) (aD bx (aD bx (pv 3) (pv 2)) (pv 3)))))))))))),?_⟩
 obtain ⟨d1,e1⟩:=aqk c;obtain ⟨d2,e2⟩:=aqk (c+1+(c.fdiv 36).fmod 35);have g1:=ahI e1;have g2:=ahI e2;have z20:∀{n:Nat},n<=40->n<=abl:=fun h=>aah h (by decide);have k1:(⟨#[d1]⟩:Str).length=1:=rfl;have k2:(⟨#[d2]⟩:Str).length=1:=rfl;have g0:Sn "0":=by unfold Sn;decide+kernel
 have k0:("0":Str).length=1:=by decide+kernel
 refine ⟨_,rfl,_,rfl,_,_,rfl,rfl,nz (by decide),_,_,_,rfl,rfl,ahJ,e1,_,rfl,_,rfl,_,_,rfl,rfl,_,rfl,_,_,rfl,rfl,⟨by decide,by decide+kernel⟩,_,_,rfl,rfl,nz (by decide),_,_,rfl,rfl,_,_,rfl,rfl,nz (by decide),_,_,_,rfl,rfl,ahJ,e2,?_⟩;generalize (⟨#[d1]⟩:Str)=a at k1 g1 ⊢;generalize (⟨#[d2]⟩:Str)=b at k2 g2 ⊢;refine ⟨_,rfl,_,rfl,_,rfl,_,rfl,_,_,rfl,rfl,z20 (by omega),_,rfl,_,_,rfl,rfl,z20 (by omega),_,rfl,_,_,rfl,rfl,z20 (by omega),_,rfl,_,rfl,_,_,rfl,rfl,z20 (by omega),_,rfl,_,_,rfl,rfl,z20 (by rw [abG];omega),z6L,?_⟩;intro l n;generalize eX:upd _ l _=H1;have ⟨s1,e⟩:=nw n eX;refine q l [a,b,a++b,"0"++a,a++ "0",b++a++b] H1 rfl (fun x hx=>?_) s1 n e;simp only [aa3,ac_,or_false] at hx
 rcases hx with rfl|rfl|rfl|rfl|rfl|rfl
 ·exact ⟨i9 g1 (by omega) (by omega),by omega⟩
 ·exact ⟨i9 g2 (by omega) (by omega),by omega⟩
 ·exact ⟨i9 (lC g1 g2) (by rw [abG];omega) (by rw [abG];omega),by rw [abG];omega⟩
 ·exact ⟨i9 (lC g0 g1) (by rw [abG];omega) (by rw [abG];omega),by rw [abG];omega⟩
 ·exact ⟨i9 (lC g1 g0) (by rw [abG];omega) (by rw [abG];omega),by rw [abG];omega⟩
 ·exact ⟨i9 (lC (lC g2 g1) g2) (by rw [abG,abG];omega) (by rw [abG,abG];omega),by rw [abG,abG];omega⟩
def Sb (ws:υ):Prop:=ws=[]\/(∃x y:Rat,ws=[(x,y)]/\¬ (x=0/\y=0)/\Sz 50 x/\Sz 50 y)\/ws=[(1,0),(0,1)]
theorem rf (i:Int)(h:H p=some (.tup [.int i,.int 1])):jR K H (.ref p) (i:Rat):=⟨p,rfl,by rw [oa];exact dG.of h⟩
theorem j0 (h:H p=some (.tup [.int (qr r).1,.int (qr r).2])):jR K H (.ref p) r:=⟨p,rfl,dG.of h⟩
theorem FQ (h:H p=some (.tup [u,v]))(h1:jR K H u r)(h2:jR K H v s):og K H (.ref p) (r,s):=⟨p,u,v,rfl,dG.of h,h1,h2⟩
inductive IU (K:Frag)(vs:ε)(H:Hp)(Q:VK)(E_:XK):Prop
|mk (c:Int)(_:vs=[.int c])(_:∀(l:abj)(us:ε)(ws:υ)(H':Hp),Sb ws->au H H' ->H l=none->H' l=some (.lst us)->sN K H' us ws->Q (.ref l) H')
theorem tE {i:Int}(h:i.natAbs<1000):Sz 50 (i:Rat):=HM (by show _<1125899906842624;omega) (by decide)
theorem aqm:aC zat zat (aa V9):=sq
theorem aqn (D:Def K mg "_law_ways" V9 zat):Fn P w K mg base CX 1 "_law_ways" zat (IU K):=by
 refine D.oo aqm fun H hr h=>?_;obtain ⟨c,rfl,q⟩:=h;have L2:2<=abl:=by decide
 have L1:1<=abl:=by decide
 have m1:=cz (x:=c.fdiv 4) (m:=5) (by decide);have m2:=cz (x:=c.fdiv 20) (m:=3) (by decide);have dv:∀i j:Int,0<j->j<1000->Uz i j:=fun i j h0 h1=>⟨by omega,aah (acp (by omega) (by omega)) (by decide)⟩
 refine ⟨_,(ag (aS (aL vH (aD bE (pv 0) ak) ak) (ae (aH (bY h_))) aG) (ag (aS (aL cn (aD bE (pv 0) ak) ak) (ae (aH (bY (aU (aX (aU (aX (aU ak ak)) (aX (aU ak ak)))) (aX (aU (aX (aU ak ak)) (aX (aU ak ak)))))))) aG) (ae (aH (bY (aE (aX (aU (aX (aU (aD Za (aD bE (aD cS (pv 0) ak) ak) ak) ak)) (aX (aU ak (aD dW ak (aD bE (aD cS (pv 0) ak) ak)))))))))))),?_⟩
 refine ⟨_,rfl,_,_,rfl,rfl,nz (by decide),_,_,rfl,rfl,_,rfl,?_⟩;refine aK (fun _=>?_) (fun _=>?_)
 ·refine ⟨z0L,fun p np=>?_⟩
  exact q p [] [] _ (.inl rfl) (a_ np _) np ai .nil
 refine ⟨_,rfl,_,_,rfl,rfl,nz (by decide),rfl,_,rfl,?_⟩;refine aK (fun _=>?_) (fun _=>?_)
 ·refine ⟨L2,?_⟩
  intro p1 n1;generalize eX:upd _ p1 _=H1;have ⟨s1,e1⟩:=nw n1 eX;refine ⟨L2,?_⟩;intro p2 n2;generalize eX:upd _ p2 _=H2;have ⟨s2,e2⟩:=nw n2 eX;refine ⟨L2,?_⟩;intro p3 n3;generalize eX:upd _ p3 _=H3;have ⟨s3,e3⟩:=nw n3 eX;refine ⟨L2,?_⟩;intro p4 n4;generalize eX:upd _ p4 _=H4;have ⟨s4,e4⟩:=nw n4 eX;refine ⟨L2,?_⟩;intro p5 n5;generalize eX:upd _ p5 _=H5;have ⟨s5,e5⟩:=nw n5 eX;refine ⟨L2,?_⟩;intro p6 n6;generalize eX:upd _ p6 _=H6;have ⟨s6,e6⟩:=nw n6 eX;refine ⟨L2,?_⟩;intro p7 n7;generalize eX:upd _ p7 _=H7;have ⟨s7,e7⟩:=nw n7 eX;have sh:=aJ (aJ s1 s2) (aJ (aJ s3 s4) (aJ s5 s6))
  have f1:og K H6 (.ref p3) (1,0):=by
   have z:og K H3 (.ref p3) (1,0):=FQ e3 (((rf 1 e1).same s2).same s3) ((rf 0 e2).same s3);exact ((z.same s4).same s5).same s6
  have f2:og K H6 (.ref p6) (0,1):=FQ e6 (((rf 0 e4).same s5).same s6) ((rf 1 e5).same s6);exact q p7 _ [(1,0),(0,1)] _ (.inr (.inr rfl)) (aJ sh s7) (aO sh n7) e7 (.cons (f1.same s7) (.cons (f2.same s7) .nil))
 refine ⟨_,rfl,_,_,rfl,rfl,dv _ _ (by decide) (by decide),_,_,rfl,rfl,nz (by decide),_,_,rfl,rfl,L2,?_⟩;intro p1 n1;generalize eX:upd _ p1 _=H1;have ⟨s1,e1⟩:=nw n1 eX;refine ⟨_,rfl,_,_,rfl,rfl,dv _ _ (by decide) (by decide),_,_,rfl,rfl,nz (by decide),_,_,rfl,rfl,L2,?_⟩;intro p2 n2;generalize eX:upd _ p2 _=H2;have ⟨s2,e2⟩:=nw n2 eX;refine ⟨L2,?_⟩;intro p3 n3;generalize eX:upd _ p3 _=H3;have ⟨s3,e3⟩:=nw n3 eX;refine ⟨L1,?_⟩;intro p4 n4;generalize eX:upd _ p4 _=H4;have ⟨s4,e4⟩:=nw n4 eX;have hb:(1+(c.fdiv 20).fmod 3:Int)≠0:=by omega
 have z1:Sz 50 ((1:Rat) / ((1+(c.fdiv 20).fmod 3:Int):Rat)):=by
  have h:=RC (k:=50) (t:=1) (b:=1+(c.fdiv 20).fmod 3) hb (intBits_le_iff.mpr (by decide)) (intBits_le_iff.mpr (by show _<1125899906842624;omega));exact h
 have e2':H2 p2=some (.tup [.int (qr ((1:Rat) / ((1+(c.fdiv 20).fmod 3:Int):Rat))).1,.int (qr ((1:Rat) / ((1+(c.fdiv 20).fmod 3:Int):Rat))).2]):=by
  have h:=yA (t:=1) (b:=1+(c.fdiv 20).fmod 3) hb;rw [show ((1:Rat) / ((1+(c.fdiv 20).fmod 3:Int):Rat))=(((1:Int):Rat) / ((1+(c.fdiv 20).fmod 3:Int):Rat)) from rfl,<-h,e2,show low 1 (1+(c.fdiv 20).fmod 3)=(1,1+(c.fdiv 20).fmod 3) from by rcases (show (c.fdiv 20).fmod 3=0\/(c.fdiv 20).fmod 3=1\/(c.fdiv 20).fmod 3=2 by omega) with z|z|z<;>rw [z]<;>decide+kernel]
 have f1:og K H3 (.ref p3) ((((c.fdiv 4).fmod 5-2:Int):Rat),(1:Rat) / ((1+(c.fdiv 20).fmod 3:Int):Rat)):=FQ e3 (((rf _ e1).same s2).same s3) ((j0 e2').same s3);have sh:=aJ (aJ s1 s2) s3;refine q p4 _ [_] _ (.inr (.inl ⟨_,_,rfl,?_,tE (by omega),z1⟩)) (aJ sh s4) (aO sh n4) e4 (.cons (f1.same s4) .nil);rintro ⟨_,h2⟩;have y2:((1+(c.fdiv 20).fmod 3:Int):Rat)≠0:=EX hb;exact (by grind:¬ (1:Rat) / ((1+(c.fdiv 20).fmod 3:Int):Rat)=0) h2
theorem tG (h:Sz 100 r):Good (qr r):=by
 have z:∀n:Int,intBits n<=100->n.natAbs<10^60:=fun n hn=>aaS (intBits_le_iff.mp hn) (by decide+kernel);exact ⟨js r,aaa r,z _ h.top,z _ h.bot⟩
inductive qh (K:Frag)(H:Hp)(M:ξ)(n:Nat)(u:V):Rw->Prop where
 | pin (t l:abj) (vx vy:V) (us:ε) (p:hJ) (_:u=.ref t) (_:dG K H t [.str "pin",.str p.nm,vx,vy,.ref l]) (_:jR K H vx p.sp.1) (_:jR K H vy p.sp.2) (_:l∉M) (_:H l=some (.lst us)) (_:sN K H us p.ws):qh K H M n u (.pin p)
 | bar (t:abj) (x a b:Str) (_:u=.ref t) (_:dG K H t [.str "bar",.str x,.str a,.str b]):qh K H M n u (.bar x a b)
 | lay (t:abj) (i:Nat) (pre:Str) (va vs tv:V) (a s:Rat×Rat) (st:τ) (_:u=.ref t) (_:i<n) (_:dG K H t [.str "lay",.int (i:Int),.str pre,va,tv,vs]) (_:og K H va a) (_:og K H vs s) (_:Sz 50 s.1/\Sz 50 s.2) (_:(tv=.bG/\st=none)\/∃k:Nat,tv=.int (k:Int)/\st=some (k,s)):qh K H M n u (.lay ("p"++tx (i:Int)) pre a st)
theorem qh.mono (h:qh K H M n u r)(k:∀b xs,b∉M->H b=some (.lst xs)->H' b=some (.lst xs))(t:bf H H')(m:∀b,b∈M' ->b∈M\/H b=none)(hn:n<=n'):qh K H' M' n' u r:=by
 cases h with
 | pin t1 l vx vy us p e h1 h2 h3 h4 h5 h6=>
  refine .pin t1 l vx vy us p e (t.cy h1) (h2.aQ t) (h3.aQ t) (fun z=>?_) (k _ _ h4 h5) (h6.aQ t)
  rcases m l z with z|z
  ·exact h4 z
  ·rw [h5] at z;cases z
 | bar t1 x a b e h1=>exact .bar t1 x a b e (t.cy h1)
 | lay t1 i pre va vs tv a s st e hi h1 h2 h3 h4 h5=>exact .lay t1 i pre va vs tv a s st e (aaS hi hn) (t.cy h1) (h2.aQ t) (h3.aQ t) h4 h5
theorem qh.same (h:qh K H M n u r)(s:au H H'):qh K H' M n u r:=h.mono (fun b xs _ e=>s _ _ e) (.of s) (fun _ z=>.inl z) (aaM _)
def nv:Rw->Prop
 | .pin p=>bD p.nm/\Sz 50 p.sp.1/\Sz 50 p.sp.2/\Sb p.ws
 | .bar x a b=>bD x/\bD a/\bD b
 | .lay _ pre a st=>bD pre/\Sz 50 a.1/\Sz 50 a.2/\∀k s,st=some (k,s)->1<=k/\k<=3/\Sz 50 s.1/\Sz 50 s.2
structure OX (ns:η):Prop where
 len:ns.length=6
 ok:∀x∈ns,bD x/\x.length<=3
theorem OY {ns:η}{m:Int}(h0:0<=m)(h1:m<ns.length):∃w∈ns,ng (ns.map V.str) m=some (.str w):=by
 obtain ⟨k,rfl⟩:=Int.eq_ofNat_of_zero_le h0;have hk:k<ns.length:=by omega
 exact ⟨ns[k],aoN hk,ar (by rw [aaU,gE hk];rfl)⟩
theorem dv8 (h0:0<j)(h1:j<1000):Uz i j:=⟨by omega,aah (acp (by omega) (by omega)) (by decide)⟩
inductive zj (K:Frag)(vs:ε)(H:Hp)(Q:VK)(E_:XK):Prop
|mk (c:Int)(nl:abj)(ns:η)(_:vs=[.int c,.ref nl])(_:intBits c<=2000000)(_:aZ K H nl (ns.map V.str))(_:OX ns)(_:∀(t:abj)(p:hJ)(H':Hp),au H H' ->H t=none->p.nm∈ns->nv (.pin p)->(∀M n,(∀b∈M,H b≠none)->qh K H' M n (.ref t) (.pin p))->Q (.ref t) H')
theorem j1:aC ["_law_cell","_law_names","_law_x","_law_y"] zaO (aa eO):=sq
theorem zk (D:Def K mg "_law_pin_row" eO zaO)(gW:Fn P w K mg base (aT P w) 34 "_law_half" zat IT)(cQ:Fn P w K mg base (aT P w) 1 "_law_part" zaG zg)(ayz:Fn P w K mg base (aT P w) 1 "_law_ways" zat (IU K)):Fn P w K mg base (aT P w) 35 "_law_pin_row" zaO (zj K):=by
 refine D.oo j1 fun H hr h=>?_;obtain ⟨c,nl,ns,rfl,bc,hl,hn,q⟩:=h;have m6:=cz (x:=c.fdiv 8) (m:=6) (by decide);obtain ⟨x,hx,ex⟩:=OY (ns:=ns) (m:=(c.fdiv 8).fmod 6) m6.1 (by rw [hn.len];exact m6.2)
 refine ⟨_,(ag (aR (i:=2) j1.nd (dh gW hr (aE (dh cQ hr (aU (pv 0) ak))))) (ag (aR (i:=3) j1.nd (dh gW hr (aE (dh cQ hr (aU (pv 0) ak))))) (ae (aH (aX (nV aw (nV (iE dw (pv 1) (aD bE (aD cS (pv 0) ak) ak)) (gO (pv 2) (pv 3) (dh ayz hr (aE (dh cQ hr (aU (pv 0) ak)))))))))))),?_⟩
 refine ⟨_,rfl,c,1,rfl,bc,by decide,by decide,fun r1 H1 a1 b1 s1=>?_⟩;refine ⟨r1,rfl,fun x1 z1 p1 H2 s2 e2=>?_⟩;refine ⟨_,rfl,c,3,rfl,bc,by decide,by decide,fun r3 H3 a3 b3 s3=>?_⟩;refine ⟨r3,rfl,fun y1 z2 p2 H4 s4 e4=>?_⟩;have BU:au H H4:=fun b o e=>s4 _ _ (s3 _ _ (s2 _ _ (s1 _ _ e)));refine ⟨_,rfl,_,rfl,_,_,rfl,rfl,dv8 (by decide) (by decide),_,_,rfl,rfl,nz (by decide),nl,_,_,_,rfl,rfl,BU.seq hl,ex,_,rfl,_,rfl,_,rfl,c,2,rfl,bc,by decide,by decide,fun r5 H5 a5 b5 s5=>?_⟩;refine ⟨r5,rfl,fun l us ws H6 wo s6 nl6 e6 p6=>⟨z5L,?_⟩⟩;intro t n7;generalize eX:upd _ t _=H7;have ⟨s7,e7⟩:=nw n7 eX;have s46:au H4 H6:=fun b o e=>s6 _ _ (s5 _ _ e);have s47:au H4 H7:=fun b o e=>s7 _ _ (s46 _ _ e);have s06:au H H6:=fun b o e=>s46 _ _ (BU _ _ e);have y6:au H H5:=fun b o e=>s5 _ _ (BU _ _ e);refine q t ⟨x,(x1,y1),ws⟩ H7 (fun b o e=>s7 _ _ (s06 _ _ e)) (aO s06 n7) hx ⟨(hn.ok x hx).1,z1,z2,wo⟩ fun M n hM=>?_;refine .pin t l _ _ us _ rfl (dG.of e7) ((j0 (s4 _ _ (s3 _ _ e2))).same s47) ((j0 e4).same s47) (fun z=>hM l z (aO y6 nl6)) (s7 _ _ e6) (p6.same s7)
inductive zl (K:Frag)(vs:ε)(H:Hp)(Q:VK)(E_:XK):Prop
|mk (c:Int)(nl kl:abj)(ns kn:η)(_:vs=[.int c,.ref nl,.ref kl])(_:intBits c<=2000000)(_:aZ K H nl (ns.map V.str))(_:OX ns)(_:aZ K H kl (kn.map V.str))(_:(∀x∈kn,bD x))(_:∀(t:abj)(x a b:Str)(H':Hp),au H H' ->H t=none->H' t=some (.tup [.str "bar",.str x,.str a,.str b])->nv (.bar x a b)->Q (.ref t) H')
theorem fT:aC ["_law_cell","_law_names","_law_known","_law_ends","_law_number","_law_end"] zay (aa eP):=sq
theorem zm (D:Def K mg "_law_bar_row" eP zay)(bF:mg "len"=none)(cQ:Fn P w K mg base (aT P w) 1 "_law_part" zaG zg):Fn P w K mg base (aT P w) 2 "_law_bar_row" zay (zl K):=by
 refine D.oo fT fun H hr h=>?_;obtain ⟨c,nl,kl,ns,kn,rfl,bc,hl,hn,hk,hkn,q⟩:=h;have L2:2<=abl:=by decide
 have m6:=cz (x:=c.fdiv 8) (m:=6) (by decide);obtain ⟨x,hx,ex⟩:=OY (ns:=ns) (m:=(c.fdiv 8).fmod 6) m6.1 (by rw [hn.len];exact m6.2)
 refine ⟨_,(ag (aR (i:=3) fT.nd (bY h_)) (ag (dU abW rfl (cJ (bY (aU (dh cQ hr (aU (pv 0) ak)) (dh cQ hr (aU (pv 0) ak))))) (hU (i:=4) fT.nd) (ag (aR (i:=5) fT.nd (iE dw (pv 1) (aD bE (aD cS (pv 4) ak) ak))) (ag (aS (PW.pt (jO (aL nL (aD bE (pv 4) ak) ak) (iV (aL Uu (a8 bh rfl bF fm (aE (pv 2))) ak)))) (ae (aR (i:=5) fT.nd (iE dw (pv 2) (aD bE (aD cS (pv 4) ak) (a8 bh rfl bF fm (aE (pv 2))))))) aG) (ae (bg (gA abQ abO abP dc (pv 3) (aE (pv 5)))))))) (ae (aH (aX (nV aw (gO (iE dw (pv 1) (aD bE (aD cS (pv 0) ak) ak)) (cT (pv 3)) (cT (pv 3))))))))),?_⟩
 refine ⟨z0L,?_⟩;intro l0 n0;generalize eX:upd _ l0 _=H0;have ⟨s0,e0⟩:=nw n0 eX;refine ⟨_,rfl,c,1,rfl,bc,by decide,by decide,fun r1 H1 a1 b1 s1=>?_⟩;refine ⟨_,rfl,c,3,rfl,bc,by decide,by decide,fun r3 H3 a3 b3 s3=>⟨L2,?_⟩⟩;intro l2 n2;generalize eX:upd _ l2 _=H2;have ⟨s2,e2⟩:=nw n2 eX;have jm:au H H3:=fun b o e=>s3 _ _ (s1 _ _ (s0 _ _ e));have e03:=s3 _ _ (s1 _ _ e0);have n02:l0≠l2:=aj e03 n2;have e2':H2 l2=some (.lst (([r1,r3]:List Int).map V.int)):=e2;have nl0:∀{b o},H b=some o->b≠l0:=fun e=>aj e n0
 refine ⟨l2,rfl,⟨_,aZ.of e2'⟩,eG (K:=K) (a:=l2) (xs:=([r1,r3]:List Int).map V.int) (fun i σ H'=>Ex3 fun (o4 o5:ω) (es:η)=>σ=[some (.int c),some (.ref nl),some (.ref kl),some (.ref l0),o4,o5]/\au H H'/\H' l2=some (.lst (([r1,r3]:List Int).map V.int))/\H' l0=some (.lst (es.map V.str))/\es.length=i/\∀x∈es,bD x) ⟨none,none,[],rfl,fun b o e=>s2 _ _ (jm _ _ e),e2',s2 _ _ e03,rfl,fun _ h=>nomatch h⟩ (fun i σ H' _ h=>by
   obtain ⟨_,_,_,_,_,h,_⟩:=h
   exact aZ.of h) ?_ ?_⟩
 ·rintro i u σ H4 hu ⟨o4,o5,es,rfl,s4,e24,e04,les,hes⟩
  rw [aaU] at hu
  obtain ⟨r,er,rfl⟩:∃r:Int,([r1,r3]:List Int)[i]?=some r/\V.int r=u:=by
   cases hz:([r1,r3]:List Int)[i]? with
   | none=>rw [hz] at hu;cases hu
   | some r=>rw [hz] at hu;exact ⟨r,rfl,aaQ hu⟩
  have il:i<2:=(Wp.mp er).1;have m6':=cz (x:=r.fdiv 8) (m:=6) (by decide);obtain ⟨y,hy,ey⟩:=OY (ns:=ns) (m:=(r.fdiv 8).fmod 6) m6'.1 (by rw [hn.len];exact m6'.2)
  have fin:∀(z:Str),bD z->au H (upd H4 l0 (.lst (es.map V.str++[.str z])))/\(upd H4 l0 (.lst (es.map V.str++[.str z]))) l2=some (.lst (([r1,r3]:List Int).map V.int))/\(upd H4 l0 (.lst (es.map V.str++[.str z]))) l0=some (.lst ((es++[z]).map V.str)):=fun z hz=>by
   refine ⟨fun b o e=>by rw [ah (nl0 e)];exact s4 _ _ e,by rw [ah (ac2 n02)];exact e24,by rw [ai,ac1];rfl⟩
  have alB :∀z,bD z->∀x∈es++[z],bD x:=fun z hz x hx=>by
   rcases abh.mp hx with h|h
   ·exact hes x h
   ·rw [aaT.mp h];exact hz
  have szl:(es.map V.str).length<abl:=by
   rw [ir];exact aaS (show es.length<3 by omega) (by decide)
  refine ⟨_,rfl,_,rfl,_,_,rfl,rfl,dv8 (by decide) (by decide),_,_,rfl,rfl,nz (by decide),nl,_,_,_,rfl,rfl,s4.seq hl,ey,?_⟩;have zo:=(hn.ok y hy).1;refine ⟨_,rfl,_,_,rfl,rfl,nz (by decide),rfl,_,rfl,aK (fun _=>?_) (fun _=>⟨_,rfl,.inl ⟨rfl,_,aZ.of e04⟩,_,rfl,l0,_,_,rfl,rfl,e04,szl,_,_,_,rfl,(fin y zo).1,(fin y zo).2.1,(fin y zo).2.2,by rw [aae,les];rfl,alB y zo⟩)⟩;refine ⟨_,rfl,kl,_,rfl,.inl (s4.seq hk),_,_,rfl,rfl,_,rfl,aK (fun c0=>?_) (fun _=>⟨_,rfl,.inl ⟨rfl,_,aZ.of e04⟩,_,rfl,l0,_,_,rfl,rfl,e04,szl,_,_,_,rfl,(fin y zo).1,(fin y zo).2.1,(fin y zo).2.2,by rw [aae,les];rfl,alB y zo⟩)⟩
  have lk:0<(kn.length:Int):=by
   have:=abn c0;rw [ir] at this;exact this
  have mk:=cz (x:=r.fdiv 8) (m:=(kn.length:Int)) lk;obtain ⟨v,hv,ev⟩:=OY (ns:=kn) (m:=(r.fdiv 8).fmod (kn.length:Int)) mk.1 mk.2;have okv:=hkn v hv;exact ⟨_,rfl,_,rfl,_,_,rfl,rfl,dv8 (by decide) (by decide),_,rfl,kl,_,rfl,.inl (s4.seq hk),_,_,rfl,rfl,nz (by rw [ir];omega),kl,_,_,_,rfl,rfl,s4.seq hk,(by rw [ir];exact ev),_,rfl,.inl ⟨rfl,_,aZ.of e04⟩,_,rfl,l0,_,_,rfl,rfl,e04,szl,_,_,_,rfl,(fin v okv).1,(fin v okv).2.1,(fin v okv).2.2,by rw [aae,les];rfl,alB v okv⟩
 rintro σ H4 ⟨o4,o5,es,rfl,s4,e24,e04,les,hes⟩;have ayB:es.length=2:=les
 match es,ayB,hes,e04 with
 | [a,b],_,hes,e04=>
 refine ⟨_,rfl,_,rfl,_,_,rfl,rfl,dv8 (by decide) (by decide),_,_,rfl,rfl,nz (by decide),nl,_,_,_,rfl,rfl,s4.seq hl,ex,_,rfl,l0,_,_,_,rfl,rfl,aZ.of e04,AS,_,rfl,l0,_,_,_,rfl,rfl,aZ.of e04,vS,z4L,?_⟩;intro t n5;generalize eX:upd _ t _=H5;have ⟨s5,e5⟩:=nw n5 eX;exact q t x a b H5 (fun b o e=>s5 _ _ (s4 _ _ e)) (aO s4 n5) e5 ⟨(hn.ok x hx).1,hes a (by simp),hes b (by simp)⟩
inductive zp (K:Frag)(vs:ε)(H:Hp)(Q:VK)(E_:XK):Prop
|mk (c:Int)(nl pl:abj)(ns:η)(us:ε)(_:vs=[.int c,.ref nl,.ref pl])(_:intBits c<=2000000)(_:aZ K H nl (ns.map V.str))(_:OX ns)(_:H pl=some (.lst us))(_:0<us.length)(_:us.length<=6)(_:∀(t:abj)(i:Nat)(pre:Str)(a:Rat×Rat)(st:τ)(H':Hp),au H H' ->H t=none->i<us.length->pre∈ns->nv (.lay ("p"++tx (i:Int)) pre a st)->(∀M,qh K H' M us.length (.ref t) (.lay ("p"++tx (i:Int)) pre a st))->Q (.ref t) H')
theorem fU:aC ["_law_cell","_law_names","_law_pieces","_law_x","_law_y","_law_times","_law_step"] zax (aa eQ):=sq
theorem zq (D:Def K mg "_law_lay_row" eQ zax)(bF:mg "len"=none)(gW:Fn P w K mg base (aT P w) 34 "_law_half" zat IT)(cQ:Fn P w K mg base (aT P w) 1 "_law_part" zaG zg):Fn P w K mg base (aT P w) 35 "_law_lay_row" zax (zp K):=by
 refine D.oo fU fun H hr h=>?_;obtain ⟨c,nl,pl,ns,us,rfl,bc,hl,hn,hp,lu,lu6,q⟩:=h;have L2:2<=abl:=by decide
 have m6:=cz (x:=c.fdiv 8) (m:=6) (by decide);obtain ⟨x,hx,ex⟩:=OY (ns:=ns) (m:=(c.fdiv 8).fmod 6) m6.1 (by rw [hn.len];exact m6.2)
 refine ⟨_,(ag (aR (i:=3) fU.nd (dh gW hr (aE (dh cQ hr (aU (pv 0) ak))))) (ag (aR (i:=4) fU.nd (dh gW hr (aE (dh cQ hr (aU (pv 0) ak))))) (ag (aR (i:=5) fU.nd (iE dw (bY (nV bS (gO ak ak ak))) (aD bE (dh cQ hr (aU (pv 0) ak)) ak))) (ag (aR (i:=6) fU.nd (aX (aU (dh gW hr (aE (dh cQ hr (aU (pv 0) ak)))) (dh gW hr (aE (dh cQ hr (aU (pv 0) ak))))))) (ae (aH (aX (nV aw (nV (aD bE (aD cS (pv 0) ak) (a8 bh rfl bF fm (aE (pv 2)))) (nV (iE dw (pv 1) (aD bE (aD cS (pv 0) ak) ak)) (gO (aX (aU (pv 3) (pv 4))) (pv 5) (pv 6)))))))))))),?_⟩
 refine ⟨_,rfl,c,1,rfl,bc,by decide,by decide,fun r1 H1 a1 b1 s1=>?_⟩;refine ⟨r1,rfl,fun x1 z1 p1 H2 s2 e2=>?_⟩;refine ⟨_,rfl,c,3,rfl,bc,by decide,by decide,fun r3 H3 a3 b3 s3=>?_⟩;refine ⟨r3,rfl,fun y1 z2 p2 H4 s4 e4=>?_⟩;have BU:au H H4:=fun b o e=>s4 _ _ (s3 _ _ (s2 _ _ (s1 _ _ e)));refine ⟨z4L,?_⟩;intro l5 n5;generalize eX:upd _ l5 _=H5;have ⟨s5,e5⟩:=nw n5 eX;refine ⟨_,rfl,c,6,rfl,bc,by decide,by decide,fun r6 H6 a6 b6 s6=>?_⟩;have m4:=cz (x:=r6) (m:=4) (by decide)
 obtain ⟨tv,etv,ktv⟩:∃tv:V,ng [V.bG,.int 1,.int 2,.int 3] (r6.fmod 4)=some tv/\(tv=.bG\/∃k:Nat,tv=.int (k:Int)/\1<=k/\k<=3):=by
  rcases (show r6.fmod 4=0\/r6.fmod 4=1\/r6.fmod 4=2\/r6.fmod 4=3 by omega) with z|z|z|z<;>rw [z]
  ·exact ⟨_,rfl,.inl rfl⟩
  ·exact ⟨_,rfl,.inr ⟨1,rfl,by decide,by decide⟩⟩
  ·exact ⟨_,rfl,.inr ⟨2,rfl,by decide,by decide⟩⟩
  ·exact ⟨_,rfl,.inr ⟨3,rfl,by decide,by decide⟩⟩
 refine ⟨_,_,rfl,rfl,nz (by decide),l5,_,_,_,rfl,rfl,aZ.of (s6 _ _ e5),etv,_,rfl,c,2,rfl,bc,by decide,by decide,fun r7 H7 a7 b7 s7=>?_⟩;refine ⟨r7,rfl,fun x3 z3 p3 H8 s8 e8=>?_⟩;refine ⟨_,rfl,c,5,rfl,bc,by decide,by decide,fun r9 H9 a9 b9 s9=>?_⟩;refine ⟨r9,rfl,fun y3 z4 p4 HA sA eA=>⟨L2,?_⟩⟩;intro tS nS;generalize eX:upd _ tS _=HB;have ⟨sS,eS⟩:=nw nS eX;have s4B:au H4 HB:=fun b o e=>sS _ _ (sA _ _ (s9 _ _ (s8 _ _ (s7 _ _ (s6 _ _ (s5 _ _ e))))));have s0B:au H HB:=fun b o e=>s4B _ _ (BU _ _ e);have hlen:(us.length:Int)≠0:=by omega
 have mi:=cz (x:=c.fdiv 48) (m:=(us.length:Int)) (by omega);obtain ⟨i,ei⟩:∃i:Nat,(c.fdiv 48).fmod (us.length:Int)=(i:Int):=⟨((c.fdiv 48).fmod (us.length:Int)).toNat,by omega⟩;refine ⟨_,rfl,_,_,rfl,rfl,dv8 (by decide) (by decide),_,rfl,pl,_,rfl,.inl (aZ.of (s0B _ _ hp)),_,_,rfl,rfl,nz hlen,?_⟩;rw [ei];refine ⟨_,rfl,_,rfl,_,_,rfl,rfl,dv8 (by decide) (by decide),_,_,rfl,rfl,nz (by decide),nl,_,_,_,rfl,rfl,s0B.seq hl,ex,_,rfl,_,rfl,L2,?_⟩;intro tA nA;generalize eX:upd _ tA _=HC;have ⟨sC,eC⟩:=nw nA eX;refine ⟨_,rfl,_,rfl,z6L,?_⟩;intro t nD;generalize eX:upd _ t _=HD;have ⟨sD,eD⟩:=nw nD eX;have s4C:au H4 HC:=fun b o e=>sC _ _ (s4B _ _ e);have s0C:au H HC:=fun b o e=>sC _ _ (s0B _ _ e);have eA2:=sS _ _ eA;have e82:=sS _ _ (sA _ _ (s9 _ _ e8));have hA:og K HC (.ref tA) (x1,y1):=FQ eC ((j0 (s4 _ _ (s3 _ _ e2))).same s4C) ((j0 e4).same s4C);have hS:og K HB (.ref tS) (x3,y3):=FQ eS (j0 e82) (j0 eA2)
 rcases ktv with rfl|⟨k,rfl,k1,k3⟩
 ·exact q t i x (x1,y1) none HD (fun b o e=>sD _ _ (s0C _ _ e)) (aO s0C nD) (by omega) hx ⟨(hn.ok x hx).1,z1,z2,fun _ _ z=>nomatch z⟩ fun M=>.lay t i x _ _ _ _ (x3,y3) none rfl (by omega) (dG.of eD) (hA.same sD) ((hS.same sC).same sD) ⟨z3,z4⟩ (.inl ⟨rfl,rfl⟩)
 ·exact q t i x (x1,y1) (some (k,(x3,y3))) HD (fun b o e=>sD _ _ (s0C _ _ e)) (aO s0C nD) (by omega) hx ⟨(hn.ok x hx).1,z1,z2,fun k' s' z=>by cases z;exact ⟨k1,k3,z3,z4⟩⟩ fun M=>.lay t i x _ _ _ _ (x3,y3) _ rfl (by omega) (dG.of eD) (hA.same sD) ((hS.same sC).same sD) ⟨z3,z4⟩ (.inr ⟨k,rfl,rfl⟩)
inductive xD (K:Frag)(vs:ε)(H:Hp)(Q:VK)(E_:XK):Prop
|mk (u:V)(M:ξ)(n:Nat)(pc pre:Str)(a:Rat×Rat)(st:τ)(_:vs=[u])(_:qh K H M n u (.lay pc pre a st))(_:nv (.lay pc pre a st))(_:∀(l:abj)(H':Hp),au H H' ->H l=none->H' l=some (.lst (((marks pre a st).map (·.1)).map V.str))->Q (.ref l) H')
theorem IV:aC zau zau (aa g8):=sq
theorem IW (D:Def K mg "_law_marks" g8 zau)(dS:mg "range"=none)(dA:mg "str"=none):Fn P w K mg base CX 1 "_law_marks" zau (xD K):=by
 refine D.op IV fun f cdv A outer s H vs Q E hr h=>?_;obtain ⟨u,M,n,pc,pre,a,st,rfl,hw,hg,q⟩:=h;obtain ⟨gp,g1,g2,gs⟩:=hg;have lp:=gp.len
 refine ⟨_,(ag (aS (aL iC (aI (pv 0)) bS) (ae (aH (bY (aE (aI (pv 0)))))) aG) (ae (aH (iX (tn:=["_law_k"]) (fr:=zau) (caps:=[0]) (jI rfl dS (aE (aI (pv 0)))) (aD bx (iE (kD (K:=K) rfl) (pv 1) ak) (cB cG rfl dA kx (aE (pv 0)))))))),?_⟩
 cases hw with
 | lay t i pre va vs tv a s st e hi h1 h2 h3 h4 h5=>
 subst e
 rcases h5 with ⟨rfl,rfl⟩|⟨k,rfl,rfl⟩
 ·refine ⟨_,rfl,t,_,_,_,rfl,rfl,h1,rfl,rfl,_,rfl,fY ?_⟩
  refine ⟨_,rfl,t,_,_,_,rfl,rfl,h1,rfl,z1L,?_⟩;intro l n1;generalize eX:upd _ l _=H1;have ⟨s1,e1⟩:=nw n1 eX;exact q l H1 s1 n1 e1
 ·refine ⟨_,rfl,t,_,_,_,rfl,rfl,h1,rfl,rfl,_,rfl,dz ?_⟩
  obtain ⟨k1,k3,_,_⟩:=gs k s rfl;refine ⟨_,rfl,t,_,_,_,rfl,rfl,h1,rfl,(k:Int),rfl,by omega,by omega,fun D nD=>?_⟩;rw [show ((k:Nat):Int).toNat=k by omega];refine yj (lo:=0) (n:=k) (fun i v _=>v=.str (pre++tx (i:Int))) nD (aaW k3 (by decide)) (fun _ _ _ _ _ _ _ h=>h) ?_ ?_
  ·intro i H2 R hi s2 kk
   have ei:(0:Int)+(i:Int)=(i:Int):=am6 _;rw [ei];have lt:=gj (n:=(i:Int)) (k:=2) (by decide) (by show i<100;omega);refine ⟨_,rfl,t,_,_,_,rfl,rfl,Ty.au.cy s2 h1,rfl,_,rfl,(i:Int),rfl,?_,pre,tx (i:Int),rfl,rfl,aah (show pre.length+(tx (i:Int)).length<=30 by omega) (by decide),kk _ _ (au.refl _) rfl⟩;have:i<2^1920:=aaS (show i<3 by omega) (by decide+kernel);show i.log2<1920
   rcases ag3 i with z|z
   ·rw [z];decide
   ·exact (ahT (by omega)).mpr this
  ·intro ys H2 hy zr s2 hD
   have e:=NN (f:=fun i=>V.str (pre++tx (i:Int))) hy zr;refine q D H2 s2 nD ?_;rw [hD,e];unfold marks;simp only [ae5];rfl
structure LPc (K:Frag)(H:Hp)(M:ξ)(i:Nat)(u:V)(rows:Α):Prop where
 ex:∃(t rl kl:abj)(us:ε)(kn:η),u=.ref t/\dG K H t [.ref rl,.ref kl]/\rl∉M/\H rl=some (.lst us)/\Paired (qh K H M i) us rows/\kl∉M/\H kl=some (.lst (kn.map V.str))/\kn.length<=40/\∀x∈kn,bD x
 ok:∀r∈rows,nv r
 len:rows.length<=6
structure nC (K:Frag)(H:Hp)(M:ξ)(us:ε)(bj:ρ):Prop where
 len:us.length=bj.length
 pc:∀i u p,us[i]?=some u->bj[i]?=some p->LPc K H M i u p
theorem LPc.same (h:LPc K H M i u rows)(s:au H H'):LPc K H' M i u rows:=by
 obtain ⟨t,rl,kl,us,kn,e,h1,h2,h3,h4,h5,h6,h7,h8⟩:=h.ex;exact ⟨⟨t,rl,kl,us,kn,e,Ty.au.cy s h1,h2,s _ _ h3,Paired.bJ h4 fun _ _ z=>z.same s,h5,s _ _ h6,h7,h8⟩,h.ok,h.len⟩
theorem nC.same (h:nC K H M us bj)(s:au H H'):nC K H' M us bj:=⟨h.len,fun i u p a b=>(h.pc i u p a b).same s⟩
def OZ (K:Frag)(H H':Hp)(x y:abj)(n:Nat)(u:V)(r:Rw):Prop:=∀M:List abj,(∀b∈M,b=x\/b=y\/H b≠none)->qh K H' M n u r
theorem OZ.up (h:OZ K H H' x y n u r)(k:∀b zs,b≠x->b≠y->H' b=some (.lst zs)->H2 b=some (.lst zs))(t:bf H' H2):OZ K H H2 x y n u r:=fun M hM=>
 (h (x::y::M) (fun b hb=>by
  rcases aa3.mp hb with z|hb
  ·exact .inl z
  rcases aa3.mp hb with z|hb
  ·exact .inr (.inl z)
  ·exact hM b hb)).mono (fun b zs nb e=>k b zs (fun z=>nb (by rw [z];exact aa_)) (fun z=>nb (by rw [z];exact aa2 _ aa_)) e) t (fun b hb=>.inl (aa2 _ (aa2 _ hb))) (aaM _)
open Classical in
theorem OZ.new {H H' H2:Hp}{x y y2:abj}{n:Nat}{u:V}{r:Rw}(h:OZ K H H' x y n u r)(n2:H' y2=none)(s:au H' H2):OZ K H H2 x y2 n u r:=fun M hM=>
 (h (x::y::M.filter (fun b=>decide (H b≠none))) (fun b hb=>by
  rcases aa3.mp hb with z|hb
  ·exact .inl z
  rcases aa3.mp hb with z|hb
  ·exact .inr (.inl z)
  ·exact .inr (.inr (abn (ahC.mp hb).2)))).mono (fun b zs _ e=>s _ _ e) (.of s) (fun b hb=>by
   rcases hM b hb with z|z|z
   ·rw [z];exact .inl aa_
   ·rw [z];exact .inr n2
   ·exact .inl (aa2 _ (aa2 _ (ahC.mpr ⟨hb,abu z⟩)))) (aaM _)
theorem O_ (h:bD x):Sn x:=by
 have:=h.nm;unfold isName at this;rw [ac8,afP] at this;exact this.2
theorem alC (h:bD x):1<=x.length:=by
 have:=h.nm;unfold isName at this;rw [ac8] at this
 rcases ag3 x.length with z|z
 ·exfalso
  have e:x="":=by
   refine jE ?_;rw [cK] at z;rw [List.length_eq_zero_iff.mp z];decide+kernel
  rw [e] at this;exact abo this.1 (by decide+kernel)
 ·exact z
theorem ahK (i:Nat):Sn (tx (i:Int)):=fun c hc=>by
 have k:∀c∈[48,49,50,51,52,53,54,55,56,57],eJ c=true:=by decide+kernel
 rw [ZU] at hc;have:=qP _ c hc;refine k c ?_;simp;omega
theorem xE {st:τ}(h:bD pre)(h3:∀k s,st=some (k,s)->k<=3):∀m∈(marks pre a st).map (·.1),Sn m/\1<=m.length/\m.length<=23:=by
 have l1:=alC h;have l2:=h.len;cases st with
 | none=>
  intro m hm;rw [aaT.mp hm];exact ⟨O_ h,l1,aah l2 (by decide)⟩
 | some z=>
  obtain ⟨k,s⟩:=z;have k3:=h3 k s rfl;intro m hm;obtain ⟨q,hq,rfl⟩:=ac3.mp hm;obtain ⟨i,hi,rfl⟩:=ac3.mp hq;rw [ahG] at hi;have lt:=gj (n:=(i:Int)) (k:=2) (by decide) (by show i<100;omega);refine ⟨lC (O_ h) (ahK i),?_,?_⟩
  ·show 1<=(pre++tx (i:Int)).length
   rw [abG];omega
  ·show (pre++tx (i:Int)).length<=23
   rw [abG];omega
theorem kM {cap:L2.St}(p:Nat->Bool)(J:Nat->List V->Hp->Prop)(nD:H1 D=none)(hS:∀H,au H1 H->aZ K H a xs)(hn:xs.length<abl)(h0:J 0 [] (upd H1 D (.lst [])))
  (ht:∀(i:Nat) x H (R:Bool->Hp->Prop),xs[i]?=some x->au H1 H->R (p i) H->tt (some x::cap) H R)
  (hf:∀(i:Nat) ys H,p i=false->J i ys H->J (i+1) ys H)
  (he:∀(i:Nat) x ys H (R:VK),xs[i]?=some x->p i=true->J i ys H->au H1 H->H D=some (.lst ys)->(∀v H6,au H H6->J (i+1) (ys++[v]) (upd H6 D (.lst (ys++[v])))->R v H6)->te (some x::cap) H R)
  (hd:∀ys H,J xs.length ys H->au H1 H->H D=some (.lst ys)->Q (.ref D) H):
  BA D (fj 0) tt te (Itl K a) (none::cap) H1 Q:=by
 refine ⟨fun i m σ ys H=>m=xs.length-i/\i<=xs.length/\(∃o,σ=o::cap)/\au H1 H/\H D=some (.lst ys)/\J i ys H/\ys.length<=i,⟨xs.length,by simp,aer _,⟨none,rfl⟩,fun b o e=>by rw [ah (aj e nD)];exact e,ai,h0,aaM _⟩,?_⟩;rintro i m σ ys H ⟨rfl,hi,⟨o,rfl⟩,s,hD,ey,ly⟩;by_cases AQ:i<xs.length
 ·refine .inr ⟨⟨xs,xs[i],hS H s,gE AQ⟩,fun v H' y=>?_⟩
  obtain ⟨rfl,y2⟩:=y;have q1:=y2 xs (hS _ s);unfold fj;refine ht i v _ _ q1 s ?_;by_cases c:p i=true
  ·rw [abv c]
   exact he i v ys _ _ q1 c ey s hD fun u H6 s6 j=>⟨s6 _ _ hD,by omega,xs.length-(i+1),by omega,rfl,by omega,⟨_,rfl⟩,fun b o e=>by rw [ah (aj e nD)];exact s6 _ _ (s _ _ e),ai,j,by simp;omega⟩
  ·rw [abp c]
   exact ⟨xs.length-(i+1),by omega,rfl,by omega,⟨_,rfl⟩,s,hD,hf i ys _ (by simpa using c) ey,by omega⟩
 ·have e:i=xs.length:=by omega
  subst e;exact .inl ⟨⟨xs,hS _ s,aaM _⟩,hd ys H ey s hD⟩
inductive IX (K:Frag)(vs:ε)(H:Hp)(Q:VK)(E_:XK):Prop
|mk (cA nl pl:abj)(cs:List Int)(ns:η)(kj:ε)(bj:List (List Rw:_))(_:vs=[.ref cA,.ref nl,.ref pl])(_:aZ K H cA (cs.map V.int))(_:cs.length<=6)(_:(∀c∈cs,intBits c<=2000000))(_:aZ K H nl (ns.map V.str))(_:OX ns)(_:H pl=some (.lst kj))(_:nC K H [] kj bj)(_:bj.length<=6)(_:∀(t:abj)(rows:Α)(H':Hp),au H H' ->H t=none->(∀M,(∀b∈M,H b≠none)->LPc K H' M bj.length (.ref t) rows)->Q (.ref t) H')
theorem aqq (kn:η):r8 (kn.map V.str) none (some 40)=(kn.take 40).map V.str:=by
 have b:HT.qH (kn.map V.str).length (kn.map V.str).length (some 40)=min 40 (kn.map V.str).length:=by
  simp only [HT.qH];split<;>omega
 have a:HT.qH (kn.map V.str).length 0 none=0:=rfl;unfold r8;rw [a,b,ane,Nat.sub_zero,<-ahz,ir];congr 1;by_cases c:kn.length<=40
 ·rw [aoL c,afL,ae1 c]
 ·rw [am8 (by omega)]
theorem dP {x:α}{y:β}(h:Paired R (xs++[x]) (ys++[y])):R x y:=by
 have l:xs.length=ys.length:=by
  have:=abK h;simp at this;exact this
 obtain ⟨b,e,hb⟩:=aY h (show (xs++[x])[xs.length]?=some x by simp);rw [l] at e;have:b=y:=by simpa using e.symm
 rw [<-this];exact hb
theorem Sd (a b:Str):decide (V.str a=V.str b)=decide (a=b):=by
 by_cases c:a=b
 ·rw [abu c,abu (by rw [c])]
 ·rw [aby c,aby (ne_str c)]
def lY:Rw->Bool
 | .lay _ _ _ _=>true
 | _=>false
def ahL:Rw->Str
 | .pin _=> "pin"
 | .bar _ _ _=> "bar"
 | .lay _ _ _ _=> "lay"
theorem zt (r:Rw):lY r=decide (ahL r="lay"):=by
 cases r with
 | pin p=>exact (aby (show ("pin":Str)≠ "lay" by decide+kernel)).symm
 | bar x a b=>exact (aby (show ("bar":Str)≠ "lay" by decide+kernel)).symm
 | lay pc pre a st=>exact (abu (show ("lay":Str)="lay" from rfl)).symm
theorem qh.kind (h:qh K H M n u r):∃t us,u=.ref t/\dG K H t (.str (ahL r)::us):=by
 cases h with
 | pin t l vx vy us p e h1=>exact ⟨_,_,e,h1⟩
 | bar t x a b e h1=>exact ⟨_,_,e,h1⟩
 | lay t i pre va vs tv a s st e hi h1=>exact ⟨_,_,e,h1⟩
theorem fV:aC ["_law_cells","_law_names","_law_pieces","_law_rows_here","_law_known","_law_cell","_law_laid_here","_law_mark"] zaw (aa iL):=sq
theorem Pg (D:Def K mg "_law_rows" iL zaw)(bF:mg "len"=none)(BV:Fn P w K mg base (aT P w) 35 "_law_pin_row" zaO (zj K))(BW:Fn P w K mg base (aT P w) 2 "_law_bar_row" zay (zl K))(BX:Fn P w K mg base (aT P w) 35 "_law_lay_row" zax (zp K))(oF:Fn P w K mg base (aT P w) 1 "_law_marks" zau (xD K)):
  Fn P w K mg base (aT P w) 36 "_law_rows" zaw (IX K):=by
 refine D.op fV fun f cdv A outer s H vs Q E hr h=>?_;obtain ⟨cA,nl,pl,cs,ns,kj,bj,rfl,hc,lc6,bits,hl,hn,hp,wB,lp6,q⟩:=h;have Vc:=wB.len
 refine ⟨_,(ag (aR (i:=3) fV.nd (bY h_)) (ag (aR (i:=4) fV.nd (bY h_)) (ag (dU abW rfl (cJ (pv 0)) (hU (i:=5) fV.nd) (ae (aS (PW.pt (pZ (aL vH (aD bE (pv 5) ak) ak) (mn (PW.pt (jO (aL Uu (aD bE (pv 5) ak) ak) (iV (aL cn (a8 bh rfl bF fm (aE (pv 2))) ak))))))) (ag (bg (gA abQ abO abP dc (pv 3) (aE (dh BV hr (aU (pv 5) (pv 1)))))) (ae (bg (gA abQ abO abP dc (pv 4) (aE (aI (iE dw (pv 3) (ML xN ak)))))))) (ae (aS (aL vH (aD bE (pv 5) ak) ak) (ae (bg (gA abQ abO abP dc (pv 3) (aE (dh BW hr (gO (pv 5) (pv 1) (pv 4))))))) (ag (RE (i:=6) (tn:=zau) (fr:=[]) (caps:=[]) fV.nd (cJ (pv 3)) (fun _ _ _ _=>(mq (i:=0) (show (zau:List Str).Nodup from by decide+kernel) rfl (am0 rfl))) (fun _ _ _ _=>(Rt (aL cn (iE (kD (K:=K) rfl) (pv 0) ak) aw))) (pv 0)) (ag (aS (PW.pt (jO (aL cn (aD bE (aD cS (pv 5) ak) ak) ak) (iV (aL Uu (a8 bh rfl bF fm (aE (pv 6))) ak)))) (ae (bg (gA abQ abO abP dc (pv 3) (aE (iE dw (pv 6) (ML xN ak)))))) (ae (bg (gA abQ abO abP dc (pv 3) (aE (dh BX hr (gO (pv 5) (pv 1) (pv 2)))))))) (ae (dU abW rfl (cJ (dh oF hr (aE (iE dw (pv 3) (ML xN ak))))) (hU (i:=7) fV.nd) (ae (aR (i:=4) fV.nd (aD mC (pv 4) (akI (tn:=["_law_name"]) (fr:=["_law_mark"]) (caps:=[7]) (cJ (aI (iE dw (pv 2) (aI (iE dw (pv 3) (ML xN ak)))))) (fun _ _ _ _=>(mq (i:=0) (show (["_law_name","_law_mark"]:List Str).Nodup from by decide+kernel) rfl (am0 rfl))) (fun _ _ _ _=>(Rt (aL vH (a8 mB rfl bF fm (aE (aD bx (pv 1) (pv 0)))) ak))) (aD bx (pv 1) (pv 0))))))))))))))) (ae (aH (aX (aU (pv 3) (jb mx (pv 4) o_ (iW ak))))))))),?_⟩
 refine ⟨z0L,?_⟩;intro lr nr;generalize eX:upd _ lr _=H1;have ⟨s1,er⟩:=nw nr eX;refine ⟨z0L,?_⟩;intro lk0 nk;generalize eX:upd _ lk0 _=H2;have ⟨s2,ek⟩:=nw nk eX;have nkH:=aO s1 nk;have Yy:lr≠lk0:=aj er nk;have nG:=aJ s1 s2
 refine ⟨_,rfl,cA,rfl,⟨_,nG.seq hc⟩,eG (K:=K) (a:=cA) (xs:=cs.map V.int) (fun i σ H'=>Ex7 fun (o5 o6 o7:ω) (lk:abj) (us:ε) (rows:Α) (kn:η)=>σ=[some (.ref cA),some (.ref nl),some (.ref pl),some (.ref lr),some (.ref lk),o5,o6,o7]/\au H H'/\H lk=none/\lr≠lk/\H' lr=some (.lst us)/\H' lk=some (.lst (kn.map V.str))/\Paired (OZ K H H' lr lk bj.length) us rows/\(∀r∈rows,nv r)/\rows.length=i/\(∀x∈kn,bD x)/\kn.length<=200*i) ⟨none,none,none,lk0,[],[],[],rfl,nG,nkH,Yy,s2 _ _ er,ek,.nil,(fun _ h=>nomatch h),rfl,(fun _ h=>nomatch h),aer _⟩ (fun i σ H' _ h=>by
   obtain ⟨_,_,_,_,_,_,_,_,h,_⟩:=h
   exact h.seq hc) ?_ ?_⟩
 ·rintro i v σ H3 ei ⟨o5,o6,o7,lk,us,rows,kn,rfl,s3,nlk,Yy,LR,ek3,pr3,rg3,lr3,kn3,lk3⟩
  rw [aaU] at ei;obtain ⟨c,ec,rfl⟩:=ab_.mp ei;have il:=(Wp.mp ec).1;have bc:=bits c (aaP ec);have lus:us.length=rows.length:=abK pr3;have Se :us.length<abl:=aaW (show us.length<=100 by omega) (by decide);have m8:=cz (x:=c) (m:=8) (by decide)
  have ex3:∀b,b=lr\/b=lk\/H b≠none->H3 b≠none:=fun b hb z=>by
   rcases hb with hb|hb|hb
   ·rw [hb,LR] at z;cases z
   ·rw [hb,ek3] at z;cases z
   ·cases e:H b with
    | none=>exact hb e
    | some o=>rw [s3 _ _ e] at z;cases z
  have rgs:∀{r:Rw},nv r->∀x∈rows++[r],nv x:=fun {r} hr x hx=>by
   rcases abh.mp hx with h|h
   ·exact rg3 x h
   ·rw [aaT.mp h];exact hr
  have put:∀(H4:Hp)(t:abj)(r:Rw),au H3 H4->OZ K H H4 lr lk bj.length (.ref t) r->au H (upd H4 lr (.lst (us++[.ref t])))/\(upd H4 lr (.lst (us++[.ref t]))) lk=some (.lst (kn.map V.str))/\Paired (OZ K H (upd H4 lr (.lst (us++[.ref t]))) lr lk bj.length) (us++[.ref t]) (rows++[r]):=fun H4 t r s4 hr=>by
   have er4:=s4 _ _ LR;have t45:bf H4 (upd H4 lr (.lst (us++[.ref t]))):=.list er4;have up:∀{u r},OZ K H H4 lr lk bj.length u r->OZ K H (upd H4 lr (.lst (us++[.ref t]))) lr lk bj.length u r:=fun {u r} z=>z.up (fun b zs n1 _ e=>by rw [ah n1];exact e) t45;refine ⟨fun b o e=>?_,?_,acA (Paired.bJ pr3 fun _ _ z=>up (z.up (fun b zs _ _ e=>s4 _ _ e) (.of s4))) (up hr)⟩
   ·rw [ah (aj e nr)]
    exact s4 _ _ (s3 _ _ e)
   ·rw [ah (ac2 Yy)]
    exact s4 _ _ ek3
  refine ⟨_,rfl,_,_,rfl,rfl,nz (by decide),_,_,rfl,rfl,_,rfl,?_⟩;refine aK (fun _=>?_) (fun c1=>?_)
  ·refine fY ?_
   refine ⟨_,rfl,.inl ⟨rfl,_,aZ.of LR⟩,_,rfl,_,rfl,c,nl,ns,rfl,bc,s3.seq hl,hn,fun t p H4 s4 nt mp rg lf=>?_⟩;have lf4:OZ K H H4 lr lk bj.length (.ref t) (.pin p):=fun M hM=>lf M _ fun b hb=>ex3 b (hM b hb);obtain ⟨s5,ek5,pr5⟩:=put H4 t (.pin p) s4 lf4;refine ⟨lr,_,_,rfl,rfl,s4 _ _ LR,Se,?_⟩;have er5:(upd H4 lr (.lst (us++[.ref t]))) lr=some (.lst (us++[.ref t])):=ai;generalize upd H4 lr (.lst (us++[.ref t]))=H5 at s5 ek5 pr5 er5 ⊢
   obtain ⟨nmt,et⟩:∃qb,dG K H5 t (.str "pin"::.str p.nm::qb):=by
    obtain ⟨r0,Sf⟩:∃r0,qh K H5 [] bj.length (.ref t) r0/\r0=.pin p:=by
     have aaR:=dP pr5;exact ⟨_,aaR [] (fun _ h=>nomatch h),rfl⟩
    obtain ⟨Sf,rfl⟩:=Sf;cases Sf with
    | pin t1 l vx vy qb _ e h1=>cases e;exact ⟨_,h1⟩
   refine ⟨_,rfl,.inl ⟨rfl,_,aZ.of ek5⟩,_,rfl,_,rfl,lr,_,_,_,rfl,rfl,aZ.of er5,ia _ _,t,_,_,_,rfl,rfl,et,ar (j:=1) rfl,lk,_,_,rfl,rfl,ek5,(by rw [ir];exact aaW (show kn.length<=2000 by omega) (by decide)),_,_,_,lk,us++[.ref t],rows++[.pin p],kn++[p.nm],rfl,fun b o e=>by rw [ah (aj e nlk)];exact s5 _ _ e,nlk,Yy,by rw [ah Yy];exact er5,by rw [ai,ac1];rfl,Paired.bJ pr5 fun _ _ z=>z.up (fun b zs _ n2 e=>by rw [ah n2];exact e) (.list ek5),rgs rg,by rw [aae,lr3];rfl,fun x hx=>?_,by rw [aae,ac0];omega⟩
   rcases abh.mp hx with h|h
   ·exact kn3 x h
   ·rw [aaT.mp h];exact (hn.ok _ mp).1
  refine ⟨_,rfl,_,_,rfl,rfl,nz (by decide),_,_,rfl,rfl,_,rfl,?_⟩;refine aK (fun c2=>?_) (fun c2=>?_)
  ·refine ⟨_,rfl,pl,_,rfl,.inl (aZ.of (s3 _ _ hp)),rfl,_,rfl,?_⟩
   refine aK (fun _=>?_) (fun c3=>?_)
   ·refine ⟨_,rfl,.inl ⟨rfl,_,aZ.of LR⟩,_,rfl,_,rfl,c,nl,ns,rfl,bc,s3.seq hl,hn,fun t p H4 s4 nt mp rg lf=>?_⟩
    have lf4:OZ K H H4 lr lk bj.length (.ref t) (.pin p):=fun M hM=>lf M _ fun b hb=>ex3 b (hM b hb);obtain ⟨s5,ek5,pr5⟩:=put H4 t (.pin p) s4 lf4;refine ⟨lr,_,_,rfl,rfl,s4 _ _ LR,Se,?_⟩;have er5:(upd H4 lr (.lst (us++[.ref t]))) lr=some (.lst (us++[.ref t])):=ai;generalize upd H4 lr (.lst (us++[.ref t]))=H5 at s5 ek5 pr5 er5 ⊢
    obtain ⟨nmt,et⟩:∃qb,dG K H5 t (.str "pin"::.str p.nm::qb):=by
     obtain ⟨r0,Sf⟩:∃r0,qh K H5 [] bj.length (.ref t) r0/\r0=.pin p:=by
      have aaR:=dP pr5;exact ⟨_,aaR [] (fun _ h=>nomatch h),rfl⟩
     obtain ⟨Sf,rfl⟩:=Sf;cases Sf with
     | pin t1 l vx vy qb _ e h1=>cases e;exact ⟨_,h1⟩
    refine ⟨_,rfl,.inl ⟨rfl,_,aZ.of ek5⟩,_,rfl,_,rfl,lr,_,_,_,rfl,rfl,aZ.of er5,ia _ _,t,_,_,_,rfl,rfl,et,ar (j:=1) rfl,lk,_,_,rfl,rfl,ek5,(by rw [ir];exact aaW (show kn.length<=2000 by omega) (by decide)),_,_,_,lk,us++[.ref t],rows++[.pin p],kn++[p.nm],rfl,fun b o e=>by rw [ah (aj e nlk)];exact s5 _ _ e,nlk,Yy,by rw [ah Yy];exact er5,by rw [ai,ac1];rfl,Paired.bJ pr5 fun _ _ z=>z.up (fun b zs _ n2 e=>by rw [ah n2];exact e) (.list ek5),rgs rg,by rw [aae,lr3];rfl,fun x hx=>?_,by rw [aae,ac0];omega⟩
    rcases abh.mp hx with h|h
    ·exact kn3 x h
    ·rw [aaT.mp h];exact (hn.ok _ mp).1
   have lp0:0<kj.length:=by
    rcases ag3 kj.length with z|z
    ·exact abo (by rw [z];decide) c3
    ·exact z
   refine ⟨_,rfl,_,_,rfl,rfl,nz (by decide),_,_,rfl,rfl,_,rfl,?_⟩;refine aK (fun c4=>?_) (fun _=>?_)
   ·have:=abn c4
    have:=abn c2;omega
   refine ⟨_,rfl,lr,rfl,⟨_,aZ.of LR⟩,fun D nD=>?_⟩;refine RD (K:=K) (a:=lr) (xs:=us) (zs:=rows) (Rl:=OZ K H H3 lr lk bj.length) (cap:=[]) lY pr3 nD Se (fun H' s'=>aZ.of (s' _ _ LR)) ?_ (fun x z H' R _ _ k=>⟨_,rfl,k⟩) ?_
   ·intro x z H' R hx hz s' k
    obtain ⟨t,qb,rfl,ht⟩:=(hx [] (fun _ h=>nomatch h)).kind;refine ⟨_,rfl,t,_,_,_,rfl,rfl,Ty.au.cy s' ht,ar (j:=0) rfl,rfl,_,rfl,?_⟩;rw [Sd,<-zt];exact k H' (au.refl _)
   intro ys H4 py s4 eD
   have lyl:ys.length<=us.length:=by
    have h1:=abK py;have h2:=List.length_filter_le lY rows;omega
   refine ⟨_,rfl,_,_,rfl,rfl,dv8 (by decide) (by decide),_,_,rfl,rfl,nz (by decide),rfl,_,rfl,?_⟩;refine aK (fun _=>?_) (fun _=>?_)
   ·refine ⟨_,rfl,D,_,rfl,.inl (aZ.of eD),_,_,rfl,rfl,_,rfl,?_⟩
    refine aK (fun c6=>?_) (fun _=>?_)
    ·have ly0:0<ys.length:=by
      have:=abn c6;omega
     have fl:(rows.filter lY).length=ys.length:=(abK py).symm
     obtain ⟨ys',y,rfl⟩:∃ys' y,ys=ys'++[y]:=by
      rcases am' ys with h|⟨l',a',h⟩
      ·rw [h] at ly0;cases ly0
      ·exact ⟨l',a',by rw [h,ana]⟩
     obtain ⟨zs',z,ez⟩:∃zs' z,rows.filter lY=zs'++[z]:=by
      rcases am' (rows.filter lY) with h|⟨l',a',h⟩
      ·rw [h] at fl;simp at fl
      ·exact ⟨l',a',by rw [h,ana]⟩
     rw [ez] at py;have hyz:=dP py;have mz:z∈rows.filter lY:=by rw [ez];simp
     obtain ⟨mz1,mz2⟩:=ahC.mp mz;have rg:=rg3 z mz1;cases z with
     | pin p=>cases mz2
     | bar x a b=>cases mz2
     | lay pc pre a st=>
     obtain ⟨t,_,rfl,_⟩:=(hyz [] (fun _ h=>nomatch h)).kind;obtain ⟨H5,e5,LQ⟩:∃H5,H5=H4/\au H3 H5:=⟨H4,rfl,s4⟩;obtain ⟨s6,ek6,pr6⟩:=put H5 t (.lay pc pre a st) LQ (hyz.up (fun b zs _ _ e=>LQ _ _ e) (.of LQ));refine ⟨_,rfl,.inl ⟨rfl,_,aZ.of (s4 _ _ LR)⟩,_,rfl,_,rfl,D,_,_,_,rfl,rfl,aZ.of eD,ia _ _,lr,_,_,rfl,rfl,s4 _ _ LR,Se,?_⟩;rw [<-e5];have Vd:(upd H5 lr (.lst (us++[.ref t]))) lr=some (.lst (us++[.ref t])):=ai;generalize upd H5 lr (.lst (us++[.ref t]))=H6 at s6 ek6 pr6 Vd ⊢;have rgr:=rgs rg;have lw6:=dP pr6 [] (fun _ h=>nomatch h);refine ⟨_,rfl,_,rfl,lr,_,_,_,rfl,rfl,aZ.of Vd,ia _ _,_,[],_,pc,pre,a,st,rfl,lw6,rg,fun lm H7 s7 nm em=>?_⟩
     have l3:((marks pre a st).map (·.1)).length<=3:=by
      rw [ir];cases st with
      | none=>exact (by show 1<=3;decide)
      | some z=>
       obtain ⟨k,s⟩:=z;show ((afD k).map _).length<=3;rw [ir,ag'];exact (rg.2.2.2 k s rfl).2.1
     have msn:=xE (a:=a) rg.1 (fun k s e=>(rg.2.2.2 k s e).2.1);generalize (marks pre a st).map (·.1)=ms at em l3 msn;have lrm:lr≠lm:=aj Vd nm
     refine ⟨lm,rfl,⟨_,aZ.of em⟩,eG (K:=K) (a:=lm) (xs:=ms.map V.str) (fun j σ H'=>Ex3 fun (o7:ω) (tH :abj) (ve :η)=>σ=[some (.ref cA),some (.ref nl),some (.ref pl),some (.ref lr),some (.ref tH),some (.int c),some (.ref D),o7]/\au H H'/\H' lm=some (.lst (ms.map V.str))/\H tH =none/\lr≠tH /\H' lr=some (.lst (us++[.ref t]))/\H' tH =some (.lst (ve.map V.str))/\Paired (OZ K H H' lr tH bj.length) (us++[.ref t]) (rows++[.lay pc pre a st])/\(∀x∈ve,bD x)/\ve.length<=200*i+40*j) ⟨o7,lk,kn,rfl,aJ s6 s7,em,nlk,Yy,s7 _ _ Vd,s7 _ _ ek6,Paired.bJ pr6 fun _ _ z=>z.up (fun b zs _ _ e=>s7 _ _ e) (.of s7),kn3,by omega⟩ (fun j σ H' _ h=>by
       obtain ⟨_,_,_,_,_,h,_⟩:=h
       exact aZ.of h) ?_ ?_⟩
     ·rintro j v σ H8 ej ⟨o7,tH,ve,rfl,s8,em8,Ph,Pj,Pk,ek8,Ve,kn8,lk8⟩
      rw [aaU] at ej;obtain ⟨m,ej',rfl⟩:=ab_.mp ej;have jl:=(Wp.mp ej').1;obtain ⟨snm,m1,m23⟩:=msn m (aaP ej');have lw8:=dP Ve [] (fun _ h=>nomatch h);cases lw8 with
      | lay t1 i1 aqx va ET tv a1 s1' st1 e hi h1 h2 h3 h4 h5=>
      cases e;have hpi:=gE (show i1<kj.length by omega);have hqi:=gE hi;obtain ⟨tp,rl,kl,qb,QK,ep,hp1,_,_,_,_,hkl,aaV,nk1⟩:=(wB.pc i1 _ _ hpi hqi).ex;refine ⟨_,rfl,_,rfl,_,rfl,_,rfl,lr,_,_,_,rfl,rfl,aZ.of Pk,ia _ _,t,_,_,_,rfl,rfl,h1,ar (j:=1) rfl,pl,_,_,_,rfl,rfl,aZ.of (s8 _ _ hp),ar hpi,tp,_,_,_,ep,rfl,Ty.au.cy s8 hp1,vS,kl,rfl,⟨_,aZ.of (s8 _ _ hkl)⟩,fun D1 nD1=>?_⟩;have z50:∀{n:Nat},n<=50->n<=abl:=fun h=>aah h (by decide)
      have get:∀{k:Nat} {x:V},(QK.map V.str)[k]?=some x->∃y,QK[k]?=some y/\x=.str y/\bD y:=fun {k x} ex=>by
       rw [aaU] at ex;obtain ⟨y,ey,rfl⟩:=ab_.mp ex;exact ⟨y,ey,rfl,nk1 y (aaP ey)⟩
      refine kM (K:=K) (a:=kl) (xs:=QK.map V.str) (cap:=[some (.str m)]) (fun k=>decide ((((m++(QK[k]?.getD "")).length:Nat):Int)<21)) (fun k ys _=>∃zs:List Str,ys=zs.map V.str/\(∀x∈zs,bD x)/\zs.length<=k) nD1 (fun H' s'=>aZ.of (s' _ _ (s8 _ _ hkl))) (by rw [ir];exact aaW aaV (by decide)) ⟨[],rfl,(fun _ h=>nomatch h),aaM _⟩ ?_ (fun k ys H' _ ⟨zs,e,a,l⟩=>⟨zs,e,a,ae_ l⟩) ?_ ?_
      ·intro k x H' R ex s' kk
       obtain ⟨y,ey,rfl,zo⟩:=get ex;have ly:=zo.len;refine ⟨_,rfl,_,rfl,m,y,rfl,rfl,z50 (by omega),m++y,rfl,z50 (by rw [abG];omega),_,_,rfl,rfl,_,rfl,?_⟩;rw [ey] at kk;exact kk
      ·rintro k x ys H' R ex pk ⟨zs,rfl,az,lz⟩ s' eD' kk
       obtain ⟨y,ey,rfl,zo⟩:=get ex;have ly:=zo.len;rw [ey] at pk;have pk':(((m++y).length:Nat):Int)<21:=abn pk;refine ⟨_,rfl,_,rfl,m,y,rfl,rfl,z50 (by omega),kk _ H' (au.refl _) ⟨zs++[m++y],by rw [ac1];rfl,fun q hq=>?_,by rw [aae,ac0];omega⟩⟩
       rcases abh.mp hq with h|h
       ·exact az q h
       ·rw [aaT.mp h]
        exact i9 (lC snm (O_ zo)) (by rw [abG];omega) (by omega)
      rintro ys H9 ⟨zs,rfl,az,lz⟩ s9 eD9;rw [ir] at lz;refine ⟨tH,D1,_,_,rfl,rfl,s9 _ _ ek8,eD9,(by rw [ir,ir];exact aah (show ve.length+zs.length<=3000 by omega) (by decide)),?_⟩;intro Yz nA;generalize eX:upd _ Yz _=HA;have ⟨sA,eA⟩:=nw nA eX;have s0A:au H HA:=fun b o e=>sA _ _ (s9 _ _ (s8 _ _ e));refine ⟨_,Yz,ve ++zs,rfl,s0A,sA _ _ (s9 _ _ em8),aO (aJ s8 s9) nA,aj (s9 _ _ Pk) nA,sA _ _ (s9 _ _ Pk),by rw [eA,ac1],Paired.bJ Ve fun _ _ z=>(z.up (fun b zs _ _ e=>s9 _ _ e) (.of s9)).new nA sA,fun q hq=>?_,by rw [aae];omega⟩
      rcases abh.mp hq with h|h
      ·exact kn8 q h
      ·exact az q h
     rintro σ H8 ⟨o7,tH,ve,rfl,s8,em8,Ph,Pj,Pk,ek8,Ve,kn8,lk8⟩;rw [ir] at lk8;exact ⟨_,_,_,tH,us++[.ref t],rows++[.lay pc pre a st],ve,rfl,s8,Ph,Pj,Pk,ek8,Ve,rgr,by rw [aae,lr3];rfl,kn8,by omega⟩
    ·refine ⟨_,rfl,.inl ⟨rfl,_,aZ.of (s4 _ _ LR)⟩,_,rfl,_,rfl,_,rfl,c,nl,pl,ns,kj,rfl,bc,(aJ s3 s4).seq hl,hn,s4 _ _ (s3 _ _ hp),lp0,by omega,fun t i0 pre a st H5 s5 nt hi mp rg lf=>?_⟩
     obtain ⟨pc,alE⟩:∃pc,pc="p"++tx (i0:Int):=⟨_,rfl⟩;rw [<-alE] at rg lf;have LQ:=aJ s4 s5;obtain ⟨s6,ek6,pr6⟩:=put H5 t (.lay pc pre a st) LQ (fun M _=>by rw [<-Vc];exact lf M);refine ⟨lr,_,_,rfl,rfl,LQ _ _ LR,Se,?_⟩;have Vd:(upd H5 lr (.lst (us++[.ref t]))) lr=some (.lst (us++[.ref t])):=ai;generalize upd H5 lr (.lst (us++[.ref t]))=H6 at s6 ek6 pr6 Vd ⊢;have rgr:=rgs rg;have lw6:=dP pr6 [] (fun _ h=>nomatch h);refine ⟨_,rfl,_,rfl,lr,_,_,_,rfl,rfl,aZ.of Vd,ia _ _,_,[],_,pc,pre,a,st,rfl,lw6,rg,fun lm H7 s7 nm em=>?_⟩
     have l3:((marks pre a st).map (·.1)).length<=3:=by
      rw [ir];cases st with
      | none=>exact (by show 1<=3;decide)
      | some z=>
       obtain ⟨k,s⟩:=z;show ((afD k).map _).length<=3;rw [ir,ag'];exact (rg.2.2.2 k s rfl).2.1
     have msn:=xE (a:=a) rg.1 (fun k s e=>(rg.2.2.2 k s e).2.1);generalize (marks pre a st).map (·.1)=ms at em l3 msn;have lrm:lr≠lm:=aj Vd nm
     refine ⟨lm,rfl,⟨_,aZ.of em⟩,eG (K:=K) (a:=lm) (xs:=ms.map V.str) (fun j σ H'=>Ex3 fun (o7:ω) (tH :abj) (ve :η)=>σ=[some (.ref cA),some (.ref nl),some (.ref pl),some (.ref lr),some (.ref tH),some (.int c),some (.ref D),o7]/\au H H'/\H' lm=some (.lst (ms.map V.str))/\H tH =none/\lr≠tH /\H' lr=some (.lst (us++[.ref t]))/\H' tH =some (.lst (ve.map V.str))/\Paired (OZ K H H' lr tH bj.length) (us++[.ref t]) (rows++[.lay pc pre a st])/\(∀x∈ve,bD x)/\ve.length<=200*i+40*j) ⟨o7,lk,kn,rfl,aJ s6 s7,em,nlk,Yy,s7 _ _ Vd,s7 _ _ ek6,Paired.bJ pr6 fun _ _ z=>z.up (fun b zs _ _ e=>s7 _ _ e) (.of s7),kn3,by omega⟩ (fun j σ H' _ h=>by
       obtain ⟨_,_,_,_,_,h,_⟩:=h
       exact aZ.of h) ?_ ?_⟩
     ·rintro j v σ H8 ej ⟨o7,tH,ve,rfl,s8,em8,Ph,Pj,Pk,ek8,Ve,kn8,lk8⟩
      rw [aaU] at ej;obtain ⟨m,ej',rfl⟩:=ab_.mp ej;have jl:=(Wp.mp ej').1;obtain ⟨snm,m1,m23⟩:=msn m (aaP ej');have lw8:=dP Ve [] (fun _ h=>nomatch h);cases lw8 with
      | lay t1 i1 aqx va ET tv a1 s1' st1 e hi h1 h2 h3 h4 h5=>
      cases e;have hpi:=gE (show i1<kj.length by omega);have hqi:=gE hi;obtain ⟨tp,rl,kl,qb,QK,ep,hp1,_,_,_,_,hkl,aaV,nk1⟩:=(wB.pc i1 _ _ hpi hqi).ex;refine ⟨_,rfl,_,rfl,_,rfl,_,rfl,lr,_,_,_,rfl,rfl,aZ.of Pk,ia _ _,t,_,_,_,rfl,rfl,h1,ar (j:=1) rfl,pl,_,_,_,rfl,rfl,aZ.of (s8 _ _ hp),ar hpi,tp,_,_,_,ep,rfl,Ty.au.cy s8 hp1,vS,kl,rfl,⟨_,aZ.of (s8 _ _ hkl)⟩,fun D1 nD1=>?_⟩;have z50:∀{n:Nat},n<=50->n<=abl:=fun h=>aah h (by decide)
      have get:∀{k:Nat} {x:V},(QK.map V.str)[k]?=some x->∃y,QK[k]?=some y/\x=.str y/\bD y:=fun {k x} ex=>by
       rw [aaU] at ex;obtain ⟨y,ey,rfl⟩:=ab_.mp ex;exact ⟨y,ey,rfl,nk1 y (aaP ey)⟩
      refine kM (K:=K) (a:=kl) (xs:=QK.map V.str) (cap:=[some (.str m)]) (fun k=>decide ((((m++(QK[k]?.getD "")).length:Nat):Int)<21)) (fun k ys _=>∃zs:List Str,ys=zs.map V.str/\(∀x∈zs,bD x)/\zs.length<=k) nD1 (fun H' s'=>aZ.of (s' _ _ (s8 _ _ hkl))) (by rw [ir];exact aaW aaV (by decide)) ⟨[],rfl,(fun _ h=>nomatch h),aaM _⟩ ?_ (fun k ys H' _ ⟨zs,e,a,l⟩=>⟨zs,e,a,ae_ l⟩) ?_ ?_
      ·intro k x H' R ex s' kk
       obtain ⟨y,ey,rfl,zo⟩:=get ex;have ly:=zo.len;refine ⟨_,rfl,_,rfl,m,y,rfl,rfl,z50 (by omega),m++y,rfl,z50 (by rw [abG];omega),_,_,rfl,rfl,_,rfl,?_⟩;rw [ey] at kk;exact kk
      ·rintro k x ys H' R ex pk ⟨zs,rfl,az,lz⟩ s' eD' kk
       obtain ⟨y,ey,rfl,zo⟩:=get ex;have ly:=zo.len;rw [ey] at pk;have pk':(((m++y).length:Nat):Int)<21:=abn pk;refine ⟨_,rfl,_,rfl,m,y,rfl,rfl,z50 (by omega),kk _ H' (au.refl _) ⟨zs++[m++y],by rw [ac1];rfl,fun q hq=>?_,by rw [aae,ac0];omega⟩⟩
       rcases abh.mp hq with h|h
       ·exact az q h
       ·rw [aaT.mp h]
        exact i9 (lC snm (O_ zo)) (by rw [abG];omega) (by omega)
      rintro ys H9 ⟨zs,rfl,az,lz⟩ s9 eD9;rw [ir] at lz;refine ⟨tH,D1,_,_,rfl,rfl,s9 _ _ ek8,eD9,(by rw [ir,ir];exact aah (show ve.length+zs.length<=3000 by omega) (by decide)),?_⟩;intro Yz nA;generalize eX:upd _ Yz _=HA;have ⟨sA,eA⟩:=nw nA eX;have s0A:au H HA:=fun b o e=>sA _ _ (s9 _ _ (s8 _ _ e));refine ⟨_,Yz,ve ++zs,rfl,s0A,sA _ _ (s9 _ _ em8),aO (aJ s8 s9) nA,aj (s9 _ _ Pk) nA,sA _ _ (s9 _ _ Pk),by rw [eA,ac1],Paired.bJ Ve fun _ _ z=>(z.up (fun b zs _ _ e=>s9 _ _ e) (.of s9)).new nA sA,fun q hq=>?_,by rw [aae];omega⟩
      rcases abh.mp hq with h|h
      ·exact kn8 q h
      ·exact az q h
     rintro σ H8 ⟨o7,tH,ve,rfl,s8,em8,Ph,Pj,Pk,ek8,Ve,kn8,lk8⟩;rw [ir] at lk8;exact ⟨_,_,_,tH,us++[.ref t],rows++[.lay pc pre a st],ve,rfl,s8,Ph,Pj,Pk,ek8,Ve,rgr,by rw [aae,lr3];rfl,kn8,by omega⟩
   ·refine ⟨_,rfl,.inl ⟨rfl,_,aZ.of (s4 _ _ LR)⟩,_,rfl,_,rfl,_,rfl,c,nl,pl,ns,kj,rfl,bc,(aJ s3 s4).seq hl,hn,s4 _ _ (s3 _ _ hp),lp0,by omega,fun t i0 pre a st H5 s5 nt hi mp rg lf=>?_⟩
    obtain ⟨pc,alE⟩:∃pc,pc="p"++tx (i0:Int):=⟨_,rfl⟩;rw [<-alE] at rg lf;have LQ:=aJ s4 s5;obtain ⟨s6,ek6,pr6⟩:=put H5 t (.lay pc pre a st) LQ (fun M _=>by rw [<-Vc];exact lf M);refine ⟨lr,_,_,rfl,rfl,LQ _ _ LR,Se,?_⟩;have Vd:(upd H5 lr (.lst (us++[.ref t]))) lr=some (.lst (us++[.ref t])):=ai;generalize upd H5 lr (.lst (us++[.ref t]))=H6 at s6 ek6 pr6 Vd ⊢;have rgr:=rgs rg;have lw6:=dP pr6 [] (fun _ h=>nomatch h);refine ⟨_,rfl,_,rfl,lr,_,_,_,rfl,rfl,aZ.of Vd,ia _ _,_,[],_,pc,pre,a,st,rfl,lw6,rg,fun lm H7 s7 nm em=>?_⟩
    have l3:((marks pre a st).map (·.1)).length<=3:=by
     rw [ir];cases st with
     | none=>exact (by show 1<=3;decide)
     | some z=>
      obtain ⟨k,s⟩:=z;show ((afD k).map _).length<=3;rw [ir,ag'];exact (rg.2.2.2 k s rfl).2.1
    have msn:=xE (a:=a) rg.1 (fun k s e=>(rg.2.2.2 k s e).2.1);generalize (marks pre a st).map (·.1)=ms at em l3 msn;have lrm:lr≠lm:=aj Vd nm
    refine ⟨lm,rfl,⟨_,aZ.of em⟩,eG (K:=K) (a:=lm) (xs:=ms.map V.str) (fun j σ H'=>Ex3 fun (o7:ω) (tH :abj) (ve :η)=>σ=[some (.ref cA),some (.ref nl),some (.ref pl),some (.ref lr),some (.ref tH),some (.int c),some (.ref D),o7]/\au H H'/\H' lm=some (.lst (ms.map V.str))/\H tH =none/\lr≠tH /\H' lr=some (.lst (us++[.ref t]))/\H' tH =some (.lst (ve.map V.str))/\Paired (OZ K H H' lr tH bj.length) (us++[.ref t]) (rows++[.lay pc pre a st])/\(∀x∈ve,bD x)/\ve.length<=200*i+40*j) ⟨o7,lk,kn,rfl,aJ s6 s7,em,nlk,Yy,s7 _ _ Vd,s7 _ _ ek6,Paired.bJ pr6 fun _ _ z=>z.up (fun b zs _ _ e=>s7 _ _ e) (.of s7),kn3,by omega⟩ (fun j σ H' _ h=>by
      obtain ⟨_,_,_,_,_,h,_⟩:=h
      exact aZ.of h) ?_ ?_⟩
    ·rintro j v σ H8 ej ⟨o7,tH,ve,rfl,s8,em8,Ph,Pj,Pk,ek8,Ve,kn8,lk8⟩
     rw [aaU] at ej;obtain ⟨m,ej',rfl⟩:=ab_.mp ej;have jl:=(Wp.mp ej').1;obtain ⟨snm,m1,m23⟩:=msn m (aaP ej');have lw8:=dP Ve [] (fun _ h=>nomatch h);cases lw8 with
     | lay t1 i1 aqx va ET tv a1 s1' st1 e hi h1 h2 h3 h4 h5=>
     cases e;have hpi:=gE (show i1<kj.length by omega);have hqi:=gE hi;obtain ⟨tp,rl,kl,qb,QK,ep,hp1,_,_,_,_,hkl,aaV,nk1⟩:=(wB.pc i1 _ _ hpi hqi).ex;refine ⟨_,rfl,_,rfl,_,rfl,_,rfl,lr,_,_,_,rfl,rfl,aZ.of Pk,ia _ _,t,_,_,_,rfl,rfl,h1,ar (j:=1) rfl,pl,_,_,_,rfl,rfl,aZ.of (s8 _ _ hp),ar hpi,tp,_,_,_,ep,rfl,Ty.au.cy s8 hp1,vS,kl,rfl,⟨_,aZ.of (s8 _ _ hkl)⟩,fun D1 nD1=>?_⟩;have z50:∀{n:Nat},n<=50->n<=abl:=fun h=>aah h (by decide)
     have get:∀{k:Nat} {x:V},(QK.map V.str)[k]?=some x->∃y,QK[k]?=some y/\x=.str y/\bD y:=fun {k x} ex=>by
      rw [aaU] at ex;obtain ⟨y,ey,rfl⟩:=ab_.mp ex;exact ⟨y,ey,rfl,nk1 y (aaP ey)⟩
     refine kM (K:=K) (a:=kl) (xs:=QK.map V.str) (cap:=[some (.str m)]) (fun k=>decide ((((m++(QK[k]?.getD "")).length:Nat):Int)<21)) (fun k ys _=>∃zs:List Str,ys=zs.map V.str/\(∀x∈zs,bD x)/\zs.length<=k) nD1 (fun H' s'=>aZ.of (s' _ _ (s8 _ _ hkl))) (by rw [ir];exact aaW aaV (by decide)) ⟨[],rfl,(fun _ h=>nomatch h),aaM _⟩ ?_ (fun k ys H' _ ⟨zs,e,a,l⟩=>⟨zs,e,a,ae_ l⟩) ?_ ?_
     ·intro k x H' R ex s' kk
      obtain ⟨y,ey,rfl,zo⟩:=get ex;have ly:=zo.len;refine ⟨_,rfl,_,rfl,m,y,rfl,rfl,z50 (by omega),m++y,rfl,z50 (by rw [abG];omega),_,_,rfl,rfl,_,rfl,?_⟩;rw [ey] at kk;exact kk
     ·rintro k x ys H' R ex pk ⟨zs,rfl,az,lz⟩ s' eD' kk
      obtain ⟨y,ey,rfl,zo⟩:=get ex;have ly:=zo.len;rw [ey] at pk;have pk':(((m++y).length:Nat):Int)<21:=abn pk;refine ⟨_,rfl,_,rfl,m,y,rfl,rfl,z50 (by omega),kk _ H' (au.refl _) ⟨zs++[m++y],by rw [ac1];rfl,fun q hq=>?_,by rw [aae,ac0];omega⟩⟩
      rcases abh.mp hq with h|h
      ·exact az q h
      ·rw [aaT.mp h]
       exact i9 (lC snm (O_ zo)) (by rw [abG];omega) (by omega)
     rintro ys H9 ⟨zs,rfl,az,lz⟩ s9 eD9;rw [ir] at lz;refine ⟨tH,D1,_,_,rfl,rfl,s9 _ _ ek8,eD9,(by rw [ir,ir];exact aah (show ve.length+zs.length<=3000 by omega) (by decide)),?_⟩;intro Yz nA;generalize eX:upd _ Yz _=HA;have ⟨sA,eA⟩:=nw nA eX;have s0A:au H HA:=fun b o e=>sA _ _ (s9 _ _ (s8 _ _ e));refine ⟨_,Yz,ve ++zs,rfl,s0A,sA _ _ (s9 _ _ em8),aO (aJ s8 s9) nA,aj (s9 _ _ Pk) nA,sA _ _ (s9 _ _ Pk),by rw [eA,ac1],Paired.bJ Ve fun _ _ z=>(z.up (fun b zs _ _ e=>s9 _ _ e) (.of s9)).new nA sA,fun q hq=>?_,by rw [aae];omega⟩
     rcases abh.mp hq with h|h
     ·exact kn8 q h
     ·exact az q h
    rintro σ H8 ⟨o7,tH,ve,rfl,s8,em8,Ph,Pj,Pk,ek8,Ve,kn8,lk8⟩;rw [ir] at lk8;exact ⟨_,_,_,tH,us++[.ref t],rows++[.lay pc pre a st],ve,rfl,s8,Ph,Pj,Pk,ek8,Ve,rgr,by rw [aae,lr3];rfl,kn8,by omega⟩
  ·refine ⟨_,rfl,_,_,rfl,rfl,nz (by decide),_,_,rfl,rfl,_,rfl,?_⟩
   refine aK (fun _=>?_) (fun c4=>?_)
   ·refine ⟨_,rfl,.inl ⟨rfl,_,aZ.of LR⟩,_,rfl,_,rfl,_,rfl,c,nl,lk,ns,kn,rfl,bc,s3.seq hl,hn,aZ.of ek3,kn3,fun t x a b H4 s4 nt et rg=>?_⟩
    obtain ⟨s5,ek5,pr5⟩:=put H4 t (.bar x a b) s4 (fun M _=>.bar t x a b rfl (dG.of et));exact ⟨lr,_,_,rfl,rfl,s4 _ _ LR,Se,_,_,_,lk,us++[.ref t],rows++[.bar x a b],kn,rfl,s5,nlk,Yy,ai,ek5,pr5,rgs rg,by rw [aae,lr3];rfl,kn3,by omega⟩
   ·exfalso
    have h2:¬ (5<c.fmod 8):=fun z=>c2 (abu z);exact c4 (abu (show c.fmod 8<6 by omega))
 rintro σ H3 ⟨o5,o6,o7,lk,us,rows,kn,rfl,s3,nlk,Yy,LR,ek3,pr3,rg3,lr3,kn3,lk3⟩;have aJp :rows.length=cs.length:=by rw [lr3,ir]
 refine ⟨_,rfl,_,rfl,40,rfl,lk,_,rfl,aZ.of ek3,?_⟩;rw [aqq];intro lf n4;generalize eX:upd _ lf _=H4;have ⟨s4,e4⟩:=nw n4 eX;refine ⟨z2L,?_⟩;intro t n5;generalize eX:upd _ t _=H5;have ⟨s5,e5⟩:=nw n5 eX;have s34:=aJ s4 s5;have BU:=aJ s3 s4;refine q t rows H5 (aJ s3 s34) (aO BU n5) fun M hM=>?_;refine ⟨⟨t,lr,lf,us,kn.take 40,rfl,dG.of e5,fun z=>hM lr z nr,s34 _ _ LR,Paired.bJ pr3 fun _ _ z=>(z M (fun b hb=>.inr (.inr (hM b hb)))).same s34,fun z=>hM lf z (aO s3 n4),s5 _ _ e4,?_,fun x hx=>kn3 x (aeP hx)⟩,rg3,by omega⟩;rw [aep];omega
def ji:List (Rat×Rat)->List Str
 | []=>[]
 | [w]=>[("roller":Str),hV w.1,hV w.2]
 | _=>[("fixed":Str)]
def ck:Rw->List Str
 | .pin p=>("pin":Str)::p.nm::hV p.sp.1::hV p.sp.2::ji p.ws
 | .bar x a b=>[("bar":Str),x,a,b]
 | .lay pc pre a none=>[("lay":Str),pc,pre,hV a.1,hV a.2]
 | .lay pc pre a (some (k,s))=>[("lay":Str),pc,pre,hV a.1,hV a.2,tx (k:Int),hV s.1,hV s.2]
def c9 (r:Rw):Str:=abN " " (ck r)
theorem jz (h:Sz 50 r):(hV r).length<=130:=by
 have g:=tG (h.up (by decide));have t1:=gj (n:=(qr r).1) (k:=60) (by decide) g.top;have t2:=gj (n:=(qr r).2) (k:=60) (by decide) g.bot;by_cases c:(qr r).2=1
 ·rw [show hV r=tx (qr r).1 from lh c]
  omega
 ·rw [show hV r=tx (qr r).1++kC++tx (qr r).2 from mH c]
  have t3:kC.length=1:=by decide+kernel
  rw [abG,abG];omega
inductive Si (K:Frag)(vs:ε)(H:Hp)(Q:VK)(E_:XK):Prop
|mk (u:V)(M:ξ)(n:Nat)(r:Rw)(_:vs=[u])(_:qh K H M n u r)(_:nv r)(_:n<=6)(_:∀H',au H H' ->Q (.str (c9 r)) H')
theorem fW:aC ["_law_row","_law_words"] zau (aa iM):=sq
theorem Pl (D:Def K mg "_law_line" iM zau)(bF:mg "len"=none)(dA:mg "str"=none)(c_:Fn P w K mg base (aT P w) 1 "_law_text_of" za6 (RH K)):Fn P w K mg base (aT P w) 2 "_law_line" zau (Si K):=by
 refine D.op fW fun f cdv A outer s H vs Q E hr h=>?_;obtain ⟨u,M,n,r,rfl,hw,hg,hn,q⟩:=h;have L2:2<=abl:=by decide
 have lsp:(" ":Str).length=1:=by decide+kernel
 have k1:("pin":Str).length<=10:=by decide+kernel
 have k2:("bar":Str).length<=10:=by decide+kernel
 have k3:("lay":Str).length<=10:=by decide+kernel
 have k4:("fixed":Str).length<=10:=by decide+kernel
 have k5:("roller":Str).length<=10:=by decide+kernel
 have pD:∀ws:List Str,(∀w∈ws,w.length<=130)->ws.length<=8->(ws.map (·.length)).sum+ws.length*(" ":Str).length<=16777216:=fun ws h l=>by
  have go:∀l:List Str,(∀w∈l,w.length<=130)->(l.map (·.length)).sum<=130*l.length:=by
   intro l
   induction l with
   | nil=>intro _;exact aaM _
   | cons r t ih=>
    intro h;have:=ih fun z hz=>h z (aa2 _ hz);have:=h r aa_;show r.length+(t.map (·.length)).sum<=130*(t.length+1);omega
  have:=go ws h;rw [lsp];omega
 refine ⟨_,(ag (aR (i:=1) fW.nd (bY (aU (aI (pv 0)) (aI (pv 0))))) (ag (aS (aL cn (aI (pv 0)) aw) (ag (aR (i:=1) fW.nd (aD mC (pv 1) (bY (aU (dh c_ hr (aE (aI (pv 0)))) (dh c_ hr (aE (aI (pv 0)))))))) (ag (aS (aL cn (a8 bh rfl bF fm (aE (aI (pv 0)))) ak) (ae (bg (gA abQ abO abP dc (pv 1) (aE aw)))) aG) (ae (aS (aL cn (a8 bh rfl bF fm (aE (aI (pv 0)))) ak) (ae (aR (i:=1) fW.nd (aD mC (pv 1) (bY (gO aw (dh c_ hr (aE (aI (cT (aI (pv 0)))))) (dh c_ hr (aE (aI (cT (aI (pv 0))))))))))) aG)))) (ae (aS (aL cn (aI (pv 0)) aw) (ae (aR (i:=1) fW.nd (aD mC (pv 1) (bY (aU (aI (pv 0)) (aI (pv 0))))))) (ag (aR (i:=1) fW.nd (bY (nV aw (nV (aD bx aw (cB cG rfl dA kx (aE (aI (pv 0))))) (gO (aI (pv 0)) (dh c_ hr (aE (aI (aI (pv 0))))) (dh c_ hr (aE (aI (aI (pv 0)))))))))) (ae (aS (aL oZ (aI (pv 0)) bS) (ae (aR (i:=1) fW.nd (aD mC (pv 1) (bY (gO (cB cG rfl dA kx (aE (aI (pv 0)))) (dh c_ hr (aE (aI (aI (pv 0))))) (dh c_ hr (aE (aI (aI (pv 0)))))))))) aG)))))) (ae (aH (gA ab5 PySem.F.slot_str_join PySem.F.type_str_join UJ aw (aE (pv 1))))))),?_⟩
 cases hw with
 | pin t l vx vy us p e h1 h2 h3 h4 h5 h6=>
  subst e;obtain ⟨gn,gx,gy,gw⟩:=hg;have gnl:=gn.len;have wx:=jz gx;have wy:=jz gy;refine ⟨_,rfl,t,_,_,_,rfl,rfl,h1,ar (j:=0) rfl,_,rfl,t,_,_,_,rfl,rfl,h1,ar (j:=1) rfl,L2,?_⟩;intro l1 n1;generalize eX:upd _ l1 _=H1;have ⟨s1,e1⟩:=nw n1 eX;have Sj:=Ty.au.cy s1 h1;refine ⟨_,rfl,t,_,_,_,rfl,rfl,Sj,ar (j:=0) rfl,rfl,_,rfl,?_⟩;rw [Sd,abu rfl];refine fY ?_;refine ⟨_,rfl,_,rfl,t,_,_,_,rfl,rfl,Sj,ar (j:=2) rfl,vx,_,rfl,h2.same s1,gx.up (by decide),_,rfl,t,_,_,_,rfl,rfl,Sj,ar (j:=3) rfl,vy,_,rfl,h3.same s1,gy.up (by decide),L2,?_⟩;intro l2 n2;generalize eX:upd _ l2 _=H2;have ⟨s2,e2⟩:=nw n2 eX;refine ⟨l1,l2,_,_,rfl,rfl,s2 _ _ e1,e2,(by show 2+2<=abl;decide),?_⟩;intro l3 n3;generalize eX:upd _ l3 _=H3;have ⟨s3,e3⟩:=nw n3 eX;have jm:au H H3:=fun b o e=>s3 _ _ (s2 _ _ (s1 _ _ e));have h13:=Ty.au.cy jm h1;have lu:us.length=p.ws.length:=abK h6;refine ⟨_,rfl,t,_,_,_,rfl,rfl,h13,ar (j:=4) rfl,l,_,rfl,.inl (aZ.of (jm _ _ h5)),rfl,_,rfl,?_⟩
  have fin:∀(H9:Hp)(l9:abj),au H H9->H9 l9=some (.lst ((ck (.pin p)).map V.str))->(∀w∈ji p.ws,w.length<=130)->(ji p.ws).length<=3->Ry K (.str " ") [.ref l9] H9 Q:=fun H9 l9 s9 e9 hh hl9=>by
   refine ⟨" ",l9,ck (.pin p),rfl,rfl,aZ.of e9,pD _ (fun w hw=>?_) (by show (ji p.ws).length+4<=8;omega),q H9 s9⟩
   rcases aa3.mp hw with rfl|hw
   ·omega
   rcases aa3.mp hw with rfl|hw
   ·omega
   rcases aa3.mp hw with rfl|hw
   ·omega
   rcases aa3.mp hw with rfl|hw
   ·omega
   ·exact hh w hw
  rcases gw with gw|⟨x,y,gw,_,gx',gy'⟩|gw
  ·rw [gw] at lu
   refine aK (fun c=>by rw [lu] at c;simp at c) (fun _=>?_);refine ⟨_,rfl,t,_,_,_,rfl,rfl,h13,ar (j:=4) rfl,l,_,rfl,.inl (aZ.of (jm _ _ h5)),rfl,_,rfl,aK (fun c=>by rw [lu] at c;simp at c) (fun _=>?_)⟩;exact ⟨rfl,_,rfl,fin H3 l3 jm (by rw [e3];show _=some (HO.lst ((("pin":Str)::p.nm::hV p.sp.1::hV p.sp.2::ji p.ws).map V.str));rw [gw];rfl) (by rw [gw];exact fun _ h=>nomatch h) (by rw [gw];exact aer _)⟩
  ·rw [gw] at lu h6
   refine aK (fun c=>by rw [lu] at c;simp at c) (fun _=>?_);refine ⟨_,rfl,t,_,_,_,rfl,rfl,h13,ar (j:=4) rfl,l,_,rfl,.inl (aZ.of (jm _ _ h5)),rfl,_,rfl,aK (fun _=>?_) (fun c=>abo (by rw [lu];rfl) c)⟩
   obtain ⟨w0,rfl⟩:∃w0,us=[w0]:=by
    match us,lu with
    | [w0],_=>exact ⟨w0,rfl⟩
   cases h6 with
   | cons hw _=>
   obtain ⟨wa,y2,y3,rfl,hsw,hm1,hm2⟩:=hw.same jm;have w2:=jz gx';have w3:=jz gy';refine ⟨_,rfl,_,rfl,t,_,_,_,rfl,rfl,h13,ar (j:=4) rfl,l,_,_,_,rfl,rfl,aZ.of (jm _ _ h5),rfl,wa,_,_,_,rfl,rfl,hsw,AS,y2,x,rfl,hm1,gx'.up (by decide),_,rfl,t,_,_,_,rfl,rfl,h13,ar (j:=4) rfl,l,_,_,_,rfl,rfl,aZ.of (jm _ _ h5),rfl,wa,_,_,_,rfl,rfl,hsw,vS,y3,y,rfl,hm2,gy'.up (by decide),z3L,?_⟩;intro l5 n5;generalize eX:upd _ l5 _=H5;have ⟨s5,e5⟩:=nw n5 eX;refine ⟨l3,l5,_,_,rfl,rfl,s5 _ _ e3,e5,z7L,?_⟩;intro l6 n6;generalize eX:upd _ l6 _=H6;have ⟨s6,e6⟩:=nw n6 eX;refine ⟨rfl,_,rfl,fin H6 l6 (fun b o e=>s6 _ _ (s5 _ _ (jm _ _ e))) (by rw [e6];show _=some (HO.lst ((("pin":Str)::p.nm::hV p.sp.1::hV p.sp.2::ji p.ws).map V.str));rw [gw];rfl) (fun w hw=>?_) (by rw [gw];exact aaM _)⟩;rw [gw] at hw;simp only [ji,aa3,ac_,or_false] at hw
   rcases hw with rfl|rfl|rfl<;>omega
  ·rw [gw] at lu
   refine aK (fun _=>?_) (fun c=>abo (by rw [lu];rfl) c);refine ⟨_,rfl,.inl ⟨rfl,_,aZ.of e3⟩,l3,_,_,rfl,rfl,e3,(by show 4<abl;decide),?_⟩;have nG:au H H2:=fun b o e=>s2 _ _ (s1 _ _ e);have BU:au H (upd H3 l3 (.lst ([V.str "pin",.str p.nm,.str (hV p.sp.1),.str (hV p.sp.2)]++[.str "fixed"]))):=fun b o e=>by rw [ah (aj (nG _ _ e) n3)];exact jm _ _ e
   have e4:(upd H3 l3 (.lst ([V.str "pin",.str p.nm,.str (hV p.sp.1),.str (hV p.sp.2)]++[.str "fixed"]))) l3=some (.lst ((ck (.pin p)).map V.str)):=by
    rw [ai];show _=some (HO.lst ((("pin":Str)::p.nm::hV p.sp.1::hV p.sp.2::ji p.ws).map V.str));rw [gw];rfl
   refine ⟨_,rfl,t,_,_,_,rfl,rfl,Ty.au.cy BU h1,ar (j:=4) rfl,l,_,rfl,.inl (aZ.of (BU _ _ h5)),rfl,_,rfl,aK (fun c=>by rw [lu] at c;simp at c) (fun _=>?_)⟩;refine ⟨rfl,_,rfl,fin _ l3 BU e4 (fun w hw=>?_) (by rw [gw];exact (by show 1<=3;decide))⟩;rw [gw] at hw;simp only [ji,aa3,ac_,or_false] at hw;rw [hw];omega
 | bar t x a b e h1=>
  subst e;obtain ⟨g1,g2,g3⟩:=hg;have l1:=g1.len;have l2:=g2.len;have l3:=g3.len;refine ⟨_,rfl,t,_,_,_,rfl,rfl,h1,ar (j:=0) rfl,_,rfl,t,_,_,_,rfl,rfl,h1,ar (j:=1) rfl,L2,?_⟩;intro l1 n1;generalize eX:upd _ l1 _=H1;have ⟨s1,e1⟩:=nw n1 eX;have Sj:=Ty.au.cy s1 h1;refine ⟨_,rfl,t,_,_,_,rfl,rfl,Sj,ar (j:=0) rfl,rfl,_,rfl,?_⟩;rw [Sd,aby (show ("bar":Str)≠ "pin" by decide+kernel)];refine dz ?_;refine ⟨_,rfl,t,_,_,_,rfl,rfl,Sj,ar (j:=0) rfl,rfl,_,rfl,?_⟩;rw [Sd,abu rfl];refine fY ?_;refine ⟨_,rfl,_,rfl,t,_,_,_,rfl,rfl,Sj,ar (j:=2) rfl,_,rfl,t,_,_,_,rfl,rfl,Sj,ar (j:=3) rfl,L2,?_⟩;intro l2 n2;generalize eX:upd _ l2 _=H2;have ⟨s2,e2⟩:=nw n2 eX;refine ⟨l1,l2,_,_,rfl,rfl,s2 _ _ e1,e2,(by show 2+2<=abl;decide),?_⟩;intro l3 n3;generalize eX:upd _ l3 _=H3;have ⟨s3,e3⟩:=nw n3 eX;have jm:au H H3:=fun b o e=>s3 _ _ (s2 _ _ (s1 _ _ e));refine ⟨rfl,_,rfl," ",l3,ck (.bar x a b),rfl,rfl,aZ.of e3,pD _ (fun w hw=>?_) (by show 4<=8;decide),q H3 jm⟩;simp only [ck,aa3,ac_,or_false] at hw
  rcases hw with rfl|rfl|rfl|rfl<;>omega
 | lay t i pre va vs tv a s st e hi h1 h2 h3 h4 h5=>
  subst e;have hg':=hg;obtain ⟨gp,gx,gy,gs⟩:=hg;have gpl:=gp.len;have wx:=jz gx;have wy:=jz gy;have lt:=gj (n:=(i:Int)) (k:=2) (by decide) (by show i<100;omega);have lp1:("p":Str).length=1:=by decide+kernel
  obtain ⟨aA,x1,y1,rfl,hsq,hn1,QH⟩:=h2;refine ⟨_,rfl,t,_,_,_,rfl,rfl,h1,ar (j:=0) rfl,_,rfl,t,_,_,_,rfl,rfl,h1,ar (j:=1) rfl,L2,?_⟩;intro l1 n1;generalize eX:upd _ l1 _=H1;have ⟨s1,e1⟩:=nw n1 eX;have Sj:=Ty.au.cy s1 h1;refine ⟨_,rfl,t,_,_,_,rfl,rfl,Sj,ar (j:=0) rfl,rfl,_,rfl,?_⟩;rw [Sd,aby (show ("lay":Str)≠ "pin" by decide+kernel)];refine dz ?_;refine ⟨_,rfl,t,_,_,_,rfl,rfl,Sj,ar (j:=0) rfl,rfl,_,rfl,?_⟩;rw [Sd,aby (show ("lay":Str)≠ "bar" by decide+kernel)];refine dz ?_
  have lg:∀m:Nat,m<100->((m:Nat):Int).natAbs.log2<1920:=fun m hm=>by
   show m.log2<1920
   rcases ag3 m with z|z
   ·rw [z];decide
   ·exact (ahT (by omega)).mpr (aaS hm (by decide+kernel))
  refine ⟨_,rfl,t,_,_,_,rfl,rfl,Sj,ar (j:=1) rfl,(i:Int),rfl,lg i (by omega),"p",tx (i:Int),rfl,rfl,aah (show ("p":Str).length+(tx (i:Int)).length<=30 by omega) (by decide),_,rfl,t,_,_,_,rfl,rfl,Sj,ar (j:=2) rfl,?_⟩;have aqC:=Ty.au.cy s1 hsq;refine ⟨_,rfl,t,_,_,_,rfl,rfl,Sj,ar (j:=3) rfl,aA,_,_,_,rfl,rfl,aqC,AS,x1,a.1,rfl,hn1.same s1,gx.up (by decide),_,rfl,t,_,_,_,rfl,rfl,Sj,ar (j:=3) rfl,aA,_,_,_,rfl,rfl,aqC,vS,y1,a.2,rfl,QH.same s1,gy.up (by decide),z5L,?_⟩;intro l2 n2;generalize eX:upd _ l2 _=H2;have ⟨s2,e2⟩:=nw n2 eX;have nG:=aJ s1 s2;have h12:=Ty.au.cy nG h1;have lpi:("p"++tx (i:Int)).length<=4:=by rw [abG];omega
  rcases h5 with ⟨rfl,rfl⟩|⟨k,rfl,rfl⟩
  ·refine ⟨_,rfl,t,_,_,_,rfl,rfl,h12,ar (j:=4) rfl,rfl,_,rfl,dz ?_⟩
   refine ⟨rfl,_,rfl," ",l2,ck (.lay ("p"++tx (i:Int)) pre a none),rfl,rfl,aZ.of e2,pD _ (fun w hw=>?_) (by show 5<=8;decide),q H2 nG⟩;simp only [ck,aa3,ac_,or_false] at hw
   rcases hw with rfl|rfl|rfl|rfl|rfl<;>omega
  ·obtain ⟨k1',k3',gx5,gy5⟩:=gs k s rfl
   have wx5:=jz gx5;have wy5:=jz gy5;have ltk:=gj (n:=(k:Int)) (k:=2) (by decide) (by show k<100;omega);obtain ⟨sA,x5,y5,rfl,hs5,hm1,hm2⟩:=h3;have aqF:=Ty.au.cy nG hs5;refine ⟨_,rfl,t,_,_,_,rfl,rfl,h12,ar (j:=4) rfl,rfl,_,rfl,fY ?_⟩;refine ⟨_,rfl,_,rfl,t,_,_,_,rfl,rfl,h12,ar (j:=4) rfl,(k:Int),rfl,lg k (by omega),_,rfl,t,_,_,_,rfl,rfl,h12,ar (j:=5) rfl,sA,_,_,_,rfl,rfl,aqF,AS,x5,s.1,rfl,hm1.same nG,gx5.up (by decide),_,rfl,t,_,_,_,rfl,rfl,h12,ar (j:=5) rfl,sA,_,_,_,rfl,rfl,aqF,vS,y5,s.2,rfl,hm2.same nG,gy5.up (by decide),z3L,?_⟩;intro l4 n4;generalize eX:upd _ l4 _=H4;have ⟨s4,e4⟩:=nw n4 eX;refine ⟨l2,l4,_,_,rfl,rfl,s4 _ _ e2,e4,(by show 5+3<=abl;decide),?_⟩;intro l5 n5;generalize eX:upd _ l5 _=H5;have ⟨s5,e5⟩:=nw n5 eX;refine ⟨rfl,_,rfl," ",l5,ck (.lay ("p"++tx (i:Int)) pre a (some (k,s))),rfl,rfl,aZ.of e5,pD _ (fun w hw=>?_) (by show 8<=8;decide),q H5 (fun b o e=>s5 _ _ (s4 _ _ (nG _ _ e)))⟩;simp only [ck,aa3,ac_,or_false] at hw
   rcases hw with rfl|rfl|rfl|rfl|rfl|rfl|rfl|rfl<;>omega
theorem aqG {f:Nat}(h:f<=us.length):r8 us none (some (f:Int))=us.take f:=by
 have b:HT.qH us.length us.length (some (f:Int))=f:=by
  simp only [HT.qH];split<;>omega
 have a:HT.qH us.length 0 none=0:=rfl;unfold r8;rw [a,b,ane,Nat.sub_zero]
theorem afH {f:Nat}(h:f<=us.length):r8 us (some (f:Int)) none=us.drop f:=by
 have b:HT.qH us.length us.length none=us.length:=rfl
 have a:HT.qH us.length 0 (some (f:Int))=f:=by
  simp only [HT.qH];split<;>omega
 unfold r8;rw [a,b,ae1 (by rw [afh];exact aaM _)]
theorem vU :∀{xs:List α} {ys:List β} (n:Nat),Paired R xs ys->Paired R (xs.take n) (ys.take n)
 | _,_,0,_=>by rw [ahO,ahO];exact .nil
 | [],[],n+1,.nil=>.nil
 | _::_,_::_,n+1,.cons a t=>.cons a (vU n t)
theorem vV :∀{xs:List α} {ys:List β} (n:Nat),Paired R xs ys->Paired R (xs.drop n) (ys.drop n)
 | _,_,0,h=>h
 | [],[],n+1,.nil=>.nil
 | _::_,_::_,n+1,.cons _ t=>vV n t
def gI (i:Nat)(rows:Α):List Str:=(("piece p":Str)++tx (i:Int))::(rows.map c9++[("end":Str)])
def bP:Nat->List (List Rw)->List Str
 | _,[]=>[]
 | i,p::t=>gI i p++bP (i+1) t
theorem Pm:∀(i:Nat)(ps:ρ)(p:Α),bP i (ps++[p])=bP i ps++gI (i+ps.length) p
 | i,[],p=>by simp [bP]
 | i,q::t,p=>by
  show gI i q++bP (i+1) (t++[p])=gI i q++bP (i+1) t++gI (i+(t.length+1)) p;rw [Pm (i+1) t p,afC,show i+1+t.length=i+(t.length+1) by omega]
def jA (f:Nat)(bj:ρ)(out:Α):List Str:=(out.take f).map c9++bP 0 bj++(out.drop f).map c9
theorem qh.words (h:qh K H M n u r)(g:nv r)(hn:n<=6):(∀w∈ck r,w.length<=130)/\(ck r).length<=8:=by
 have k1:("pin":Str).length<=10:=by decide+kernel
 have k2:("bar":Str).length<=10:=by decide+kernel
 have k3:("lay":Str).length<=10:=by decide+kernel
 have k4:("fixed":Str).length<=10:=by decide+kernel
 have k5:("roller":Str).length<=10:=by decide+kernel
 have k6:("p":Str).length=1:=by decide+kernel
 cases h with
 | pin t l vx vy us p e=>
  obtain ⟨gn,gx,gy,gw⟩:=g;have gnl:=gn.len;have wx:=jz gx;have wy:=jz gy
  have hw:(∀w∈ji p.ws,w.length<=130)/\(ji p.ws).length<=3:=by
   rcases gw with gw|⟨x,y,gw,_,gx',gy'⟩|gw
   ·rw [gw];exact ⟨fun _ h=>(nomatch h),aer _⟩
   ·rw [gw]
    have w2:=jz gx';have w3:=jz gy';refine ⟨fun w hw=>?_,aaM _⟩;simp only [ji,aa3,ac_,or_false] at hw
    rcases hw with rfl|rfl|rfl<;>omega
   ·rw [gw]
    refine ⟨fun w hw=>?_,(by show 1<=3;decide)⟩;simp only [ji,aa3,ac_,or_false] at hw;rw [hw];omega
  refine ⟨fun w hw'=>?_,by show (ji p.ws).length+4<=8;omega⟩
  rcases aa3.mp hw' with rfl|hw'
  ·omega
  rcases aa3.mp hw' with rfl|hw'
  ·omega
  rcases aa3.mp hw' with rfl|hw'
  ·omega
  rcases aa3.mp hw' with rfl|hw'
  ·omega
  ·exact hw.1 w hw'
 | bar t x a b e=>
  obtain ⟨g1,g2,g3⟩:=g;have l1:=g1.len;have l2:=g2.len;have l3:=g3.len;refine ⟨fun w hw=>?_,(by show 4<=8;decide)⟩;simp only [ck,aa3,ac_,or_false] at hw
  rcases hw with rfl|rfl|rfl|rfl<;>omega
 | lay t i pre va vs tv a s st e hi h1 h2 h3 h4 h5=>
  obtain ⟨gp,gx,gy,gs⟩:=g;have gpl:=gp.len;have wx:=jz gx;have wy:=jz gy;have lt:=gj (n:=(i:Int)) (k:=2) (by decide) (by show i<100;omega);have lpi:("p"++tx (i:Int)).length<=4:=by rw [abG];omega
  cases st with
  | none=>
   refine ⟨fun w hw=>?_,(by show 5<=8;decide)⟩;simp only [ck,aa3,ac_,or_false] at hw
   rcases hw with rfl|rfl|rfl|rfl|rfl<;>omega
  | some z=>
   obtain ⟨k,s'⟩:=z;obtain ⟨k1',k3',gx5,gy5⟩:=gs k s' rfl;have wx5:=jz gx5;have wy5:=jz gy5;have ltk:=gj (n:=(k:Int)) (k:=2) (by decide) (by show k<100;omega);refine ⟨fun w hw=>?_,(by show 8<=8;decide)⟩;simp only [ck,aa3,ac_,or_false] at hw
   rcases hw with rfl|rfl|rfl|rfl|rfl|rfl|rfl|rfl<;>omega
theorem Pn (h:qh K H M n u r)(g:nv r)(hn:n<=6):(c9 r).length<=1100:=by
 obtain ⟨w1,w2⟩:=h.words g hn
 have go:∀l:List Str,(∀w∈l,w.length<=130)->(l.map (·.length)).sum<=130*l.length:=by
  intro l
  induction l with
  | nil=>intro _;exact aaM _
  | cons r t ih=>
   intro h;have:=ih fun z hz=>h z (aa2 _ hz);have:=h r aa_;show r.length+(t.map (·.length)).sum<=130*(t.length+1);omega
 have:=go _ w1;have lsp:(" ":Str).length=1:=by decide+kernel
 unfold c9;rw [show abN " " (ck r)=Builtin.Str.glued " " (ck r) from rfl,size_glued,lsp];omega
inductive IY (K:Frag)(vs:ε)(H:Hp)(Q:VK)(E_:XK):Prop
|mk (oA pl:abj)(us kj:ε)(out:Α)(bj:List (List Rw:_))(b:Bool)(M:ξ)(_:vs=[.ref oA,.ref pl,.bl b])(_:H oA=some (.lst us))(_:Paired (qh K H M bj.length) us out)(_:(∀r∈out,nv r))(_:out.length<=6)(_:H pl=some (.lst kj))(_:nC K H [] kj bj)(_:bj.length<=6)(_:∀(f:Nat)(H':Hp),au H H' ->f<=out.length->(∀r∈out.take f,lY r=false)->Q (.str (abN "\n" (jA f bj out))) H')
theorem g_:aC zaz zav (aa fO):=sq
theorem Po (D:Def K mg "_law_text" fO zav)(bF:mg "len"=none)(dS:mg "range"=none)(dA:mg "str"=none)(rh:Fn P w K mg base (aT P w) 2 "_law_line" zau (Si K)):Fn P w K mg base (aT P w) 3 "_law_text" zav (IY K):=by
 refine D.op g_ fun f cdv A outer s H vs Q E hr h=>?_;obtain ⟨oA,pl,us,kj,out,bj,b,M,rfl,ho,po,ro,lo,hp,wB,lp6,q⟩:=h;have lu:us.length=out.length:=abK po;have Vc:=wB.len;have lnl:("\n":Str).length=1:=by decide+kernel
 have tail:∃t,PSs (kh (aT P w) P w K mg base zaz "_law_text" (aa fO) f cdv A outer s H E).wm ((aq fO).drop 2) t/\∀f:Nat,f<=out.length->(∀r∈out.take f,lY r=false)->t {nx:=fun _ H'=>Q .bG H',rt:=Q} [some (.ref oA),some (.ref pl),some (.bl b),some (.int (f:Int)),none,none] H:=by
  refine ⟨_,(ag (akJ (i:=4) (tn:=zau) (fr:=[]) (caps:=[]) g_.nd (cJ (jb mx (pv 0) o_ (iW (pv 3)))) (FC rh hr (aE (pv 0)))) (ag (dU abW rfl (jI rfl dS (aE (a8 bh rfl bF fm (aE (pv 1))))) (hU (i:=5) g_.nd) (ae (aR (i:=4) g_.nd (aD mC (aD mC (aD mC (pv 4) (bY (aE (aD bx aw (cB cG rfl dA kx (aE (pv 5))))))) (iX (tn:=zau) (fr:=[]) (caps:=[]) (cJ (aI (iE dw (pv 1) (pv 5)))) (FC rh hr (aE (pv 0))))) (bY (aE aw)))))) (ae (aH (gA ab5 PySem.F.slot_str_join PySem.F.type_str_join UJ aw (aE (aD mC (pv 4) (iX (tn:=zau) (fr:=[]) (caps:=[]) (cJ (jb mx (pv 0) (iW (pv 3)) o_)) (FC rh hr (aE (pv 0))))))))))),fun f hf hl=>?_⟩;refine ⟨_,rfl,_,rfl,(f:Int),rfl,oA,_,rfl,aZ.of ho,?_⟩;rw [aqG (by omega)];intro l1 n1;generalize eX:upd _ l1 _=H1;have ⟨s1,e1⟩:=nw n1 eX;have pt:=vU f po;have pd:=vV f po;refine ⟨l1,rfl,⟨_,aZ.of e1⟩,fun D1 nD1=>?_⟩;refine iD (cap:=[]) (K:=K) (a:=l1) (xs:=us.take f) (fun i v _=>∃r,(out.take f)[i]?=some r/\v=.str (c9 r)) nD1 (by rw [aep];exact aaW (show min f us.length<=100 by omega) (by decide)) (fun H2 s2=>aZ.of (s2 _ _ e1)) (fun _ _ _ _ _ _ _ h=>h) ?_ ?_
  ·intro i x H2 R ex s2 k
   obtain ⟨r,er,LO⟩:=aY pt ex;have mr:r∈out:=aeP (aaP er);exact ⟨_,rfl,x,M,_,r,rfl,LO.same (aJ s1 s2),ro r mr,lp6,fun H3 s3=>k _ H3 s3 ⟨r,er,rfl⟩⟩
  intro ys H2 hy zr s2 hD
  have ey:ys=((out.take f).map c9).map V.str:=by
   refine agW fun i=>?_;rw [aaU,aaU];have lt:ys.length=(out.take f).length:=by rw [hy];exact abK pt
   by_cases hi:i<ys.length
   ·obtain ⟨r,er,ev⟩:=zr i ys[i] (gE hi)
    rw [gE hi,ev,er];rfl
   ·rw [ac7 (by omega),ac7 (by omega)]
    rfl
  rw [ey] at hD;have nG:=aJ s1 s2;have ltk:((out.take f).map c9).length<=6:=by rw [ir,aep];omega
  refine ⟨_,rfl,pl,_,rfl,.inl (aZ.of (nG _ _ hp)),((kj.length:Nat):Int),rfl,by omega,by omega,?_⟩;rw [show ((kj.length:Nat):Int).toNat=kj.length by omega]
  have pl8:∀(i:Nat)(ps:ρ),(∀p∈ps,p.length<=6)->(bP i ps).length<=8*ps.length:=by
   intro i ps
   induction ps generalizing i with
   | nil=>intro _;exact aaM _
   | cons p t ih=>
    intro h;have h1:=ih (i+1) fun z hz=>h z (aa2 _ hz);have h2:=h p aa_;show (gI i p++bP (i+1) t).length<=8*(t.length+1);rw [aae]
    have h3:(gI i p).length=p.length+2:=by
     unfold gI;rw [ac5,aae,ir,ac0]
    omega
  have pc6:∀p∈bj,p.length<=6:=fun p mp=>by
   obtain ⟨i,ei⟩:=ade mp;have il:=(Wp.mp ei).1;exact (wB.pc i _ p (gE (show i<kj.length by omega)) ei).len
  refine oY (lo:=0) (n:=kj.length) (fun i σ H'=>Ex2 fun (o5:ω) (lL:abj)=>σ=[some (.ref oA),some (.ref pl),some (.bl b),some (.int (f:Int)),some (.ref lL),o5]/\au H H'/\H' lL=some (.lst (((out.take f).map c9++bP 0 (bj.take i)).map V.str))) ⟨none,D1,rfl,nG,by rw [hD,ahO];simp [bP]⟩ ?_ ?_
  ·rintro i σ H3 hi ⟨o5,lL,rfl,s3,eL⟩
   have eu:=gE hi;have eq:=gE (show i<bj.length by omega);obtain ⟨tp,rl,kl,qb,QK,ep,hp1,_,hrl,prl,_,_,_,_⟩:=(wB.pc i _ _ eu eq).ex;have Yu:=(wB.pc i _ _ eu eq).ok;have lnp:=(wB.pc i _ _ eu eq).len;generalize bj[i]'(by omega)=p at eq prl Yu lnp;have lt:=gj (n:=(i:Int)) (k:=2) (by decide) (by show i<100;omega);have lpp:("piece p":Str).length=7:=by decide+kernel
   have ll:=pl8 0 (bj.take i) (fun z hz=>pc6 z (aeP hz));have lti:(bj.take i).length<=6:=by rw [aep];omega
   rw [am6];refine ⟨_,rfl,_,rfl,(i:Int),rfl,?_,"piece p",tx (i:Int),rfl,rfl,aah (show ("piece p":Str).length+(tx (i:Int)).length<=30 by omega) (by decide),z1L,?_⟩
   ·show i.log2<1920
    rcases ag3 i with z|z
    ·rw [z];decide
    ·exact (ahT (by omega)).mpr (aaS (show i<100 by omega) (by decide+kernel))
   intro la na;generalize eX:upd _ la _=H4;have ⟨sa,ea⟩:=nw na eX;refine ⟨lL,la,_,_,rfl,rfl,sa _ _ eL,ea,(by rw [ir,aae];exact aah (show ((out.take f).map c9).length+(bP 0 (bj.take i)).length+1<=1000 by omega) (by decide)),?_⟩;intro lb nb;generalize eX:upd _ lb _=H5;have ⟨sb,eb⟩:=nw nb eX;have LQ:=aJ sa sb;have y6:=aJ s3 LQ;refine ⟨_,rfl,_,rfl,pl,_,_,_,rfl,rfl,aZ.of (y6 _ _ hp),ar eu,tp,_,_,_,ep,rfl,Ty.au.cy y6 hp1,AS,rl,rfl,⟨_,aZ.of (y6 _ _ hrl)⟩,fun D2 nD2=>?_⟩;have lup:qb.length=p.length:=abK prl;refine iD (cap:=[]) (K:=K) (a:=rl) (xs:=qb) (fun i v _=>∃r,p[i]?=some r/\v=.str (c9 r)) nD2 (by rw [lup];exact aaW lnp (by decide)) (fun H6 s6=>aZ.of (s6 _ _ (y6 _ _ hrl))) (fun _ _ _ _ _ _ _ h=>h) ?_ ?_
   ·intro i' x H6 R ex s6 k
    obtain ⟨r,er,LO⟩:=aY prl ex;exact ⟨_,rfl,x,_,_,r,rfl,LO.same (aJ y6 s6),Yu r (aaP er),by omega,fun H7 s7=>k _ H7 s7 ⟨r,er,rfl⟩⟩
   intro zs H6 hz aaX s6 hD2
   have ez:zs=(p.map c9).map V.str:=by
    refine agW fun i=>?_;rw [aaU,aaU];have lt:zs.length=p.length:=by rw [hz,lup]
    by_cases hi:i<zs.length
    ·obtain ⟨r,er,ev⟩:=aaX i zs[i] (gE hi)
     rw [gE hi,ev,er];rfl
    ·rw [ac7 (by omega),ac7 (by omega)]
     rfl
   rw [ez] at hD2;have A1:((out.take f).map c9).length+(bP 0 (bj.take i)).length<=60:=by omega
   refine ⟨lb,D2,_,_,rfl,rfl,s6 _ _ eb,hD2,(by
    refine aah (m:=1000) ?_ (by decide);simp only [aae,ir,ac5,ah_,aep,afh] at A1 lti ll ltk ⊢
    omega),?_⟩
   intro lc nc;generalize eX:upd _ lc _=H7;have ⟨sc,ec⟩:=nw nc eX;refine ⟨z1L,?_⟩;intro ld nd;generalize eX:upd _ ld _=H8;have ⟨sd,ed⟩:=nw nd eX
   refine ⟨lc,ld,_,_,rfl,rfl,sd _ _ ec,ed,(by
    refine aah (m:=1000) ?_ (by decide);simp only [aae,ir,ac5,ah_,aep,afh] at A1 lti ll ltk ⊢
    omega),?_⟩
   intro le ne;generalize eX:upd _ le _=H9;have ⟨se,ee⟩:=nw ne eX;refine ⟨_,le,rfl,fun b o e=>se _ _ (sd _ _ (sc _ _ (s6 _ _ (y6 _ _ e)))),?_⟩;rw [ee,take_snoc eq,Pm,show 0+(bj.take i).length=i by rw [aep];omega];unfold gI;simp only [ac1,ada,akc,afC,amX,apa]
  rintro σ H3 ⟨o5,lL,rfl,s3,eL⟩;rw [Vc,afL] at eL;refine ⟨rfl,_,rfl,_,rfl,_,rfl,(f:Int),rfl,oA,_,rfl,aZ.of (s3 _ _ ho),?_⟩;rw [afH (by omega)];intro l5 n5;generalize eX:upd _ l5 _=H5;have ⟨s5,e5⟩:=nw n5 eX;have y6:=aJ s3 s5;refine ⟨l5,rfl,⟨_,aZ.of e5⟩,fun D3 nD3=>?_⟩;refine iD (cap:=[]) (K:=K) (a:=l5) (xs:=us.drop f) (fun i v _=>∃r,(out.drop f)[i]?=some r/\v=.str (c9 r)) nD3 (by rw [afh];exact aaW (show us.length-f<=100 by omega) (by decide)) (fun H2 s2=>aZ.of (s2 _ _ e5)) (fun _ _ _ _ _ _ _ h=>h) ?_ ?_
  ·intro i x H2 R ex s2 k
   obtain ⟨r,er,LO⟩:=aY pd ex;have mr:r∈out:=afj (aaP er);exact ⟨_,rfl,x,M,_,r,rfl,LO.same (aJ y6 s2),ro r mr,lp6,fun H3 s3=>k _ H3 s3 ⟨r,er,rfl⟩⟩
  intro zs H6 hz aaX s6 hD3
  have ez:zs=((out.drop f).map c9).map V.str:=by
   refine agW fun i=>?_;rw [aaU,aaU];have lt:zs.length=(out.drop f).length:=by rw [hz];exact abK pd
   by_cases hi:i<zs.length
   ·obtain ⟨r,er,ev⟩:=aaX i zs[i] (gE hi)
    rw [gE hi,ev,er];rfl
   ·rw [ac7 (by omega),ac7 (by omega)]
    rfl
  rw [ez] at hD3;have lpc:=pl8 0 bj pc6;have ldr:((out.drop f).map c9).length<=6:=by rw [ir,afh];omega
  refine ⟨lL,D3,_,_,rfl,rfl,s6 _ _ (s5 _ _ eL),hD3,(by
   refine aah (m:=1000) ?_ (by decide);simp only [aae,ir,aep,afh] at ltk ldr ⊢
   omega),?_⟩
  intro l7 n7;generalize eX:upd _ l7 _=H7;have ⟨s7,e7⟩:=nw n7 eX;rw [<-ac1] at e7
  have aqI:∀r∈out,(c9 r).length<=1100:=fun r mr=>by
   obtain ⟨i,ei⟩:=ade mr;have il:=(Wp.mp ei).1;obtain ⟨r',er,LO⟩:=aY po (gE (show i<us.length by omega));have:r'=r:=by rw [ei] at er;exact (aaQ er).symm
   rw [this] at LO;exact Pn LO (ro r mr) lp6
  have ayL:∀p∈bj,∀r∈p,(c9 r).length<=1100:=fun p mp r mr=>by
   obtain ⟨i,ei⟩:=ade mp;have il:=(Wp.mp ei).1;have hh:=wB.pc i _ p (gE (show i<kj.length by omega)) ei;obtain ⟨tp,rl,kl,qb,QK,ep,hp1,_,hrl,prl,_⟩:=hh.ex;obtain ⟨k,ek⟩:=ade mr;have kl':=(Wp.mp ek).1;have lup:qb.length=p.length:=abK prl;obtain ⟨r',er,LO⟩:=aY prl (gE (show k<qb.length by omega));have:r'=r:=by rw [ek] at er;exact (aaQ er).symm
   rw [this] at LO;exact Pn LO (hh.ok r mr) (by omega)
  have aJz:("end":Str).length<=10:=by decide+kernel
  have kpp:("piece p":Str).length=7:=by decide+kernel
  have lln:∀(i:Nat)(ps:ρ),i+ps.length<=90->(∀p∈ps,∀r∈p,(c9 r).length<=1100)->∀x∈bP i ps,x.length<=1100:=by
   intro i ps
   induction ps generalizing i with
   | nil=>intro _ _ x hx;cases hx
   | cons p t ih=>
    intro hi h x hx;rw [ac5] at hi
    rcases abh.mp (show x∈gI i p++bP (i+1) t from hx) with hx|hx
    ·rcases aa3.mp hx with rfl|hx
     ·have lt:=gj (n:=(i:Int)) (k:=2) (by decide) (by show i<100;omega)
      rw [abG];omega
     ·rcases abh.mp hx with hx|hx
      ·obtain ⟨r,mr,rfl⟩:=ac3.mp hx
       exact h p aa_ r mr
      ·rw [aaT.mp hx]
       omega
    ·exact ih (i+1) (by omega) (fun z hz=>h z (aa2 _ hz)) x hx
  have all:∀x∈jA f bj out,x.length<=1100:=fun x hx=>by
   rcases abh.mp hx with hx|hx
   ·rcases abh.mp hx with hx|hx
    ·obtain ⟨r,mr,rfl⟩:=ac3.mp hx
     exact aqI r (aeP mr)
    ·exact lln 0 bj (by omega) ayL x hx
   ·obtain ⟨r,mr,rfl⟩:=ac3.mp hx
    exact aqI r (afj mr)
  have cnt:(jA f bj out).length<=100:=by
   unfold jA;rw [aae,aae];omega
  refine ⟨"\n",l7,jA f bj out,rfl,rfl,aZ.of e7,?_,q f H7 (fun b o e=>s7 _ _ (s6 _ _ (y6 _ _ e))) hf hl⟩
  have go:∀l:List Str,(∀w∈l,w.length<=1100)->(l.map (·.length)).sum<=1100*l.length:=by
   intro l
   induction l with
   | nil=>intro _;exact aaM _
   | cons r t ih=>
    intro h;have:=ih fun z hz=>h z (aa2 _ hz);have:=h r aa_;show r.length+(t.map (·.length)).sum<=1100*(t.length+1);omega
  have:=go _ all;rw [lnl];omega
 obtain ⟨tt,ptt,ht⟩:=tail;refine ⟨_,(ag (aR (i:=3) g_.nd ak) (ag (xJ abW (PW.pt (jO (gi (pv 2)) (jO (aL vH (pv 3) (a8 bh rfl bF fm (aE (pv 0)))) (iV (aL nL (aI (iE dw (pv 0) (pv 3))) aw))))) (ae (aR (i:=3) g_.nd (aD dW (pv 3) ak)))) ptt)),?_⟩;show Rb _ _ _ _ _;refine xM (fun σ H'=>∃f:Nat,σ=[some (.ref oA),some (.ref pl),some (.bl b),some (.int (f:Int)),none,none]/\H'=H/\f<=out.length/\∀r∈out.take f,lY r=false) (fun σ _=>match σ with|[_,_,_,some (.int f),_,_]=>out.length-f.toNat|_=>0) ⟨0,rfl,rfl,aer _,by rw [ahO];exact fun _ h=>nomatch h⟩ ?_ ?_
 ·rintro σ H' ⟨f,rfl,rfl,hf,hl⟩
  refine ⟨_,rfl,b,rfl,?_⟩;cases b with
  | false=>exact dz (dz (ht f hf hl))
  | true=>
  refine fY ?_;refine ⟨_,rfl,_,rfl,oA,_,rfl,.inl (aZ.of ho),_,_,rfl,rfl,_,rfl,aK (fun c1=>?_) (fun _=>dz (ht f hf hl))⟩
  have fl:f<us.length:=by
   have:=abn c1;omega
  have eu:=gE fl;obtain ⟨r,er,LO⟩:=aY po eu;obtain ⟨t,qb,et,hk⟩:=LO.kind;refine ⟨_,rfl,_,rfl,oA,_,_,_,rfl,rfl,aZ.of ho,ar eu,t,_,_,_,et,rfl,hk,ar (j:=0) rfl,rfl,_,rfl,?_⟩;rw [Sd,<-zt];cases el:lY r with
  | true=>exact dz (ht f hf hl)
  | false=>
   refine fY ?_;refine ⟨_,rfl,_,_,rfl,rfl,⟨f+1,rfl,rfl,by omega,?_⟩,?_⟩
   ·intro z hz
    rw [take_snoc er] at hz
    rcases abh.mp hz with h|h
    ·exact hl z h
    ·rw [aaT.mp h];exact el
   ·show out.length-((f:Int)+1).toNat<out.length-((f:Int)).toNat
    omega
 ·rintro σ H' Q1 Q2 h ⟨v,e1,bb,e2,z⟩
  refine ⟨v,e1,bb,e2,?_⟩;cases bb with
  | false=>exact h _ _ z
  | true=>
   obtain ⟨v3,e3,v0,e0,p,ys,ex,sq,i,j,ei,ej,c,ec,z⟩:=z;refine ⟨v3,e3,v0,e0,p,ys,ex,sq,i,j,ei,ej,c,ec,?_⟩;cases c with
   | false=>exact h _ _ z
   | true=>
    obtain ⟨v5,e5,v6,e6,l1,l2,l3,l4,l5,l6,l7,l8,t1,t2,t3,t4,t5,t6,t7,t8,n1,b9,e9,z⟩:=z;exact ⟨v5,e5,v6,e6,l1,l2,l3,l4,l5,l6,l7,l8,t1,t2,t3,t4,t5,t6,t7,t8,n1,b9,e9,h _ _ z⟩
structure aqJ (K:Frag)(CP CN CB CO CT:abj):Prop where
 pp:abD K (.ref CP) (.ref CP)=some true
 np:abD K (.ref CN) (.ref CP)=some false
 nn:abD K (.ref CN) (.ref CN)=some true
 bp:abD K (.ref CB) (.ref CP)=some false
 bn:abD K (.ref CB) (.ref CN)=some false
 bb:abD K (.ref CB) (.ref CB)=some true
 op:abD K (.ref CO) (.ref CP)=some false
 on:abD K (.ref CO) (.ref CN)=some false
 ob:abD K (.ref CO) (.ref CB)=some false
 oo:abD K (.ref CO) (.ref CO)=some true
 tp:abD K (.ref CT) (.ref CP)=some false
 tn:abD K (.ref CT) (.ref CN)=some false
 tb:abD K (.ref CT) (.ref CB)=some false
 to':abD K (.ref CT) (.ref CO)=some false
 tt:abD K (.ref CT) (.ref CT)=some true
def jj:fQ->Str×Str
 | .there x=>("there",x)
 | .yN x=>("pin",x)
 | .ot x=>("bar",x)
 | .length x=>("length",x)
 | .many=>("many","")
theorem tI (hq:∀sh,Q sh->Q' sh)(he:∀k,E k->E' k):∀(rows:η)(k:Nat)(sh:Sh),d5 R rows k sh Q E->d5 R rows k sh Q' E'
 | [],k,sh,h=>by
  unfold d5 at h ⊢;split
  ·next c=>rw [abv c] at h;exact hq _ h
  ·next c=>rw [abp c] at h;exact he _ h
 | x::t,k,sh,h=>by
  unfold d5 at h ⊢;cases e:R x with
  | none=>rw [e] at h;exact he _ h
  | some sg=>
   rw [e] at h;dsimp only at h ⊢;split
   ·next c=>rw [abv c] at h;exact tI hq he t _ _ h
   ·next c=>rw [abp c] at h;exact he _ h
inductive aaY (K:Frag)(CF:abj)(vs:ε)(H:Hp)(Q:VK)(E_:XK):Prop
|mk (x:Str)(R:Str->Option Sg)(_:vs=[.str x])(_:x.length+2<=abl)(_:(jZ x).length<=900)(_:(∀r∈jZ x,U' R r))(_:d5 R (jZ x) 0 ⟨[],[],none⟩ (fun sh=>sh.pieces.length<=13/\jx sh.pieces 13 sh.outside "" (0,0) ⟨[],[],0⟩ (fun g _=>∀(t a:abj)(H':Hp),au H H' ->H' t=some (.tup [.str "frame",.ref a])->FrG K H' CF a g->Q (.ref t) H') (fun e=>∀(t:abj)(H':Hp),au H H' ->H' t=some (.tup [.str (jj e).1,.str (jj e).2])->Q (.ref t) H')) (fun _=>False))
theorem bQ:aC ["_law_text_here","_law_told","e"] za1 (aa eT):=sq
theorem zu {CF CP CN CB CO CT CX:abj}(D:Def K mg "_law_outcome" eT za1)(HZ:mg "PinThere"=some (.ref CP))(HS:mg "NoPin"=some (.ref CN))(Wr:mg "BarThere"=some (.ref CB))(Ws:mg "NoLength"=some (.ref CO))(wA:mg "TooMany"=some (.ref CT))(ex:aqJ K CP CN CB CO CT)(xp:TyExc.lG K CP "pin")(xn:TyExc.lG K CN "pin")(xb:TyExc.lG K CB "bar")(xo:TyExc.lG K CO "bar")
  (IZ:Fn P w K mg base (aT P w) 66 "read_frame" zaQ (Va K CF CP CN CB CO CT CX)):Fn P w K mg base (aT P w) 67 "_law_outcome" za1 (aaY K CF):=by
 refine D.oo bQ fun H hr h=>?_;obtain ⟨x,R,rfl,h1,h2,h3,h4⟩:=h;have L2:2<=abl:=by decide
 refine ⟨_,(ag (Zy ⟨rfl,rfl⟩ (aeN (i:=1) bQ.nd rfl (am0 rfl) (ae8 aw (ahd IZ hr.mo (aE (pv 0))))) (UC (i:=2) (AY.own HZ) bQ.nd rfl rfl (fun a=>(ae (aR (i:=1) bQ.nd (aX (aU aw (sO (K:=K) rfl (pv 2) rfl)))))) (UC (i:=2) (AY.own HS) bQ.nd rfl rfl (fun a=>(ae (aR (i:=1) bQ.nd (aX (aU aw (sO (K:=K) rfl (pv 2) rfl)))))) (UC (i:=2) (AY.own Wr) bQ.nd rfl rfl (fun a=>(ae (aR (i:=1) bQ.nd (aX (aU aw (sO (K:=K) rfl (pv 2) rfl)))))) (UC (i:=2) (AY.own Ws) bQ.nd rfl rfl (fun a=>(ae (aR (i:=1) bQ.nd (aX (aU aw (sO (K:=K) rfl (pv 2) rfl)))))) (ahw (AY.own wA) (fun a=>(ae (aR (i:=1) bQ.nd (aX (aU aw aw))))) Zw)))))) (ae (aH (pv 1)))),?_⟩
 refine ⟨_,rfl,.inl ⟨x,R,rfl,h1,h2,h3,tI (fun sh z=>⟨z.1,?_⟩) (fun _ z=>z.elim) _ _ _ h4⟩⟩;refine g9 _ 13 _ _ _ _ _ _ _ _ (fun g o q a H1 s1 fg=>?_) (fun e q=>?_) z.2
 ·intro t n2;generalize eX:upd _ t _=H2;have ⟨s2,e2⟩:=nw n2 eX
  exact ⟨_,rfl,q t a H2 (aJ s1 s2) e2 (fg.same s2)⟩
 have go:∀(d:abj)(H':Hp)(C:abj)(fl v:Str),au H H' ->H' d=some (LM d [(fl,.str v)])->∀ea,H' ea=none->au H (upd H' ea (Rp (.ref C) ea (some d)))/\(upd H' ea (Rp (.ref C) ea (some d))) d=some (LM d [(fl,.str v)]):=fun d H' C fl v s' hd ea na=>by
  refine ⟨fun b o e=>by rw [ah (aj (s' _ _ e) na)];exact s' _ _ e,by rw [ah (aj hd na)];exact hd⟩
 cases e with
 | there v=>
  intro d H' s' nd hd;refine ⟨true,ex.pp,fY fun ea na=>?_⟩;obtain ⟨s2,d2⟩:=go d H' CP "pin" v s' hd ea na;refine ⟨_,rfl,ea,CP,d,_,.str v,rfl,ai,d2,xp,UY _ _,L2,?_⟩;intro t n3;generalize eX:upd _ t _=H3;have ⟨s3,e3⟩:=nw n3 eX;exact ⟨_,rfl,q t H3 (aJ s2 s3) e3⟩
 | yN v=>
  intro d H' s' nd hd;refine ⟨false,ex.np,dz ⟨true,ex.nn,fY fun ea na=>?_⟩⟩;obtain ⟨s2,d2⟩:=go d H' CN "pin" v s' hd ea na;refine ⟨_,rfl,ea,CN,d,_,.str v,rfl,ai,d2,xn,UY _ _,L2,?_⟩;intro t n3;generalize eX:upd _ t _=H3;have ⟨s3,e3⟩:=nw n3 eX;exact ⟨_,rfl,q t H3 (aJ s2 s3) e3⟩
 | ot v=>
  intro d H' s' nd hd;refine ⟨false,ex.bp,dz ⟨false,ex.bn,dz ⟨true,ex.bb,fY fun ea na=>?_⟩⟩⟩;obtain ⟨s2,d2⟩:=go d H' CB "bar" v s' hd ea na;refine ⟨_,rfl,ea,CB,d,_,.str v,rfl,ai,d2,xb,UY _ _,L2,?_⟩;intro t n3;generalize eX:upd _ t _=H3;have ⟨s3,e3⟩:=nw n3 eX;exact ⟨_,rfl,q t H3 (aJ s2 s3) e3⟩
 | length v=>
  intro d H' s' nd hd;refine ⟨false,ex.op,dz ⟨false,ex.on,dz ⟨false,ex.ob,dz ⟨true,ex.oo,fY fun ea na=>?_⟩⟩⟩⟩;obtain ⟨s2,d2⟩:=go d H' CO "bar" v s' hd ea na;refine ⟨_,rfl,ea,CO,d,_,.str v,rfl,ai,d2,xo,UY _ _,L2,?_⟩;intro t n3;generalize eX:upd _ t _=H3;have ⟨s3,e3⟩:=nw n3 eX;exact ⟨_,rfl,q t H3 (aJ s2 s3) e3⟩
 | many=>
  intro H' s';refine ⟨false,ex.tp,dz ⟨false,ex.tn,dz ⟨false,ex.tb,dz ⟨false,ex.to',dz ⟨true,ex.tt,fY ?_⟩⟩⟩⟩⟩;refine ⟨L2,?_⟩;intro t n3;generalize eX:upd _ t _=H3;have ⟨s3,e3⟩:=nw n3 eX;exact ⟨_,rfl,q t H3 (aJ s' s3) e3⟩
mutual
theorem av9 {H:Hp}:∀(d:Da)(x:V),Is K H d x->alike d d=true/\kX d d=true
 | .v a,x,h=>by
  unfold Is at h;unfold alike kX;exact ⟨rfl,Zr h.2⟩
 | .t ds,x,h=>by
  unfold Is at h;unfold alike kX;obtain ⟨p,xs,_,_,k⟩:=h;exact zv ds xs k
 | .l ds,x,h=>by
  unfold Is at h;unfold alike kX;obtain ⟨p,xs,_,_,k⟩:=h;exact zv ds xs k
theorem zv {H:Hp}:∀(ds:List Da)(xs:ε),km K H ds xs->gN ds ds=true/\gZ ds ds=true
 | [],_,_=>⟨rfl,rfl⟩
 | d::ds,[],h=>by unfold km at h;exact h.elim
 | d::ds,x::xs,h=>by
  unfold km at h;unfold gN gZ;obtain ⟨a1,a2⟩:=av9 d x h.1;obtain ⟨b1,b2⟩:=zv ds xs h.2;rw [a1,a2,b1,b2];exact ⟨rfl,rfl⟩
end
theorem tJ {α:Type}{f:α->Da}(h:∀a,dep (f a)<=60):∀l:List α,kY (l.map f)<=60
 | []=>aer _
 | a::l=>by
  show max (dep (f a)) (kY (l.map f))<=60;have h1:=h a;have h2:=tJ h l;omega
theorem I_ {R:V->α->Prop}(h:∀u a,R u a->Is K H (f a) u):∀{us:ε} {l:List α},Paired R us l->km K H (l.map f) us
 | [],[],.nil=>by
  unfold km;trivial
 | _::_,_::_,.cons z t=>by
  show km K H (_::_) _;unfold km;exact ⟨h _ _ z,I_ h t⟩
theorem Sk (x:Str):Is K H (.v (.str x)) (.str x):=by
 unfold Is;exact ⟨rfl,rfl⟩
theorem WJ (xs:η):Paired (fun u (x:Str)=>u=V.str x) (xs.map V.str) xs:=by
 induction xs with
 | nil=>exact .nil
 | cons x xs ih=>exact .cons rfl ih
theorem xF {xs:η}(h:aZ K H l (xs.map V.str)):Is K H (.l (xs.map fun x=>.v (.str x))) (.ref l):=by
 unfold Is;exact ⟨l,_,rfl,h,I_ (fun u a z=>by rw [z];exact Sk a) (WJ xs)⟩
theorem Vf (h:aZ K H l us)(p:sN K H us ws):Is K H (.l (ws.map fun w=>.t (ij (pz w)))) (.ref l):=by
 unfold Is;exact ⟨l,_,rfl,h,I_ (fun u a z=>Spot.is (p:=pz a) z) p⟩
theorem alH (h1:Is K H (.l ds) x)(h2:Is K H (.l ds) y)(hd:kY ds<=60)(q:Q (.bl false) H):UB K x y H Q:=by
 have h:=h1;unfold Is at h;obtain ⟨p,xs,_,_,k⟩:=h;obtain ⟨b1,b2⟩:=zv ds xs k;refine ⟨ds,ds,.inr ⟨h1,h2⟩,b1,hd,?_⟩;rw [b2];exact q
theorem aaZ (h1:Is K H (.t ds) x)(h2:Is K H (.t ds) y)(hd:kY ds<=60)(q:Q (.bl false) H):UB K x y H Q:=by
 have h:=h1;unfold Is at h;obtain ⟨p,xs,_,_,k⟩:=h;obtain ⟨b1,b2⟩:=zv ds xs k;refine ⟨ds,ds,.inl ⟨h1,h2⟩,b1,hd,?_⟩;rw [b2];exact q
theorem aqK (x:Str):dep (.v (.str x))<=60:=aer _
theorem oG (h:dG K H p [.str x,.str y]):Is K H (.t [.v (.str x),.v (.str y)]) (.ref p):=by
 unfold Is;refine ⟨p,_,rfl,h,?_⟩;unfold km;refine ⟨Sk x,?_⟩;unfold km;refine ⟨Sk y,?_⟩;unfold km;trivial
theorem afJ {α:Type}{nm:α->Str}{l:List α}{ys:ε}(hl:ys.length=l.length)(h:∀(i:Nat)(v:V),ys[i]?=some v->∃p,l[i]?=some p/\v=V.str (nm p)):ys=(l.map nm).map V.str:=by
 refine agW fun i=>?_;by_cases hi:i<ys.length
 ·obtain ⟨p,e1,e2⟩:=h i ys[i] (gE hi)
  rw [gE hi,e2,aaU,aaU,e1];rfl
 ·rw [ac7 (by omega),ac7 (by rw [ir,ir];omega)]
inductive oH (K:Frag)(H:Hp)(M:ξ)(v:V)(p:hJ):Prop
|mk (a l:abj)(s:V)(us:ε)(_:v=.ref a)(_:dG K H a [.str p.nm,s,.ref l])(_:og K H s p.sp)(_:l∉M)(_:H l=some (.lst us))(_:sN K H us p.ws)
def zw (K:Frag)(H:Hp)(v:V)(b:Str×Str×Str):Prop:=∃a:abj,v=.ref a/\dG K H a [.str b.1,.str b.2.1,.str b.2.2]
theorem oH.same (h:oH K H M v p)(s:au H H'):oH K H' M v p:=by
 obtain ⟨a,l,sv,us,e,h1,h2,h3,h4,h5⟩:=h;exact ⟨a,l,sv,us,e,Ty.au.cy s h1,h2.same s,h3,s _ _ h4,h5.same s⟩
theorem zw.same (h:zw K H v b)(s:au H H'):zw K H' v b:=by
 obtain ⟨a,e,h1⟩:=h;exact ⟨a,e,Ty.au.cy s h1⟩
theorem aqL {pins:List hJ}(h:(pins.map (·.nm)).Nodup):((pins.map fun p=>(p.nm,p.ws)).map (·.1)).Nodup:=by
 rw [ae5];exact h
inductive aa0 (K:Frag)(C:abj)(vs:ε)(H:Hp)(Q:VK)(E_:XK):Prop
|mk (a pA bA:abj)(us ET :ε)(pins:List hJ)(b8:ο)(d:Nat)(_:vs=[.ref a,.ref pA,.ref bA])(_:FrG K H C a ⟨pins,b8,d⟩)(_:H pA=some (.lst us))(_:Paired (oH K H []) us pins)(_:H bA=some (.lst ET))(_:Paired (zw K H) ET b8)(_:(b8.map (·.1)).Nodup)(_:∀H',au H H' ->Q (.bl true) H')
theorem iS:aC ["_law_frame","_law_pins","_law_bars","_law_name","_law_spot","_law_ways_here","_law_one","_law_other"] zaA (aa lT):=sq
theorem WK (D:Def K mg "_law_is" lT zaA)(MPn:bH P w K mg base (aT P w) 1 C "pins" zam (yG K C))(MB:bH P w K mg base (aT P w) 1 C "bars" zam (HU K C))(MPl:bH P w K mg base (aT P w) 4 C "place" zad (sV K C))(MW:bH P w K mg base (aT P w) 4 C "ways" zad (HW K C))(ME:bH P w K mg base (aT P w) 1 C "ends" zas (HV K C)):
  Fn P w K mg base (aT P w) 5 "_law_is" zaA (aa0 K C):=by
 refine D.oo iS fun H hr h=>?_;obtain ⟨a,pA,bA,us,ET,pins,b8,d,rfl,R,hp,pp,hb,pb,gnb,q⟩:=h;have np:=R.nd;have lu:us.length=pins.length:=abK pp;have lv:ET.length=b8.length:=abK pb;have lp:pins.length<=24:=R.lp;have lb:b8.length<=60:=R.lb;have nmb:((pins.map fun p=>(p.nm,pz p.sp)).map (·.1))=pins.map (·.nm):=by rw [ae5];rfl
 refine ⟨_,(ag (aS (PW.pt (pZ (aL (ku hr.units) (sI (k:=1) (pv 0) hr.mo (q_Y P w)) (iX (tn:=["_law_pin"]) (fr:=[]) (caps:=[]) (cJ (pv 1)) (iE (kD (K:=K) rfl) (pv 0) ak))) (mn (aL (ku hr.units) (sI (k:=1) (pv 0) hr.mo (q_Y P w)) (iX (tn:=["_law_bar"]) (fr:=[]) (caps:=[]) (cJ (pv 2)) (iE (kD (K:=K) rfl) (pv 0) ak)))))) (ae (aH vG)) aG) (ag (dU abW rfl (cJ (pv 1)) (mv rfl (cb (hU (i:=3) iS.nd) (cb (hU (i:=4) iS.nd) (cb (hU (i:=5) iS.nd) jB)))) (ae (aS (PW.pt (pZ (aL (ku hr.units) (cN (k:=4) (pv 0) hr.mo (q_Y P w) (aE (pv 3))) (pv 4)) (mn (aL (ku hr.units) (cN (k:=4) (pv 0) hr.mo (q_Y P w) (aE (pv 3))) (pv 5))))) (ae (aH vG)) aG))) (ag (dU abW rfl (cJ (pv 2)) (mv rfl (cb (hU (i:=3) iS.nd) (cb (hU (i:=6) iS.nd) (cb (hU (i:=7) iS.nd) jB)))) (ae (aS (aL (ku hr.units) (cN (k:=1) (pv 0) hr.mo (q_Y P w) (aE (pv 3))) (aX (aU (pv 6) (pv 7)))) (ae (aH vG)) aG))) (ae (aH vG))))),?_⟩
 obtain ⟨dx,pP,pW,pB,kP,kW,kB,F1,W1⟩:=R.ex;refine ⟨_,rfl,a,C,dx,_,_,_,rfl,F1.obj,rfl,MPn,a,dx,pP,pW,pB,_,_,kP,kW,kB,rfl,F1,fun l H1 s1 nl el=>?_⟩;rw [nmb] at el;refine ⟨_,rfl,pA,rfl,⟨_,aZ.of (s1 _ _ hp)⟩,fun D1 n1=>?_⟩;refine iD (cap:=[]) (K:=K) (a:=pA) (xs:=us) (fun i v _=>∃p,pins[i]?=some p/\v=.str p.nm) n1 (by rw [lu];exact aaW (show pins.length<=1000 by omega) (by decide)) (fun H2 s2=>aZ.of (s2 _ _ (s1 _ _ hp))) (fun _ _ _ _ _ _ _ h=>h) ?_ ?_
 ·intro j u H6 Rq hu s6 k
  obtain ⟨p,MD,hp'⟩:=aY pp hu;obtain ⟨ta,l',sv,qb,rfl,h1,_⟩:=hp'.same (aJ s1 s6);exact ⟨_,rfl,ta,_,_,_,rfl,rfl,h1,rfl,k _ _ (au.refl _) ⟨p,MD,rfl⟩⟩
 intro ys H2 hy zr s2 hD;rw [afJ (nm:=hJ.nm) (by rw [hy,lu]) zr] at hD;refine alH (xF (aZ.of (s2 _ _ el))) (xF (aZ.of hD)) (tJ aqK _) ⟨_,rfl,?_⟩;refine aK (fun c=>nomatch c) (fun _=>?_);have nG:=aJ s1 s2;have F2:=F1.same nG;refine ⟨_,rfl,a,C,dx,_,_,_,rfl,F2.obj,rfl,MB,a,dx,pP,pW,pB,_,_,kP,kW,kB,rfl,F2,fun l3 H3 s3 nl3 el3=>?_⟩;have jm:=aJ nG s3;refine ⟨_,rfl,bA,rfl,⟨_,aZ.of (jm _ _ hb)⟩,fun D2 n2=>?_⟩;refine iD (cap:=[]) (K:=K) (a:=bA) (xs:=ET) (fun i v _=>∃p,b8[i]?=some p/\v=.str p.1) n2 (by rw [lv];exact aaW (show b8.length<=1000 by omega) (by decide)) (fun H2 s2=>aZ.of (s2 _ _ (jm _ _ hb))) (fun _ _ _ _ _ _ _ h=>h) ?_ ?_
 ·intro j u H6 Rq hu s6 k
  obtain ⟨b,eb',xq⟩:=aY pb hu;obtain ⟨ta,rfl,h1⟩:=xq.same (aJ jm s6);exact ⟨_,rfl,ta,_,_,_,rfl,rfl,h1,rfl,k _ _ (au.refl _) ⟨b,eb',rfl⟩⟩
 intro ys H4 hy zr s4 hD2;rw [afJ (nm:=fun b:Str×Str×Str=>b.1) (by rw [hy,lv]) zr] at hD2;refine alH (xF (aZ.of (s4 _ _ el3))) (xF (aZ.of hD2)) (tJ aqK _) ⟨_,rfl,?_⟩;refine aK (fun c=>nomatch c) (fun _=>?_);have BU:=aJ jm s4
 refine ⟨_,rfl,pA,rfl,⟨_,aZ.of (BU _ _ hp)⟩,eG (K:=K) (a:=pA) (xs:=us) (fun i σ H'=>Ex3 fun (o3 o4 o5:ω)=>σ=[some (.ref a),some (.ref pA),some (.ref bA),o3,o4,o5,none,none]/\au H H') ⟨none,none,none,rfl,BU⟩ (fun i σ H' _ h=>by
   obtain ⟨_,_,_,_,h⟩:=h
   exact aZ.of (h _ _ hp)) ?_ ?_⟩
 ·rintro i u σ H5 hu ⟨o3,o4,o5,rfl,s5⟩
  obtain ⟨p,ep,hpr⟩:=aY pp hu;have mp:p∈pins:=aaP ep;obtain ⟨ta,l',sv,ws,rfl,h1,h2,_,h3,h4⟩:=hpr.same s5;refine ⟨ta,_,rfl,h1,rfl,_,_,rfl,_,_,rfl,_,_,rfl,rfl,?_⟩;have F5:=F1.same s5;have W5:=W1.same s5;refine ⟨_,rfl,a,C,dx,_,_,_,rfl,F5.obj,rfl,MPl,_,rfl,a,dx,pP,pW,pB,_,_,kP,kW,kB,p.nm,pz p.sp,rfl,F5,by rw [nmb];exact np,ac3.mpr ⟨p,mp,rfl⟩,fun v hv=>?_⟩;refine ⟨_,rfl,aaZ (Spot.is hv) (Spot.is (p:=pz p.sp) h2) (pq _) ⟨_,rfl,?_⟩⟩;refine aK (fun c=>nomatch c) (fun _=>?_);refine ⟨_,rfl,a,C,dx,_,_,_,rfl,F5.obj,rfl,MW,_,rfl,a,dx,pP,pW,pB,_,_,kP,kW,kB,_,p.nm,p.ws,rfl,F5,W5,aqL np,ac3.mpr ⟨p,mp,rfl⟩,by rw [nmb];exact ac3.mpr ⟨p,mp,rfl⟩,fun l7 u7 H7 s7 n7 e7 p7=>?_⟩;refine ⟨_,rfl,alH (Vf (aZ.of e7) p7) (Vf (aZ.of (s7 _ _ h3)) (h4.same s7)) (tJ (fun w=>aah (show dep (.t (ij (pz w)))<=2 by simp [dep,kY]) (by decide)) _) ⟨_,rfl,?_⟩⟩;refine aK (fun c=>nomatch c) (fun _=>?_);exact ⟨_,_,_,rfl,aJ s5 s7⟩
 rintro σ H5 ⟨o3,o4,o5,rfl,s5⟩
 refine ⟨_,rfl,bA,rfl,⟨_,aZ.of (s5 _ _ hb)⟩,eG (K:=K) (a:=bA) (xs:=ET) (fun i σ H'=>Ex3 fun (o3 o6 o7:ω)=>σ=[some (.ref a),some (.ref pA),some (.ref bA),o3,o4,o5,o6,o7]/\au H H') ⟨_,none,none,rfl,s5⟩ (fun i σ H' _ h=>by
   obtain ⟨_,_,_,_,h⟩:=h
   exact aZ.of (h _ _ hb)) ?_ ?_⟩
 ·rintro i u σ H6 hu ⟨o3,o6,o7,rfl,s6⟩
  obtain ⟨b,eb,hbr⟩:=aY pb hu;have mb:b∈b8:=aaP eb;obtain ⟨ta,rfl,h1⟩:=hbr.same s6;refine ⟨ta,_,rfl,h1,rfl,_,_,rfl,_,_,rfl,_,_,rfl,rfl,?_⟩;have F6:=F1.same s6;refine ⟨_,rfl,a,C,dx,_,_,_,rfl,F6.obj,rfl,ME,_,rfl,a,dx,pP,pW,pB,_,_,kP,kW,kB,b.1,b.2.1,b.2.2,rfl,F6,gnb,mb,fun p rd=>?_⟩;have tp:dG K H6 p [.str b.2.1,.str b.2.2]:=.inl rd;refine ⟨_,rfl,_,rfl,z2L,?_⟩;intro t7 n7;generalize eX:upd _ t7 _=H7;have ⟨s7,e7⟩:=nw n7 eX;refine aaZ (oG (Ty.au.cy s7 tp)) (oG (dG.of e7)) (by simp [kY,dep]) ⟨_,rfl,?_⟩;refine aK (fun c=>nomatch c) (fun _=>?_);exact ⟨_,_,_,rfl,aJ s6 s7⟩
 rintro σ H6 ⟨o3,o6,o7,rfl,s6⟩;exact q H6 s6
def bI (lp lb lq:abj)(d:Nat)(tv:V):List (Key×V):=[(.inr "pins",.ref lp),(.inr "bars",.ref lb),(.inr "pieces",.ref lq),(.inr "done",.int (d:Int)),(.inr "told",tv)]
section
variable {lp lb lq:abj}{d:Nat}{tv:V}
theorem zz:fb (bI lp lb lq d tv) (.inr "pins")=some (.ref lp):=by kernel_rfl
theorem Sl:fb (bI lp lb lq d tv) (.inr "bars")=some (.ref lb):=by kernel_rfl
theorem aa1:fb (bI lp lb lq d tv) (.inr "pieces")=some (.ref lq):=by kernel_rfl
theorem alI:fb (bI lp lb lq d tv) (.inr "done")=some (.int (d:Int)):=by kernel_rfl
theorem alJ:fb (bI lp lb lq d tv) (.inr "told")=some tv:=by kernel_rfl
theorem lD (v:V):putK (bI lp lb lq d tv) (.inr "told") v=bI lp lb lq d v:=by kernel_rfl
theorem w_count:putK (bI lp lb lq d tv) (.inr "done") (.int ((d:Int)+1))=bI lp lb lq (d+1) tv:=by kernel_rfl
end
structure iA (K:Frag)(H:Hp)(wa lp lb lq:abj)(g:Gd)(tv:V):Prop where
 fE:H wa=some (.dK (bI lp lb lq g.done tv))
 pins:∃us,H lp=some (.lst us)/\Paired (oH K H [lp,lb]) us g.pins
 b8:∃us,H lb=some (.lst us)/\Paired (zw K H) us g.b8
 ne:lp≠lb
 np:(g.pins.map (·.nm)).Nodup
 nb:(g.b8.map (·.1)).Nodup
 alK:g.pins.length<=24
 alL:g.b8.length<=60
 ld:g.done<=500
theorem oH.mono (h:oH K H M v p)(k:∀b xs,b∉M->H b=some (.lst xs)->H' b=some (.lst xs))(t:bf H H'):oH K H' M v p:=by
 obtain ⟨a,l,sv,us,e,h1,h2,h3,h4,h5⟩:=h;exact ⟨a,l,sv,us,e,t.cy h1,h2.aQ t,h3,k _ _ h3 h4,h5.aQ t⟩
theorem zw.aQ (h:zw K H v b)(t:bf H H'):zw K H' v b:=by
 obtain ⟨a,e,h1⟩:=h;exact ⟨a,e,t.cy h1⟩
theorem iA.same (h:iA K H wa lp lb lq g tv)(s:au H H'):iA K H' wa lp lb lq g tv:=by
 obtain ⟨us,e1,p1⟩:=h.pins;obtain ⟨vs,e2,p2⟩:=h.b8;exact {h with fE:=s _ _ h.fE,pins:=⟨us,s _ _ e1,Paired.bJ p1 fun _ _ z=>z.same s⟩,b8:=⟨vs,s _ _ e2,Paired.bJ p2 fun _ _ z=>z.same s⟩}
theorem iA.other (h:iA K H wa lp lb lq g tv)(e:H o=some (.dK ks))(n:o≠wa):iA K (upd H o (.dK ks')) wa lp lb lq g tv:=by
 obtain ⟨us,e1,p1⟩:=h.pins;obtain ⟨vs,e2,p2⟩:=h.b8;have t:bf H (upd H o (.dK ks')):=.dict e;have nl:∀{b:abj} {xs:ε},H b=some (.lst xs)->b≠o:=fun e' z=>by rw [z,e] at e';cases e'
 exact {h with fE:=by rw [ah (ac2 n)];exact h.fE,pins:=⟨us,by rw [ah (nl e1)];exact e1,Paired.bJ p1 fun _ _ z=>z.mono (fun b xs _ eb=>by rw [ah (nl eb)];exact eb) t⟩,b8:=⟨vs,by rw [ah (nl e2)];exact e2,Paired.bJ p2 fun _ _ z=>z.aQ t⟩}
theorem iA.tell (h:iA K H wa lp lb lq g tv)(v:V):iA K (upd H wa (.dK (bI lp lb lq g.done v))) wa lp lb lq g v:=by
 obtain ⟨us,e1,p1⟩:=h.pins;obtain ⟨vs,e2,p2⟩:=h.b8;have e:=h.fE;have t:bf H (upd H wa (.dK (bI lp lb lq g.done v))):=.dict e;have nl:∀{b:abj} {xs:ε},H b=some (.lst xs)->b≠wa:=fun e' z=>by rw [z,e] at e';cases e'
 exact {h with fE:=ai,pins:=⟨us,by rw [ah (nl e1)];exact e1,Paired.bJ p1 fun _ _ z=>z.mono (fun b xs _ eb=>by rw [ah (nl eb)];exact eb) t⟩,b8:=⟨vs,by rw [ah (nl e2)];exact e2,Paired.bJ p2 fun _ _ z=>z.aQ t⟩}
theorem iA.count (h:iA K H wa lp lb lq g tv)(l:g.done<500):iA K (upd H wa (.dK (bI lp lb lq (g.done+1) tv))) wa lp lb lq {g with done:=g.done+1} tv:=by
 obtain ⟨us,e1,p1⟩:=h.pins;obtain ⟨vs,e2,p2⟩:=h.b8;have e:=h.fE;have t:bf H (upd H wa (.dK (bI lp lb lq (g.done+1) tv))):=.dict e;have nl:∀{b:abj} {xs:ε},H b=some (.lst xs)->b≠wa:=fun e' z=>by rw [z,e] at e';cases e'
 exact ⟨ai,⟨us,by rw [ah (nl e1)];exact e1,Paired.bJ p1 fun _ _ z=>z.mono (fun b xs _ eb=>by rw [ah (nl eb)];exact eb) t⟩,⟨vs,by rw [ah (nl e2)];exact e2,Paired.bJ p2 fun _ _ z=>z.aQ t⟩,h.ne,h.np,h.nb,h.alK,h.alL,l⟩
def KW (wa lp lb o:abj)(H H':Hp):Prop:=∀b ob,b≠wa->b≠lp->b≠lb->b≠o->H b=some ob->H' b=some ob
theorem iA.pin {ws:υ}(h:iA K H wa lp lb lq g tv)(e:H lp=some (.lst us))(hp:Paired (oH K H [lp,lb]) us g.pins)(hu:oH K H [lp,lb] u ⟨x,sp,ws⟩)(nn:x∉g.pins.map (·.nm))(l:¬ 24<=g.pins.length):iA K (upd H lp (.lst (us++[u]))) wa lp lb lq (FJ g x sp ws) tv:=by
 obtain ⟨vs,e2,p2⟩:=h.b8;have t:bf H (upd H lp (.lst (us++[u]))):=.list e;have up:∀{v p},oH K H [lp,lb] v p->oH K (upd H lp (.lst (us++[u]))) [lp,lb] v p:=fun {v p} z=>z.mono (fun b xs nb eb=>by rw [ah (fun y=>nb (by rw [y];exact aa_))];exact eb) t;refine ⟨by rw [ah (fun z=>by have d:=h.fE;rw [z,e] at d;cases d)];exact h.fE,⟨us++[u],ai,acA (Paired.bJ hp fun _ _ z=>up z) (up hu)⟩,⟨vs,by rw [ah (ac2 h.ne)];exact e2,Paired.bJ p2 fun _ _ z=>z.aQ t⟩,h.ne,?_,h.nb,?_,h.alL,h.ld⟩
 ·show ((g.pins++[(⟨x,sp,ws⟩:hJ)]).map (·.nm)).Nodup
  rw [ac1,ag_];refine ⟨h.np,by simp,fun a ha b hb=>?_⟩;rw [show b=x from by simpa using hb];exact fun z=>nn (by rw [<-z];exact ha)
 ·show (g.pins++[(⟨x,sp,ws⟩:hJ)]).length<=24
  rw [aae,ac0];omega
inductive vf (K:Frag)(vs:ε)(H:Hp)(Q:VK)(E_:XK):Prop
|mk (wa lp lb lq o:abj)(u vx vy:V)(x:Str)(c:Rat×Rat)(p:hJ)(g:Gd)(own:Own)(n k:Nat)(_:vs=[.ref wa,.ref o,u,.str x,vx,vy])(_:iA K H wa lp lb lq g .bG)(_:H o=some (.dK (bq own)))(_:o≠wa)(_:own.length<=1000)(_:qh K H [lp,lb] n u (.pin p))(_:nv (.pin p))(_:x.length<=1000)(_:jR K H vx c.1)(_:jR K H vy c.2)(_:Sz k c.1)(_:Sz k c.2)(_:k<=30000)(_:lX x c p g own (fun g1 bz=>∀H',KW wa lp lb o H H' ->iA K H' wa lp lb lq g1 .bG->H' o=some (.dK (bq bz))->Q .bG H') (fun e=>∀(t:abj)(H':Hp),KW wa lp lb o H H' ->iA K H' wa lp lb lq g (.ref t)->H' t=some (.tup [.str (jj e).1,.str (jj e).2])->H' o=some (.dK (bq own))->Q .bG H'))
theorem gJ:aC ["_law_world","_law_own","_law_row","_law_prefix","_law_x","_law_y","_law_spot","_law_there","_law_name"] zaa (aa dY):=sq
theorem wC (D:Def K mg "_law_pin_done" dY zaa)(bF:mg "len"=none)(gX:Fn P w K mg base (aT P w) 34 "_law_plus" zaF (qS K fun a b=>a+b)):Fn P w K mg base (aT P w) 35 "_law_pin_done" zaa (vf K):=by
 refine D.op gJ fun f cdv A outer s H vs Q E hr h=>?_;obtain ⟨wa,lp,lb,lq,o,u,vx,vy,x,c,p,g,own,n,k,rfl,W,ho,now,lo,hw,hg,lx,hx,hy,zx,zy,hk,q⟩:=h;have L2:2<=abl:=by decide
 obtain ⟨gn,gx,gy,gw⟩:=hg;have gnl:=gn.len;cases hw with
 | pin t l rx ry us p e h1 h2 h3 h4 h5 h6=>
 subst e
 refine ⟨_,(ag (aR (i:=6) gJ.nd (aX (aU (dh gX hr (aU (pv 4) (aI (pv 2)))) (dh gX hr (aU (pv 5) (aI (pv 2))))))) (ag (RE (i:=7) (tn:=["_law_pin"]) (fr:=["_law_spot"]) (caps:=[6]) gJ.nd (cJ (bL (bB hr) (pv 0) aw (fun _ _=>rfl))) (fun _ _ _ _=>(mq (i:=0) (show (["_law_pin","_law_spot"]:List Str).Nodup from by decide+kernel) rfl (am0 rfl))) (fun _ _ _ _=>(Rt (aL (aag (K:=K) rfl hr.units) (iE (kD (K:=K) rfl) (pv 0) ak) (pv 1)))) (iE (kD (K:=K) rfl) (pv 0) ak)) (ag (aR (i:=8) gJ.nd (aD bx (pv 3) (aI (pv 2)))) (ae (aS (kU (uK (bB hr) (aI (pv 2)) (pv 1))) (ae (cW (bB hr) (pv 0) aw (aX (aU aw (pv 8))) rfl)) (ae (aS (aL Uu (a8 bh rfl bF fm (aE (pv 7))) ak) (ae (cW (bB hr) (pv 1) (aI (pv 2)) (cT (pv 7)) rfl)) (ae (aS (xa EM (pv 8) (iX (tn:=["_law_pin"]) (fr:=[]) (caps:=[]) (cJ (bL (bB hr) (pv 0) aw (fun _ _=>rfl))) (iE (kD (K:=K) rfl) (pv 0) ak)) rfl) (ae (cW (bB hr) (pv 0) aw (aX (aU aw (pv 8))) rfl)) (ae (aS (aL ED (a8 bh rfl bF fm (aE (bL (bB hr) (pv 0) aw (fun _ _=>rfl)))) ak) (ae (cW (bB hr) (pv 0) aw (aX (aU aw aw)) rfl)) (ag (bg (gA abQ abO abP dc (bL (bB hr) (pv 0) aw (fun _ _=>rfl)) (aE (aX (gO (pv 8) (pv 6) (aI (pv 2))))))) (ae (cW (bB hr) (pv 1) (aI (pv 2)) (pv 8) rfl)))))))))))))),?_⟩
 refine ⟨_,rfl,_,rfl,t,_,_,_,rfl,rfl,h1,ar (j:=2) rfl,vx,rx,c.1,p.sp.1,rfl,hx,h2,zx.up (aah hk (by decide)),gx.up (by decide),fun p1 H1 s1 e1=>?_⟩;refine ⟨_,rfl,_,rfl,t,_,_,_,rfl,rfl,Ty.au.cy s1 h1,ar (j:=3) rfl,vy,ry,c.2,p.sp.2,rfl,hy.same s1,h3.same s1,zy.up (aah hk (by decide)),gy.up (by decide),fun p2 H2 s2 e2=>⟨L2,?_⟩⟩;intro ts n3;generalize eX:upd _ ts _=H3;have ⟨s3,e3⟩:=nw n3 eX;have jm:au H H3:=fun b o e=>s3 _ _ (s2 _ _ (s1 _ _ e));have aaq:og K H3 (.ref ts) (nF c p.sp):=FQ e3 (((j0 e1).same s2).same s3) ((j0 e2).same s3);have W3:=W.same jm;obtain ⟨kj,ep,pp⟩:=W3.pins;have Vc:kj.length=g.pins.length:=abK pp;have l24:=W3.alK;have ho3:=jm _ _ ho;refine ⟨_,rfl,wa,.ref lp,rfl,(by have h:=dC.k (k:=.inr "pins") W3.fE;rw [zz] at h;exact h),lp,rfl,⟨_,aZ.of ep⟩,fun D1 nD1=>?_⟩;refine kM (K:=K) (a:=lp) (xs:=kj) (cap:=[some (.ref ts)]) (fun k=>match g.pins[k]? with|some z=>decide (pz z.sp=pz (nF c p.sp))|none=>false) (fun k ys _=>ys=(((g.pins.take k).filter (fun z=>decide (pz z.sp=pz (nF c p.sp)))).map (·.nm)).map V.str) nD1 (fun H' s'=>aZ.of (s' _ _ ep)) (by rw [Vc];exact aaW l24 (by decide)) (by rw [ahO];rfl) ?_ ?_ ?_ ?_
 ·intro k' v H' R ev s' kk
  obtain ⟨z,ez,hz⟩:=aY pp ev;obtain ⟨a,l',sv,qb,rfl,k1,k2,_⟩:=hz.same s';rw [ez] at kk;refine ⟨_,rfl,a,_,_,_,rfl,rfl,k1,ar (j:=1) rfl,_,rfl,ij (pz z.sp),ij (pz (nF c p.sp)),.inl ⟨Spot.is (p:=pz z.sp) k2,Spot.is (p:=pz (nF c p.sp)) (aaq.same s')⟩,n_ _ _,pq _,?_⟩;rw [yy];exact ⟨_,rfl,kk⟩
 ·intro k' ys H' pk hj
  cases ez:g.pins[k']? with
  | none=>
   have:g.pins.length<=k':=List.getElem?_eq_none_iff.mp ez;rw [ae1 (by omega)];rw [ae1 this] at hj;exact hj
  | some z=>
   rw [ez] at pk;rw [take_snoc ez,ak_,amW (by rw [show decide (pz z.sp=pz (nF c p.sp))=false from pk];exact acZ),apb,aeL];exact hj
 ·rintro k' v ys H' R ev pk hj s' eD' kk
  obtain ⟨z,ez,hz⟩:=aY pp ev;obtain ⟨a,l',sv,qb,rfl,k1,k2,_⟩:=hz.same s';rw [ez] at pk;refine ⟨_,rfl,a,_,_,_,rfl,rfl,k1,ar (j:=0) rfl,kk _ H' (au.refl _) ?_⟩;rw [take_snoc ez,ak_,amV (p:=fun z:hJ=>decide (pz z.sp=pz (nF c p.sp))) (show decide (pz z.sp=pz (nF c p.sp))=true from pk),apb,ac1,ac1,hj];rfl
 rintro ys H4 hj s4 eD;rw [Vc,afL] at hj;have BU:=aJ jm s4;have W4:=W3.same s4;have h14:=Ty.au.cy BU h1;have Pp:=s4 _ _ ho3;refine ⟨_,rfl,_,rfl,t,_,_,_,rfl,rfl,h14,ar (j:=1) rfl,_,_,rfl,rfl,aah (show x.length+p.nm.length<=2000 by omega) (by decide),_,rfl,t,_,_,_,rfl,rfl,h14,ar (j:=1) rfl,?_⟩;have tK:(bI lp lb lq g.done .bG).length<abl:=aaW (show 5<=5 from aaM _) (by decide)
 have told:∀(H5:Hp)(t5:abj)(a b:Str),au H4 H5->H4 t5=none->H5 t5=some (.tup [.str a,.str b])->KW wa lp lb o H (upd H5 wa (.dK (bI lp lb lq g.done (.ref t5))))/\iA K (upd H5 wa (.dK (bI lp lb lq g.done (.ref t5)))) wa lp lb lq g (.ref t5)/\(upd H5 wa (.dK (bI lp lb lq g.done (.ref t5)))) t5=some (.tup [.str a,.str b])/\(upd H5 wa (.dK (bI lp lb lq g.done (.ref t5)))) o=some (.dK (bq own)):=fun H5 t5 a b s5 n5 e5=>by
  refine ⟨fun b' ob n1 _ _ _ e=>by rw [ah n1];exact s5 _ _ (BU _ _ e),(W4.same s5).tell _,?_,?_⟩
  ·rw [ah (fun z=>by rw [z,W4.fE] at n5;cases n5)]
   exact e5
  ·rw [ah now]
   exact s5 _ _ Pp
 refine ⟨_,rfl,o,_,rfl,dC.k (k:=.inr p.nm) Pp,_,rfl,?_⟩;by_cases c1:p.nm∈own.map (·.1)
 ·have q1:=q
  unfold lX at q1;rw [abv c1] at q1;rw [show (fb (bq own) (.inr p.nm)).isSome=true from (pH own p.nm).trans (abu c1)];refine fY ?_;refine ⟨_,rfl,L2,?_⟩;intro t5 n5;generalize eX:upd _ t5 _=H5;have ⟨s5,e5⟩:=nw n5 eX;obtain ⟨k1,k2,k3,k4⟩:=told H5 t5 _ _ s5 n5 e5;refine ⟨_,rfl,wa,_,rfl,je.k (k:=.inr "told") (s5 _ _ W4.fE) tK,?_⟩;rw [lD];exact q1 t5 _ k1 k2 k3 k4
 rw [tj c1];refine dz ?_
 have ef:∀(I:∀z:hJ,Decidable (z.sp=nF c p.sp)),g.pins.find? (fun z=> @decide _ (I z))=(g.pins.filter (fun z=>decide (pz z.sp=pz (nF c p.sp)))).head? :=fun I=>by
  rw [List.head?_filter];congr 1;funext z;by_cases e:z.sp=nF c p.sp
  ·rw [abu e,abu (by rw [e])]
  ·rw [aby e,aby (fun y=>e (U8 y))]
 have q1:=q;unfold lX at q1;rw [abp c1,ef] at q1;refine ⟨_,rfl,D1,_,rfl,.inl (aZ.of eD),_,_,rfl,rfl,_,rfl,?_⟩;cases efl:g.pins.filter (fun z=>decide (pz z.sp=pz (nF c p.sp))) with
 | cons z zs=>
  rw [efl] at hj q1;have q2:∀H',KW wa lp lb o H H' ->iA K H' wa lp lb lq g .bG->H' o=some (.dK (bq (own++[(p.nm,z.nm)])))->Q .bG H':=q1;subst hj;refine aK (fun _=>?_) (fun cc=>abo (abu (by rw [ir,ir,ac5];omega)) cc);refine ⟨_,rfl,D1,_,_,_,rfl,rfl,aZ.of eD,ar (j:=0) rfl,_,rfl,_,rfl,t,_,_,_,rfl,rfl,h14,ar (j:=1) rfl,o,_,rfl,je.k (k:=.inr p.nm) Pp (aaW (show (bq own).length<=1000 by unfold bq;rw [ir];exact lo) (by decide)),?_⟩;rw [ig _ (tj c1),oz];exact q2 _ (fun b' ob _ _ _ n4 e=>by rw [ah n4];exact BU _ _ e) (W4.other Pp now) ai
 | nil=>
  rw [efl] at hj q1;subst hj;refine aK (fun cc=>by simp at cc) (fun _=>?_);dsimp only [List.head?_nil] at q1;have ep4:=s4 _ _ ep;have pp4:Paired (oH K H4 [lp,lb]) kj g.pins:=Paired.bJ pp fun _ _ z=>z.same s4;refine ⟨_,rfl,_,rfl,wa,.ref lp,rfl,(by have h:=dC.k (k:=.inr "pins") W4.fE;rw [zz] at h;exact h),lp,rfl,⟨_,aZ.of ep4⟩,fun D2 nD2=>?_⟩;refine iD (cap:=[]) (K:=K) (a:=lp) (xs:=kj) (fun i v _=>∃z,g.pins[i]?=some z/\v=.str z.nm) nD2 (by rw [Vc];exact aaW l24 (by decide)) (fun H5 s5=>aZ.of (s5 _ _ ep4)) (fun _ _ _ _ _ _ _ h=>h) ?_ ?_
  ·intro j v H5 R ev s5 k
   obtain ⟨z,ez,hz⟩:=aY pp4 ev;obtain ⟨a,l',sv,qb,rfl,k1,k2,_⟩:=hz.same s5;exact ⟨_,rfl,a,_,_,_,rfl,rfl,k1,ar (j:=0) rfl,k _ _ (au.refl _) ⟨z,ez,rfl⟩⟩
  intro ys H5 hy zr s5 hD5;rw [afJ (nm:=hJ.nm) (by rw [hy,Vc]) zr] at hD5;have y6:=aJ BU s5;have W5:=W4.same s5;have eIn:inV (.str (x++p.nm)) ((g.pins.map (·.nm)).map V.str)=decide (x++p.nm∈g.pins.map (·.nm)):=by rw [yz]
  refine ⟨D2,_,rfl,.inl (aZ.of hD5),rfl,(by rw [akf];exact afP.mpr fun _ _=>rfl),_,rfl,?_⟩;by_cases c2:x++p.nm∈g.pins.map (·.nm)
  ·rw [abv c2] at q1
   refine aK (fun _=>?_) (fun z=>abo (by show inV _ _=true;rw [eIn,abu c2]) z);refine ⟨_,rfl,L2,?_⟩;intro t6 n6;generalize eX:upd _ t6 _=H6;have ⟨s6,e6⟩:=nw n6 eX;obtain ⟨k1,k2,k3,k4⟩:=told H6 t6 _ _ (aJ s5 s6) (aO s5 n6) e6;refine ⟨_,rfl,wa,_,rfl,je.k (k:=.inr "told") (s6 _ _ W5.fE) tK,?_⟩;rw [lD];exact q1 t6 _ k1 k2 k3 k4
  rw [abp c2] at q1;refine aK (fun z=>abo (show inV _ _=true from z) (by rw [eIn,aby c2];exact acZ)) (fun _=>?_);have ep5:=s5 _ _ ep4;refine ⟨_,rfl,wa,.ref lp,rfl,(by have h:=dC.k (k:=.inr "pins") W5.fE;rw [zz] at h;exact h),lp,_,rfl,.inl (aZ.of ep5),_,_,rfl,rfl,_,rfl,?_⟩;by_cases c3:24<=g.pins.length
  ·rw [abv c3] at q1
   refine aK (fun _=>?_) (fun z=>abo (abu (by rw [Vc];omega)) z);refine ⟨L2,?_⟩;intro t6 n6;generalize eX:upd _ t6 _=H6;have ⟨s6,e6⟩:=nw n6 eX;obtain ⟨k1,k2,k3,k4⟩:=told H6 t6 _ _ (aJ s5 s6) (aO s5 n6) e6;refine ⟨_,rfl,wa,_,rfl,je.k (k:=.inr "told") (s6 _ _ W5.fE) tK,?_⟩;rw [lD];exact q1 t6 _ k1 k2 k3 k4
  rw [abp c3] at q1;refine aK (fun z=>abo (abn z) (by rw [Vc];omega)) (fun _=>?_);have h15:=Ty.au.cy y6 h1;refine ⟨_,rfl,wa,.ref lp,rfl,(by have h:=dC.k (k:=.inr "pins") W5.fE;rw [zz] at h;exact h),.inl ⟨rfl,_,aZ.of ep5⟩,_,rfl,_,rfl,_,rfl,t,_,_,_,rfl,rfl,h15,ar (j:=4) rfl,z3L,?_⟩;intro t6 n6;generalize eX:upd _ t6 _=H6;have ⟨s6,e6⟩:=nw n6 eX;have s06:=aJ y6 s6;have pu:oH K H6 [lp,lb] (.ref t6) ⟨x++p.nm,nF c p.sp,p.ws⟩:=⟨t6,l,_,us,rfl,dG.of e6,(((aaq.same s4).same s5).same s6),h4,s06 _ _ h5,h6.same s06⟩;have W7:=(W5.same s6).pin (s6 _ _ ep5) (Paired.bJ pp4 fun _ _ z=>(z.same s5).same s6) pu c2 c3;have nlo:o≠lp:=fun z=>by have y:=s6 _ _ (s5 _ _ Pp);rw [z,s6 _ _ ep5] at y;cases y
  have ho7:(upd H6 lp (.lst (kj++[.ref t6]))) o=some (.dK (bq own)):=by rw [ah nlo];exact s6 _ _ (s5 _ _ Pp)
  refine ⟨lp,_,_,rfl,rfl,s6 _ _ ep5,(by rw [Vc];exact aaW l24 (by decide)),?_⟩;have k7:∀b ob,b≠lp->H b=some ob->(upd H6 lp (.lst (kj++[.ref t6]))) b=some ob:=fun b ob nb e=>by rw [ah nb];exact s06 _ _ e
  have h17:dG K (upd H6 lp (.lst (kj++[.ref t6]))) t _:=bf.cy (.list (s6 _ _ ep5)) (Ty.au.cy s06 h1);generalize upd H6 lp (.lst (kj++[.ref t6]))=H7 at W7 ho7 k7 h17 ⊢;refine ⟨_,rfl,_,rfl,_,rfl,t,_,_,_,rfl,rfl,h17,ar (j:=1) rfl,o,_,rfl,je.k (k:=.inr p.nm) ho7 (aaW (show (bq own).length<=1000 by unfold bq;rw [ir];exact lo) (by decide)),?_⟩;rw [ig _ (tj c1),oz];exact q1 _ (fun b' ob _ n2 _ n4 e=>by rw [ah n4];exact k7 _ _ n2 e) (W7.other ho7 now) ai
theorem iA.bar (h:iA K H wa lp lb lq g tv)(e:H lb=some (.lst us))(hb:Paired (zw K H) us g.b8)(hu:zw K H u b)(nn:b.1∉g.b8.map (·.1))(l:¬ 60<=g.b8.length):iA K (upd H lb (.lst (us++[u]))) wa lp lb lq {g with b8:=g.b8++[b]} tv:=by
 obtain ⟨vs,e2,p2⟩:=h.pins;have t:bf H (upd H lb (.lst (us++[u]))):=.list e;have up:∀{v p},oH K H [lp,lb] v p->oH K (upd H lb (.lst (us++[u]))) [lp,lb] v p:=fun {v p} z=>z.mono (fun b xs nb eb=>by rw [ah (fun y=>nb (by rw [y];exact aa2 _ aa_))];exact eb) t;refine ⟨by rw [ah (fun z=>by have d:=h.fE;rw [z,e] at d;cases d)];exact h.fE,⟨vs,by rw [ah h.ne];exact e2,Paired.bJ p2 fun _ _ z=>up z⟩,⟨us++[u],ai,acA (Paired.bJ hb fun _ _ z=>z.aQ t) (hu.aQ t)⟩,h.ne,h.np,?_,h.alK,?_,h.ld⟩
 ·show ((g.b8++[b]).map (·.1)).Nodup
  rw [ac1,ag_];refine ⟨h.nb,by simp,fun a ha c hc=>?_⟩;rw [show c=b.1 from by simpa using hc];exact fun z=>nn (by rw [<-z];exact ha)
 ·show (g.b8++[b]).length<=60
  rw [aae,ac0];omega
theorem mP (k:KW wa lp lb o H H4)(W:iA K H4 wa lp lb lq g tv)(ho:H4 o=some (.dK (bq own)))(now:o≠wa)(s5:au H4 H5)(n5:H4 t5=none)(e5:H5 t5=some (.tup [.str a,.str b])):KW wa lp lb o H (upd H5 wa (.dK (bI lp lb lq g.done (.ref t5))))/\iA K (upd H5 wa (.dK (bI lp lb lq g.done (.ref t5)))) wa lp lb lq g (.ref t5)/\(upd H5 wa (.dK (bI lp lb lq g.done (.ref t5)))) t5=some (.tup [.str a,.str b])/\(upd H5 wa (.dK (bI lp lb lq g.done (.ref t5)))) o=some (.dK (bq own)):=by
 refine ⟨fun b' ob n1 n2 n3 n4 e=>by rw [ah n1];exact s5 _ _ (k _ _ n1 n2 n3 n4 e),(W.same s5).tell _,?_,?_⟩
 ·rw [ah (fun z=>by rw [z,W.fE] at n5;cases n5)]
  exact e5
 ·rw [ah now]
  exact s5 _ _ ho
def qi (g:Gd)(own:Own):Prop:=∀z∈own,z.2∈g.pins.map (·.nm)
theorem qi.at (h:qi g own)(e:ownAt own y=some u):u∈g.pins.map (·.nm):=by
 unfold ownAt at e;obtain ⟨z,ez,rfl⟩:=ab_.mp e;exact h z (ahj ez)
inductive vg (K:Frag)(vs:ε)(H:Hp)(Q:VK)(E_:XK):Prop
|mk (wa lp lb lq o:abj)(u:V)(x m a b:Str)(g:Gd)(own:Own)(n:Nat)(_:vs=[.ref wa,.ref o,u,.str x])(_:iA K H wa lp lb lq g .bG)(_:H o=some (.dK (bq own)))(_:o≠wa)(_:qi g own)(_:qh K H [lp,lb] n u (.bar m a b))(_:nv (.bar m a b))(_:x.length<=1000)(_:nj x m a b g own (fun g1 bz=>∀H',KW wa lp lb o H H' ->iA K H' wa lp lb lq g1 .bG->H' o=some (.dK (bq bz))->Q .bG H') (fun e=>∀(t:abj)(H':Hp),KW wa lp lb o H H' ->iA K H' wa lp lb lq g (.ref t)->H' t=some (.tup [.str (jj e).1,.str (jj e).2])->H' o=some (.dK (bq own))->Q .bG H'))
theorem mV:aC ["_law_world","_law_own","_law_row","_law_prefix","_law_name"] zar (aa dZ):=sq
theorem wD (D:Def K mg "_law_bar_done" dZ zar)(bF:mg "len"=none):Fn P w K mg base (aT P w) 1 "_law_bar_done" zar (vg K):=by
 refine D.oo mV fun H hr h=>?_;obtain ⟨wa,lp,lb,lq,o,u,x,m,a,b,g,own,n,rfl,W,ho,now,oi,hw,hg,lx,q⟩:=h;have L2:2<=abl:=by decide
 obtain ⟨gm,ga,gb⟩:=hg;have gml:=gm.len;cases hw with
 | bar t m a b e h1=>
 subst e;have kr:KW wa lp lb o H H:=fun b ob _ _ _ _ e=>e;have tK:(bI lp lb lq g.done .bG).length<abl:=aaW (show 5<=5 from aaM _) (by decide)
 refine ⟨_,(ag (aR (i:=4) mV.nd (aD bx (pv 3) (aI (pv 2)))) (ae (aS (kU (jK (bB hr) (aI (pv 2)) (pv 1))) (ae (cW (bB hr) (pv 0) aw (aX (aU aw (aI (pv 2)))) rfl)) (ae (aS (kU (jK (bB hr) (aI (pv 2)) (pv 1))) (ae (cW (bB hr) (pv 0) aw (aX (aU aw (aI (pv 2)))) rfl)) (ae (aS (xa EM (pv 4) (iX (tn:=["_law_bar"]) (fr:=[]) (caps:=[]) (cJ (bL (bB hr) (pv 0) aw (fun _ _=>rfl))) (iE (kD (K:=K) rfl) (pv 0) ak)) rfl) (ae (cW (bB hr) (pv 0) aw (aX (aU aw (pv 4))) rfl)) (ae (aS (aL cn (bL (bB hr) (pv 1) (aI (pv 2)) (fun _ _=>rfl)) (bL (bB hr) (pv 1) (aI (pv 2)) (fun _ _=>rfl))) (ae (cW (bB hr) (pv 0) aw (aX (aU aw (pv 4))) rfl)) (ae (aS (aL ED (a8 bh rfl bF fm (aE (bL (bB hr) (pv 0) aw (fun _ _=>rfl)))) ak) (ae (cW (bB hr) (pv 0) aw (aX (aU aw aw)) rfl)) (ae (bg (gA abQ abO abP dc (bL (bB hr) (pv 0) aw (fun _ _=>rfl)) (aE (aX (gO (pv 4) (bL (bB hr) (pv 1) (aI (pv 2)) (fun _ _=>rfl)) (bL (bB hr) (pv 1) (aI (pv 2)) (fun _ _=>rfl))))))))))))))))))),?_⟩
 refine ⟨_,rfl,_,rfl,t,_,_,_,rfl,rfl,h1,ar (j:=1) rfl,_,_,rfl,rfl,aah (show x.length+m.length<=2000 by omega) (by decide),_,rfl,t,_,_,_,rfl,rfl,h1,ar (j:=2) rfl,_,rfl,o,_,rfl,dC.k (k:=.inr a) ho,_,rfl,?_⟩;rw [pH];unfold nj at q;have dg1:=IK own a;cases ea:ownAt own a with
 | none=>
  rw [ea] at q;rw [aby ((u5 own a).mp ea)];refine fY ?_;refine ⟨_,rfl,t,_,_,_,rfl,rfl,h1,ar (j:=2) rfl,L2,?_⟩;intro t5 n5;generalize eX:upd _ t5 _=H5;have ⟨s5,e5⟩:=nw n5 eX;obtain ⟨k1,k2,k3,k4⟩:=mP kr W ho now s5 n5 e5;refine ⟨_,rfl,wa,_,rfl,je.k (k:=.inr "told") (s5 _ _ W.fE) tK,?_⟩;rw [lD];exact q t5 _ k1 k2 k3 k4
 | some y1=>
 rw [ea] at q dg1;dsimp only at q;have i1:=oi.at ea;rw [show decide (a∈own.map (·.1))=true from abu (alD fun c=>by rw [(u5 own a).mpr c] at ea;cases ea)];refine dz ?_;refine ⟨_,rfl,t,_,_,_,rfl,rfl,h1,ar (j:=3) rfl,_,rfl,o,_,rfl,dC.k (k:=.inr b) ho,_,rfl,?_⟩;rw [pH];have dg2:=IK own b;cases eb:ownAt own b with
 | none=>
  rw [eb] at q;rw [aby ((u5 own b).mp eb)];refine fY ?_;refine ⟨_,rfl,t,_,_,_,rfl,rfl,h1,ar (j:=3) rfl,L2,?_⟩;intro t5 n5;generalize eX:upd _ t5 _=H5;have ⟨s5,e5⟩:=nw n5 eX;obtain ⟨k1,k2,k3,k4⟩:=mP kr W ho now s5 n5 e5;refine ⟨_,rfl,wa,_,rfl,je.k (k:=.inr "told") (s5 _ _ W.fE) tK,?_⟩;rw [lD];exact q t5 _ k1 k2 k3 k4
 | some y2=>
 rw [eb] at q dg2;dsimp only at q;have i2:=oi.at eb;rw [show decide (b∈own.map (·.1))=true from abu (alD fun c=>by rw [(u5 own b).mpr c] at eb;cases eb)];refine dz ?_;obtain ⟨bus,eB,pb⟩:=W.b8;have lbu:bus.length=g.b8.length:=abK pb;have l60:=W.alL;refine ⟨_,rfl,_,rfl,wa,.ref lb,rfl,(by have h:=dC.k (k:=.inr "bars") W.fE;rw [Sl] at h;exact h),lb,rfl,⟨_,aZ.of eB⟩,fun D2 nD2=>?_⟩;refine iD (cap:=[]) (K:=K) (a:=lb) (xs:=bus) (fun i v _=>∃z,g.b8[i]?=some z/\v=.str z.1) nD2 (by rw [lbu];exact aaW l60 (by decide)) (fun H5 s5=>aZ.of (s5 _ _ eB)) (fun _ _ _ _ _ _ _ h=>h) ?_ ?_
 ·intro j v H5 R ev s5 k
  obtain ⟨z,ez,hz⟩:=aY pb ev;obtain ⟨ta,rfl,k1⟩:=hz.same s5;exact ⟨_,rfl,ta,_,_,_,rfl,rfl,k1,ar (j:=0) rfl,k _ _ (au.refl _) ⟨z,ez,rfl⟩⟩
 intro ys H5 hy zr s5 hD5;rw [afJ (nm:=fun b:Str×Str×Str=>b.1) (by rw [hy,lbu]) zr] at hD5;have W5:=W.same s5;have ho5:=s5 _ _ ho;have h15:=Ty.au.cy s5 h1;have kr5:KW wa lp lb o H H5:=fun b ob _ _ _ _ e=>s5 _ _ e;have eIn:inV (.str (x++m)) ((g.b8.map (·.1)).map V.str)=decide (x++m∈g.b8.map (·.1)):=by rw [yz]
 have hd1:∀{H':Hp},H' o=some (.dK (bq own))->dC H' o (.str a) (some (.str y1)):=fun {H'} e=>by rw [<-show fb (bq own) (.inr a)=some (.str y1) from dg1];exact dC.k (k:=.inr a) e
 have hd2:∀{H':Hp},H' o=some (.dK (bq own))->dC H' o (.str b) (some (.str y2)):=fun {H'} e=>by rw [<-show fb (bq own) (.inr b)=some (.str y2) from dg2];exact dC.k (k:=.inr b) e
 have ln:(g.b8.map (·.1)).length=g.b8.length:=ir _;unfold qT at q;refine ⟨D2,_,rfl,.inl (aZ.of hD5),rfl,(by rw [akf];exact afP.mpr fun _ _=>rfl),_,rfl,?_⟩;by_cases c2:x++m∈g.b8.map (·.1)
 ·rw [abv c2] at q
  refine aK (fun _=>?_) (fun z=>abo (by show inV _ _=true;rw [eIn,abu c2]) z);refine ⟨_,rfl,L2,?_⟩;intro t6 n6;generalize eX:upd _ t6 _=H6;have ⟨s6,e6⟩:=nw n6 eX;obtain ⟨k1,k2,k3,k4⟩:=mP kr5 W5 ho5 now s6 n6 e6;refine ⟨_,rfl,wa,_,rfl,je.k (k:=.inr "told") (s6 _ _ W5.fE) tK,?_⟩;rw [lD];exact q t6 _ k1 k2 k3 k4
 rw [abp c2,abp (fun z=>z i1),abp (fun z=>z i2)] at q;refine aK (fun z=>abo (show inV _ _=true from z) (by rw [eIn,aby c2];exact acZ)) (fun _=>?_);refine ⟨_,rfl,_,rfl,t,_,_,_,rfl,rfl,h15,ar (j:=2) rfl,o,.str y1,rfl,hd1 ho5,_,rfl,_,rfl,t,_,_,_,rfl,rfl,h15,ar (j:=3) rfl,o,.str y2,rfl,hd2 ho5,rfl,_,rfl,?_⟩;by_cases c3:y1=y2
 ·rw [abv c3] at q
  refine aK (fun _=>?_) (fun z=>abo (abu (by rw [c3])) z);refine ⟨_,rfl,L2,?_⟩;intro t6 n6;generalize eX:upd _ t6 _=H6;have ⟨s6,e6⟩:=nw n6 eX;obtain ⟨k1,k2,k3,k4⟩:=mP kr5 W5 ho5 now s6 n6 e6;refine ⟨_,rfl,wa,_,rfl,je.k (k:=.inr "told") (s6 _ _ W5.fE) tK,?_⟩;rw [lD];exact q t6 _ k1 k2 k3 k4
 rw [abp c3,ln] at q;refine aK (fun z=>abo (abn z) (fun e=>c3 (by cases e;rfl))) (fun _=>?_);have eB5:=s5 _ _ eB;have gB:∀{H':Hp},H' wa=some (.dK (bI lp lb lq g.done .bG))->dC H' wa (.str "bars") (some (.ref lb)):=fun {H'} e=>by have h:=dC.k (k:=.inr "bars") e;rw [Sl] at h;exact h
 refine ⟨_,rfl,wa,.ref lb,rfl,gB W5.fE,lb,_,rfl,.inl (aZ.of eB5),_,_,rfl,rfl,_,rfl,?_⟩;by_cases c4:60<=g.b8.length
 ·rw [abv c4] at q
  refine aK (fun _=>?_) (fun z=>abo (abu (by rw [lbu];omega)) z);refine ⟨L2,?_⟩;intro t6 n6;generalize eX:upd _ t6 _=H6;have ⟨s6,e6⟩:=nw n6 eX;obtain ⟨k1,k2,k3,k4⟩:=mP kr5 W5 ho5 now s6 n6 e6;refine ⟨_,rfl,wa,_,rfl,je.k (k:=.inr "told") (s6 _ _ W5.fE) tK,?_⟩;rw [lD];exact q t6 _ k1 k2 k3 k4
 rw [abp c4] at q;refine aK (fun z=>abo (abn z) (by rw [lbu];omega)) (fun _=>?_);refine ⟨_,rfl,wa,.ref lb,rfl,gB W5.fE,.inl ⟨rfl,_,aZ.of eB5⟩,_,rfl,_,rfl,_,rfl,t,_,_,_,rfl,rfl,h15,ar (j:=2) rfl,o,.str y1,rfl,hd1 ho5,_,rfl,_,rfl,t,_,_,_,rfl,rfl,h15,ar (j:=3) rfl,o,.str y2,rfl,hd2 ho5,z3L,?_⟩;intro t6 n6;generalize eX:upd _ t6 _=H6;have ⟨s6,e6⟩:=nw n6 eX;have bu:zw K H6 (.ref t6) (x++m,y1,y2):=⟨t6,rfl,dG.of e6⟩;have W7:=(W5.same s6).bar (s6 _ _ eB5) (Paired.bJ pb fun _ _ z=>(z.same s5).same s6) bu c2 c4;have nlo:o≠lb:=fun z=>by have y:=s6 _ _ ho5;rw [z,s6 _ _ eB5] at y;cases y
 exact ⟨lb,_,_,rfl,rfl,s6 _ _ eB5,(by rw [lbu];exact aaW l60 (by decide)),q _ (fun b' ob _ _ n3 _ e=>by rw [ah n3];exact s6 _ _ (s5 _ _ e)) W7 (by rw [ah nlo];exact s6 _ _ ho5)⟩
def bV:Nat->List (List Rw)->List (Str×List Rw)
 | _,[]=>[]
 | i,p::t=>(("p":Str)++tx (i:Int),p)::bV (i+1) t
theorem ahV {i j:Nat}(hi:i<100)(hj:j<100)(h:("p":Str)++tx (i:Int)=("p":Str)++tx (j:Int)):i=j:=by
 have e:tx (i:Int)=tx (j:Int):=by
  refine jE ?_;have:=abV (fun s:Str=>s.cps.toList) h;simp only [cps_append] at this;exact List.append_cancel_left this
 have b:∀k:Nat,k<100->((k:Int)).natAbs<10^4000:=fun k hk=>aaS (show (k:Int).natAbs<10^2 by omega) (afI (by decide) (by decide));have r1:=ie (b i hi);rw [e,ie (b j hj)] at r1;have:=aaQ r1;omega
theorem FR:∀(bj:ρ)(i j:Nat)(p:Α),i+bj.length<=50->bj[j]?=some p->rowsOf (bV i bj) (("p":Str)++tx ((i+j:Nat):Int))=p
 | [],_,_,_,_,h=>by simp at h
 | q::t,i,0,p,_,h=>by
  have e:q=p:=by simpa using h
  unfold rowsOf bV;rw [agZ (by simp)];exact e
 | q::t,i,j+1,p,l,h=>by
  have l':t.length+1=(q::t).length:=rfl;have hj:j<t.length:=(Wp.mp (show t[j]?=some p from h)).1;have ih:=FR t (i+1) j p (by omega) h;rw [show i+1+j=i+(j+1) by omega] at ih;rw [<-ih];unfold rowsOf;rw [show bV i (q::t)=(("p":Str)++tx (i:Int),q)::bV (i+1) t from rfl,ag1];intro z;have:=ahV (by omega) (by omega) (abn z);omega
structure WdP (K:Frag)(H:Hp)(lp lb lq:abj)(qs:ε)(bj:ρ):Prop where
 hq:H lq=some (.lst qs)
 np:lq∉[lp,lb]
 pc:nC K H [lp,lb] qs bj
 l6:bj.length<=6
theorem nC.keep (h:nC K H M us bj)(k:∀b xs,b∉M->H b=some (.lst xs)->H' b=some (.lst xs))(t:bf H H'):nC K H' M us bj:=⟨h.len,fun i u p a b=>by
 have z:=h.pc i u p a b;obtain ⟨t1,rl,kl,us,kn,e,h1,h2,h3,h4,h5,h6,h7,h8⟩:=z.ex
 exact ⟨⟨t1,rl,kl,us,kn,e,t.cy h1,h2,k _ _ h2 h3,Paired.bJ h4 fun _ _ y=>y.mono k t (fun _ y=>.inl y) (aaM _),h5,k _ _ h5 h6,h7,h8⟩,z.ok,z.len⟩⟩
def NoD (H:Hp)(o:abj):Prop:=∀ob,H o=some ob->∃ks,ob=.dK ks
theorem NoD.none (h:H o=none):NoD H o:=fun ob e=>by rw [h] at e;cases e
theorem NoD.dk (h:H o=some (.dK ks)):NoD H o:=fun ob e=>by rw [h] at e;cases e;exact ⟨_,rfl⟩
section
variable {wa lp lb lq o:abj}{H H' H2:Hp}{g:Gd}{tv:V}
theorem KW.of (s:au H H'):KW wa lp lb o H H':=fun b ob _ _ _ _ e=>s b ob e
theorem KW.trans (a:KW wa lp lb o H H')(b:KW wa lp lb o H' H2):KW wa lp lb o H H2:=fun c ob n1 n2 n3 n4 e=>b c ob n1 n2 n3 n4 (a c ob n1 n2 n3 n4 e)
theorem KW.lst (W:iA K H wa lp lb lq g tv)(ho:NoD H o)(k:KW wa lp lb o H H'){b:abj}{xs:ε}(nb:b∉[lp,lb])(e:H b=some (.lst xs)):H' b=some (.lst xs):=
 k b _ (fun z=>by rw [z,W.fE] at e;cases e) (fun z=>nb (by rw [z];exact aa_)) (fun z=>nb (by rw [z];exact aa2 _ aa_)) (fun z=>by rw [z] at e;obtain ⟨_,y⟩:=ho _ e;cases y) e
theorem KW.aQ (W:iA K H wa lp lb lq g tv)(ho:NoD H o)(k:KW wa lp lb o H H'):bf H H':=fun b xs r=>by
 obtain ⟨us,e1,_⟩:=W.pins;obtain ⟨vs,e2,_⟩:=W.b8
 rcases r with r|⟨q,r⟩
 ·exact .inl (k _ _ (fun z=>by rw [z,W.fE] at r;cases r) (fun z=>by rw [z,e1] at r;cases r) (fun z=>by rw [z,e2] at r;cases r) (fun z=>by rw [z] at r;obtain ⟨_,y⟩:=ho _ r;cases y) r)
 ·exact .inr ⟨q,k _ _ (fun z=>by rw [z,W.fE] at r;cases r) (fun z=>by rw [z,e1] at r;cases r) (fun z=>by rw [z,e2] at r;cases r) (fun z=>by rw [z] at r;obtain ⟨_,y⟩:=ho _ r;cases y) r⟩
theorem WdP.keep (h:WdP K H lp lb lq qs bj)(W:iA K H wa lp lb lq g tv)(ho:NoD H o)(k:KW wa lp lb o H H'):WdP K H' lp lb lq qs bj:=
 ⟨k.lst W ho h.np h.hq,h.np,h.pc.keep (fun b xs nb e=>k.lst W ho nb e) (k.aQ W ho),h.l6⟩
theorem WdP.same (h:WdP K H lp lb lq qs bj)(s:au H H'):WdP K H' lp lb lq qs bj:=⟨s _ _ h.hq,h.np,h.pc.same s,h.l6⟩
theorem iA.afM (h:iA K H wa lp lb lq g tv)(e:H o=some (.dK ks))(n:o≠wa):iA K (upd H o x) wa lp lb lq g tv:=by
 obtain ⟨us,e1,p1⟩:=h.pins;obtain ⟨vs,e2,p2⟩:=h.b8;have t:bf H (upd H o x):=.dict e;have nl:∀{b:abj} {xs:ε},H b=some (.lst xs)->b≠o:=fun e' z=>by rw [z,e] at e';cases e'
 exact {h with fE:=by rw [ah (ac2 n)];exact h.fE,pins:=⟨us,by rw [ah (nl e1)];exact e1,Paired.bJ p1 fun _ _ z=>z.mono (fun b xs _ eb=>by rw [ah (nl eb)];exact eb) t⟩,b8:=⟨vs,by rw [ah (nl e2)];exact e2,Paired.bJ p2 fun _ _ z=>z.aQ t⟩}
end
theorem afN (own:Own)(y z:Str):∃f_ :Own,putK (bq own) (.inr y) (.str z)=bq f_ /\f_.length<=own.length+1/\∀w∈f_,w.1=y\/∃w' ∈own,w.1=w'.1:=by
 unfold putK;split
 ·refine ⟨own.map fun kv=>if kv.1=y then (kv.1,z) else kv,?_,by rw [ir];omega,fun w hw=>?_⟩
  ·unfold bq
   rw [ae5,ae5];refine aj0 fun a _=>?_;show (if (afG a.1:Key)=.inr y then (afG a.1,V.str z) else (afG a.1,V.str a.2))=_;by_cases c:a.1=y
   ·rw [abv (by rw [c])]
    show _=((afG (if a.1=y then (a.1,z) else a).1:Key),V.str (if a.1=y then (a.1,z) else a).2);rw [abv c]
   ·rw [abp (fun h=>c (ahR h))]
    show _=((afG (if a.1=y then (a.1,z) else a).1:Key),V.str (if a.1=y then (a.1,z) else a).2);rw [abp c]
  ·obtain ⟨a,ha,rfl⟩:=ac3.mp hw
   refine .inr ⟨a,ha,?_⟩;by_cases c:a.1=y
   ·rw [abv c]
   ·rw [abp c]
 ·refine ⟨own++[(y,z)],oz own y z,by rw [aae,ac0];omega,fun w hw=>?_⟩
  rcases abh.mp hw with h|h
  ·exact .inr ⟨w,h,rfl⟩
  ·rw [aaT.mp h];exact .inl rfl
theorem aa4 {st:τ}{tv:V}(h:(tv=.bG/\st=none)\/∃k:Nat,tv=.int (k:Int)/\st=some (k,s)){j:Nat}(e:(marks pre a st)[j]?=some m):m.2=(a.1+(j:Rat)*s.1,a.2+(j:Rat)*s.2):=by
 rcases h with ⟨_,rfl⟩|⟨k,_,rfl⟩
 ·have e':[(pre,a)][j]?=some m:=e
  cases j with
  | zero=>
   have:(pre,a)=m:=by simpa using e'
   rw [<-this];have z:((0:Nat):Rat)=0:=rfl;rw [z,aoc,aoc,aoi,aoi]
  | succ j=>simp at e'
 ·have e':((afD k).map fun (i:Nat)=>(pre++tx (i:Int),nF a ((i:Rat)*s.1,(i:Rat)*s.2)))[j]?=some m:=e
  rw [aaU] at e';obtain ⟨i,ei,rfl⟩:=ab_.mp e'
  have:i=j:=by
   obtain ⟨h1,h2⟩:=Wp.mp ei;rw [<-h2,List.getElem_range]
  rw [this];rfl
theorem WL {st:τ}(h3:∀k s,st=some (k,s)->k<=3):(marks pre a st).length<=3:=by
 cases st with
 | none=>show 1<=3;decide
 | some z=>
  obtain ⟨k,s⟩:=z;show ((afD k).map _).length<=3;rw [ir,ag'];exact h3 k s rfl
theorem kN (j:Nat)(x s:Rat):x+(j:Rat)*s+s=x+((j+1:Nat):Rat)*s:=by
 have:((j+1:Nat):Rat)=(j:Rat)+1:=by push_cast;rfl
 rw [this];grind
structure JA (g1:Gd)(bz:Own)(d0 L:Nat)(g:Gd):Prop where
 fit:bz.length+d0<=g1.done
 len:∀z∈bz,z.1.length<=L
 isin:qi g1 bz
 sub:∀y∈g.pins.map (·.nm),y∈g1.pins.map (·.nm)
def okL (K:Frag)(wa lp lb lq o:abj)(H:Hp)(d0 L:Nat)(g:Gd)(q:Hp->Prop)(g1:Gd)(bz:Own):Prop:=∀H',KW wa lp lb o H H' ->iA K H' wa lp lb lq g1 .bG->H' o=some (.dK (bq bz))->JA g1 bz d0 L g->q H'
def afO (K:Frag)(wa lp lb lq o:abj)(H:Hp)(d0 L:Nat)(q:Hp->Prop)(e:fQ):Prop:=∀(t:abj)(g':Gd)(f_ :Own)(H':Hp),KW wa lp lb o H H' ->iA K H' wa lp lb lq g' (.ref t)->H' t=some (.tup [.str (jj e).1,.str (jj e).2])->H' o=some (.dK (bq f_))->f_.length+d0<=g'.done->(∀z∈f_,z.1.length<=L)->q H'
inductive mQ (K:Frag)(n:Nat)(vs:ε)(H:Hp)(Q:VK)(E_:XK):Prop
|mk (wa lp lb lq rl:abj)(vx vy:V)(x:Str)(c:Rat×Rat)(g:Gd)(us qs:ε)(rows:Α)(bj:List (List Rw:_))(i k:Nat)(C:abj->Hp->Prop)(_:vs=[.ref wa,.ref rl,.str x,vx,vy])(_:iA K H wa lp lb lq g .bG)(_:WdP K H lp lb lq qs bj)(_:rl∉[lp,lb])(_:H rl=some (.lst us))(_:Paired (qh K H [lp,lb] i) us rows)(_:(∀r∈rows,nv r))(_:i<=n)(_:i<=bj.length)(_:jR K H vx c.1)(_:jR K H vy c.2)(_:Sz (1000*k+1) c.1)(_:Sz (1000*k+1) c.2)(_:k+n<=13)(_:x.length<=24*k)(_:jx (bV 0 bj) n rows x c g (fun g1 bz=>∀o,H o=none->okL K wa lp lb lq o H g.done (24*(n+1)) g (C o) g1 bz) (fun e=>∀o,H o=none->afO K wa lp lb lq o H g.done (24*(n+1)) (C o) e))(_:∀o H',C o H' ->Q (.ref o) H')
inductive lZ (K:Frag)(n:Nat)(vs:ε)(H:Hp)(Q:VK)(E_:XK):Prop
|mk (wa lp lb lq o:abj)(u vx vy:V)(x pc pre:Str)(c a:Rat×Rat)(st:τ)(g g0:Gd)(own:Own)(qs:ε)(bj:List (List Rw:_))(i k d0:Nat)(_:vs=[.ref wa,.ref o,u,.str x,vx,vy])(_:iA K H wa lp lb lq g .bG)(_:WdP K H lp lb lq qs bj)(_:H o=some (.dK (bq own)))(_:o≠wa)(_:JA g own d0 (24*(n+2)) g0)(_:qh K H [lp,lb] i u (.lay pc pre a st))(_:nv (.lay pc pre a st))(_:i<=n+1)(_:i<=bj.length)(_:jR K H vx c.1)(_:jR K H vy c.2)(_:Sz (1000*k+1) c.1)(_:Sz (1000*k+1) c.2)(_:k+n<=12)(_:x.length<=24*k)(_:gU (jx (bV 0 bj) n (rowsOf (bV 0 bj) pc)) x c (marks pre a st) g own (okL K wa lp lb lq o H d0 (24*(n+2)) g0 (Q .bG)) (afO K wa lp lb lq o H d0 (24*(n+2)) (Q .bG)))
theorem WM (a b c:Str):a++b++c=a++(b++c):=by
 refine jE ?_;simp only [cps_append,afC]
theorem fw (W:iA K H wa lp lb lq g tv):dC H wa (.str "told") (some tv):=by have h:=dC.k (k:=.inr "told") W.fE;rw [alJ] at h;exact h
theorem bR:aC ["_law_world","_law_own","_law_row","_law_prefix","_law_x","_law_y","_law_mark","_law_inner","_law_name","_law_pin"] zaa (aa dq):=sq
theorem wG (hlv:35<=lv)(D:Def K mg "_law_lay_done" dq zaa)(gX:Fn P w K mg base (aT P w) 34 "_law_plus" zaF (qS K fun a b=>a+b))(oF:Fn P w K mg base (aT P w) 1 "_law_marks" zau (xD K))(ri:Fn P w K mg base (aT P w) lv "_law_laid" zae (mQ K n)):
  Fn P w K mg base (aT P w) (lv+1) "_law_lay_done" zaa (lZ K n):=by
 refine D.op bR fun f cdv A outer s H vs Q E hr h=>?_;obtain ⟨wa,lp,lb,lq,o,u,vx,vy,x,pc,pre,c,a,st,g,g0,own,qs,bj,i,k,d0,rfl,W,WP,ho,now,OL,hw,hg,hin,hip,hx,hy,zx,zy,kn,lx,q⟩:=h;have L2:2<=abl:=by decide
 have hw0:=hw;have hg0:=hg;obtain ⟨gp,ga1,ga2,gs⟩:=hg;have k3:∀k s,st=some (k,s)->k<=3:=fun k s e=>(gs k s e).2.1;have ml3:=WL (pre:=pre) (a:=a) k3;have msn:=xE (a:=a) gp k3;cases hw with
 | lay t i' pre va vs tv a s st e hi h1 h2 h3 h4 h5=>
 subst e;obtain ⟨ta,ax,ay,rfl,ha,hax,hay⟩:=h2;obtain ⟨tb,sx,sy,rfl,hb,hsx,hsy⟩:=h3;have il:i'<bj.length:=aaS hi hip;have ep:bj[i']?=some bj[i']:=gE il;generalize bj[i']=p at ep;have er:=FR bj 0 i' p (by have:=WP.l6;omega) ep;rw [aok] at er;rw [er] at q;have iq:i'<qs.length:=by rw [WP.pc.len];exact il
 have eq:qs[i']?=some qs[i']:=gE iq;generalize qs[i']=uq at eq;have tK:∀(d:Nat)(v:V),(bI lp lb lq d v).length<abl:=fun d v=>aaW (show 5<=5 from aaM _) (by decide);generalize hQ:okL K wa lp lb lq o H d0 (24*(n+2)) g0 (Q .bG)=Qf at q;generalize hE:afO K wa lp lb lq o H d0 (24*(n+2)) (Q .bG)=Ef at q;have b1:∀z:Nat,z<=20000->z<=100000:=fun z h=>by omega
 refine ⟨_,(ag (aR (i:=4) bR.nd (bK gX (hr.mono (by omega)) pX (aU (pv 4) (aI (aI (pv 2)))))) (ag (aR (i:=5) bR.nd (bK gX (hr.mono (by omega)) pX (aU (pv 5) (aI (aI (pv 2)))))) (ae (dU abW rfl (cJ (bK oF (hr.mono (by omega)) pX (aE (pv 2)))) (hU (i:=6) bR.nd) (ag (aS (aL iC (bL (bB hr) (pv 0) aw (fun _ _=>rfl)) bS) (ag (aR (i:=7) bR.nd (bK ri (hr.mono (by omega)) pX (nV (pv 0) (nV (aI (iE dw (bL (bB hr) (pv 0) aw (fun _ _=>rfl)) (aI (pv 2)))) (gO (aD bx (pv 3) (pv 6)) (pv 4) (pv 5)))))) (ae (dU abW rfl (yx (pv 7)) (mv rfl (cb (hU (i:=8) bR.nd) (cb (hU (i:=9) bR.nd) jB))) (ag (aS (PW.pt (jO (kU (uK (bB hr) (aD bx (pv 6) (pv 8)) (pv 1))) (iV (aL iC (bL (bB hr) (pv 0) aw (fun _ _=>rfl)) bS)))) (ae (cW (bB hr) (pv 0) aw (aX (aU aw (aD bx (aD bx (pv 3) (pv 6)) (pv 8)))) rfl)) aG) (ae (cW (bB hr) (pv 1) (aD bx (pv 6) (pv 8)) (pv 9) rfl)))))) aG) (ag (aR (i:=4) bR.nd (bK gX (hr.mono (by omega)) pX (aU (pv 4) (aI (aI (pv 2)))))) (ae (aR (i:=5) bR.nd (bK gX (hr.mono (by omega)) pX (aU (pv 5) (aI (aI (pv 2))))))))))))),?_⟩
 refine ⟨_,rfl,_,rfl,t,_,_,_,rfl,rfl,h1,ar (j:=3) rfl,ta,_,_,_,rfl,rfl,ha,ar (j:=0) rfl,vx,ax,c.1,a.1,rfl,hx,hax,zx.up (by omega),ga1.up (by decide),fun p1 H1 s1 e1=>?_⟩;refine ⟨_,rfl,_,rfl,t,_,_,_,rfl,rfl,Ty.au.cy s1 h1,ar (j:=3) rfl,ta,_,_,_,rfl,rfl,Ty.au.cy s1 ha,ar (j:=1) rfl,vy,ay,c.2,a.2,rfl,hy.same s1,hay.same s1,zy.up (by omega),ga2.up (by decide),fun p2 H2 s2 e2=>?_⟩;have nG:=aJ s1 s2;refine ⟨_,rfl,.ref t,[lp,lb],i,_,pre,a,st,rfl,hw0.same nG,hg0,fun lm H3 s3 nlm elm=>?_⟩;have jm:=aJ nG s3;have W3:=W.same jm;have WP3:=WP.same jm;have ho3:=jm _ _ ho;have h13:=Ty.au.cy jm h1;have hb3:=Ty.au.cy jm hb
 have ayR :lm∉[lp,lb]:=fun z=>by
  obtain ⟨us,e1,_⟩:=(W.same nG).pins;obtain ⟨vs,e2,_⟩:=(W.same nG).b8
  rcases aa3.mp z with z|z
  ·rw [z,e1] at nlm;cases nlm
  ·rw [aaT.mp z,e2] at nlm;cases nlm
 have z0:∀r s:Rat,r+((0:Nat):Rat)*s=r:=fun r s=>by rw [show ((0:Nat):Rat)=0 from rfl,aoc,aoi]
 refine ⟨lm,rfl,⟨_,aZ.of elm⟩,eG (K:=K) (a:=lm) (xs:=((marks pre a st).map (·.1)).map V.str) (fun j σ H'=>Ex8 fun (xv yv:V) (o6 o7 o8 o9:ω) (g1:Gd) (bz:Own)=>σ=[some (.ref wa),some (.ref o),some (.ref t),some (.str x),some xv,some yv,o6,o7,o8,o9]/\KW wa lp lb o H3 H'/\jR K H' xv (c.1+a.1+(j:Rat)*s.1)/\jR K H' yv (c.2+a.2+(j:Rat)*s.2)/\Sz (1000*k+100+100*j) (c.1+a.1+(j:Rat)*s.1)/\Sz (1000*k+100+100*j) (c.2+a.2+(j:Rat)*s.2)/\H' o=some (.dK (bq bz))/\((iA K H' wa lp lb lq g1 .bG/\JA g1 bz d0 (24*(n+2)) g0/\gU (jx (bV 0 bj) n p) x c ((marks pre a st).drop j) g1 bz Qf Ef)\/∃tt e,iA K H' wa lp lb lq g1 (.ref tt)/\H' tt=some (.tup [.str (jj e).1,.str (jj e).2])/\bz.length+d0<=g1.done/\(∀z∈bz,z.1.length<=24*(n+2))/\Ef e)) ⟨_,_,none,none,none,none,g,own,rfl,.of (au.refl _),by rw [z0];exact ((j0 e1).same s2).same s3,by rw [z0];exact (j0 e2).same s3,by rw [z0];exact (zx.add ga1).up (by omega),by rw [z0];exact (zy.add ga2).up (by omega),ho3,.inl ⟨W3,OL,q⟩⟩ (fun j σ H' _ h=>by
   obtain ⟨_,_,_,_,_,_,_,_,_,h,_⟩:=h
   exact aZ.of (h.lst W3 (.dk ho3) ayR elm)) ?_ ?_⟩
 ·rintro j v σ H4 ej ⟨xv,yv,o6,o7,o8,o9,g1,bz,rfl,k4,nx4,ny4,sx4,sy4,Pp,hc⟩
  rw [aaU,aaU] at ej;obtain ⟨mk,emk,rfl⟩:=ab_.mp ej;obtain ⟨m,em,rfl⟩:=ab_.mp emk;have jl:=(Wp.mp em).1
  have ed:(marks pre a st).drop j=m::(marks pre a st).drop (j+1):=by
   rw [aeD jl];rw [gE jl] at em;rw [aaQ em]
  obtain ⟨_,_,aJQ⟩:=msn m.1 (ac3.mpr ⟨m,aaP em,rfl⟩);have ayS:=aa4 h5 em;have t34:=k4.aQ W3 (.dk ho3);have h14:=t34.cy h13;have hb4:=t34.cy hb3;have aqQ:=(hsx.same jm).aQ t34;have aqR:=(hsy.same jm).aQ t34;obtain ⟨sz1,sz2⟩:=h4
  rcases hc with ⟨W4,O4,q4⟩|⟨tt,e,W4,JB,f4,l4,qe⟩
  ·refine ⟨_,rfl,wa,.bG,rfl,fw W4,rfl,_,rfl,fY ?_⟩
   rw [ed] at q4;have q5:jx (bV 0 bj) n p (x++m.1) (nF c m.2) g1 (fun g2 below=>d9 x m.1 below bz (fun cP=>gU (jx (bV 0 bj) n p) x c ((marks pre a st).drop (j+1)) g2 cP Qf Ef) Ef) Ef:=q4;rw [show nF c m.2=(c.1+a.1+(j:Rat)*s.1,c.2+a.2+(j:Rat)*s.2) from by rw [ayS];unfold nF;rw [Rat.add_assoc,Rat.add_assoc]] at q5;have WP4:=WP3.keep W3 (.dk ho3) k4;have LP:=WP4.pc.pc i' uq p eq ep;obtain ⟨tq,rl,kl,us,ve,rfl,e1q,nrl,erl,prl,_⟩:=LP.ex
   have nlo:o≠lp/\o≠lb:=by
    obtain ⟨us,e1,_⟩:=W4.pins;obtain ⟨vs,e2,_⟩:=W4.b8;exact ⟨(fun z=>by rw [z,e1] at Pp;cases Pp),(fun z=>by rw [z,e2] at Pp;cases Pp)⟩
   have lxm:(x++m.1).length=x.length+m.1.length:=abG _ _;refine ⟨_,rfl,_,rfl,wa,.ref lq,rfl,(by have h:=dC.k (k:=.inr "pieces") W4.fE;rw [aa1] at h;exact h),_,rfl,t,_,_,_,rfl,rfl,h14,ar (j:=1) rfl,lq,_,_,_,rfl,rfl,aZ.of WP4.hq,ar eq,tq,_,_,_,rfl,rfl,e1q,ar (j:=0) rfl,_,rfl,_,rfl,x,m.1,rfl,rfl,aah (show x.length+m.1.length<=2000 by omega) (by decide),_,rfl,_,rfl,?_⟩;refine ⟨wa,lp,lb,lq,rl,xv,yv,x++m.1,(c.1+a.1+(j:Rat)*s.1,c.2+a.2+(j:Rat)*s.2),g1,us,qs,p,bj,i',k+1,fun ob H'=>∃(g2:Gd)(below:Own),H4 ob=none/\KW wa lp lb ob H4 H'/\H' ob=some (.dK (bq below))/\below.length+g1.done<=g2.done/\(∀z∈below,z.1.length<=24*(n+1))/\((iA K H' wa lp lb lq g2 .bG/\qi g2 below/\(∀y∈g1.pins.map (·.nm),y∈g2.pins.map (·.nm))/\d9 x m.1 below bz (fun cP=>gU (jx (bV 0 bj) n p) x c ((marks pre a st).drop (j+1)) g2 cP Qf Ef) Ef)\/∃tt e,iA K H' wa lp lb lq g2 (.ref tt)/\H' tt=some (.tup [.str (jj e).1,.str (jj e).2])/\Ef e),rfl,W4,WP4,nrl,erl,prl,LP.ok,by omega,by omega,nx4,ny4,sx4.up (by omega),sy4.up (by omega),by omega,by omega,?_,?_⟩
   ·exact g9 _ n p _ _ _ _ _ _ _ (fun g2 below z ob U9 H' kw W' uC OL'=>⟨g2,below,U9,kw,uC,OL'.fit,OL'.len,.inl ⟨W',OL'.isin,OL'.sub,z⟩⟩) (fun e z ob U9 tt g' f_ H' kw W' ht uC f l=>⟨g',f_,U9,kw,uC,f,l,.inr ⟨tt,e,W',ht,z⟩⟩) q5
   rintro ob H5 ⟨g2,below,U9,k5,hob,f5,l5,hc5⟩;have noo:o≠ob:=aj Pp U9;have alO:ob≠wa:=fun z=>by rw [z,W4.fE] at U9;cases U9
   have ho5:=k5 o _ now nlo.1 nlo.2 noo Pp;have t45:=k5.aQ W4 (.none U9)
   have k35:∀b x,b≠wa->b≠lp->b≠lb->b≠o->H3 b=some x->H5 b=some x/\b≠ob:=fun b x n1 n2 n3 n4 e=>by
    have e4:=k4 b x n1 n2 n3 n4 e;exact ⟨k5 b x n1 n2 n3 (aj e4 U9) e4,aj e4 U9⟩
   refine ⟨_,rfl,ob,_,rfl,hob,fun oo=>?_⟩
   have k6:KW wa lp lb o H3 (upd H5 ob (.iT oo (.dK (bq below)))):=fun b x n1 n2 n3 n4 e=>by
    obtain ⟨e5,nb⟩:=k35 b x n1 n2 n3 n4 e;rw [ah nb];exact e5
   have e6:(upd H5 ob (.iT oo (.dK (bq below)))) ob=some (.iT oo (.dK (bq below))):=ai;have ho6:(upd H5 ob (.iT oo (.dK (bq below)))) o=some (.dK (bq bz)):=by rw [ah noo];exact ho5
   have t56:bf H5 (upd H5 ob (.iT oo (.dK (bq below)))):=.dict hob
   have hc6:(iA K (upd H5 ob (.iT oo (.dK (bq below)))) wa lp lb lq g2 .bG/\qi g2 below/\(∀y∈g1.pins.map (·.nm),y∈g2.pins.map (·.nm))/\d9 x m.1 below bz (fun cP=>gU (jx (bV 0 bj) n p) x c ((marks pre a st).drop (j+1)) g2 cP Qf Ef) Ef)\/∃tt e,iA K (upd H5 ob (.iT oo (.dK (bq below)))) wa lp lb lq g2 (.ref tt)/\(upd H5 ob (.iT oo (.dK (bq below)))) tt=some (.tup [.str (jj e).1,.str (jj e).2])/\Ef e:=by
    rcases hc5 with ⟨W5,r⟩|⟨tt,e,W5,JB,qe⟩
    ·exact .inl ⟨W5.afM hob alO,r⟩
    ·exact .inr ⟨tt,e,W5.afM hob alO,by rw [ah (fun z=>by rw [z,hob] at JB;cases JB)];exact JB,qe⟩
   generalize upd H5 ob (.iT oo (.dK (bq below)))=H6 at k6 e6 ho6 t56 hc6 ⊢;have t46:=t45.trans t56
   refine uN (d:=ob) (o:=oo) (kvs:=bq below) (fun t' σ H'=>∃(o8 o9:ω)(cP:Own),σ=[some (.ref wa),some (.ref o),some (.ref t),some (.str x),some xv,some yv,some (.str m.1),some (.ref ob),o8,o9]/\KW wa lp lb o H3 H'/\bf H4 H'/\H' ob=some (.iT oo (.dK (bq below)))/\H' o=some (.dK (bq cP))/\cP.length<=bz.length+t'/\(∀z∈cP,z.1.length<=24*(n+2))/\((iA K H' wa lp lb lq g2 .bG/\qi g2 cP/\qi g2 below/\(∀y∈g1.pins.map (·.nm),y∈g2.pins.map (·.nm))/\d9 x m.1 (below.drop t') cP (fun cP=>gU (jx (bV 0 bj) n p) x c ((marks pre a st).drop (j+1)) g2 cP Qf Ef) Ef)\/∃tt e,iA K H' wa lp lb lq g2 (.ref tt)/\H' tt=some (.tup [.str (jj e).1,.str (jj e).2])/\Ef e)) ⟨_,_,bz,rfl,k6,t46,e6,ho6,aaM _,O4.len,?_⟩ (fun t σ H' _ h=>by
     obtain ⟨_,_,_,_,_,_,h,_⟩:=h
     exact h) ?_ ?_
   ·rcases hc6 with ⟨W6,i6,aqS,q6⟩|h
    ·exact .inl ⟨W6,fun z hz=>aqS _ (O4.isin z hz),i6,aqS,q6⟩
    ·exact .inr h
   ·rintro t' k7 y σ H7 p7 ekv ⟨o8,o9,cP,rfl,kw7,t47,e7,ho7,l7,n7,hc7⟩ nn7
    unfold bq at ekv;rw [aaU] at ekv;obtain ⟨z,ez,ekz⟩:=ab_.mp ekv;obtain ⟨rfl,rfl⟩:=ang ekz;have tl:=(Wp.mp ez).1
    have edz:below.drop t'=z::below.drop (t'+1):=by
     rw [aeD tl];rw [gE tl] at ez;rw [aaQ ez]
    have mz:z∈below:=aaP ez;have lz:=l5 z mz
    have aJW:g2.done<=500:=by
     rcases hc7 with ⟨W,_⟩|⟨_,_,W,_⟩
     ·exact W.ld
     ·exact W.ld
    have fo:=O4.fit;have s8:=a_ nn7 (.tup [kV (.inr z.1),.str z.2]);have et8:(upd H7 p7 (.tup [kV (.inr z.1),.str z.2])) p7=some (.tup [kV (.inr z.1),.str z.2]):=ai;have kw8:KW wa lp lb o H3 (upd H7 p7 (.tup [kV (.inr z.1),.str z.2])):=kw7.trans (.of s8);have t48:bf H4 (upd H7 p7 (.tup [kV (.inr z.1),.str z.2])):=t47.trans (.of s8);have e8:=s8 _ _ e7;have ho8:=s8 _ _ ho7
    have hc8:(iA K (upd H7 p7 (.tup [kV (.inr z.1),.str z.2])) wa lp lb lq g2 .bG/\qi g2 cP/\qi g2 below/\(∀y∈g1.pins.map (·.nm),y∈g2.pins.map (·.nm))/\d9 x m.1 (below.drop t') cP (fun cP=>gU (jx (bV 0 bj) n p) x c ((marks pre a st).drop (j+1)) g2 cP Qf Ef) Ef)\/∃tt e,iA K (upd H7 p7 (.tup [kV (.inr z.1),.str z.2])) wa lp lb lq g2 (.ref tt)/\(upd H7 p7 (.tup [kV (.inr z.1),.str z.2])) tt=some (.tup [.str (jj e).1,.str (jj e).2])/\Ef e:=by
     rcases hc7 with ⟨W,r⟩|⟨tt,e,W,h,r⟩
     ·exact .inl ⟨W.same s8,r⟩
     ·exact .inr ⟨tt,e,W.same s8,s8 _ _ h,r⟩
    generalize upd H7 p7 (.tup [kV (.inr z.1),.str z.2])=H8 at s8 et8 kw8 t48 e8 ho8 hc8 ⊢;have lmz:(m.1++z.1).length=m.1.length+z.1.length:=abG _ _;have bmz:m.1.length+z.1.length<=2000:=by omega
    have Yz:(bq cP).length<=1000:=by unfold bq;rw [ir];omega
    have ayY:∀f_ :Own,(∀w∈f_,w.1=m.1++z.1\/∃w' ∈cP,w.1=w'.1)->∀w∈f_,w.1.length<=24*(n+2):=fun f_ h w hw=>by
     rcases h w hw with e|⟨w',h',e⟩
     ·rw [e,lmz];omega
     ·rw [e];exact n7 w' h'
    have aqV :ob≠o:=ac2 noo
    have fin:∀(H9:Hp)(tt:abj)(e:fQ),KW wa lp lb o H3 H9->bf H4 H9->H9 ob=some (.iT oo (.dK (bq below)))->H9 o=some (.dK (bq cP))->iA K H9 wa lp lb lq g2 (.ref tt)->H9 tt=some (.tup [.str (jj e).1,.str (jj e).2])->∃f_ :Own,putK (bq cP) (.inr (m.1++z.1)) (.str z.2)=bq f_ /\KW wa lp lb o H3 (upd H9 o (.dK (bq f_)))/\bf H4 (upd H9 o (.dK (bq f_)))/\(upd H9 o (.dK (bq f_))) ob=some (.iT oo (.dK (bq below)))/\f_.length<=bz.length+(t'+1)/\(∀w∈f_,w.1.length<=24*(n+2))/\iA K (upd H9 o (.dK (bq f_))) wa lp lb lq g2 (.ref tt)/\(upd H9 o (.dK (bq f_))) tt=some (.tup [.str (jj e).1,.str (jj e).2]):=fun H9 tt e a1 a2 a3 a4 a5 a6=>by
     obtain ⟨f_,e',l',w'⟩:=afN cP (m.1++z.1) z.2;refine ⟨f_,e',fun b x n1 n2 n3 n4 eb=>by rw [ah n4];exact a1 b x n1 n2 n3 n4 eb,a2.trans (.dict a4),by rw [ah aqV];exact a3,by omega,ayY f_ w',a5.afM a4 now,?_⟩;rw [ah (fun y=>by rw [y,a4] at a6;cases a6)];exact a6
    refine ⟨p7,_,rfl,dG.of et8,rfl,_,_,rfl,_,_,rfl,rfl,_,rfl,_,rfl,m.1,z.1,rfl,rfl,aah bmz (by decide),_,rfl,o,_,rfl,dC.k (k:=.inr (m.1++z.1)) ho8,_,rfl,?_⟩;rw [pH];by_cases ci:m.1++z.1∈cP.map (·.1)
    ·rw [abu ci]
     refine fY ?_
     rcases hc8 with ⟨W8,i8,ib8,aqW,q8⟩|⟨tt,e,W8,JB,qe⟩
     ·rw [edz] at q8
      unfold d9 at q8;rw [abv ci] at q8;refine ⟨_,rfl,wa,.bG,rfl,fw W8,rfl,_,rfl,fY ?_⟩;refine ⟨_,rfl,_,rfl,x,m.1,rfl,rfl,aah (show x.length+m.1.length<=2000 by omega) (by decide),_,rfl,x++m.1,z.1,rfl,rfl,aah (show (x++m.1).length+z.1.length<=4000 by omega) (by decide),L2,?_⟩;intro t9 n9;generalize eX:upd _ t9 _=H9;have ⟨s9,e9⟩:=nw n9 eX;rw [WM] at e9;obtain ⟨k1,k2,k3',k4'⟩:=mP kw8 W8 ho8 now s9 n9 e9;refine ⟨_,rfl,wa,_,rfl,je.k (k:=.inr "told") (s9 _ _ W8.fE) (tK _ _),?_⟩;rw [lD];have t9':bf H4 (upd H9 wa (.dK (bI lp lb lq g2.done (.ref t9)))):=(t48.trans (.of s9)).trans (.dict (s9 _ _ W8.fE));have e9':(upd H9 wa (.dK (bI lp lb lq g2.done (.ref t9)))) ob=some (.iT oo (.dK (bq below))):=by rw [ah alO];exact s9 _ _ e8
      generalize upd H9 wa (.dK (bI lp lb lq g2.done (.ref t9)))=HA at k1 k2 k3' k4' t9' e9' ⊢;obtain ⟨f_,b0,b1,b2,b3,b4,b5,b6,b7⟩:=fin HA t9 (.there (x++(m.1++z.1))) k1 t9' e9' k4' k2 k3';refine ⟨_,rfl,_,rfl,_,rfl,_,rfl,m.1,z.1,rfl,rfl,aah bmz (by decide),o,_,rfl,je.k (k:=.inr (m.1++z.1)) k4' (aaW Yz (by decide)),?_⟩;rw [b0];exact ⟨_,_,f_,rfl,b1,b2,b3,ai,b4,b5,.inr ⟨t9,_,b6,b7,q8⟩⟩
     ·refine ⟨_,rfl,wa,.ref tt,rfl,fw W8,rfl,_,rfl,dz ?_⟩
      obtain ⟨f_,b0,b1,b2,b3,b4,b5,b6,b7⟩:=fin H8 tt e kw8 t48 e8 ho8 W8 JB;refine ⟨_,rfl,_,rfl,_,rfl,_,rfl,m.1,z.1,rfl,rfl,aah bmz (by decide),o,_,rfl,je.k (k:=.inr (m.1++z.1)) ho8 (aaW Yz (by decide)),?_⟩;rw [b0];exact ⟨_,_,f_,rfl,b1,b2,b3,ai,b4,b5,.inr ⟨tt,e,b6,b7,qe⟩⟩
    ·rw [aby ci]
     refine dz ?_;refine ⟨_,rfl,_,rfl,_,rfl,_,rfl,m.1,z.1,rfl,rfl,aah bmz (by decide),o,_,rfl,je.k (k:=.inr (m.1++z.1)) ho8 (aaW Yz (by decide)),?_⟩
     rcases hc8 with ⟨W8,i8,ib8,aqW,q8⟩|⟨tt,e,W8,JB,qe⟩
     ·rw [edz] at q8
      unfold d9 at q8;rw [abp ci] at q8;rw [ig _ (tj ci),oz];refine ⟨_,_,cP++[(m.1++z.1,z.2)],rfl,fun b x n1 n2 n3 n4 eb=>by rw [ah n4];exact kw8 b x n1 n2 n3 n4 eb,t48.trans (.dict ho8),by rw [ah aqV];exact e8,ai,by rw [aae,ac0];omega,fun w hw=>?_,.inl ⟨W8.afM ho8 now,fun w hw=>?_,ib8,aqW,q8⟩⟩
      ·rcases abh.mp hw with h|h
       ·exact n7 w h
       ·rw [aaT.mp h]
        show (m.1++z.1).length<=24*(n+2);omega
      ·rcases abh.mp hw with h|h
       ·exact i8 w h
       ·rw [aaT.mp h];exact ib8 z mz
     ·obtain ⟨f_,b0,b1,b2,b3,b4,b5,b6,b7⟩:=fin H8 tt e kw8 t48 e8 ho8 W8 JB
      rw [b0];exact ⟨_,_,f_,rfl,b1,b2,b3,ai,b4,b5,.inr ⟨tt,e,b6,b7,qe⟩⟩
   ·rintro σ H7 ⟨o8,o9,cP,rfl,kw7,t47,e7,ho7,l7,n7,hc7⟩
    have lk:(bq below).length=below.length:=by unfold bq;rw [ir]
    rw [lk] at l7 hc7;rw [afF] at hc7;have fo:=O4.fit;refine ⟨_,rfl,_,rfl,t,_,_,_,rfl,rfl,t47.cy h14,ar (j:=5) rfl,tb,_,_,_,rfl,rfl,t47.cy hb4,ar (j:=0) rfl,xv,sx,_,_,rfl,nx4.aQ t47,aqQ.aQ t47,sx4.up (by omega),sz1.up (by decide),fun p8 H8 s8 e8=>?_⟩;refine ⟨_,rfl,_,rfl,t,_,_,_,rfl,rfl,Ty.au.cy s8 (t47.cy h14),ar (j:=5) rfl,tb,_,_,_,rfl,rfl,Ty.au.cy s8 (t47.cy hb4),ar (j:=1) rfl,yv,sy,_,_,rfl,(ny4.aQ t47).same s8,(aqR.aQ t47).same s8,sy4.up (by omega),sz2.up (by decide),fun p9 H9 s9 e9=>?_⟩;have s79:=aJ s8 s9;refine ⟨_,_,_,_,_,_,g2,cP,rfl,kw7.trans (.of s79),by rw [<-kN];exact (j0 e8).same s9,by rw [<-kN];exact j0 e9,by rw [<-kN];exact (sx4.add sz1).up (by omega),by rw [<-kN];exact (sy4.add sz2).up (by omega),s79 _ _ ho7,?_⟩
    rcases hc7 with ⟨W7,i7,_,ay1,q7⟩|⟨tt,e,W7,JB,qe⟩
    ·exact .inl ⟨W7.same s79,⟨by omega,n7,i7,fun y hy=>ay1 y (O4.sub y hy)⟩,q7⟩
    ·exact .inr ⟨tt,e,W7.same s79,s79 _ _ JB,by omega,n7,qe⟩
  ·refine ⟨_,rfl,wa,.ref tt,rfl,fw W4,rfl,_,rfl,dz ?_⟩
   refine ⟨_,rfl,_,rfl,t,_,_,_,rfl,rfl,h14,ar (j:=5) rfl,tb,_,_,_,rfl,rfl,hb4,ar (j:=0) rfl,xv,sx,_,_,rfl,nx4,aqQ,sx4.up (by omega),sz1.up (by decide),fun p8 H8 s8 e8=>?_⟩;refine ⟨_,rfl,_,rfl,t,_,_,_,rfl,rfl,Ty.au.cy s8 h14,ar (j:=5) rfl,tb,_,_,_,rfl,rfl,Ty.au.cy s8 hb4,ar (j:=1) rfl,yv,sy,_,_,rfl,ny4.same s8,aqR.same s8,sy4.up (by omega),sz2.up (by decide),fun p9 H9 s9 e9=>?_⟩;have s49:=aJ s8 s9;exact ⟨_,_,_,_,_,_,g1,bz,rfl,k4.trans (.of s49),by rw [<-kN];exact (j0 e8).same s9,by rw [<-kN];exact j0 e9,by rw [<-kN];exact (sx4.add sz1).up (by omega),by rw [<-kN];exact (sy4.add sz2).up (by omega),s49 _ _ Pp,.inr ⟨tt,e,W4.same s49,s49 _ _ JB,f4,l4,qe⟩⟩
 ·rintro σ H4 ⟨xv,yv,o6,o7,o8,o9,g1,bz,rfl,k4,nx4,ny4,sx4,sy4,Pp,hc⟩
  have k04:KW wa lp lb o H H4:=(KW.of jm).trans k4
  rcases hc with ⟨W4,O4,q4⟩|⟨tt,e,W4,JB,f4,l4,qe⟩
  ·rw [ir,ir,afF] at q4
   have q5:Qf g1 bz:=q4;rw [<-hQ] at q5;exact q5 H4 k04 W4 Pp O4
  ·rw [<-hE] at qe
   exact qe tt g1 bz H4 k04 W4 JB Pp f4 l4
theorem aa5 (O:JA g own d0 L g0)(f:own.length+1+d0<=g.done)(lp:p.nm.length<=L)(h:lX x c p g own Q E):lX x c p g own (fun g1 bz=>Q g1 bz/\JA g1 bz d0 L g0) E:=by
 have len:∀y:Str,∀z∈own++[(p.nm,y)],z.1.length<=L:=fun y z hz=>by
  rcases abh.mp hz with h|h
  ·exact O.len z h
  ·rw [aaT.mp h];exact lp
 unfold lX at h ⊢;split
 ·next c1=>rw [abv c1] at h;exact h
 next c1=>
 rw [abp c1] at h;cases e:g.pins.find? (fun z=>decide (z.sp=nF c p.sp)) with
 | some z=>
  rw [e] at h;refine ⟨h,by rw [aae,ac0];exact f,len _,fun w hw=>?_,O.sub⟩
  rcases abh.mp hw with h|h
  ·exact O.isin w h
  ·rw [aaT.mp h];exact ac3.mpr ⟨z,ahj e,rfl⟩
 | none=>
  rw [e] at h;dsimp only at h ⊢;split
  ·next c2=>rw [abv c2] at h;exact h
  next c2=>
  rw [abp c2] at h;split
  ·next c3=>rw [abv c3] at h;exact h
  ·next c3=>
   rw [abp c3] at h
   have up:∀y∈g.pins.map (·.nm),y∈(FJ g (x++p.nm) (nF c p.sp) p.ws).pins.map (·.nm):=fun y hy=>by
    show y∈(g.pins++[_]).map hJ.nm;rw [ac1];exact agU _ hy
   refine ⟨h,by rw [aae,ac0];exact f,len _,fun w hw=>?_,fun y hy=>up y (O.sub y hy)⟩
   rcases abh.mp hw with h|h
   ·exact up _ (O.isin w h)
   ·rw [aaT.mp h]
    show x++p.nm∈(g.pins++[_]).map hJ.nm;rw [ac1];exact adf _ aa_
theorem aa6 (O:JA g own d0 L g0)(h:nj x n one other g own Q E):nj x n one other g own (fun g1 bz=>Q g1 bz/\JA g1 bz d0 L g0) E:=by
 unfold nj at h ⊢;cases e1:ownAt own one with
 | none=>rw [e1] at h;exact h
 | some a=>
  rw [e1] at h;dsimp only at h ⊢;cases e2:ownAt own other with
  | none=>rw [e2] at h;exact h
  | some b=>
   rw [e2] at h;dsimp only at h ⊢;cases eb:qT (g.pins.map (·.nm)) (g.b8.map (·.1)) (x++n) a b with
   | there=>rw [eb] at h;exact h
   | pin p=>rw [eb] at h;exact h
   | length=>rw [eb] at h;exact h
   | many=>rw [eb] at h;exact h
   | done=>rw [eb] at h;exact ⟨h,O.fit,O.len,O.isin,O.sub⟩
theorem oI:aC ["_law_world","_law_rows_here","_law_prefix","_law_x","_law_y","_law_own","_law_row"] zae (aa iN):=sq
theorem Pq (hlv:35<=lv)(D:Def K mg "_law_laid" iN zae)(zA:Fn P w K mg base (aT P w) 35 "_law_pin_done" zaa (vf K))(zB:Fn P w K mg base (aT P w) 1 "_law_bar_done" zar (vg K))(zC:Fn P w K mg base (aT P w) lv "_law_lay_done" zaa spP)(hP:∀m,n=m+1->∀vs H Q E,lZ K m vs H Q E->spP vs H Q E):
  Fn P w K mg base (aT P w) (lv+1) "_law_laid" zae (mQ K n):=by
 refine D.op oI fun f cdv A outer s H vs Q E hr h=>?_;obtain ⟨wa,lp,lb,lq,rl,vx,vy,x,c,g,us,qs,rows,bj,i,k,C,rfl,W,WP,nrl,erl,pr,rok,hin,hip,hx,hy,zx,zy,kn,lx,q,qC⟩:=h;have L2:2<=abl:=by decide
 have lr:us.length=rows.length:=abK pr;have tK:∀(d:Nat)(v:V),(bI lp lb lq d v).length<abl:=fun d v=>aaW (show 5<=5 from aaM _) (by decide)
 let R8 :Str->Str->Rat×Rat->Gd->GO->(fQ->Prop)->Prop:=match n with
  | 0=>fun _ _ _ _ _ E=>E .many
  | m+1=>fun pc x c g Q E=>jx (bV 0 bj) m (rowsOf (bV 0 bj) pc) x c g Q E
 have alx:∀Q' E',jx (bV 0 bj) n rows x c g Q' E'=gF R8 x c rows g [] Q' E':=fun Q' E'=>by
  cases n with
  | zero=>rfl
  | succ m=>rfl
 rw [alx] at q;generalize hQ:(fun g1 bz=>∀o,H o=none->okL K wa lp lb lq o H g.done (24*(n+1)) g (C o) g1 bz)=Qf at q;generalize hE:(fun e=>∀o,H o=none->afO K wa lp lb lq o H g.done (24*(n+1)) (C o) e)=Ef at q
 refine ⟨_,(ag (aR (i:=5) oI.nd lJ) (ag (dU abW rfl (cJ (pv 1)) (hU (i:=6) oI.nd) (ag (aS (PW.pt (jO (aL iC (bL (bB hr) (pv 0) aw (fun _ _=>rfl)) bS) (iV (aL ED (bL (bB hr) (pv 0) aw (fun _ _=>rfl)) ak)))) (ae (cW (bB hr) (pv 0) aw (aX (aU aw aw)) rfl)) aG) (ae (aS (aL iC (bL (bB hr) (pv 0) aw (fun _ _=>rfl)) bS) (ag (cW (bB hr) (pv 0) aw (aD dW (bL (bB hr) (pv 0) aw (fun _ _=>rfl)) ak) rfl) (ae (aS (aL cn (aI (pv 6)) aw) (ae (bg (bK zA (hr.mono (by omega)) pX (nV (pv 0) (nV (pv 5) (nV (pv 6) (gO (pv 2) (pv 3) (pv 4)))))))) (ae (aS (aL cn (aI (pv 6)) aw) (ae (bg (bK zB (hr.mono (by omega)) pX (nV (pv 0) (gO (pv 5) (pv 6) (pv 2)))))) (ae (bg (bK zC (hr.mono (by omega)) pX (nV (pv 0) (nV (pv 5) (nV (pv 6) (gO (pv 2) (pv 3) (pv 4))))))))))))) aG)))) (ae (aH (pv 5))))),?_⟩
 intro o no;have s1:au H (upd H o (.dK [])):=fun b x e=>by rw [ah (aj e no)];exact e
 have ho1:(upd H o (.dK [])) o=some (.dK (bq [])):=ai;generalize upd H o (.dK [])=H1 at s1 ho1 ⊢;have now:o≠wa:=fun z=>by rw [z,W.fE] at no;cases no
 refine ⟨_,rfl,rl,rfl,⟨_,aZ.of (s1 _ _ erl)⟩,eG (K:=K) (a:=rl) (xs:=us) (fun j σ H'=>Ex3 fun (o6:ω) (g1:Gd) (bz:Own)=>σ=[some (.ref wa),some (.ref rl),some (.str x),some vx,some vy,some (.ref o),o6]/\KW wa lp lb o H H'/\H' o=some (.dK (bq bz))/\((iA K H' wa lp lb lq g1 .bG/\JA g1 bz g.done (24*(n+1)) g/\gF R8 x c (rows.drop j) g1 bz Qf Ef)\/∃tt e,iA K H' wa lp lb lq g1 (.ref tt)/\H' tt=some (.tup [.str (jj e).1,.str (jj e).2])/\bz.length+g.done<=g1.done/\(∀z∈bz,z.1.length<=24*(n+1))/\Ef e)) ⟨none,g,[],rfl,.of s1,ho1,.inl ⟨W.same s1,⟨by show 0+g.done<=g.done;omega,(fun _ h=>nomatch h),(fun _ h=>nomatch h),fun _ h=>h⟩,q⟩⟩ (fun j σ H' _ h=>by
   obtain ⟨_,_,_,_,h,_⟩:=h
   exact aZ.of (h.lst W (.none no) nrl erl)) ?_ ?_⟩
 ·rintro j u σ H2 ei ⟨o6,g1,bz,rfl,k2,ho2,hc⟩
  obtain ⟨r,er,Sf⟩:=aY pr ei;have t02:=k2.aQ W (.none no);have jl:=(Wp.mp er).1;have mr:r∈rows:=aaP er
  have ed:rows.drop j=r::rows.drop (j+1):=by
   rw [aeD jl];rw [gE jl] at er;rw [aaQ er]
  rcases hc with ⟨W2,O2,q2⟩|⟨tt,e,W2,JB,f2,l2,qe⟩
  ·refine ⟨_,rfl,wa,.bG,rfl,fw W2,rfl,_,rfl,fY ?_⟩
   have gD:∀{H':Hp} {g':Gd} {tv:V},iA K H' wa lp lb lq g' tv->dC H' wa (.str "done") (some (.int (g'.done:Int))):=fun {H' g' tv} W=>by have h:=dC.k (k:=.inr "done") W.fE;rw [alI] at h;exact h
   refine ⟨_,rfl,wa,_,rfl,gD W2,_,_,rfl,rfl,_,rfl,?_⟩;rw [ed] at q2;unfold gF at q2;by_cases c5:500<=g1.done
   ·rw [abv c5] at q2
    refine aK (fun _=>?_) (fun z=>abo (abu (by omega)) z);refine ⟨L2,?_⟩;intro t3 n3;generalize eX:upd _ t3 _=H3;have ⟨s3,e3⟩:=nw n3 eX;obtain ⟨k1,k2',k3,k4⟩:=mP k2 W2 ho2 now s3 n3 e3;refine ⟨_,rfl,wa,_,rfl,je.k (k:=.inr "told") (s3 _ _ W2.fE) (tK _ _),?_⟩;rw [lD];generalize upd H3 wa (.dK (bI lp lb lq g1.done (.ref t3)))=HA at k1 k2' k3 k4 ⊢;refine ⟨_,rfl,wa,.ref t3,rfl,fw k2',rfl,_,rfl,dz ?_⟩;exact ⟨_,g1,bz,rfl,k1,k4,.inr ⟨t3,.many,k2',k3,O2.fit,O2.len,q2⟩⟩
   rw [abp c5] at q2;refine aK (fun z=>abo (abn z) (by omega)) (fun _=>?_);refine ⟨_,rfl,wa,.bG,rfl,fw W2,rfl,_,rfl,fY ?_⟩;refine ⟨_,rfl,wa,_,rfl,gD W2,_,_,rfl,rfl,_,rfl,wa,_,rfl,je.k (k:=.inr "done") W2.fE (tK _ _),?_⟩;rw [w_count];have W3:=W2.count (by omega);have k3:KW wa lp lb o H (upd H2 wa (.dK (bI lp lb lq (g1.done+1) .bG))):=fun b x n1 n2 n3 n4 e=>by rw [ah n1];exact k2 b x n1 n2 n3 n4 e
   have ho3:(upd H2 wa (.dK (bI lp lb lq (g1.done+1) .bG))) o=some (.dK (bq bz)):=by rw [ah now];exact ho2
   generalize upd H2 wa (.dK (bI lp lb lq (g1.done+1) .bG))=H3 at W3 k3 ho3 ⊢;have t03:=k3.aQ W (.none no);have hr3:qh K H3 [lp,lb] i u r:=Sf.mono (fun b xs nb e=>k3.lst W (.none no) nb e) t03 (fun _ z=>.inl z) (aaM _);have rg:=rok r mr;have O3:JA {g1 with done:=g1.done+1} bz g.done (24*(n+1)) g:=⟨by have:=O2.fit;show bz.length+g.done<=g1.done+1;omega,O2.len,O2.isin,O2.sub⟩;have f3:bz.length+1+g.done<=g1.done+1:=by have:=O2.fit;omega
   have aJX:g1.done+1<=500:=W3.ld;have WP3:=WP.keep W (.none no) k3;obtain ⟨t,qb,rfl,hk⟩:=hr3.kind;refine ⟨_,rfl,t,_,_,_,rfl,rfl,hk,ar (j:=0) rfl,rfl,_,rfl,?_⟩;cases r with
   | pin p=>
    refine aK (fun _=>?_) (fun c=>abo (abu rfl) c);have lpn:=rg.1.len;refine ⟨_,rfl,_,rfl,_,rfl,_,rfl,_,rfl,_,rfl,wa,lp,lb,lq,o,.ref t,vx,vy,x,c,p,{g1 with done:=g1.done+1},bz,i,1000*k+1,rfl,W3,ho3,now,by omega,hr3,rg,by omega,hx.aQ t03,hy.aQ t03,zx,zy,by omega,?_⟩;have q3:lX x c p {g1 with done:=g1.done+1} bz (fun g2 cP=>gF R8 x c (rows.drop (j+1)) g2 cP Qf Ef) Ef:=q2;exact u_ (fun g2 cP z H' kw W' uC =>⟨_,g2,cP,rfl,k3.trans kw,uC,.inl ⟨W',z.2,z.1⟩⟩) (fun e z t' H' kw W' ht uC =>⟨_,{g1 with done:=g1.done+1},bz,rfl,k3.trans kw,uC,.inr ⟨t',e,W',ht,O3.fit,O3.len,z⟩⟩) (aa5 O3 f3 (by omega) q3)
   | bar nm one other=>
    refine aK (fun c=>abo (abn c) (ne_str (by decide+kernel:("bar":Str)≠ "pin"))) (fun _=>?_);refine ⟨_,rfl,t,_,_,_,rfl,rfl,hk,ar (j:=0) rfl,rfl,_,rfl,aK (fun _=>?_) (fun c=>abo (abu rfl) c)⟩;refine ⟨_,rfl,_,rfl,_,rfl,_,rfl,wa,lp,lb,lq,o,.ref t,x,nm,one,other,{g1 with done:=g1.done+1},bz,i,rfl,W3,ho3,now,O3.isin,hr3,rg,by omega,?_⟩;have q3:nj x nm one other {g1 with done:=g1.done+1} bz (fun g2 cP=>gF R8 x c (rows.drop (j+1)) g2 cP Qf Ef) Ef:=q2;exact vc (fun g2 cP z H' kw W' uC =>⟨_,g2,cP,rfl,k3.trans kw,uC,.inl ⟨W',z.2,z.1⟩⟩) (fun e z t' H' kw W' ht uC =>⟨_,{g1 with done:=g1.done+1},bz,rfl,k3.trans kw,uC,.inr ⟨t',e,W',ht,O3.fit,O3.len,z⟩⟩) (aa6 O3 q3)
   | lay pc pre a st=>
    refine aK (fun c=>abo (abn c) (ne_str (by decide+kernel:("lay":Str)≠ "pin"))) (fun _=>?_);refine ⟨_,rfl,t,_,_,_,rfl,rfl,hk,ar (j:=0) rfl,rfl,_,rfl,aK (fun c=>abo (abn c) (ne_str (by decide+kernel:("lay":Str)≠ "bar"))) (fun _=>?_)⟩
    have hi:0<i:=by
     cases hr3 with
     | lay t i' pre va vs tv a s st e hi=>omega
    cases n with
    | zero=>omega
    | succ m=>
     refine ⟨_,rfl,_,rfl,_,rfl,_,rfl,_,rfl,_,rfl,hP m rfl _ _ _ _ ⟨wa,lp,lb,lq,o,.ref t,vx,vy,x,pc,pre,c,a,st,{g1 with done:=g1.done+1},g,bz,qs,bj,i,k,g.done,rfl,W3,WP3,ho3,now,O3,hr3,rg,hin,hip,hx.aQ t03,hy.aQ t03,zx,zy,by omega,lx,?_⟩⟩;exact kI (g9 (bV 0 bj) m (rowsOf (bV 0 bj) pc)) (fun g2 cP z H' kw W' uC O'=>⟨_,g2,cP,rfl,k3.trans kw,uC,.inl ⟨W',O',z⟩⟩) (fun e z t' g' f_ H' kw W' ht uC f' l'=>⟨_,g',f_,rfl,k3.trans kw,uC,.inr ⟨t',e,W',ht,f',l',z⟩⟩) _ _ _ q2
  ·refine ⟨_,rfl,wa,.ref tt,rfl,fw W2,rfl,_,rfl,dz ?_⟩
   refine ⟨_,rfl,wa,.ref tt,rfl,fw W2,rfl,_,rfl,dz ?_⟩;exact ⟨_,g1,bz,rfl,k2,ho2,.inr ⟨tt,e,W2,JB,f2,l2,qe⟩⟩
 ·rintro σ H2 ⟨o6,g1,bz,rfl,k2,ho2,hc⟩
  refine ⟨_,rfl,qC o H2 ?_⟩
  rcases hc with ⟨W2,O2,q2⟩|⟨tt,e,W2,JB,f2,l2,qe⟩
  ·rw [lr,afF] at q2
   have q3:Qf g1 bz:=q2;rw [<-hQ] at q3;exact q3 o no H2 k2 W2 ho2 O2
  ·rw [<-hE] at qe
   exact qe o no tt g1 bz H2 k2 W2 JB ho2 f2 l2
theorem Pr (DL:Def K mg "_law_lay_done" dq zaa)
  (zero:∀{lv:Nat} {spP:Sp} {n:Nat},35<=lv->Fn P w K mg base (aT P w) lv "_law_lay_done" zaa spP->(∀m,n=m+1->∀vs H Q E,lZ K m vs H Q E->spP vs H Q E)->Fn P w K mg base (aT P w) (lv+1) "_law_laid" zae (mQ K n))
  (step:∀{lv n:Nat},35<=lv->Fn P w K mg base (aT P w) lv "_law_laid" zae (mQ K n)->Fn P w K mg base (aT P w) (lv+1) "_law_lay_done" zaa (lZ K n)):
  ∀n,Fn P w K mg base (aT P w) (36+2*n) "_law_laid" zae (mQ K n)
 | 0=>zero (lv:=35) (spP:=fun _ _ _ _=>False) (aaM _) (DL.ok bR (fun _ _ _ _ h=>h.elim) (fun _ _ _ _ _ _ _ _ _ _ h=>h.elim)) (fun _ z=>nomatch z)
 | n+1=>zero (lv:=36+2*n+1) (by omega) (step (by omega) (Pr DL zero step n)) (fun m e vs H Q E h=>by cases e;exact h)
def Pu (w:Str):Bool:=isName w && decide ((w.length:Int)<=20)
theorem pI {w:Str}:Pu w=true ↔ bD w:=by
 unfold Pu;rw [ac8,decide_eq_true_eq];exact ⟨fun h=>⟨h.1,by omega⟩,fun h=>⟨h.nm,by have:=h.len;omega⟩⟩
theorem alP (w:Str):valOf "NAME" w=if Pu w=true then some (.w w) else none:=by
 unfold valOf Pu;rw [abp (ne_str (by decide+kernel)),abp (ne_str (by decide+kernel)),abv rfl]
theorem aq0 (w:Str):valOf "NUMBER" w=(numOf w).map RV.q:=by
 unfold valOf;rw [abv rfl]
theorem alQ (w:Str):valOf "MANY" w=(mJ w).map RV.n:=by
 unfold valOf;rw [abp (ne_str (by decide+kernel)),abv rfl]
def afQ (k:Str):Bool:= !decide (k="NUMBER") && (!decide (k="MANY") && (!decide (k="NAME") && !decide (k="WORD")))
theorem v_lit (h:afQ k=true)(w:Str):valOf k w=if w=k then some (.w w) else none:=by
 unfold afQ at h;simp only [ac8,aeM,decide_eq_false_iff_not] at h;obtain ⟨h1,h2,h3,h4⟩:=h;unfold valOf;rw [abp (ne_str h1),abp (ne_str h2),abp (ne_str h3),abp (ne_str h4)];by_cases c:w=k
 ·rw [abv (by rw [c]),abv c]
 ·rw [abp (ne_str c),abp c]
theorem alR {i:Nat}{k w:Str}(e1:ks[i]?=some k)(e2:ws[i]?=some w)(h:valOf k w=none):fit ks ws=none:=by
 unfold fit;split
 ·have key:∀{os:List (Option RV)} {i:Nat},os[i]?=some none->iY os=none:=by
   intro os
   induction os with
   | nil=>intro i e;simp at e
   | cons o t ih=>
    intro i e;cases i with
    | zero=>
     have:o=none:=by simpa using e
     rw [this];rfl
    | succ i=>
     have:=ih (i:=i) (by simpa using e);cases o with
     | none=>rfl
     | some a=>
      show (iY t).map (a::·)=none;rw [this];rfl
  exact key (i:=i) (by rw [am_,e1,e2];exact abV some h)
 ·rfl
def WN (x y:Option (List RV)):Option (List RV):=match x with
 | some r=>some r
 | none=>y
theorem hG {fs ks ws:η}(e:dy f=ks):dB (f::fs) ws=WN (fit ks ws) (dB fs ws):=by
 show (match fit (dy f) ws with|some rs=>some rs|none=>dB fs ws)=_;rw [e];unfold WN;cases fit ks ws<;>rfl
theorem j2 (ws:η):dB cZ ws=WN (fit zao ws) (WN (fit zah ws) (WN (fit zac ws) (WN (fit zap ws) (WN (fit zaB ws) (WN (fit zaZ ws) (WN (fit zai ws) (WN (fit zab ws) none))))))):=by
 unfold cZ;rw [hG ak3,hG ak4,hG ak5,hG ak6,hG ak7,hG ak8,hG ak9,hG ak'];rfl
theorem or_none (y:Option (List RV)):WN none y=y:=by cases y<;>rfl
theorem oJ {k w:Str}{ks ws:η}(h:afQ k=true)(ne:w≠k):fit (k::ks) (w::ws)=none:=alR (i:=0) rfl rfl (by rw [v_lit h,abp ne])
theorem bN {k w:Str}(h1:valOf k w=some a)(h2:fit ks ws=some rs):fit (k::ks) (w::ws)=some (a::rs):=by
 unfold fit at h2 ⊢;split at h2
 ·next c=>
  rw [abv (by rw [ac5,ac5,c]),List.zipWith_cons_cons,h1];show (iY (akm valOf ks ws)).map (a::·)=_;rw [h2];rfl
 ·cases h2
theorem kO:fit [] []=some []:=rfl
theorem aa7 (ha:N' a)(hb:N' b)(e:d_ a=d_ b):a=b:=by
 cases a with
 | ik n=>
  cases b with
  | ik m=>simp [d_] at e;rw [e]
  | fin=>simp [d_] at e
  | row r=>
   cases r with
   | pin p=>simp [d_,gu,uX] at e
   | bar x y z=>simp [d_,gu] at e
   | lay x y z s=>cases s<;>simp [d_,gu] at e
 | fin=>
  cases b with
  | ik m=>simp [d_] at e
  | fin=>rfl
  | row r=>
   cases r with
   | pin p=>simp [d_,gu,uX] at e
   | bar x y z=>simp [d_,gu] at e
   | lay x y z s=>cases s<;>simp [d_,gu] at e
 | row r=>
  cases r with
  | pin p=>
   cases b with
   | ik m=>simp [d_,gu,uX] at e
   | fin=>simp [d_,gu,uX] at e
   | row r=>
    cases r with
    | pin q=>
     simp [d_,gu,uX] at e;obtain ⟨e1,e2,e3,e4⟩:=e
     have key:∀{ws:υ},(ws=[]\/ws=[(1,0),(0,1)]\/∃w,ws=[w]/\Good (qr w.1)/\Good (qr w.2))->(ws=[]\/ws=[(1,0),(0,1)]\/∃w,ws=[w]):=fun h=>by
      rcases h with h|h|⟨w,h,_⟩
      ·exact .inl h
      ·exact .inr (.inl h)
      ·exact .inr (.inr ⟨w,h⟩)
     have e5:=aaB (key ha.2.2.2) (key hb.2.2.2) e4;cases p;cases q;simp only at e1 e2 e3 e5;rw [e1,e5,show _=_ from agV e2 e3]
    | bar x y z=>simp [d_,gu,uX] at e
    | lay x y z s=>cases s<;>simp [d_,gu,uX] at e
  | bar x y z=>
   cases b with
   | ik m=>simp [d_,gu] at e
   | fin=>simp [d_,gu] at e
   | row r=>
    cases r with
    | pin q=>simp [d_,gu,uX] at e
    | bar x' y' z'=>simp [d_,gu] at e;obtain ⟨e1,e2,e3⟩:=e;rw [e1,e2,e3]
    | lay x' y' z' s=>cases s<;>simp [d_,gu] at e
  | lay x y z s=>
   cases b with
   | ik m=>cases s<;>simp [d_,gu] at e
   | fin=>cases s<;>simp [d_,gu] at e
   | row r=>
    cases r with
    | pin q=>cases s<;>simp [d_,gu,uX] at e
    | bar x' y' z'=>cases s<;>simp [d_,gu] at e
    | lay x' y' z' s'=>
     cases s with
     | none=>
      cases s' with
      | none=>simp [d_,gu] at e;obtain ⟨e1,e2,e3,e4⟩:=e;rw [e1,e2,show z=z' from agV e3 e4]
      | some t=>simp [d_,gu] at e
     | some t=>
      cases s' with
      | none=>simp [d_,gu] at e
      | some t'=>
       simp [d_,gu] at e;obtain ⟨e1,e2,e3,e4,e5,e6,e7⟩:=e;rw [e1,e2,show z=z' from agV e3 e4,show t=t' from agV (by omega) (agV e6 e7)]
open Classical in
noncomputable def xG (x:Str):Option Sg:=if h:∃sg,N' sg/\dB cZ (ab6 x " ")=some (d_ sg) then some h.choose else none
theorem aa8 {sg:Sg}(ok:N' sg)(h:dB cZ (ab6 x " ")=some (d_ sg)):xG x=some sg:=by
 have hx:∃sg,N' sg/\dB cZ (ab6 x " ")=some (d_ sg):=⟨sg,ok,h⟩;unfold xG;rw [dif_pos hx];obtain ⟨h1,h2⟩:=hx.choose_spec;exact abV some (aa7 ok h1 (aaQ (h.symm.trans h2))).symm
theorem vW (x:Option (List RV)):WN x none=x:=by cases x<;>rfl
theorem WO (n x y:Str):dB cZ ["pin",n,x,y]=fit zao ["pin",n,x,y]:=by
 rw [j2,aV (ks:=zah) (by simp),aV (ks:=zac) (by simp),oJ (k:="bar") (by decide+kernel) (by decide+kernel),aV (ks:=zaB) (by simp),aV (ks:=zaZ) (by simp),aV (ks:=zai) (by simp),aV (ks:=zab) (by simp)];exact vW _
theorem WQ (n x y:Str):dB cZ ["bar",n,x,y]=fit zap ["bar",n,x,y]:=by
 rw [j2,oJ (k:="pin") (by decide+kernel) (by decide+kernel),aV (ks:=zah) (by simp),aV (ks:=zac) (by simp),aV (ks:=zaB) (by simp),aV (ks:=zaZ) (by simp),aV (ks:=zai) (by simp),aV (ks:=zab) (by simp)];exact vW _
theorem aa9 (h n x y z:Str):dB cZ [h,n,x,y,z]=WN (fit zah [h,n,x,y,z]) (fit zai [h,n,x,y,z]):=by
 rw [j2,aV (ks:=zao) (by simp),aV (ks:=zac) (by simp),aV (ks:=zap) (by simp),aV (ks:=zaB) (by simp),aV (ks:=zaZ) (by simp),aV (ks:=zab) (by simp)];simp only [or_none,vW]
theorem alS (h n x y z u v:Str):dB cZ [h,n,x,y,z,u,v]=fit zac [h,n,x,y,z,u,v]:=by
 rw [j2,aV (ks:=zao) (by simp),aV (ks:=zah) (by simp),aV (ks:=zap) (by simp),aV (ks:=zaB) (by simp),aV (ks:=zaZ) (by simp),aV (ks:=zai) (by simp),aV (ks:=zab) (by simp)];simp only [or_none,vW]
theorem alT (h n x y z u v w:Str):dB cZ [h,n,x,y,z,u,v,w]=fit zab [h,n,x,y,z,u,v,w]:=by
 rw [j2,aV (ks:=zao) (by simp),aV (ks:=zah) (by simp),aV (ks:=zac) (by simp),aV (ks:=zap) (by simp),aV (ks:=zaB) (by simp),aV (ks:=zaZ) (by simp),aV (ks:=zai) (by simp)];simp only [or_none,vW]
theorem alU (h n:Str):dB cZ [h,n]=fit zaB [h,n]:=by
 rw [j2,aV (ks:=zao) (by simp),aV (ks:=zah) (by simp),aV (ks:=zac) (by simp),aV (ks:=zap) (by simp),aV (ks:=zaZ) (by simp),aV (ks:=zai) (by simp),aV (ks:=zab) (by simp)];simp only [or_none,vW]
theorem aa' (h:Str):dB cZ [h]=fit zaZ [h]:=by
 rw [j2,aV (ks:=zao) (by simp),aV (ks:=zah) (by simp),aV (ks:=zac) (by simp),aV (ks:=zap) (by simp),aV (ks:=zaB) (by simp),aV (ks:=zai) (by simp),aV (ks:=zab) (by simp)];simp only [or_none,vW]
theorem name_val {w:Str}(h:Pu w=true):valOf "NAME" w=some (.w w):=by rw [alP,abv h]
theorem i_ (h:afQ k=true):valOf k k=some (.w k):=by rw [v_lit h,abv rfl]
theorem fA (h:Sz 50 r):valOf "NUMBER" (hV r)=some (.q r):=by rw [aq0,uW (tG (h.up (by decide)))];rfl
theorem aba (k:Nat):tx (k:Int)=hV ((k:Int):Rat):=by
 unfold hV;rw [oa];exact (lh (q:=((k:Int),1)) rfl).symm
theorem afR {k:Nat}(h1:1<=k)(h3:k<=3):valOf "MANY" (tx (k:Int))=some (.n (k:Int)):=by
 rw [alQ,aba,yL (tG ((tE (by omega)).up (by decide)))];unfold U5;rw [oa,abv ⟨rfl,by show (1:Int)<=k;omega,by show (k:Int)<=60;omega⟩];rfl
theorem j3 {w:Str}(h:bD w):valOf "NAME" w=some (.w w):=name_val (pI.mpr h)
theorem abb (i:Nat)(h:i<100):bD (("p":Str)++tx (i:Int)):=by
 have lt:=gj (n:=(i:Int)) (k:=2) (by decide) (by show i<100;omega);have k6:("p":Str).length=1:=by decide+kernel
 have sp:Sn ("p":Str):=by
  have k:∀c∈("p":Str).cps.toList,eJ c=true:=by decide+kernel
  exact k
 exact i9 (lC sp (ahK i)) (by rw [abG];omega) (by rw [abG];omega)
structure oK (i:Nat)(r:Rw):Prop where
 g:nv r
 lay:∀pc pre a st,r=.lay pc pre a st->∃j,j<i/\pc=("p":Str)++tx (j:Int)
theorem qh.afS (h:qh K H M n u r)(g:nv r):oK n r:=⟨g,fun pc pre a st e=>by
 subst e;cases h with
 | lay t i pre va vs tv a s st e hi=>exact ⟨i,hi,rfl⟩⟩
structure Vg (ws:η)(sg:Sg):Prop where
 wd:∀w∈ws,Wd w
 ne:ws≠[]
 len:ws.length<=8
 ok:N' sg
 rd:dB cZ ws=some (d_ sg)
theorem Sm {w:Str}(h:(decide (w.length<=400) && w.cps.toList.all (fun c=>decide (c<1000) && (!decide (c=32) && !decide (c=10))))=true):Wd w:=by
 rw [ac8,decide_eq_true_eq,afP] at h;refine ⟨h.1,fun c hc=>?_⟩;have:=h.2 c hc;simp only [ac8,decide_eq_true_eq,aeM,decide_eq_false_iff_not] at this;exact this
theorem rj (h:Sz 50 r):Wd (hV r):=afk (tG (h.up (by decide)))
theorem oK.lin (h:oK i r)(hi:i<=50):Vg (ck r) (.row r):=by
 have wp:Wd ("pin":Str):=Sm (by decide+kernel);have wb:Wd ("bar":Str):=Sm (by decide+kernel);have wl:Wd ("lay":Str):=Sm (by decide+kernel);have wf:Wd ("fixed":Str):=Sm (by decide+kernel);have wr:Wd ("roller":Str):=Sm (by decide+kernel);have sg:∀{r:Rat},Sz 50 r->Good (qr r):=fun h=>tG (h.up (by decide));have g:=h.g;cases r with
 | pin p=>
  obtain ⟨gn,gx,gy,gw⟩:=g;obtain ⟨nm,sp,ws⟩:=p;have gw':Sb ws:=gw
  rcases gw' with e|⟨x,y,e,_,zx,zy⟩|e
  ·subst e
   refine ⟨fun w hw=>?_,(by simp [ck]),(by show 4<=8;decide),⟨gn,sg gx,sg gy,.inl rfl⟩,?_⟩
   ·simp only [ck,ji,aa3,ac_,or_false] at hw
    rcases hw with rfl|rfl|rfl|rfl
    ·exact wp
    ·exact gn.wd
    ·exact rj gx
    ·exact rj gy
   ·show dB cZ ["pin",nm,hV sp.1,hV sp.2]=_
    rw [WO];exact bN (i_ (by decide+kernel)) (bN (j3 gn) (bN (fA gx) (bN (fA gy) kO)))
  ·subst e
   refine ⟨fun w hw=>?_,(by simp [ck]),(by show 7<=8;decide),⟨gn,sg gx,sg gy,.inr (.inr ⟨_,rfl,sg zx,sg zy⟩)⟩,?_⟩
   ·simp only [ck,ji,aa3,ac_,or_false] at hw
    rcases hw with rfl|rfl|rfl|rfl|rfl|rfl|rfl
    ·exact wp
    ·exact gn.wd
    ·exact rj gx
    ·exact rj gy
    ·exact wr
    ·exact rj zx
    ·exact rj zy
   ·show dB cZ ["pin",nm,hV sp.1,hV sp.2,"roller",hV x,hV y]=_
    rw [alS];exact bN (i_ (by decide+kernel)) (bN (j3 gn) (bN (fA gx) (bN (fA gy) (bN (i_ (by decide+kernel)) (bN (fA zx) (bN (fA zy) kO))))))
  ·subst e
   refine ⟨fun w hw=>?_,(by simp [ck]),(by show 5<=8;decide),⟨gn,sg gx,sg gy,.inr (.inl rfl)⟩,?_⟩
   ·simp only [ck,ji,aa3,ac_,or_false] at hw
    rcases hw with rfl|rfl|rfl|rfl|rfl
    ·exact wp
    ·exact gn.wd
    ·exact rj gx
    ·exact rj gy
    ·exact wf
   ·show dB cZ ["pin",nm,hV sp.1,hV sp.2,"fixed"]=_
    rw [aa9,oJ (k:="lay") (by decide+kernel) (by decide+kernel),vW];exact bN (i_ (by decide+kernel)) (bN (j3 gn) (bN (fA gx) (bN (fA gy) (bN (i_ (by decide+kernel)) kO))))
 | bar x a b=>
  obtain ⟨g1,g2,g3⟩:=g;refine ⟨fun w hw=>?_,(by simp [ck]),(by show 4<=8;decide),⟨g1,g2,g3⟩,?_⟩
  ·simp only [ck,aa3,ac_,or_false] at hw
   rcases hw with rfl|rfl|rfl|rfl
   ·exact wb
   ·exact g1.wd
   ·exact g2.wd
   ·exact g3.wd
  ·show dB cZ ["bar",x,a,b]=_
   rw [WQ];exact bN (i_ (by decide+kernel)) (bN (j3 g1) (bN (j3 g2) (bN (j3 g3) kO)))
 | lay pc pre a st=>
  obtain ⟨j,hj,rfl⟩:=h.lay pc pre a st rfl;have np:=abb j (by omega);obtain ⟨gp,gx,gy,gs⟩:=g;cases st with
  | none=>
   refine ⟨fun w hw=>?_,(by simp [ck]),(by show 5<=8;decide),⟨np,gp,sg gx,sg gy,fun _ _ z=>nomatch z⟩,?_⟩
   ·simp only [ck,aa3,ac_,or_false] at hw
    rcases hw with rfl|rfl|rfl|rfl|rfl
    ·exact wl
    ·exact np.wd
    ·exact gp.wd
    ·exact rj gx
    ·exact rj gy
   ·show dB cZ ["lay",_,pre,hV a.1,hV a.2]=_
    rw [aa9,oJ (k:="pin") (by decide+kernel) (by decide+kernel),or_none];exact bN (i_ (by decide+kernel)) (bN (j3 np) (bN (j3 gp) (bN (fA gx) (bN (fA gy) kO))))
  | some z=>
   obtain ⟨k,s⟩:=z;obtain ⟨k1,k3,zx,zy⟩:=gs k s rfl;refine ⟨fun w hw=>?_,(by simp [ck]),(by show 8<=8;decide),⟨np,gp,sg gx,sg gy,fun k' s' e=>by cases e;exact ⟨k1,by omega,sg zx,sg zy⟩⟩,?_⟩
   ·simp only [ck,aa3,ac_,or_false] at hw
    rcases hw with rfl|rfl|rfl|rfl|rfl|rfl|rfl|rfl
    ·exact wl
    ·exact np.wd
    ·exact gp.wd
    ·exact rj gx
    ·exact rj gy
    ·rw [aba];exact rj (tE (by omega))
    ·exact rj zx
    ·exact rj zy
   ·show dB cZ ["lay",_,pre,hV a.1,hV a.2,tx (k:Int),hV s.1,hV s.2]=_
    rw [alT];exact bN (i_ (by decide+kernel)) (bN (j3 np) (bN (j3 gp) (bN (fA gx) (bN (fA gy) (bN (afR k1 k3) (bN (fA zx) (bN (fA zy) kO)))))))
theorem Vg.sg (h:Vg ws s):xG (abN " " ws)=some s:=aa8 h.ok (by rw [mK h.ne h.wd];exact h.rd)
theorem Vh {ws:η}(h:∀w∈ws,Wd w)(l:ws.length<=8):(abN " " ws).length<=4000:=by
 have go:∀l:List Str,(∀w∈l,Wd w)->(l.map (·.length)).sum<=400*l.length:=by
  intro l
  induction l with
  | nil=>intro _;exact aaM _
  | cons r t ih=>
   intro h;have:=ih fun z hz=>h z (aa2 _ hz);have:=(h r aa_).len;show r.length+(t.map (·.length)).sum<=400*(t.length+1);omega
 have:=go _ h;have lsp:(" ":Str).length=1:=by decide+kernel
 rw [show abN " " ws=Builtin.Str.glued " " ws from rfl,size_glued,lsp];omega
theorem Vg.row (h:Vg ws s):U' xG (abN " " ws):=by
 have ll:=Vh h.wd h.len;refine ⟨aah (show (abN " " ws).length+2<=5000 by omega) (by decide),?_,?_,?_,?_⟩
 ·rw [mK h.ne h.wd];have:=h.len;omega
 ·rw [mK h.ne h.wd];exact fun w hw=>(h.wd w hw).txk
 ·rw [mK h.ne h.wd,h.sg];exact h.rd
 ·intro sg e
  rw [h.sg] at e;rw [<-aaQ e];exact h.ok
theorem FT (i:Nat)(h:i<100):Vg ["piece",("p":Str)++tx (i:Int)] (.ik (("p":Str)++tx (i:Int))):=by
 have np:=abb i h;refine ⟨fun w hw=>?_,by simp,(by show 2<=8;decide),np,?_⟩
 ·simp only [aa3,ac_,or_false] at hw
  rcases hw with rfl|rfl
  ·exact Sm (by decide+kernel)
  ·exact np.wd
 ·rw [alU]
  exact bN (i_ (by decide+kernel)) (bN (j3 np) kO)
theorem Vi:Vg zaZ .fin:=by
 refine ⟨fun w hw=>?_,by simp,(by show 1<=8;decide),trivial,?_⟩
 ·rw [aaT.mp hw]
  exact Sm (by decide+kernel)
 ·rw [aa']
  exact bN (i_ (by decide+kernel)) kO
theorem FU (i:Nat):("piece p":Str)++tx (i:Int)=abN " " ["piece",("p":Str)++tx (i:Int)]:=by
 refine jE ?_;rw [blank,show abN (⟨#[32]⟩:Str) ["piece",("p":Str)++tx (i:Int)]=Str.join ⟨#[32]⟩ ["piece",("p":Str)++tx (i:Int)] from adn _ _,pC];show (("piece p":Str)++tx (i:Int)).cps.toList=("piece":Str).cps.toList++32::(("p":Str)++tx (i:Int)).cps.toList;rw [cps_append,cps_append,show ("piece p":Str).cps.toList=("piece":Str).cps.toList++32::("p":Str).cps.toList by decide+kernel];simp
theorem Vj:("end":Str)=abN " " zaZ:=by decide+kernel
section
variable {Q:Sh->Prop}{E:Nat->Prop}{t:η}
theorem So {ps:ν}(hi:i<=50):∀(rs o:Α)(k:Nat),(∀r∈rs,oK i r)->(∀pc pre a st,Rw.lay pc pre a st∈rs->pc∈ps.map (·.1))->(∀k,d5 xG t k ⟨o++rs,ps,none⟩ Q E)->d5 xG (rs.map c9++t) k ⟨o,ps,none⟩ Q E
 | [],o,k,_,_,h=>by
  have:=h k;rw [aeL] at this;exact this
 | r::rs,o,k,hr,hl,h=>by
  have Sf:=hr r aa_
  have st:cI ⟨o,ps,none⟩ (.row r)=true:=by
   have g:=Sf.g;cases r with
   | pin p=>
    obtain ⟨_,_,_,gw⟩:=g;simp only [cI,aeM,decide_eq_false_iff_not];intro z
    rcases gw with e|⟨x,y,e,n,_⟩|e
    ·rw [e] at z;cases z
    ·rw [e] at z;simp at z;exact n z
    ·rw [e] at z;simp at z
   | bar x a b=>rfl
   | lay pc pre a s=>
    simp only [cI,ac8,decide_eq_true_eq,aeM,decide_eq_false_iff_not];exact ⟨hl pc pre a s aa_,fun z=>nomatch z⟩
  show d5 xG (c9 r::(rs.map c9++t)) k ⟨o,ps,none⟩ Q E;unfold d5;rw [show xG (c9 r)=some (.row r) from (Sf.lin hi).sg];dsimp only;rw [abv st];exact So hi rs (o++[r]) (k+1) (fun r' m=>hr r' (aa2 _ m)) (fun pc pre a s m=>hl pc pre a s (aa2 _ m)) (fun k=>by rw [afC];exact h k)
theorem abc {n:Str}{acc:Α}(nn:n∉ps.map (·.1)):cO (ps++[(n,acc)]) n r=ps++[(n,acc++[r])]:=by
 unfold cO;rw [ac1];congr 1
 ·refine (aj0 fun p hp=>abp fun e=>nn ?_).trans (List.map_id _)
  rw [<-e];exact ac3.mpr ⟨p,hp,rfl⟩
 ·show [if n=n then _ else _]=_
  rw [abv rfl]
theorem ahW {ps:ν}{o:Α}(hi:i<=50)(nn:n∉ps.map (·.1)):∀(rs acc:Α)(k:Nat),(∀r∈rs,oK i r)->(∀pc pre a st,Rw.lay pc pre a st∈rs->pc∈ps.map (·.1))->(∀k,d5 xG t k ⟨o,ps++[(n,acc++rs)],some n⟩ Q E)->d5 xG (rs.map c9++t) k ⟨o,ps++[(n,acc)],some n⟩ Q E
 | [],acc,k,_,_,h=>by
  have:=h k;rw [aeL] at this;exact this
 | r::rs,acc,k,hr,hl,h=>by
  have Sf:=hr r aa_
  have st:cI ⟨o,ps++[(n,acc)],some n⟩ (.row r)=true:=by
   have g:=Sf.g;cases r with
   | pin p=>
    obtain ⟨_,_,_,gw⟩:=g;simp only [cI,aeM,decide_eq_false_iff_not];intro z
    rcases gw with e|⟨x,y,e,n,_⟩|e
    ·rw [e] at z;cases z
    ·rw [e] at z;simp at z;exact n z
    ·rw [e] at z;simp at z
   | bar x a b=>rfl
   | lay pc pre a s=>
    have m:=hl pc pre a s aa_;simp only [cI,ac8,decide_eq_true_eq,aeM,decide_eq_false_iff_not];refine ⟨by rw [ac1];exact agU _ m,fun z=>nn ?_⟩;rw [aaQ z];exact m
  show d5 xG (c9 r::(rs.map c9++t)) k ⟨o,ps++[(n,acc)],some n⟩ Q E;unfold d5;rw [show xG (c9 r)=some (.row r) from (Sf.lin hi).sg];dsimp only;rw [abv st]
  have ek:iB ⟨o,ps++[(n,acc)],some n⟩ (.row r)=⟨o,ps++[(n,acc++[r])],some n⟩:=by
   show (⟨o,cO (ps++[(n,acc)]) n r,some n⟩:Sh)=_;rw [abc nn]
  rw [ek];exact ahW hi nn rs (acc++[r]) (k+1) (fun r' m=>hr r' (aa2 _ m)) (fun pc pre a s m=>hl pc pre a s (aa2 _ m)) (fun k=>by rw [afC];exact h k)
theorem zD:∀(bj:ρ)(i:Nat),(bV i bj).map (·.1)=(List.range' i bj.length).map fun (j:Nat)=>("p":Str)++tx (j:Int)
 | [],_=>rfl
 | p::t,i=>by
  show _::(bV (i+1) t).map (·.1)=_;rw [zD t (i+1)];rfl
theorem Pw:∀(bj:ρ)(i:Nat),(bV i bj).length=bj.length
 | [],_=>rfl
 | p::t,i=>by
  show (bV (i+1) t).length+1=t.length+1;rw [Pw t (i+1)]
theorem abd {o:Α}:∀(bj:ρ)(i:Nat)(ps:ν)(k:Nat),i+bj.length<=50->ps.map (·.1)=(afD i).map (fun (j:Nat)=>("p":Str)++tx (j:Int))->(∀j p,bj[j]?=some p->∀r∈p,oK (i+j) r)->(∀k,d5 xG t k ⟨o,ps++bV i bj,none⟩ Q E)->d5 xG (bP i bj++t) k ⟨o,ps,none⟩ Q E
 | [],i,ps,k,_,_,_,h=>by
  have:=h k;rw [show ps++bV i []=ps from aeL _] at this;exact this
 | p::bj,i,ps,k,l,hn,hr,h=>by
  have l':bj.length+1=(p::bj).length:=rfl
  have nn:("p":Str)++tx (i:Int)∉ps.map (·.1):=fun z=>by
   rw [hn] at z;obtain ⟨j,hj,e⟩:=ac3.mp z;rw [ahG] at hj;have:=ahV (by omega) (by omega) e;omega
  show d5 xG ((("piece p":Str)++tx (i:Int))::(p.map c9++[("end":Str)])++bP (i+1) bj++t) k ⟨o,ps,none⟩ Q E;rw [FU];rw [show (abN " " ["piece",("p":Str)++tx (i:Int)]::(p.map c9++[("end":Str)])++bP (i+1) bj++t)=abN " " ["piece",("p":Str)++tx (i:Int)]::(p.map c9++(("end":Str)::(bP (i+1) bj++t))) by simp];unfold d5;rw [(FT i (by omega)).sg];dsimp only;rw [abv (show cI ⟨o,ps,none⟩ (.ik (("p":Str)++tx (i:Int)))=true by simp only [cI,ac8,decide_eq_true_eq,aeM,decide_eq_false_iff_not];exact ⟨trivial,nn⟩)];have r0:∀r∈p,oK i r:=hr 0 p rfl;refine ahW (i:=i) (by omega) nn p [] (k+1) r0 (fun pc pre a st m=>?_) (fun k=>?_)
  ·obtain ⟨j,hj,rfl⟩:=(r0 _ m).lay pc pre a st rfl
   rw [hn];exact ac3.mpr ⟨j,ahG.mpr hj,rfl⟩
  ·rw [apa,Vj]
   unfold d5;rw [Vi.sg];dsimp only;rw [abv (by simp [cI])];show d5 xG (bP (i+1) bj++t) (k+1) ⟨o,ps++[(("p":Str)++tx (i:Int),p)],none⟩ Q E;refine abd bj (i+1) _ (k+1) (by omega) ?_ (fun j q e r m=>?_) (fun k=>?_)
   ·rw [ac1,hn,List.range_succ,ac1]
    rfl
   ·have:=hr (j+1) q e r m
    rw [show i+(j+1)=i+1+j by omega] at this;exact this
   ·rw [afC]
    exact h k
end
theorem afT (l6:bj.length<=6)(ho:∀r∈out,oK bj.length r)(hp:∀j p,bj[j]?=some p->∀r∈p,oK j r)(hf:∀r∈out.take f,lY r=false)(q:Q ⟨out,bV 0 bj,none⟩):d5 xG (jA f bj out) 0 ⟨[],[],none⟩ Q (fun _=>False):=by
 unfold jA;rw [afC];refine So (i:=bj.length) (by omega) _ _ 0 (fun r m=>ho r (aeP m)) (fun pc pre a st m=>?_) (fun k=>?_)
 ·have:=hf _ m
  cases this
 refine abd bj 0 [] k (by omega) rfl (fun j p e r m=>by rw [aok];exact hp j p e r m) (fun k=>?_);have:=So (Q:=Q) (E:=fun _=>False) (t:=[]) (ps:=bV 0 bj) (i:=bj.length) (by omega) (out.drop f) (out.take f) k (fun r m=>ho r (afj m)) (fun pc pre a st m=>?_) (fun k=>?_)
 ·rw [aeL] at this
  exact this
 ·obtain ⟨j,hj,rfl⟩:=(ho _ (afj m)).lay pc pre a st rfl
  rw [zD];exact ac3.mpr ⟨j,by rw [List.mem_range'_1];omega,rfl⟩
 ·rw [ahP]
  show (if (none:Option Str)=none then Q _ else _);rw [abv rfl];exact q
theorem abe (l6:bj.length<=6)(ho:∀r∈out,oK bj.length r)(hp:∀j p,bj[j]?=some p->∀r∈p,oK j r):∀x∈jA f bj out,∃ws sg,x=abN " " ws/\Vg ws sg:=by
 have rs:∀{i:Nat} {rows:Α},i<=50->(∀r∈rows,oK i r)->∀x∈rows.map c9,∃ws sg,x=abN " " ws/\Vg ws sg:=fun {i rows} hi h x hx=>by
  obtain ⟨r,hr,rfl⟩:=ac3.mp hx;exact ⟨_,_,rfl,(h r hr).lin hi⟩
 have ps:∀(bj:ρ)(i:Nat),i+bj.length<=50->(∀j p,bj[j]?=some p->∀r∈p,oK (i+j) r)->∀x∈bP i bj,∃ws sg,x=abN " " ws/\Vg ws sg:=by
  intro bj
  induction bj with
  | nil=>intro i _ _ x hx;cases hx
  | cons p t ih=>
   intro i l hr x hx;have l':t.length+1=(p::t).length:=rfl
   rcases abh.mp hx with hx|hx
   ·rcases aa3.mp hx with rfl|hx
    ·exact ⟨_,_,FU i,FT i (by omega)⟩
    ·rcases abh.mp hx with hx|hx
     ·exact rs (by omega) (hr 0 p rfl) x hx
     ·rw [aaT.mp hx]
      exact ⟨_,_,Vj,Vi⟩
   ·exact ih (i+1) (by omega) (fun j q e r m=>by have:=hr (j+1) q e r m;rw [show i+(j+1)=i+1+j by omega] at this;exact this) x hx
 intro x hx
 rcases abh.mp hx with hx|hx
 ·rcases abh.mp hx with hx|hx
  ·exact rs (by omega) (fun r m=>ho r (aeP m)) x hx
  ·exact ps bj 0 (by omega) (fun j p e r m=>by rw [aok];exact hp j p e r m) x hx
 ·exact rs (by omega) (fun r m=>ho r (afj m)) x hx
theorem Vg.pos {sg:Sg}(h:Vg ws sg):abN " " ws≠ "":=fun z=>by
 have r:=h.sg;rw [z] at r
 have n:xG ""=none:=by
  unfold xG;rw [dif_neg];rintro ⟨sg,_,e⟩;rw [show ab6 "" " "=([""]:List Str) from by decide+kernel,aa',oJ (by decide+kernel) (by decide+kernel)] at e;cases e
 rw [n] at r;cases r
theorem abf (w:Θ)(ws:List (List Nat)):∃r,jn c (w::ws)=w++r:=by
 cases ws with
 | nil=>exact ⟨[],(aeL _).symm⟩
 | cons v t=>exact ⟨_,rfl⟩
theorem WR {ls:η}(h:∀x∈ls,∃ws sg,x=abN " " ws/\Vg ws sg):jZ (abN "\n" ls)=ls:=by
 cases ls with
 | nil=>exact abv (by decide+kernel)
 | cons x t=>
  obtain ⟨ws,sg,e,hl⟩:=h x aa_
  have ne:abN "\n" (x::t)≠ "":=fun z=>hl.pos (by
   rw [<-e];have z2:=abV (fun s:Str=>s.cps.toList) z;rw [aaz,show abN (⟨#[10]⟩:Str) (x::t)=Str.join ⟨#[10]⟩ (x::t) from adn _ _] at z2;rw [pC] at z2;refine jE ?_;rw [show ("":Str).cps.toList=[] from by decide+kernel] at z2 ⊢;have:=(abf (c:=10) (x.cps.toList) (t.map fun w=>w.cps.toList));obtain ⟨r,er⟩:=this;have z3:jn 10 (x.cps.toList::t.map fun w=>w.cps.toList)=[]:=z2;rw [er] at z3
   exact (List.append_eq_nil_iff.mp z3).1)
  unfold jZ;rw [abp ne,aaz];refine qR (by simp) fun w hw=>?_;obtain ⟨ws,sg,e,hl⟩:=h w hw;rw [e];exact ak2 hl.wd
theorem nC.fresh (h:nC K H M us bj)(n:∀b∈M',H b=none)(s:au H H'):nC K H' M' us bj:=⟨h.len,fun i u p a b=>by
 have z:=h.pc i u p a b;obtain ⟨t1,rl,kl,us,kn,e,h1,h2,h3,h4,h5,h6,h7,h8⟩:=z.ex
 exact ⟨⟨t1,rl,kl,us,kn,e,Ty.au.cy s h1,(fun m=>by rw [n _ m] at h3;cases h3),s _ _ h3,Paired.bJ h4 fun _ _ y=>y.mono (fun b xs _ e=>s _ _ e) (.of s) (fun b m=>.inr (n b m)) (aaM _),(fun m=>by rw [n _ m] at h6;cases h6),s _ _ h6,h7,h8⟩,z.ok,z.len⟩⟩
theorem nC.afS (h:nC K H M us bj):∀j p,bj[j]?=some p->∀r∈p,oK j r:=fun j p e r m=>by
 have jl:=(Wp.mp e).1;have z:=h.pc j (us[j]'(by rw [h.len];exact jl)) p (gE _) e;obtain ⟨t1,rl,kl,qb,kn,_,_,_,_,h4,_⟩:=z.ex;obtain ⟨k,ek⟩:=ade m;have kl':k<qb.length:=by rw [abK h4];exact (Wp.mp ek).1
 obtain ⟨r',e',hr⟩:=aY h4 (gE kl');rw [ek] at e';rw [aaQ e'];exact hr.afS (by rw [<-aaQ e'];exact z.ok r m)
theorem nC.l6 (h:nC K H M us bj):∀p∈bj,p.length<=6:=fun p m=>by
 obtain ⟨j,e⟩:=ade m;have jl:=(Wp.mp e).1;exact (h.pc j (us[j]'(by rw [h.len];exact jl)) p (gE _) e).len
theorem Px (ns:List Int)(a b:Int)(h0:0<=a)(h1:a<=b)(h2:b<=a+6):∃cs:List Int,r8 (ns.map V.int) (some a) (some b)=cs.map V.int/\cs.length<=6/\∀c∈cs,c∈ns:=by
 have ea:HT.qH (ns.map V.int).length 0 (some a)=min a.toNat ns.length:=by
  simp only [HT.qH,ir];split<;>omega
 have eb:HT.qH (ns.map V.int).length (ns.map V.int).length (some b)=min b.toNat ns.length:=by
  simp only [HT.qH,ir];split<;>omega
 refine ⟨(ns.drop (min a.toNat ns.length)).take (min b.toNat ns.length-min a.toNat ns.length),?_,?_,fun c hc=>afj (aeP hc)⟩
 ·unfold r8
  rw [ea,eb,<-List.map_drop,<-ahz]
 ·rw [aep]
  omega
theorem Py:∀(bj:ρ)(i:Nat),(∀p∈bj,p.length<=6)->(bP i bj).length<=8*bj.length
 | [],_,_=>aaM _
 | p::t,i,h=>by
  show (gI i p++bP (i+1) t).length<=8*(t.length+1);have:=Py t (i+1) fun q m=>h q (aa2 _ m);have:=h p aa_;unfold gI;rw [aae,ac5,aae,ir,ac0];omega
structure TxG (x:Str)(bj:ρ)(out:Α):Prop where
 len:x.length+2<=abl
 rows:(jZ x).length<=900
 rd:∀r∈jZ x,U' xG r
 read:∀Q:Sh->Prop,Q ⟨out,bV 0 bj,none⟩->d5 xG (jZ x) 0 ⟨[],[],none⟩ Q (fun _=>False)
 l13:(bV 0 bj).length<=13
theorem FV (l6:bj.length<=6)(o6:out.length<=6)(p6:∀p∈bj,p.length<=6)(ho:∀r∈out,oK bj.length r)(hp:∀j p,bj[j]?=some p->∀r∈p,oK j r)(hf:∀r∈out.take f,lY r=false):TxG (abN "\n" (jA f bj out)) bj out:=by
 have hl:=abe (f:=f) l6 ho hp
 have ll:(jA f bj out).length<=60:=by
  have:=Py bj 0 p6;unfold jA;rw [aae,aae,ir,ir,aep,afh];omega
 have go:∀l:List Str,(∀x∈l,∃ws sg,x=abN " " ws/\Vg ws sg)->(l.map (·.length)).sum<=4000*l.length:=by
  intro l
  induction l with
  | nil=>intro _;exact aaM _
  | cons r t ih=>
   intro h;have:=ih fun z hz=>h z (aa2 _ hz);obtain ⟨ws,sg,e,hl⟩:=h r aa_;have:=Vh hl.wd hl.len;rw [<-e] at this;show r.length+(t.map (·.length)).sum<=4000*(t.length+1);omega
 have rt:=WR hl;refine ⟨?_,by rw [rt];omega,?_,fun Q q=>by rw [rt];exact afT l6 ho hp hf q,by rw [Pw];omega⟩
 ·have:=go _ hl
  have lsp:("\n":Str).length=1:=by decide+kernel
  refine aah ?_ (show 300000<=abl by decide);rw [show abN "\n" (jA f bj out)=Builtin.Str.glued "\n" (jA f bj out) from rfl,size_glued,lsp];omega
 ·rw [rt]
  intro r m;obtain ⟨ws,sg,e,hl⟩:=hl r m;rw [e];exact hl.row
def zE:List Rw:=[.pin ⟨"a",(0,0),[]⟩,.pin ⟨"b",(0,0),[]⟩,.bar "c" "a" "b"]
theorem ay4:hV 0="0":=by
 unfold hV;rw [eZ];decide+kernel
theorem aq1:abN "\n" (jA 0 [] zE)="pin a 0 0\npin b 0 0\nbar c a b":=by
 have e:jA 0 [] zE=(["pin a 0 0","pin b 0 0","bar c a b"]:List Str):=by
  show [abN " " ["pin","a",hV 0,hV 0],abN " " ["pin","b",hV 0,hV 0],abN " " ["bar","c","a","b"]]=_;rw [ay4];decide+kernel
 rw [e];decide+kernel
theorem good3:TxG "pin a 0 0\npin b 0 0\nbar c a b" [] zE:=by
 rw [<-aq1];have na:bD "a":=pI.mp (by decide+kernel);have nb:bD "b":=pI.mp (by decide+kernel);have nc:bD "c":=pI.mp (by decide+kernel);have z:Sz 50 0:=tE (i:=0) (by decide);refine FV (by decide) (by decide) (fun _ h=>nomatch h) (fun r m=>?_) (fun _ _ e=>by simp at e) (fun _ h=>nomatch h);simp only [zE,aa3,ac_,or_false] at m
 rcases m with rfl|rfl|rfl
 ·exact ⟨⟨na,z,z,.inl rfl⟩,fun _ _ _ _ e=>nomatch e⟩
 ·exact ⟨⟨nb,z,z,.inl rfl⟩,fun _ _ _ _ e=>nomatch e⟩
 ·exact ⟨⟨nc,na,nb⟩,fun _ _ _ _ e=>nomatch e⟩
theorem ahX (s:Str):("":Str)++s=s:=by
 refine jE ?_;rw [cps_append,show ("":Str).cps.toList=[] from by decide+kernel];rfl
theorem aq2 {E:Λ}(h:E (.length "c")):jx (bV 0 []) 13 zE "" (0,0) ⟨[],[],0⟩ Q E:=by
 have ab:("b":Str)≠ "a":=by decide+kernel
 have ba:("a":Str)≠ "b":=by decide+kernel
 show gF _ "" (0,0) zE ⟨[],[],0⟩ [] Q E;unfold zE;simp only [gF,ala,lX,nj,FJ,ownAt,ahX];simp [ab,ba,qT,aaA,ahX];exact h
theorem ip:aC zaj ["_law_script"] (aa oh):=sq
theorem alV (F:mf K "law" "law" oh f fd)(dS:mg "range"=none)
  (Sq:Fn P w K mg base (aT P w) 1 "_law_cell_at" zaM (R_ K)) (Sr:Fn P w K mg base (aT P w) 1 "_law_menu" zat Sa) (zF:Fn P w K mg base (aT P w) 36 "_law_rows" zaw (IX K)) (ri:Fn P w K mg base (aT P w) 62 "_law_laid" zae (mQ K 13)) (Ss:Fn P w K mg base (aT P w) 3 "_law_text" zav (IY K)) (qj:Fn P w K mg base (aT P w) 67 "_law_outcome" za1 (aaY K C)) (abg:Fn P w K mg base (aT P w) 5 "_law_is" zaA (aa0 K C)):
  bT P w K mg base (aT P w) 70 f fd ["_law_script"] (Zv K):=by
 refine F.okG ip (fun vs H Q E h=>?_) (fun cdv A outer s H vs Q E hr h=>?_)
 ·obtain ⟨a,ns,rfl,_⟩:=h
  rfl
 obtain ⟨sA,ns,rfl,hS,hn,hb,q⟩:=h;have L2:2<=abl:=by decide
 have L0:0<=abl:=by decide
 have cM:∀{z:Int},0<=z->z<=1000->vL 12 z/\vL 4 z:=fun h0 h1=>⟨⟨by decide,aah (acp (by omega) (by omega)) (by decide)⟩,⟨by decide,aah (acp (by omega) (by omega)) (by decide)⟩⟩
 have aq3:∃t,PSs (kh (aT P w) P w K mg base zaj "law" (aa oh) f cdv A outer s H E).wm ((aq oh).drop 5) t/\∀(H2:Hp)(nl pl:abj)(xs:η)(parts st:Int),au H H2->H pl=none->nl≠pl->H2 nl=some (.lst (xs.map V.str))->OX xs->H2 pl=some (.lst [])->0<=parts->parts<=6->0<=st->st<=30->
   t {nx:=fun _ H'=>Q .bG H',rt:=Q} [some (.ref sA),some (.ref nl),some (.ref pl),some (.int parts),some (.int st),none,none,none,none,none,none] H2:=by
  refine ⟨_,(ag (dU abW rfl (jI rfl dS (aE (pv 3))) (hU (i:=5) ip.nd) (ag (aR (i:=6) ip.nd (aD dW ak (aD bE (aD cS (dh Sq hr (aU (pv 0) ak)) (aD dW ak (aD d6 ak (pv 5)))) ak))) (ae (bg (gA abQ abO abP dc (pv 2) (aE (dh zF hr (gO (jb mx (pv 0) (iW (aD dW ak (aD d6 ak (pv 5)))) (iW (aD dW (aD dW ak (aD d6 ak (pv 5))) (pv 6)))) (pv 1) (pv 2))))))))) (ag (aR (i:=7) ip.nd (aI (dh zF hr (gO (jb mx (pv 0) (iW (pv 4)) (iW (aD dW (pv 4) (aD bE (aD cS (dh Sq hr (aU (pv 0) ak)) ak) ak)))) (pv 1) (pv 2))))) (ag (aR (i:=8) ip.nd (ae3 (nY aw (bY h_) (nY aw (bY h_) (nY aw (pv 2) (nY aw ak (nY aw bS ae2))))) rfl rfl (List.cons_ne_nil _ _) (by decide))) (ag (bg (dh ri hr (nV (pv 8) (nV (pv 7) (gO aw (aX (aU ak ak)) (aX (aU ak ak))))))) (ag (aR (i:=9) ip.nd (dh Ss hr (gO (pv 7) (pv 2) (jC cn (aD bE (dh Sq hr (aU (pv 0) ak)) ak) ak (qF _))))) (ag (dU abW rfl (jI rfl dS (aE ak)) (hU (i:=5) ip.nd) (ag (aR (i:=10) ip.nd (dh qj hr (aE (pv 9)))) (ag (aS (PW.pt (jO (aL oZ (bL (bB hr) (pv 8) aw (fun _ _=>rfl)) bS) (iV (aL (ku hr.units) (pv 10) (bL (bB hr) (pv 8) aw (fun _ _=>rfl)))))) (ae (aH vG)) aG) (ag (aS (PW.pt (jO (aL iC (bL (bB hr) (pv 8) aw (fun _ _=>rfl)) bS) (iV (PW.pt (pZ (aL nL (aI (pv 10)) aw) (mn (h9 (gi (dh abg hr (gO (aI (pv 10)) (bL (bB hr) (pv 8) aw (fun _ _=>rfl)) (bL (bB hr) (pv 8) aw (fun _ _=>rfl)))))))))))) (ae (aH vG)) aG) (ae (aS (aL (ku hr.units) (dh qj hr (aE aw)) (aX (aU aw aw))) (ae (aH vG)) aG)))))) (ae (aH vG)))))))),?_⟩
  intro H2 nl pl xs parts st s2 npl nnp enl nx epl p0 p6 st0 aJZ;have bits:∀{cs:List Int},(∀c∈cs,c∈ns)->∀c∈cs,intBits c<=2000000:=fun h c hc=>aah (hb c (h c hc)) (by decide);refine ⟨_,rfl,parts,rfl,by omega,by omega,oY (lo:=0) (n:=parts.toNat) (fun i σ H'=>Ex4 fun (o5 o6:ω) (kj:ε) (bj:ρ)=>σ=[some (.ref sA),some (.ref nl),some (.ref pl),some (.int parts),some (.int st),o5,o6,none,none,none,none]/\au H H'/\H' nl=some (.lst (xs.map V.str))/\H' pl=some (.lst kj)/\nC K H' [pl] kj bj/\bj.length=i) ⟨none,none,[],[],rfl,s2,enl,epl,⟨rfl,fun _ _ _ e=>by simp at e⟩,rfl⟩ ?_ ?_⟩
  ·rintro i σ H3 hi ⟨o5,o6,kj,bj,rfl,s3,aq5,aq6,wB,lpc⟩
   have ek:(0:Int)+(i:Int)=(i:Int):=am6 _;rw [ek];have i6:i<6:=by omega
   have hS3:=s3.seq hS;obtain ⟨cm,cm4⟩:=cM (z:=(i:Int)) (by omega) (by omega);refine ⟨_,rfl,sA,ns,1,rfl,hS3,hb,by decide,by decide,fun c1 b1=>?_⟩;refine ⟨_,rfl,_,_,rfl,rfl,cm,_,_,rfl,rfl,_,_,rfl,rfl,dv8 (by omega) (by omega),_,_,rfl,rfl,nz (by decide),_,_,rfl,rfl,?_⟩;have m4:=cz (x:=c1.fdiv (4+12*(i:Int))) (m:=4) (by decide);generalize (c1.fdiv (4+12*(i:Int))).fmod 4=mm at m4;obtain ⟨cs,ecs,lcs,mcs⟩:=Px ns (3+4*(i:Int)) (3+4*(i:Int)+(1+mm)) (by omega) (by omega) (by omega);refine ⟨_,rfl,.inl ⟨rfl,_,aZ.of aq6⟩,_,rfl,_,rfl,_,_,rfl,rfl,cm4,_,_,rfl,rfl,_,rfl,_,rfl,_,_,rfl,rfl,cm4,_,_,rfl,rfl,_,rfl,_,_,rfl,rfl,_,rfl,sA,_,rfl,hS3,?_⟩;rw [ecs];intro cA nc;generalize eX:upd _ cA _=H4;have ⟨s4,ec⟩:=nw nc eX;have alW:=s4 _ _ aq6;refine ⟨_,rfl,_,rfl,cA,nl,pl,cs,xs,kj,bj,rfl,aZ.of ec,lcs,bits mcs,aZ.of (s4 _ _ aq5),nx,alW,(wB.same s4).fresh (fun _ h=>nomatch h) (au.refl _),by omega,fun t rows H5 s5 nt lf=>?_⟩;have aq7:=s5 _ _ alW;have Vc:=wB.len;have LP:=lf [pl] (fun b hb=>by rw [aaT.mp hb,alW];exact fun z=>nomatch z);refine ⟨pl,_,_,rfl,rfl,aq7,aaW (show kj.length<=100 by omega) (by decide),?_⟩;have t56:bf H5 (upd H5 pl (.lst (kj++[.ref t]))):=.list aq7;have kl:∀b xs,b∉[pl]->H5 b=some (.lst xs)->(upd H5 pl (.lst (kj++[.ref t]))) b=some (.lst xs):=fun b xs nb e=>by rw [ah (fun z=>nb (by rw [z];exact aa_))];exact e
   have P5:nC K H5 [pl] (kj++[.ref t]) (bj++[rows]):=by
    refine ⟨by rw [aae,aae,Vc];rfl,fun j u p e1 e2=>?_⟩;by_cases c:j<bj.length
    ·rw [ad_ (by omega)] at e1 e2
     exact ((wB.same s4).same s5).pc j u p e1 e2
    ·have jl:=(Wp.mp e2).1
     rw [aae,ac0] at jl;have ej:j=bj.length:=by omega
     rw [ac' (by omega)] at e1 e2;rw [show j-kj.length=0 by omega] at e1;rw [show j-bj.length=0 by omega] at e2;rw [ej,<-aaQ e1,<-aaQ e2];exact LP
   refine ⟨_,_,kj++[.ref t],bj++[rows],rfl,fun b o e=>?_,?_,ai,P5.keep kl t56,by rw [aae,lpc];rfl⟩
   ·rw [ah (aj e npl)]
    exact s5 _ _ (s4 _ _ (s3 _ _ e))
   ·rw [ah nnp]
    exact s5 _ _ (s4 _ _ aq5)
  rintro σ H6 ⟨o5,o6,kj,bj,rfl,s6,ay9,aq8,wB,lpc⟩;have l6:bj.length<=6:=by omega
  have hS6:=s6.seq hS;refine ⟨_,rfl,_,rfl,_,rfl,_,rfl,_,rfl,sA,ns,2,rfl,hS6,hb,by decide,by decide,fun c2 b2=>?_⟩;have m7:=cz (x:=c2.fdiv 2) (m:=7) (by decide);refine ⟨_,_,rfl,rfl,dv8 (by decide) (by decide),_,_,rfl,rfl,nz (by decide),_,_,rfl,rfl,_,rfl,sA,_,rfl,hS6,?_⟩;generalize (c2.fdiv 2).fmod 7=mm at m7;obtain ⟨cs,ecs,lcs,mcs⟩:=Px ns st (st+mm) (by omega) (by omega) (by omega);rw [ecs];intro cA nc;generalize eX:upd _ cA _=H7;have ⟨s7,ec⟩:=nw nc eX;have ay':=s7 _ _ aq8;refine ⟨_,rfl,_,rfl,cA,nl,pl,cs,xs,kj,bj,rfl,aZ.of ec,lcs,bits mcs,aZ.of (s7 _ _ ay9),nx,ay',(wB.same s7).fresh (fun _ h=>nomatch h) (au.refl _),l6,fun t out H8 s8 nt lf=>?_⟩;have LP:=lf [] (fun b hb=>nomatch hb);obtain ⟨t',oA,kl,us,kn,et',e1,_,eoA,pr,_⟩:=LP.ex;cases et';have s68:=aJ s7 s8;have s08:=aJ s6 s68;refine ⟨t,_,_,_,rfl,rfl,e1,ar (j:=0) rfl,?_⟩
  have hw8:∀r∈out,oK bj.length r:=fun r m=>by
   obtain ⟨k,ek⟩:=ade m;have kl':k<us.length:=by rw [abK pr];exact (Wp.mp ek).1
   obtain ⟨r',e',hr⟩:=aY pr (gE kl');rw [ek] at e';rw [aaQ e'];exact hr.afS (by rw [<-aaQ e'];exact LP.ok r m)
  have azc:=wB.same s68;have aq9:=s68 _ _ aq8;intro wa nwa;have s9:au H8 (upd H8 wa (.dK [])):=a_ nwa _;have ew9:(upd H8 wa (.dK [])) wa=some (.dK []):=ai;generalize upd H8 wa (.dK [])=H9 at s9 ew9 ⊢;refine ⟨L0,?_⟩;intro lp nlp;generalize eX:upd _ lp _=H10;have ⟨s10,elp⟩:=nw nlp eX;refine ⟨L0,?_⟩;intro lb nlb;generalize eX:upd _ lb _=H11;have ⟨s11,elb⟩:=nw nlb eX;have alX:H8 lp=none:=aO s9 nlp;have alY:H8 lb=none:=aO s9 (aO s10 nlb);have nlw:lp≠wa:=ac2 (aj ew9 nlp);have nbw:lb≠wa:=ac2 (aj (s10 _ _ ew9) nlb);have aze :lp≠lb:=aj elp nlb;refine ⟨_,rfl,s11 _ _ (s10 _ _ ew9),bI lp lb pl 0 .bG,rfl,(by show 5<=15;decide),?_⟩;rw [show uL [] (bI lp lb pl 0 .bG)=bI lp lb pl 0 .bG by kernel_rfl];have Yt:au H8 (upd H11 wa (.dK (bI lp lb pl 0 .bG))):=fun b o e=>by rw [ah (aj e nwa)];exact s11 _ _ (s10 _ _ (s9 _ _ e))
  have W12:iA K (upd H11 wa (.dK (bI lp lb pl 0 .bG))) wa lp lb pl ⟨[],[],0⟩ .bG:=⟨ai,⟨[],by rw [ah nlw];exact s11 _ _ elp,.nil⟩,⟨[],by rw [ah nbw];exact elb,.nil⟩,aze,alf,alf,by decide,by decide,by decide⟩;generalize upd H11 wa (.dK (bI lp lb pl 0 .bG))=H12 at Yt W12 ⊢;refine ⟨_,rfl,_,rfl,L2,?_⟩;intro p1 n1;generalize eX:upd _ p1 _=H13;have ⟨s13,e13⟩:=nw n1 eX;refine ⟨L2,?_⟩;intro p2 n2;generalize eX:upd _ p2 _=H14;have ⟨s14,e14⟩:=nw n2 eX;have WS:=aJ Yt (aJ s13 s14);have aq':=aJ s08 WS;have W14:=W12.same (aJ s13 s14)
  have fr:∀b∈[lp,lb],H8 b=none:=fun b hb=>by
   rcases aa3.mp hb with z|z
   ·rw [z];exact alX
   ·rw [aaT.mp z];exact alY
  have nin:∀{b:abj} {o:HO},H8 b=some o->b∉[lp,lb]:=fun {b o} e m=>by rw [fr b m] at e;cases e
  have arb:WdP K H14 lp lb pl kj bj:=⟨WS _ _ aq9,nin aq9,azc.fresh fr WS,l6⟩;have arc:Paired (qh K H14 [lp,lb] bj.length) us out:=Paired.bJ pr fun _ _ y=>y.mono (fun b xs _ e=>WS _ _ e) (.of WS) (fun b m=>.inr (fr b m)) (aaM _);have ahY:=WS _ _ eoA;have z0:Sz (1000*0+1) (0:Rat):=(HM (i:=0) (k:=1) (by decide) (by decide));refine ⟨wa,lp,lb,pl,oA,.ref p1,.ref p2,"",(0,0),⟨[],[],0⟩,us,kj,out,bj,bj.length,0,fun o H'=>H14 o=none/\KW wa lp lb o H14 H'/\((∃gD oD,(∀Q E,Q gD oD->jx (bV 0 bj) 13 out "" (0,0) ⟨[],[],0⟩ Q E)/\iA K H' wa lp lb pl gD .bG)\/∃eD tt g',(∀Q E,E eD->jx (bV 0 bj) 13 out "" (0,0) ⟨[],[],0⟩ Q E)/\iA K H' wa lp lb pl g' (.ref tt)/\H' tt=some (.tup [.str (jj eD).1,.str (jj eD).2])),rfl,W14,arb,nin eoA,ahY,arc,LP.ok,by omega,aaM _,rf 0 (s14 _ _ e13),rf 0 e14,z0,z0,by decide,by decide+kernel,?_,?_⟩
  ·rcases OP (bV 0 bj) 13 out "" (0,0) ⟨[],[],0⟩ with ⟨gD,oD,hD⟩|⟨eD,hD⟩
   ·exact hD _ _ (fun o no H' kw W' uC O'=>⟨no,kw,.inl ⟨gD,oD,hD,W'⟩⟩)
   ·exact hD _ _ (fun o no tt g' f_ H' kw W' ht uC f l=>⟨no,kw,.inr ⟨eD,tt,g',hD,W',ht⟩⟩)
  rintro o H15 ⟨no,kw,hc⟩;have azh:au H H15:=fun b x e=>kw b x (fun z=>by rw [z] at e;rw [s08 _ _ e] at nwa;cases nwa) (fun z=>by rw [z] at e;rw [s08 _ _ e] at alX;cases alX) (fun z=>by rw [z] at e;rw [s08 _ _ e] at alY;cases alY) (fun z=>by rw [z] at e;rw [aq' _ _ e] at no;cases no) (aq' _ _ e);have ard:=arb.keep W14 (.none no) kw;have arf:=kw.lst W14 (.none no) (nin eoA) ahY;have azi:Paired (qh K H15 [lp,lb] bj.length) us out:=Paired.bJ arc fun _ _ y=>y.mono (fun b xs nb e=>kw.lst W14 (.none no) nb e) (kw.aQ W14 (.none no)) (fun b m=>.inl m) (aaM _);refine ⟨_,rfl,_,rfl,_,rfl,sA,ns,2,rfl,azh.seq hS,hb,by decide,by decide,fun c3 b3=>?_⟩;refine ⟨_,_,rfl,rfl,nz (by decide),rfl,oA,pl,us,kj,out,bj,_,[lp,lb],rfl,arf,azi,LP.ok,LP.len,ard.hq,ard.pc.fresh (fun _ h=>nomatch h) (au.refl _),l6,fun f H16 s16 hf hfl=>?_⟩;have TG:=FV (f:=f) l6 LP.len wB.l6 hw8 wB.afS hfl;generalize abN "\n" (jA f bj out)=tx0 at TG;refine ⟨(2:Int),rfl,by decide,by decide,oY (lo:=0) (n:=2) (fun k σ H'=>Ex2 fun (o5 o10:ω)=>σ=[some (.ref sA),some (.ref nl),some (.ref pl),some (.int parts),some (.int st),o5,o6,some (.ref oA),some (.ref wa),some (.str tx0),o10]/\au H15 H') ⟨_,none,rfl,s16⟩ ?_ ?_⟩
  ·rintro k σ H17 hk ⟨o5,o10,rfl,s17⟩
   refine ⟨_,rfl,tx0,xG,rfl,TG.len,TG.rows,TG.rd,TG.read _ ⟨TG.l13,?_⟩⟩
   rcases hc with ⟨gD,oD,hD,W15⟩|⟨eD,tt,g',hD,W15,JB⟩
   ·refine hD _ _ (fun tF a H18 s18 etF fg=>?_)
    have FW:=aJ s17 s18;have W18:=W15.same FW;refine ⟨_,rfl,wa,.bG,rfl,fw W18,rfl,_,rfl,dz ?_⟩;refine ⟨_,rfl,wa,.bG,rfl,fw W18,rfl,_,rfl,fY ?_⟩;refine ⟨_,rfl,tF,_,_,_,rfl,rfl,dG.of etF,ar (j:=0) rfl,rfl,_,rfl,aK (fun c=>by simp at c) (fun _=>?_)⟩;obtain ⟨pu,ep,pp⟩:=W18.pins;obtain ⟨bu,eb,pb⟩:=W18.b8;refine ⟨_,rfl,tF,_,_,_,rfl,rfl,dG.of etF,ar (j:=1) rfl,_,rfl,wa,.ref lp,rfl,(by have h:=dC.k (k:=.inr "pins") W18.fE;rw [zz] at h;exact h),_,rfl,wa,.ref lb,rfl,(by have h:=dC.k (k:=.inr "bars") W18.fE;rw [Sl] at h;exact h),a,lp,lb,pu,bu,gD.pins,gD.b8,gD.done,rfl,fg,ep,Paired.bJ pp (fun _ _ z=>by obtain ⟨a,l,sv,us,e,h1,h2,h3,h4,h5⟩:=z;exact ⟨a,l,sv,us,e,h1,h2,(fun z=>nomatch z),h4,h5⟩),eb,pb,W18.nb,fun H19 s19=>⟨_,rfl,?_⟩⟩;refine dz ?_;refine ⟨_,xG,rfl,good3.len,good3.rows,good3.rd,good3.read _ ⟨good3.l13,aq2 fun t3 H20 s20 e20=>⟨L2,?_⟩⟩⟩;intro t4 n4;generalize eX:upd _ t4 _=H21;have ⟨s21,e21⟩:=nw n4 eX;refine aaZ (oG (dG.of (s21 _ _ e20))) (oG (dG.of e21)) (by simp [kY,dep]) ⟨_,rfl,?_⟩;refine aK (fun c=>nomatch c) (fun _=>?_);exact ⟨_,_,rfl,aJ FW (aJ s19 (aJ s20 s21))⟩
   ·refine hD _ _ (fun tF H18 s18 etF=>?_)
    have FW:=aJ s17 s18;have W18:=W15.same FW;refine ⟨_,rfl,wa,.ref tt,rfl,fw W18,rfl,_,rfl,fY ?_⟩;refine ⟨_,rfl,_,rfl,wa,.ref tt,rfl,fw W18,aaZ (oG (dG.of etF)) (oG (dG.of (FW _ _ JB))) (by simp [kY,dep]) ⟨_,rfl,?_⟩⟩;refine aK (fun c=>nomatch c) (fun _=>?_);refine ⟨_,rfl,wa,.ref tt,rfl,fw W18,rfl,_,rfl,dz ?_⟩;refine ⟨_,xG,rfl,good3.len,good3.rows,good3.rd,good3.read _ ⟨good3.l13,aq2 fun t3 H20 s20 e20=>⟨L2,?_⟩⟩⟩;intro t4 n4;generalize eX:upd _ t4 _=H21;have ⟨s21,e21⟩:=nw n4 eX;refine aaZ (oG (dG.of (s21 _ _ e20))) (oG (dG.of e21)) (by simp [kY,dep]) ⟨_,rfl,?_⟩;refine aK (fun c=>nomatch c) (fun _=>?_);exact ⟨_,_,rfl,aJ FW (aJ s20 s21)⟩
  ·rintro σ H17 ⟨o5,o10,rfl,s17⟩
   exact q H17
 obtain ⟨t5,p5,q5⟩:=aq3
 refine ⟨_,(ag (aR (i:=1) ip.nd (dh Sr hr (aE (dh Sq hr (aU (pv 0) ak))))) (ag (aR (i:=2) ip.nd (bY h_)) (ag (aR (i:=3) ip.nd (aD bE (dh Sq hr (aU (pv 0) ak)) ak)) (ag (aR (i:=4) ip.nd ak) (ag (aS (aL cn (aD bE (aD cS (dh Sq hr (aU (pv 0) ak)) ak) ak) ak) (ag (aR (i:=3) ip.nd (aD dW ak (aD bE (dh Sq hr (aU (pv 0) ak)) ak))) (ae (aR (i:=4) ip.nd ak))) aG) p5))))),?_⟩
 refine ⟨_,rfl,sA,ns,0,rfl,hS,hb,by decide,by decide,fun c0 b0=>?_⟩;refine ⟨c0,rfl,fun nl xs H1 lx nx s1 nnl enl=>?_⟩;refine ⟨L0,?_⟩;intro pl npl;generalize eX:upd _ pl _=H2;have ⟨s2,epl⟩:=nw npl eX;have nG:=aJ s1 s2;refine ⟨_,rfl,sA,ns,1,rfl,nG.seq hS,hb,by decide,by decide,fun c1 b1=>?_⟩;have m4:=cz (x:=c1) (m:=4) (by decide);refine ⟨_,_,rfl,rfl,nz (by decide),_,rfl,sA,ns,2,rfl,nG.seq hS,hb,by decide,by decide,fun c2 b2=>?_⟩;refine ⟨_,_,rfl,rfl,dv8 (by decide) (by decide),_,_,rfl,rfl,nz (by decide),rfl,_,rfl,?_⟩;have np:H pl=none:=aO s1 npl;have nnp:nl≠pl:=aj enl npl;have go:=fun parts st h0 h1 h2 h3=>q5 H2 nl pl xs parts st nG np nnp (s2 _ _ enl) ⟨lx,nx⟩ epl h0 h1 h2 h3;refine aK (fun _=>?_) (fun _=>?_)
 ·refine ⟨_,rfl,sA,ns,1,rfl,nG.seq hS,hb,by decide,by decide,fun c3 b3=>?_⟩
  have m3:=cz (x:=c3) (m:=3) (by decide);exact ⟨_,_,rfl,rfl,nz (by decide),_,_,rfl,rfl,go _ _ (by omega) (by omega) (by decide) (by decide)⟩
 ·exact go _ _ (by omega) (by omega) (by decide) (by decide)
end
theorem all_mk {l:PySem.W.OpenLaw}{w:World}{K:Frag}{h:Heap}{mg:ζ}{fa:abj}(X:K.In h)(G:h.Ns abA mg)(hfa:mg "law"=some (.ref fa))
  {ari arj:Str} {ark ahZ:θ} {arl:Bool} {arn:η} {alZ:θ} {aro:Bool} {al0:Option Bool} {arp arq ars art aru:Κ} {arv arw:Str} {arx ah0:θ} {ary:Bool} {arz:η} {al1:θ} {arA:Bool} {al2:Option Bool} {arB arC arD arE arF:Κ} {arG arH:Str} {arI ah1:θ} {arJ:Bool} {arK:η} {al3:θ} {arL:Bool} {al4:Option Bool} {arM arN arO arP arQ:Κ} {arR arS:Str} {arT ah2:θ} {arU:Bool} {arV:η} {al5:θ} {arW:Bool} {al6:Option Bool} {arX arY arZ ar0 ar1:Κ} {ar2 ar3:Str} {ar4 ah3:θ} {ar5:Bool} {ar6:η} {al7:θ} {ar7:Bool} {al8:Option Bool} {ar8 ar9 ar' asa asb:Κ} {WT WU:Str} {WV FX:θ} {WW:Bool} {WX:η} {Su:θ} {WY:Bool} {Sv:Option Bool} {WZ W9 W_ Xa Xb:Κ}
  (Sw:nsIn K abA "ratio_of"=some (some (.ref rm))) (Sx:K.lookup rm=some ⟨ah4,ah5,.func (fnOf "ratio_of" "ratio_of" (av cC) (aq cC) (aa cC) (.ref oM) vX vY vZ v7 oN v8),ah6⟩) (Sy:codeIn K oN "ratio_of"=true) (SA:keepIn K (.ref rm)=true) (zG:K.lookup oM=some ⟨ah7,afU,.seq #[.int 1 v9] ah8,afV⟩) (abi:HXx K "sum_of" jS) (JC:HXx K "product_of" d7) (SD:HXx K "is_whole" iF) (azq:HXx K "lowest_terms" NO) (azu:HXx K "greatest_shared" V6) (JG:HXx K "show_ratio" f6) (JK:HXx K "read_ratio" cX) (JO:HXx K "read_whole" dM) (SJ:HXx K "pair_sum" gP) (PL:HXx K "stretched" fK) (JT:HXx K "laid_frame" d8) (SO:HXx K "lay_rows" gQ) (Xd:HXx K "lay_pin" iG) (Xh:HXx K "lay_bar" iH) (PU:HXx K "lay_piece" d4) (oO:HXx K "prefixes_and_spots" cf) (abm:HXx K "pin_at" lQ) (P_:HXx K "hold_from" g6) (SW:HXx K "read_row" gR) (abq:HXx K "fitted" lS) (S1:HXx K "value_of" gS) (Xn:HXx K "is_name" jL) (Qg:HXx K "number_of" g7) (Xr:HXx K "many_of" iI) (J_:HXx K "read_frame" cY) (azy:HXx K "_law_cell_at" V7) (S7:HXx K "_law_part" fM) (azC:HXx K "_law_lowest" V8) (S':HXx K "_law_plus" gT) (CD:HXx K "_law_text_of" eM) (Td:HXx K "_law_half" iJ) (Th:HXx K "_law_menu" iK) (azG:HXx K "_law_ways" V9) (CK:HXx K "_law_pin_row" eO) (CV:HXx K "_law_bar_row" eP) (C_:HXx K "_law_lay_row" eQ) (Qo:HXx K "_law_marks" g8) (To:HXx K "_law_rows" iL) (Ts:HXx K "_law_line" iM) (Tw:HXx K "_law_text" fO) (zX:HXx K "_law_pin_done" dY) (z6:HXx K "_law_bar_done" dZ) (z_:HXx K "_law_lay_done" dq) (TC:HXx K "_law_laid" iN) (DE:HXx K "_law_outcome" eT) (ab9:HXx K "_law_is" lT) (asp:nsIn K abA "law"=some (some (.ref ajO))) (asq:K.lookup ajO=some ⟨azK,azL,.func (fnOf "law" "law" (av oh) (aq oh) (aa oh) .none amF amG amH amI acd amJ),azM⟩) (asr:codeIn K acd "law"=true) (ass:keepIn K (.ref ajO)=true) (azN:nsIn K abA "MOST_PINS"=some (some (.int 24 aEA))) (azO:nsIn K abA "MOST_BARS"=some (some (.int 60 aEB))) (Qx:nsIn K abA "MOST_ROWS"=some (some (.int 500 agz))) (AG:nsIn K abA "LONGEST_NAME"=some (some (.int 20 YZ))) (wK:nsIn K abA "GREATEST_MANY"=some (some (.int 60 Xw))) (Xx:nsIn K abA "LETTERS"=some (some (.str "abcdefghijklmnopqrstuvwxyz" amK))) (Xy:nsIn K abA "FIGURES"=some (some (.str "0123456789" amL))) (AH:nsIn K abA "MOST_FIGURES"=some (some (.int 60 Y0))) (azP:nsIn K abA "NOUGHT"=some (some (.ref amM))) (azQ:K.lookup amM=some ⟨.type "tuple",aEC,.seq #[.int 0 azR,.int 1 azS] aED,aEE⟩) (azT:nsIn K abA "NO_MOVE"=some (some (.ref amN))) (azU:K.lookup amN=some ⟨.type "tuple",aEF,.seq #[.ref asu,.ref asv] aEG,aEH⟩) (azV:K.lookup asu=some ⟨.type "tuple",aEI,.seq #[.int 0 azW,.int 1 azX] aEJ,aEK⟩) (azY:K.lookup asv=some ⟨.type "tuple",aEL,.seq #[.int 0 azZ,.int 1 az0] aEM,aEN⟩) (agA:nsIn K abA "FORMS"=some (some (.ref KI))) (agB:K.lookup KI=some ⟨.type "tuple",asw,.seq #[.str "pin NAME NUMBER NUMBER" anZ,.str "pin NAME NUMBER NUMBER fixed" an0,.str "pin NAME NUMBER NUMBER roller NUMBER NUMBER" an1,.str "bar NAME NAME NAME" an2,.str "piece NAME" an3,.str "end" an4,.str "lay NAME NAME NUMBER NUMBER" an5,.str "lay NAME NAME NUMBER NUMBER MANY NUMBER NUMBER" an6] asx,asy⟩) (KJ:nsIn K abA "ValueError"=some none) (asz:nsIn K abA "abs"=some none) (asA:nsIn K abA "all"=some none) (amO:nsIn K abA "bool"=some none) (Qy:nsIn K abA "enumerate"=some none) (asB:nsIn K abA "int"=some none) (KL:nsIn K abA "isinstance"=some none) (asC:nsIn K abA "len"=some none) (amP:nsIn K abA "list"=some none) (agC:nsIn K abA "range"=some none) (asD:nsIn K abA "str"=some none) (asE:nsIn K abA "zip"=some none) (az1:nsIn K abA "YardError"=some (some (.ref ace))) (TM:nsIn K abA "NoNumber"=some (some (.ref AI))) (acf:nsIn K abA "NoText"=some (some (.ref oV))) (az2:nsIn K abA "NoWay"=some (some (.ref az3))) (az4:nsIn K abA "PinThere"=some (some (.ref hW))) (az5:nsIn K abA "SpotTaken"=some (some (.ref l_))) (az6:nsIn K abA "NoPin"=some (some (.ref gY))) (az7:nsIn K abA "BarThere"=some (some (.ref iu))) (az8:nsIn K abA "NoBar"=some (some (.ref az9))) (az':nsIn K abA "NoLength"=some (some (.ref iw))) (aAa:nsIn K abA "TooMany"=some (some (.ref vh))) (acg:nsIn K abA "NoLine"=some (some (.ref cq))) (aAb:nsIn K abA "Frame"=some (some (.ref cR))) (aAc:nsIn K abA "Hold"=some (some (.ref wL))) (aAd:nsIn K abA "Roller"=some (some (.ref pS))) (aAe:nsIn K abA "Fixed"=some (some (.ref vi))) (ach:nsIn K abA "Ground"=some (some (.ref cw))) (aci:nsIn K abA "Laying"=some (some (.ref bw))) (agD:nsIn K abA "Sheet"=some (some (.ref cx))) (asF:ab8 K cR ab4=true) (asG:abR K cR=true) (asH:acs K cR=true) (asI:abt K (.ref cR) "__setattr__"=some (some (.builtin "object.__setattr__"))) (asJ:acb K cR=true) (asK:keepIn K (.ref cR)=true) (asL:HXy K cR "__init__" "Frame.__init__" Wa) (aAh:abt K (.ref cR) "put_pin"=some (some (.ref agE))) (aAi:adv K (.ref agE)=true) (aAj:K.lookup agE=some ⟨aEW,aEX,.func (fnOf "put_pin" "Frame.put_pin" (av uO) (aq uO) (aa uO) (.ref ack) ajP ajQ ajR ajS acm ajT),aEY⟩) (asP:K.lookup ack=some ⟨aEZ,aAk,.seq #[.none] aE0,aAl⟩) (aAm:codeIn K acm "Frame.put_pin"=true) (asQ:keepIn K (.ref agE)=true) (aAn:HXy K cR "put_bar" "Frame.put_bar" RF) (aAr:HXy K cR "check_bar" "Frame.check_bar" RG) (aAv:HXy K cR "check_pin" "Frame.check_pin" Wb) (aAz:HXy K cR "pins" "Frame.pins" Wc) (aAD:HXy K cR "bars" "Frame.bars" We) (aAH:HXy K cR "place" "Frame.place" Wf) (aAL:HXy K cR "ways" "Frame.ways" Wg) (aAP:HXy K cR "ends" "Frame.ends" Wh) (as7:ab8 K wL ab4=true) (as8:abR K wL=true) (as9:acs K wL=true) (as':abt K (.ref wL) "__setattr__"=some (some (.builtin "object.__setattr__"))) (ata:acb K wL=true) (atb:keepIn K (.ref wL)=true) (atc:abt K (.ref wL) "__init__"=some (some (.builtin "object.__init__"))) (aAT:HXy K wL "ways" "Hold.ways" afc) (atf:ab8 K pS ab4=true) (atg:abR K pS=true) (ath:acs K pS=true) (ati:abt K (.ref pS) "__setattr__"=some (some (.builtin "object.__setattr__"))) (atj:acb K pS=true) (atk:keepIn K (.ref pS)=true) (atl:HXy K pS "__init__" "Roller.__init__" Wi) (aAZ:HXy K pS "ways" "Roller.ways" Wj) (atr:ab8 K vi ab4=true) (ats:abR K vi=true) (att:acs K vi=true) (atu:abt K (.ref vi) "__setattr__"=some (some (.builtin "object.__setattr__"))) (atv:acb K vi=true) (atw:keepIn K (.ref vi)=true) (atx:abt K (.ref vi) "__init__"=some (some (.builtin "object.__init__"))) (aA3:HXy K vi "ways" "Fixed.ways" Wk) (Xz:ab8 K cw ab4=true) (XA:abR K cw=true) (XC:acs K cw=true) (XD:abt K (.ref cw) "__setattr__"=some (some (.builtin "object.__setattr__"))) (XE:acb K cw=true) (XF:keepIn K (.ref cw)=true) (qt:HXy K cw "__init__" "Ground.__init__" eV) (rn:HXy K cw "count_row" "Ground.count_row" cD) (XG:ab8 K bw ab4=true) (XH:abR K bw=true) (XI:acs K bw=true) (XJ:abt K (.ref bw) "__setattr__"=some (some (.builtin "object.__setattr__"))) (XM:acb K bw=true) (XO:keepIn K (.ref bw)=true) (qw:HXy K bw "__init__" "Laying.__init__" eY) (rE:HXy K bw "full_name" "Laying.full_name" cE) (rJ:HXy K bw "check_new" "Laying.check_new" bO) (tR:HXy K bw "name_pin" "Laying.name_pin" cp) (vj:HXy K bw "own_pin" "Laying.own_pin" dj) (acF:ab8 K cx ab4=true) (acG:abR K cx=true) (acH:acs K cx=true) (acI:abt K (.ref cx) "__setattr__"=some (some (.builtin "object.__setattr__"))) (acJ:acb K cx=true) (acK:keepIn K (.ref cx)=true) (tX:HXy K cx "__init__" "Sheet.__init__" f7) (t_:HXy K cx "may_stand" "Sheet.may_stand" cL) (KR:HXy K cx "keep" "Sheet.keep" f9) (aA7:K.lookup hW=some (acn ari arj hW aKc ark ahZ arl arn alZ aro al0 aGx arp arq ars art aru "ValueError.__new__")) (atA:acN K Yr ahZ=true) (atB:keepIn K (.ref hW)=true) (atD:abt K (.ref hW) "__getattribute__"=some (some (.builtin "BaseException.__getattribute__"))) (atE:abt K (.ref hW) "__getattr__"=some none) (atF:abt K (.ref hW) "__class__"=some (some (.builtin "object.__class__"))) (atG:abL K hW (.type "object")=some true) (atH:abL K hW (.type "BaseException")=some true) (atJ:abL K hW (.type "ValueError")=some true) (atL:(ab7 K hW).isSome=true) (atM:abt K (.ref hW) "__setattr__"=some (some (.builtin "object.__setattr__"))) (atN:abR K hW=true) (atO:(ab7 K hW).any (fun cd=>TyExc.jq cd.mro)=true) (wM:abt K (.ref hW) "pin"=some none) (aA8:HXy K hW "__init__" "PinThere.__init__" V_) (aBc:K.lookup l_=some (acn arv arw l_ aKd arx ah0 ary arz al1 arA al2 aGG arB arC arD arE arF "ValueError.__new__")) (atR:acN K Yr ah0=true) (atU:keepIn K (.ref l_)=true) (atV:abt K (.ref l_) "__getattribute__"=some (some (.builtin "BaseException.__getattribute__"))) (atW:abt K (.ref l_) "__getattr__"=some none) (atX:abt K (.ref l_) "__class__"=some (some (.builtin "object.__class__"))) (atY:abL K l_ (.type "object")=some true) (atZ:abL K l_ (.type "BaseException")=some true) (at3:abL K l_ (.type "ValueError")=some true) (at4:(ab7 K l_).isSome=true) (at5:abt K (.ref l_) "__setattr__"=some (some (.builtin "object.__setattr__"))) (at6:abR K l_=true) (at7:(ab7 K l_).any (fun cd=>TyExc.jq cd.mro)=true) (vo:abt K (.ref l_) "pin"=some none) (vq:HXy K l_ "__init__" "SpotTaken.__init__" di) (aBd:K.lookup gY=some (acn arG arH gY aKe arI ah1 arJ arK al3 arL al4 aGH arM arN arO arP arQ "ValueError.__new__")) (at8:acN K Yr ah1=true) (at9:keepIn K (.ref gY)=true) (aua:abt K (.ref gY) "__getattribute__"=some (some (.builtin "BaseException.__getattribute__"))) (aub:abt K (.ref gY) "__getattr__"=some none) (auc:abt K (.ref gY) "__class__"=some (some (.builtin "object.__class__"))) (aud:abL K gY (.type "object")=some true) (aue:abL K gY (.type "BaseException")=some true) (auf:abL K gY (.type "ValueError")=some true) (auh:(ab7 K gY).isSome=true) (aui:abt K (.ref gY) "__setattr__"=some (some (.builtin "object.__setattr__"))) (auj:abR K gY=true) (auk:(ab7 K gY).any (fun cd=>TyExc.jq cd.mro)=true) (KZ:abt K (.ref gY) "pin"=some none) (aBe:HXy K gY "__init__" "NoPin.__init__" V') (aBj:K.lookup iu=some (acn arR arS iu aKf arT ah2 arU arV al5 arW al6 aGQ arX arY arZ ar0 ar1 "ValueError.__new__")) (aum:acN K Yr ah2=true) (aun:keepIn K (.ref iu)=true) (auo:abt K (.ref iu) "__getattribute__"=some (some (.builtin "BaseException.__getattribute__"))) (aup:abt K (.ref iu) "__getattr__"=some none) (auq:abt K (.ref iu) "__class__"=some (some (.builtin "object.__class__"))) (aur:abL K iu (.type "object")=some true) (aus:abL K iu (.type "BaseException")=some true) (aut:abL K iu (.type "ValueError")=some true) (auu:(ab7 K iu).isSome=true) (auv:abt K (.ref iu) "__setattr__"=some (some (.builtin "object.__setattr__"))) (auw:abR K iu=true) (auy:(ab7 K iu).any (fun cd=>TyExc.jq cd.mro)=true) (wN:abt K (.ref iu) "bar"=some none) (wO:HXy K iu "__init__" "BarThere.__init__" dE) (aBk:K.lookup iw=some (acn ar2 ar3 iw aKg ar4 ah3 ar5 ar6 al7 ar7 al8 aGR ar8 ar9 ar' asa asb "ValueError.__new__")) (auz:acN K Yr ah3=true) (auA:keepIn K (.ref iw)=true) (auB:abt K (.ref iw) "__getattribute__"=some (some (.builtin "BaseException.__getattribute__"))) (auC:abt K (.ref iw) "__getattr__"=some none) (auD:abt K (.ref iw) "__class__"=some (some (.builtin "object.__class__"))) (auE:abL K iw (.type "object")=some true) (auF:abL K iw (.type "BaseException")=some true) (auG:abL K iw (.type "ValueError")=some true) (auH:(ab7 K iw).isSome=true) (auI:abt K (.ref iw) "__setattr__"=some (some (.builtin "object.__setattr__"))) (auJ:abR K iw=true) (auK:(ab7 K iw).any (fun cd=>TyExc.jq cd.mro)=true) (wX:abt K (.ref iw) "bar"=some none) (wY:HXy K iw "__init__" "NoLength.__init__" dF) (acL:K.lookup cq=some (acn WT WU cq auL WV FX WW WX Su WY Sv an7 WZ W9 W_ Xa Xb "ValueError.__new__")) (X_:acN K Yr FX=true) (X':keepIn K (.ref cq)=true) (Ya:abt K (.ref cq) "__getattribute__"=some (some (.builtin "BaseException.__getattribute__"))) (Yb:abt K (.ref cq) "__getattr__"=some none) (Yc:abt K (.ref cq) "__class__"=some (some (.builtin "object.__class__"))) (Yd:abL K cq (.type "object")=some true) (Ye:abL K cq (.type "BaseException")=some true) (Yf:abL K cq (.type "ValueError")=some true) (Yg:(ab7 K cq).isSome=true) (Yh:abt K (.ref cq) "__setattr__"=some (some (.builtin "object.__setattr__"))) (Yi:abR K cq=true) (Yj:(ab7 K cq).any (fun cd=>TyExc.jq cd.mro)=true) (K_:abt K (.ref cq) "at"=some none) (DQ:HXy K cq "__init__" "NoLine.__init__" eU) (acU:abt K (.ref cR) "pin_places"=some none) (amQ:abt K (.ref cR) "pin_ways"=some none) (amR:abt K (.ref cR) "bar_ends"=some none) (ajU:abt K (.ref pS) "way"=some none) (ht:l.prog.given.tree=none) (eI:aco K oV ZC "ValueError.__new__"=true) (iQ:aco K AI ZC "ValueError.__new__"=true) (Yk:(ab7 K oV).isSome=true) (e1:abD K (.ref oV) (.ref oV)=some true) (aBl:abt K (.ref cx) "outside"=some none) (aBm:abt K (.ref cx) "pieces"=some none) (aBn:abt K (.ref cx) "current"=some none) (aBo:abt K (.ref cw) "frame"=some none) (aBp:abt K (.ref cw) "pieces"=some none) (aBq:abt K (.ref cw) "done"=some none) (aBr:abt K (.ref bw) "prefix"=some none) (aBs:abt K (.ref bw) "spot"=some none) (aBt:abt K (.ref bw) "own"=some none) (aBu:PySem.W.specialIn K (.ref ace) "__getattribute__"=some (some (.builtin "type.__getattribute__"))) (aBv:PySem.W.readsIn K ace (.type "type")=true) (aBw:PySem.W.findCls K (.ref ace) (.type "type") "__init__"=some (.val (.builtin "ValueError.__init__"))) (HX:aco K vh Yr "ValueError.__new__"=true) (auM:abD K (.ref hW) (.ref hW)=some true) (auN:abD K (.ref gY) (.ref hW)=some false) (auO:abD K (.ref gY) (.ref gY)=some true) (auP:abD K (.ref iu) (.ref hW)=some false) (auQ:abD K (.ref iu) (.ref gY)=some false) (auR:abD K (.ref iu) (.ref iu)=some true) (auS:abD K (.ref iw) (.ref hW)=some false) (auT:abD K (.ref iw) (.ref gY)=some false) (auU:abD K (.ref iw) (.ref iu)=some false) (auV:abD K (.ref iw) (.ref iw)=some true) (auW:abD K (.ref vh) (.ref hW)=some false) (auX:abD K (.ref vh) (.ref gY)=some false) (auY:abD K (.ref vh) (.ref iu)=some false) (auZ:abD K (.ref vh) (.ref iw)=some false) (au0:abD K (.ref vh) (.ref vh)=some true):
  ∃fd:FuncData,(∀(s:abw)(v:Value),BindsTo s fd ⟨[v],[]⟩ [("_law_script",v)])/\∀base:Heap,K.In base->base.Ns abA mg->bT l.prog w K mg base (aT l.prog w) 70 fa fd ["_law_script"] (Zv K):=by
 have e:=hfa.symm.trans (mg_of X G asp);cases e;obtain ⟨asL,asM,aAf,aAg,asO⟩:=asL;obtain ⟨aAn,aAo,aAp,aAq,asS⟩:=aAn;obtain ⟨aAr,aAs,aAt,aAu,asU⟩:=aAr;obtain ⟨aAv,aAw,aAx,aAy,asW⟩:=aAv;obtain ⟨aAz,aAA,aAB,aAC,asY⟩:=aAz;obtain ⟨aAD,aAE,aAF,aAG,as0⟩:=aAD;obtain ⟨aAH,aAI,aAJ,aAK,as2⟩:=aAH;obtain ⟨aAL,aAM,aAN,aAO,as4⟩:=aAL;obtain ⟨aAP,aAQ,aAR,aAS,as6⟩:=aAP;obtain ⟨aAT,aAU,aAV,aAW,ate⟩:=aAT;obtain ⟨atl,atm,aAX,aAY,ato⟩:=atl;obtain ⟨aAZ,aA0,aA1,aA2,atq⟩:=aAZ;obtain ⟨aA3,aA4,aA5,aA6,atz⟩:=aA3;obtain ⟨qt,qu,DI,DJ,qv⟩:=qt;obtain ⟨rn,rq,rB,rC,j4⟩:=rn;obtain ⟨qw,qz,DK,DM,qA⟩:=qw;obtain ⟨rE,rF,rG,rH,j5⟩:=rE;obtain ⟨rJ,rK,rL,rM,j6⟩:=rJ;obtain ⟨tR,tT,tU,tV,kQ⟩:=tR;obtain ⟨vj,vk,vm,vn,ma⟩:=vj;obtain ⟨tX,tY,KN,KQ,tZ⟩:=tX;obtain ⟨t_,uc,ud,ue,kR⟩:=t_;obtain ⟨KR,KS,KU,KY,uf⟩:=KR;obtain ⟨aA8,aA9,aA',aBa,aBb⟩:=aA8;obtain ⟨vq,vt,vv,vw,vz⟩:=vq;obtain ⟨aBe,aBf,aBg,aBh,aBi⟩:=aBe;obtain ⟨wO,wQ,wU,wV,wW⟩:=wO;obtain ⟨wY,wZ,w6,w8,w_⟩:=wY;obtain ⟨DQ,DR,DS,DT,DU⟩:=DQ;have Qz:Binds K (fnOf "ratio_of" "ratio_of" (av cC) (aq cC) (aa cC) (.ref oM) vX vY vZ v7 oN v8) ["top","bottom"] []:=fun s us X hl=>match us,hl with|[_,_],_=>adu rfl (X _ _ zG) rfl rfl rfl
 have QC:Binds K (fnOf "ratio_of" "ratio_of" (av cC) (aq cC) (aa cC) (.ref oM) vX vY vZ v7 oN v8) ["top","bottom"] [.int 1 v9]:=fun s us X hl=>match us,(show us.length=1 by simpa using hl) with|[_],_=>adu rfl (X _ _ zG) rfl rfl rfl
 have T9:aeI K mg "ratio_of" cC ["top","bottom"] [.int 1 v9]:=⟨rm,_,_,_,_,_,_,_,_,_,_,Sx,Sy,SA,Qz,QC,mg_of X G Sw⟩;have acV:Def K mg _ _ ["one","other"]:=ke X G abi;have K':Def K mg _ _ ["one","other"]:=ke X G JC;have T_:Def K mg _ _ ["value"]:=ke X G SD;have aBx:Def K mg _ _ ["top","bottom"]:=ke X G azq;have aBy:Def K mg _ _ ["one","other"]:=ke X G azu;have LA:Def K mg _ _ ["one"]:=ke X G JG;have LB:Def K mg _ _ ["text"]:=ke X G JK;have LD:Def K mg _ _ ["text"]:=ke X G JO;have T':Def K mg _ _ ["one","other"]:=ke X G SJ;have QD:Def K mg _ _ ["number","pair"]:=ke X G PL;have LF:Def K mg _ _ ["rows","pieces"]:=ke X G JT;have Ua:Def K mg _ _ ["ground","rows","prefix","spot"]:=ke X G SO;have Yl:Def K mg _ _ ["ground","laying","row"]:=ke X G Xd;have Ym:Def K mg _ _ ["ground","laying","row"]:=ke X G Xh;have wk:Def K mg _ _ ["ground","laying","row"]:=ke X G PU;have oW:Def K mg _ _ ["row"]:=ke X G oO;have acW:Def K mg _ _ ["F","spot"]:=ke X G abm;have QE:Def K mg _ _ ["values"]:=ke X G P_;have Ub:Def K mg _ _ ["forms","row"]:=ke X G SW;have acX:Def K mg _ _ ["kinds","words"]:=ke X G abq;have Uc:Def K mg _ _ ["kind","word"]:=ke X G S1;have Yn:Def K mg _ _ ["word"]:=ke X G Xn;have QF:Def K mg _ _ ["word"]:=ke X G Qg;have Yo:Def K mg _ _ ["word"]:=ke X G Xr;have LG:Def K mg _ _ ["text"]:=ke X G J_;have aBz:Def K mg _ _ ["_law_script","_law_k"]:=ke X G azy;have Ud:Def K mg _ _ ["_law_cell","_law_k"]:=ke X G S7;have aBA:Def K mg _ _ ["_law_top","_law_bottom"]:=ke X G azC;have Ue:Def K mg _ _ ["_law_x","_law_y"]:=ke X G S';have DV:Def K mg _ _ ["_law_one"]:=ke X G CD;have Ug:Def K mg _ _ ["_law_cell"]:=ke X G Td;have Uh:Def K mg _ _ ["_law_cell"]:=ke X G Th;have aBB:Def K mg _ _ ["_law_cell"]:=ke X G azG;have DW:Def K mg _ _ ["_law_cell","_law_names"]:=ke X G CK;have DX:Def K mg _ _ ["_law_cell","_law_names","_law_known"]:=ke X G CV;have DY:Def K mg _ _ ["_law_cell","_law_names","_law_pieces"]:=ke X G C_;have QG:Def K mg _ _ ["_law_row"]:=ke X G Qo;have Ui:Def K mg _ _ ["_law_cells","_law_names","_law_pieces"]:=ke X G To;have Uj:Def K mg _ _ ["_law_row"]:=ke X G Ts;have Uk:Def K mg _ _ ["_law_outside","_law_pieces","_law_early"]:=ke X G Tw;have AM:Def K mg _ _ ["_law_world","_law_own","_law_row","_law_prefix","_law_x","_law_y"]:=ke X G zX;have AN:Def K mg _ _ ["_law_world","_law_own","_law_row","_law_prefix"]:=ke X G z6;have oX:Def K mg _ _ ["_law_world","_law_own","_law_row","_law_prefix","_law_x","_law_y"]:=ke X G z_;have Ul:Def K mg _ _ ["_law_world","_law_rows_here","_law_prefix","_law_x","_law_y"]:=ke X G TC;have DZ:Def K mg _ _ ["_law_text_here"]:=ke X G DE;have acY:Def K mg _ _ ["_law_frame","_law_pins","_law_bars"]:=ke X G ab9;have lE:xQ K cR:=⟨asF,asG,asH,asI⟩;have ali:Mk K cR _:=⟨asJ,asL,asM,asK⟩;have au1:=bZ (st:=Wa) aAf aAg asO;have alk:=au1.pD (ps:=["self"]);have aKh:Meth K cR "__init__" _:=⟨asL,asM,asO⟩;have aBC:=ae6 (st:=uO) aAj aAm asQ;have aBD:Binds K (fnOf "put_pin" "Frame.put_pin" (av uO) (aq uO) (aa uO) (.ref ack) ajP ajQ ajR ajS acm ajT) ["self","name","x","y","hold"] []:=fun s us X hl=>by obtain ⟨a,b,c,d,e,rfl⟩:=bl5 (P:=fun us=>∃a b c d e,us=[a,b,c,d,e]) (fun a b c d e=>⟨a,b,c,d,e,rfl⟩) us (by simpa using hl);exact adu rfl (X _ _ asP) rfl rfl rfl
 have aGS:Binds K (fnOf "put_pin" "Frame.put_pin" (av uO) (aq uO) (aa uO) (.ref ack) ajP ajQ ajR ajS acm ajT) ["self","name","x","y","hold"] [.none]:=fun s us X hl=>by obtain ⟨a,b,c,d,rfl⟩:=bl4 (P:=fun us=>∃a b c d,us=[a,b,c,d]) (fun a b c d=>⟨a,b,c,d,rfl⟩) us (by simpa using hl);exact adu rfl (X _ _ asP) rfl rfl rfl
 have aBE:Meth K cR "put_pin" agE:=⟨aAh,aAi,asQ⟩;have au2:=bZ (st:=RF) aAp aAq asS;have aBF:=au2.pD (ps:=["self","name","one","other"]);have aBG:Meth K cR "put_bar" _:=⟨aAn,aAo,asS⟩;have au3:=bZ (st:=RG) aAt aAu asU;have aBH:=au3.pD (ps:=["self","name","one","other"]);have aBI:Meth K cR "check_bar" _:=⟨aAr,aAs,asU⟩;have au4:=bZ (st:=Wb) aAx aAy asW;have aBJ:=au4.pD (ps:=["self","pin"]);have aBK:Meth K cR "check_pin" _:=⟨aAv,aAw,asW⟩;have au5:=bZ (st:=Wc) aAB aAC asY;have aBL:=au5.pD (ps:=["self"]);have aBM:Meth K cR "pins" _:=⟨aAz,aAA,asY⟩;have au6:=bZ (st:=We) aAF aAG as0;have aBN:=au6.pD (ps:=["self"]);have aBO:Meth K cR "bars" _:=⟨aAD,aAE,as0⟩;have au7:=bZ (st:=Wf) aAJ aAK as2;have aBP:=au7.pD (ps:=["self","pin"]);have aBQ:Meth K cR "place" _:=⟨aAH,aAI,as2⟩;have au8:=bZ (st:=Wg) aAN aAO as4;have aBR:=au8.pD (ps:=["self","pin"]);have aBS:Meth K cR "ways" _:=⟨aAL,aAM,as4⟩;have au9:=bZ (st:=Wh) aAR aAS as6;have aBT:=au9.pD (ps:=["self","bar"]);have aBU:Meth K cR "ends" _:=⟨aAP,aAQ,as6⟩;have cls_cm:xQ K wL:=⟨as7,as8,as9,as'⟩;have aKi:Mk0 K wL:=⟨ata,atc,atb⟩;have aBV:=bZ (st:=afc) aAV aAW ate;have aKj:=aBV.pD (ps:=["self"]);have aKk:Meth K wL "ways" _:=⟨aAT,aAU,ate⟩;have Um:xQ K pS:=⟨atf,atg,ath,ati⟩;have alq:Mk K pS _:=⟨atj,atl,atm,atk⟩;have au':=bZ (st:=Wi) aAX aAY ato;have alr:=au'.pD (ps:=["self","x","y"]);have aKl:Meth K pS "__init__" _:=⟨atl,atm,ato⟩;have ava:=bZ (st:=Wj) aA1 aA2 atq;have aBW:=ava.pD (ps:=["self"]);have aBX:Meth K pS "ways" _:=⟨aAZ,aA0,atq⟩;have amS:xQ K vi:=⟨atr,ats,att,atu⟩;have alp:Mk0 K vi:=⟨atv,atx,atw⟩;have avb:=bZ (st:=Wk) aA5 aA6 atz;have aBY:=avb.pD (ps:=["self"]);have aBZ:Meth K vi "ways" _:=⟨aA3,aA4,atz⟩;have AO:xQ K cw:=⟨Xz,XA,XC,XD⟩;have zb:Mk K cw _:=⟨XE,qt,qu,XF⟩;have qB:=bZ (st:=eV) DI DJ qv;have lB:=qB.pD (ps:=["self","pieces"]);have aej:Meth K cw "__init__" _:=⟨qt,qu,qv⟩;have j7:=bZ (st:=cD) rB rC j4;have rP:=j7.pD (ps:=["self"]);have rQ:Meth K cw "count_row" _:=⟨rn,rq,j4⟩;have j8:xQ K bw:=⟨XG,XH,XI,XJ⟩;have y_:Mk K bw _:=⟨XM,qw,qz,XO⟩;have qD:=bZ (st:=eY) DK DM qA;have lA:=qD.pD (ps:=["self","prefix","spot"]);have aek:Meth K bw "__init__" _:=⟨qw,qz,qA⟩;have j9:=bZ (st:=cE) rG rH j5;have rR:=j9.pD (ps:=["self","name"]);have rS:Meth K bw "full_name" _:=⟨rE,rF,j5⟩;have j_:=bZ (st:=bO) rL rM j6;have rT:=j_.pD (ps:=["self","name"]);have rV:Meth K bw "check_new" _:=⟨rJ,rK,j6⟩;have kS:=bZ (st:=cp) tU tV kQ;have uh:=kS.pD (ps:=["self","name","pin"]);have uk:Meth K bw "name_pin" _:=⟨tR,tT,kQ⟩;have md:=bZ (st:=dj) vm vn ma;have vC:=md.pD (ps:=["self","name"]);have vD:Meth K bw "own_pin" _:=⟨vj,vk,ma⟩;have vE:xQ K cx:=⟨acF,acG,acH,acI⟩;have xA:Mk K cx _:=⟨acJ,tX,tY,acK⟩;have um:=bZ (st:=f7) KN KQ tZ;have jG:=um.pD (ps:=["self"]);have agS:Meth K cx "__init__" _:=⟨tX,tY,tZ⟩;have kT:=bZ (st:=cL) ud ue kR;have uo:=kT.pD (ps:=["self","values"]);have uu:Meth K cx "may_stand" _:=⟨t_,uc,kR⟩;have uv:=bZ (st:=f9) KU KY uf;have LH:=uv.pD (ps:=["self","values"]);have LJ:Meth K cx "keep" _:=⟨KR,KS,uf⟩;have avc:=bZ (st:=V_) aA' aBa aBb;have Wu:=avc.pD (ps:=["self","pin"]);have avd:TyExc.qL K hW:=⟨atD,atE,atF,atG,atH,atL⟩;have mW:TyExc.lG K hW "pin":=⟨avd,atM,atN,atO,wM⟩;have Wt:qM K hW _:=⟨⟨_,_,_,_,_,_,_,_,_,_,_,_,_,_,_,_,aA7,atA⟩,aA8,aA9,atB⟩;have me:=bZ (st:=di) vv vw vz;have iO:=me.pD (ps:=["self","pin"]);have ave:TyExc.qL K l_:=⟨atV,atW,atX,atY,atZ,at4⟩;have vF:TyExc.lG K l_ "pin":=⟨ave,at5,at6,at7,vo⟩;have akX:qM K l_ _:=⟨⟨_,_,_,_,_,_,_,_,_,_,_,_,_,_,_,_,aBc,atR⟩,vq,vt,atU⟩;have avf:=bZ (st:=V') aBg aBh aBi;have Wq:=avf.pD (ps:=["self","pin"]);have avg:TyExc.qL K gY:=⟨aua,aub,auc,aud,aue,auh⟩;have uw:TyExc.lG K gY "pin":=⟨avg,aui,auj,auk,KZ⟩;have Wo:qM K gY _:=⟨⟨_,_,_,_,_,_,_,_,_,_,_,_,_,_,_,_,aBd,at8⟩,aBe,aBf,at9⟩;have mX:=bZ (st:=dE) wU wV wW;have ju:=mX.pD (ps:=["self","bar"]);have avh:TyExc.qL K iu:=⟨auo,aup,auq,aur,aus,auu⟩;have mY:TyExc.lG K iu "bar":=⟨avh,auv,auw,auy,wN⟩;have akQ:qM K iu _:=⟨⟨_,_,_,_,_,_,_,_,_,_,_,_,_,_,_,_,aBj,aum⟩,wO,wQ,aun⟩;have mZ:=bZ (st:=dF) w6 w8 w_;have jv:=mZ.pD (ps:=["self","bar"]);have avi:TyExc.qL K iw:=⟨auB,auC,auD,auE,auF,auH⟩;have m5:TyExc.lG K iw "bar":=⟨avi,auI,auJ,auK,wX⟩;have akR:qM K iw _:=⟨⟨_,_,_,_,_,_,_,_,_,_,_,_,_,_,_,_,aBk,auz⟩,wY,wZ,auA⟩;have qE:=bZ (st:=eU) DS DT DU;have c8:=qE.pD (ps:=["self","at"]);have Yp:TyExc.qL K cq:=⟨Ya,Yb,Yc,Yd,Ye,Yg⟩;have LK:TyExc.lG K cq "at":=⟨Yp,Yh,Yi,Yj,K_⟩;have jh:qM K cq _:=⟨⟨_,_,_,_,_,_,_,_,_,_,_,_,_,_,_,_,acL,X_⟩,DQ,DR,X'⟩;have akU:=mg_of X G azN;have akP:=mg_of X G azO;have oy:=mg_of X G Qx;have jU:=mg_of X G AG;have jw:=mg_of X G wK;have uV:=mg_of X G Xx;have jM:=mg_of X G Xy;have jT:=mg_of X G AH;have afq:mg "NOUGHT"=some (.ref amM):=mg_of X G azP;have aly:mg "NO_MOVE"=some (.ref amN):=mg_of X G azT;have xC:mg "FORMS"=some (.ref KI):=mg_of X G agA;have nh:mg "YardError"=some (.ref ace):=mg_of X G az1;have iP:mg "NoNumber"=some (.ref AI):=mg_of X G TM;have dr:mg "NoText"=some (.ref oV):=mg_of X G acf;have aKm:mg "NoWay"=some (.ref az3):=mg_of X G az2;have HZ:mg "PinThere"=some (.ref hW):=mg_of X G az4;have akW:mg "SpotTaken"=some (.ref l_):=mg_of X G az5;have HS:mg "NoPin"=some (.ref gY):=mg_of X G az6;have Wr:mg "BarThere"=some (.ref iu):=mg_of X G az7;have aKn:mg "NoBar"=some (.ref az9):=mg_of X G az8;have Ws:mg "NoLength"=some (.ref iw):=mg_of X G az';have wA:mg "TooMany"=some (.ref vh):=mg_of X G aAa;have jg:mg "NoLine"=some (.ref cq):=mg_of X G acg;have alj:mg "Frame"=some (.ref cR):=mg_of X G aAb;have aKo:mg "Hold"=some (.ref wL):=mg_of X G aAc;have alm:mg "Roller"=some (.ref pS):=mg_of X G aAd;have aln:mg "Fixed"=some (.ref vi):=mg_of X G aAe;have zc:mg "Ground"=some (.ref cw):=mg_of X G ach;have za:mg "Laying"=some (.ref bw):=mg_of X G aci;have xB:mg "Sheet"=some (.ref cx):=mg_of X G agD;have agT:mg "ValueError"=none:=mg_none_of X G KJ;have FE:mg "abs"=none:=mg_none_of X G asz;have FF:mg "all"=none:=mg_none_of X G asA;have H_:mg "bool"=none:=mg_none_of X G amO;have kJ:mg "enumerate"=none:=mg_none_of X G Qy;have yI:mg "int"=none:=mg_none_of X G asB;have bM:mg "isinstance"=none:=mg_none_of X G KL;have bF:mg "len"=none:=mg_none_of X G asC;have jt:mg "list"=none:=mg_none_of X G amP;have dS:mg "range"=none:=mg_none_of X G agC;have dA:mg "str"=none:=mg_none_of X G asD;have aaw:mg "zip"=none:=mg_none_of X G asE;have F:=bZ (st:=oh) asq asr ass;refine ⟨fnOf "law" "law" (av oh) (aq oh) (aa oh) .none amF amG amH amI acd amJ,fun s v=>.of_eq rfl,fun base _ _=>?_⟩;have hM:qJ (aT l.prog w):=aT.AX;have nm:∀{c:abj} {o:ς} {k0 k1:Tok} {n:Nat} {sl:Δ},K.lookup c=some ⟨.type "tuple",o,.seq #[.int 0 k0,.int 1 k1] n,sl⟩->∀H:Hp,uz K H (.ref c) (0,1):=fun t H=>⟨_,rfl,.inr ⟨_,_,_,t,rfl,rfl,z2L,.cons ⟨_,rfl⟩ (.cons ⟨_,rfl⟩ .nil)⟩⟩;have hN:∀H:Hp,uz K H (.ref amM) (0,1):=nm azQ
 have nq:∀{c:abj} {H:Hp},uz K H (.ref c) (0,1)->jR K H (.ref c) 0:=fun h=>by
  show uz K _ _ (qr 0);rw [eZ];exact h
 have hMo:∀H:Hp,og K H (.ref amN) (0,0):=fun H=>⟨_,.ref asu,.ref asv,rfl,.inr ⟨_,_,_,azU,rfl,rfl,z2L,.cons rfl (.cons rfl .nil)⟩,nq (nm azV H),nq (nm azY H)⟩;have hF:∀H:Hp,dG K H KI (cZ.map V.str):=fun H=>.inr ⟨_,_,_,agB,rfl,rfl,z8L,.cons ⟨_,rfl⟩ (.cons ⟨_,rfl⟩ (.cons ⟨_,rfl⟩ (.cons ⟨_,rfl⟩ (.cons ⟨_,rfl⟩ (.cons ⟨_,rfl⟩ (.cons ⟨_,rfl⟩ (.cons ⟨_,rfl⟩ .nil)))))))⟩;have fc:Z_ K cR:=⟨lE,acU,amQ,amR⟩;have shc:ShC K cx:=⟨vE,aBl,aBm,aBn⟩;have gc:GrC K cw:=⟨AO,aBo,aBp,aBq⟩;have lc:LyC K bw:=⟨j8,aBr,aBs,aBt⟩;have hY:vP K ace:=⟨aBu,aBv,aBw⟩;have ex:aqJ K hW gY iu iw vh:=⟨auM,auN,auO,auP,auQ,auR,auS,auT,auU,auV,auW,auX,auY,auZ,au0⟩;have G1:=api (P:=l.prog) (w:=w) (base:=base) (CX:=aT l.prog w) aBy FE;have G2:=apj ht aBx G1;have GS:=aam (Wm hM acV G2);have GPS:=NQ hM T' GS;have GSt:=HQ hM QD (akL (BF hM K' G2));have GI:=apr (P:=l.prog) (w:=w) (mg:=mg) (base:=base) au1 fc;have XP:=apm (P:=l.prog) (w:=w) (mg:=mg) (base:=base) avc hY nh mW atJ;have XS:=sU (P:=l.prog) (w:=w) (mg:=mg) (base:=base) me hY nh vF at3;have XN:=apo (P:=l.prog) (w:=w) (mg:=mg) (base:=base) avf hY nh uw auf;have XB:=uR (P:=l.prog) (w:=w) (mg:=mg) (base:=base) mX hY nh mY aut;have XL:=uT (P:=l.prog) (w:=w) (mg:=mg) (base:=base) mZ hY nh m5 auG;have XX:=yF (P:=l.prog) (w:=w) (mg:=mg) (base:=base) qE hY nh LK Yf;have MPn:bH l.prog w K mg base (aT l.prog w) 1 cR "pins" ["self"] (yG K cR):=⟨_,_,lE,aBM,apt au5 fc jt,aBL⟩;have MCx:bH l.prog w K mg base (aT l.prog w) 3 cR "check_pin" ["self","pin"] (jf K cR gY):=⟨_,_,lE,aBK,apv au4 fc HS Wo XN Wq,aBJ⟩;have MPl:bH l.prog w K mg base (aT l.prog w) 4 cR "place" ["self","pin"] (sV K cR):=⟨_,_,lE,aBQ,apy au7 fc (yH MCx),aBP⟩;have MBs:bH l.prog w K mg base (aT l.prog w) 1 cR "bars" ["self"] (HU K cR):=⟨_,_,lE,aBO,apA au6 fc jt,aBN⟩;have MEn:bH l.prog w K mg base (aT l.prog w) 1 cR "ends" ["self","bar"] (HV K cR):=⟨_,_,lE,aBU,apC au9 fc,aBT⟩;have MWy:bH l.prog w K mg base (aT l.prog w) 4 cR "ways" ["self","pin"] (HW K cR):=⟨_,_,lE,aBS,apE au8 fc jt (yH MCx),aBR⟩;have MCb:bH l.prog w K mg base (aT l.prog w) 4 cR "check_bar" ["self","name","one","other"] (kG K cR iu gY iw vh):=⟨_,_,lE,aBI,apG au3 fc akP bF Wr akQ XB ju Ws akR XL jv wA HX MCx,aBH⟩;have MPb:bH l.prog w K mg base (aT l.prog w) 5 cR "put_bar" ["self","name","one","other"] (pE K cR iu gY iw vh):=⟨_,_,lE,aBG,apJ au2 fc MCb,aBF⟩;have MPp:bH l.prog w K mg base (aT l.prog w) 5 cR "put_pin" ["self","name","x","y","hold"] (lV l.prog w K mg base cR hW l_ vh):=⟨_,_,lE,aBE,apT aBC fc akU bF jt HZ Wt XP Wu akW akX XS iO wA HX,aBD⟩;have wR:bH l.prog w K mg base (aT l.prog w) 1 pS "ways" ["self"] (sX K pS):=⟨_,_,Um,aBX,apN ava Um ajU,aBW⟩;have wF:bH l.prog w K mg base (aT l.prog w) 1 vi "ways" ["self"] (sY K):=⟨_,_,amS,aBZ,apP avb,aBY⟩;have GRI:=apL (P:=l.prog) (w:=w) (mg:=mg) (base:=base) au' Um ajU;have GSK:=BG (P:=l.prog) (w:=w) (base:=base) (CX:=aT l.prog w) LA dA;have GR:=NV T9 iP iQ (NT T_ bM yI H_) G2;have GRW:=BH (P:=l.prog) (w:=w) (base:=base) LD bF FF yI jM jT dr eI;have GRR:=BI LB bM dA dr eI GRW GR.1 GSK;have GNu:=ID QF dr e1 Yk GRR;have GIN:=RL (P:=l.prog) (w:=w) (base:=base) hM Yn FF jM uV;have GMo:=RN hM Yo jw GNu;have GV:=NZ hM Uc bF jU GNu GMo GIN;have GFi:=Wy hM acX bF aaw GV;have GRo:=N_ hM Ub GFi;have SI:=BL (P:=l.prog) (w:=w) (mg:=mg) (base:=base) um shc;have MS:bH l.prog w K mg base (aT l.prog w) 1 cx "may_stand" ["self","values"] (xu K cx):=⟨_,_,vE,uu,qW kT shc afq hN,uo⟩;have MK:bH l.prog w K mg base (aT l.prog w) 1 cx "keep" ["self","values"] (II K cx):=⟨_,_,vE,LJ,BN uv shc,LH⟩;have GGI:=yT (P:=l.prog) (w:=w) (mg:=mg) (base:=base) qB gc ali alj GI alk;have MC:bH l.prog w K mg base (aT l.prog w) 3 cw "count_row" ["self"] (ti K cw vh):=⟨_,_,AO,rQ,pM j7 gc oy wA HX,rP⟩;have LI:=yW (P:=l.prog) (w:=w) (mg:=mg) (base:=base) qD lc;have MF:bH l.prog w K mg base (aT l.prog w) 1 bw "full_name" ["self","name"] (qX K bw):=⟨_,_,j8,rS,pO j9 lc,rR⟩;have MN:bH l.prog w K mg base (aT l.prog w) 3 bw "check_new" ["self","name"] (yY K bw hW):=⟨_,_,j8,rV,pR j_ lc MF HZ Wt XP Wu,rT⟩;have MP:bH l.prog w K mg base (aT l.prog w) 4 bw "name_pin" ["self","name","pin"] (jV K bw hW):=⟨_,_,j8,uk,qZ kS lc MN,uh⟩;have MO:bH l.prog w K mg base (aT l.prog w) 3 bw "own_pin" ["self","name"] (IL K bw gY):=⟨_,_,j8,vD,tu md lc HS Wo XN Wq,vC⟩;have GPA:=WC acW MPn MPl;have GHF:=IQ QE bF alm aln alp alq GRI alr (wR.mono (by decide)) (wF.mono (by decide));have GLP:=RX (CN:=gY) (CB:=iu) (CO:=iw) Yl gc lc GPS MN MF MP GPA GHF MPp;have GLB:=RY (CP:=hW) Ym gc lc MO MF MPb;have GPf:=nu oW bF dS dA GPS GSt;have GLR:=U_ wk (fun h g z=>ON h Ua y_ za LI lA MC GLP GLB g z) (fun h g=>IS h wk gc lc GPS GPf MF MP g) 13;have GLF:=BQ LF gc zb zc GGI lB aly hMo GLR;have GRF:=BS LG bM dA bF kJ shc xA xB SI jG jg jh XX c8 MS MK xC hF GRo GLF;have GC:=aqi (P:=l.prog) (w:=w) (base:=base) (CX:=aT l.prog w) aBz bF;have GPt:=OR (P:=l.prog) (w:=w) (base:=base) (CX:=aT l.prog w) Ud dS;have GLo:=aqj (P:=l.prog) (w:=w) (base:=base) ht aBA FE;have GPl:=aam (OT hM Ue GLo);have GTx:=afi (zi (P:=l.prog) (w:=w) (base:=base) (CX:=aT l.prog w) DV dA);have GHa:=OV Ug GLo;have GMe:=OW (P:=l.prog) (w:=w) (base:=base) (CX:=aT l.prog w) Uh;have GWy:=aqn (K:=K) (P:=l.prog) (w:=w) (base:=base) (CX:=aT l.prog w) aBB;have GPr:=zk DW GHa GPt GWy;have GBr:=zm (K:=K) DX bF GPt;have GLy:=zq (K:=K) DY bF GHa GPt;have GMk:=IW (K:=K) (P:=l.prog) (w:=w) (base:=base) (CX:=aT l.prog w) QG dS dA;have GRs:=Pg Ui bF GPr GBr GLy GMk;have GLn:=Pl Uj bF dA GTx;have GTt:=Po Uk bF dS dA GLn;have GOu:=zu DZ HZ HS Wr Ws wA ex mW uw mY m5 GRF;have GIs:=WK acY MPn MBs MPl MWy MEn;have GPd:=wC AM bF GPl;have GBd:=wD (P:=l.prog) (w:=w) (base:=base) AN bF;have GLd:=Pr oX (fun h g z=>Pq h Ul GPd GBd g z) (fun h g=>wG h oX GPl GMk g) 13;exact alV F dS GC GMe GRs GLd GTt GOu GIs
end T_k83
open PySem PySem.W PyProof.Rows
set_option maxRecDepth 100000 in
set_option maxHeartbeats 0 in
theorem PySem.Challenge.cw_trussyard_k83_whole_pieces_laid_holds : PySem.Challenge.rw_trussyard_k83_whole_pieces_laid.Holds := by
 w_on;o_law;k_head;(case hw=>w_witness2)
 k_fill
 refine Ty.walk (l:=PySem.Challenge.rw_trussyard_k83_whole_pieces_laid) (x:="_law_script") (k:=70) (CX:=fun w=>Ty.aT (PySem.Challenge.rw_trussyard_k83_whole_pieces_laid).prog w) rfl rfl (by first | rfl | decide+kernel) ⟨rfl,by decide,by decide⟩ (fun w h Y=>PySem.W.kIn_of Y) (fun w=>Ty.aT.AX) ?F
 case F=>
  intro w mg fa h KX G hmg
  refine' T_k83.all_mk KX G hmg ?A0 ?A1 ?A2 ?A3 ?A4 ⟨?A5,?A6,?A7,?A8⟩ ⟨?A9,?Aa,?Ab,?Ac⟩ ⟨?Ad,?Ae,?Af,?Ag⟩ ⟨?Ah,?Ai,?Aj,?Ak⟩ ⟨?Al,?Am,?An,?Ao⟩ ⟨?Ap,?Aq,?Ar,?As⟩ ⟨?At,?Au,?Av,?Aw⟩ ⟨?Ax,?Ay,?Az,?B0⟩ ⟨?B1,?B2,?B3,?B4⟩ ⟨?B5,?B6,?B7,?B8⟩ ⟨?B9,?Ba,?Bb,?Bc⟩ ⟨?Bd,?Be,?Bf,?Bg⟩ ⟨?Bh,?Bi,?Bj,?Bk⟩ ⟨?Bl,?Bm,?Bn,?Bo⟩ ⟨?Bp,?Bq,?Br,?Bs⟩ ⟨?Bt,?Bu,?Bv,?Bw⟩ ⟨?Bx,?By,?Bz,?C0⟩ ⟨?C1,?C2,?C3,?C4⟩ ⟨?C5,?C6,?C7,?C8⟩ ⟨?C9,?Ca,?Cb,?Cc⟩ ⟨?Cd,?Ce,?Cf,?Cg⟩ ⟨?Ch,?Ci,?Cj,?Ck⟩ ⟨?Cl,?Cm,?Cn,?Co⟩ ⟨?Cp,?Cq,?Cr,?Cs⟩ ⟨?Ct,?Cu,?Cv,?Cw⟩ ⟨?Cx,?Cy,?Cz,?D0⟩ ⟨?D1,?D2,?D3,?D4⟩ ⟨?D5,?D6,?D7,?D8⟩ ⟨?D9,?Da,?Db,?Dc⟩ ⟨?Dd,?De,?Df,?Dg⟩ ⟨?Dh,?Di,?Dj,?Dk⟩ ⟨?Dl,?Dm,?Dn,?Do⟩ ⟨?Dp,?Dq,?Dr,?Ds⟩ ⟨?Dt,?Du,?Dv,?Dw⟩ ⟨?Dx,?Dy,?Dz,?E0⟩ ⟨?E1,?E2,?E3,?E4⟩ ⟨?E5,?E6,?E7,?E8⟩ ⟨?E9,?Ea,?Eb,?Ec⟩ ⟨?Ed,?Ee,?Ef,?Eg⟩ ⟨?Eh,?Ei,?Ej,?Ek⟩ ⟨?El,?Em,?En,?Eo⟩ ⟨?Ep,?Eq,?Er,?Es⟩ ⟨?Et,?Eu,?Ev,?Ew⟩ ⟨?Ex,?Ey,?Ez,?F0⟩ ⟨?F1,?F2,?F3,?F4⟩ ⟨?F5,?F6,?F7,?F8⟩ ?F9 ?Fa ?Fb ?Fc ?Fd ?Fe ?Ff ?Fg ?Fh ?Fi ?Fj ?Fk ?Fl ?Fm ?Fn ?Fo ?Fp ?Fq ?Fr ?Fs ?Ft ?Fu ?Fv ?Fw ?Fx ?Fy ?Fz ?G0 ?G1 ?G2 ?G3 ?G4 ?G5 ?G6 ?G7 ?G8 ?G9 ?Ga ?Gb ?Gc ?Gd ?Ge ?Gf ?Gg ?Gh ?Gi ?Gj ?Gk ?Gl ?Gm ?Gn ?Go ?Gp ?Gq ?Gr ?Gs ?Gt ⟨?Gu,?Gv,?Gw,?Gx,?Gy⟩ ?Gz ?H0 ?H1 ?H2 ?H3 ?H4 ⟨?H5,?H6,?H7,?H8,?H9⟩ ⟨?Ha,?Hb,?Hc,?Hd,?He⟩ ⟨?Hf,?Hg,?Hh,?Hi,?Hj⟩ ⟨?Hk,?Hl,?Hm,?Hn,?Ho⟩ ⟨?Hp,?Hq,?Hr,?Hs,?Ht⟩ ⟨?Hu,?Hv,?Hw,?Hx,?Hy⟩ ⟨?Hz,?I0,?I1,?I2,?I3⟩ ⟨?I4,?I5,?I6,?I7,?I8⟩ ?I9 ?Ia ?Ib ?Ic ?Id ?Ie ?If ⟨?Ig,?Ih,?Ii,?Ij,?Ik⟩ ?Il ?Im ?In ?Io ?Ip ?Iq ⟨?Ir,?Is,?It,?Iu,?Iv⟩ ⟨?Iw,?Ix,?Iy,?Iz,?J0⟩ ?J1 ?J2 ?J3 ?J4 ?J5 ?J6 ?J7 ⟨?J8,?J9,?Ja,?Jb,?Jc⟩ ?Jd ?Je ?Jf ?Jg ?Jh ?Ji ⟨?Jj,?Jk,?Jl,?Jm,?Jn⟩ ⟨?Jo,?Jp,?Jq,?Jr,?Js⟩ ?Jt ?Ju ?Jv ?Jw ?Jx ?Jy ⟨?Jz,?K0,?K1,?K2,?K3⟩ ⟨?K4,?K5,?K6,?K7,?K8⟩ ⟨?K9,?Ka,?Kb,?Kc,?Kd⟩ ⟨?Ke,?Kf,?Kg,?Kh,?Ki⟩ ⟨?Kj,?Kk,?Kl,?Km,?Kn⟩ ?Ko ?Kp ?Kq ?Kr ?Ks ?Kt ⟨?Ku,?Kv,?Kw,?Kx,?Ky⟩ ⟨?Kz,?L0,?L1,?L2,?L3⟩ ⟨?L4,?L5,?L6,?L7,?L8⟩ ?L9 ?La ?Lb ?Lc ?Ld ?Le ?Lf ?Lg ?Lh ?Li ?Lj ?Lk ?Ll ?Lm ⟨?Ln,?Lo,?Lp,?Lq,?Lr⟩ ?Ls ?Lt ?Lu ?Lv ?Lw ?Lx ?Ly ?Lz ?M0 ?M1 ?M2 ?M3 ?M4 ?M5 ⟨?M6,?M7,?M8,?M9,?Ma⟩ ?Mb ?Mc ?Md ?Me ?Mf ?Mg ?Mh ?Mi ?Mj ?Mk ?Ml ?Mm ?Mn ?Mo ⟨?Mp,?Mq,?Mr,?Ms,?Mt⟩ ?Mu ?Mv ?Mw ?Mx ?My ?Mz ?N0 ?N1 ?N2 ?N3 ?N4 ?N5 ?N6 ?N7 ⟨?N8,?N9,?Na,?Nb,?Nc⟩ ?Nd ?Ne ?Nf ?Ng ?Nh ?Ni ?Nj ?Nk ?Nl ?Nm ?Nn ?No ?Np ?Nq ⟨?Nr,?Ns,?Nt,?Nu,?Nv⟩ ?Nw ?Nx ?Ny ?Nz ?O0 ?O1 ?O2 ?O3 ?O4 ?O5 ?O6 ?O7 ?O8 ?O9 ⟨?Oa,?Ob,?Oc,?Od,?Oe⟩ ?Of ?Og ?Oh ?Oi ?Oj ?Ok ?Ol ?Om ?On ?Oo ?Op ?Oq ?Or ?Os ?Ot ?Ou ?Ov ?Ow ?Ox ?Oy ?Oz ?P0 ?P1 ?P2 ?P3 ?P4 ?P5 ?P6 ?P7 ?P8 ?P9 ?Pa ?Pb ?Pc ?Pd ?Pe ?Pf
  (case A0|A1|A2|A3|A4|A5|A6|A7|A8|A9|Aa|Ab|Ac|Ad|Ae|Af|Ag|Ah|Ai|Aj|Ak|Al|Am|An|Ao|Ap|Aq|Ar|As|At|Au|Av|Aw|Ax|Ay|Az|B0|B1|B2|B3|B4|B5|B6|B7|B8|B9|Ba|Bb|Bc|Bd|Be|Bf|Bg|Bh|Bi|Bj|Bk|Bl|Bm|Bn|Bo|Bp|Bq|Br|Bs|Bt|Bu|Bv|Bw|Bx|By|Bz|C0|C1|C2|C3|C4|C5|C6|C7|C8|C9|Ca|Cb|Cc|Cd|Ce|Cf|Cg|Ch|Ci|Cj|Ck|Cl|Cm|Cn|Co|Cp|Cq|Cr|Cs|Ct|Cu|Cv|Cw|Cx|Cy|Cz|D0|D1|D2|D3|D4|D5|D6|D7|D8|D9|Da|Db|Dc|Dd|De|Df|Dg|Dh|Di|Dj|Dk|Dl|Dm|Dn|Do|Dp|Dq|Dr|Ds|Dt|Du|Dv|Dw|Dx|Dy|Dz|E0|E1|E2|E3|E4|E5|E6|E7|E8|E9|Ea|Eb|Ec|Ed|Ee|Ef|Eg|Eh|Ei|Ej|Ek|El|Em|En|Eo|Ep|Eq|Er|Es|Et|Eu|Ev|Ew|Ex|Ey|Ez|F0|F1|F2|F3|F4|F5|F6|F7|F8|F9|Fa|Fb|Fc|Fd|Fe|Ff|Fg|Fh|Fi|Fj|Fk|Fl|Fm|Fn|Fo|Fp|Fq|Fr|Fs|Ft|Fu|Fv|Fw|Fx|Fy|Fz|G0|G1|G2|G3|G4|G5|G6|G7|G8|G9|Ga|Gb|Gc|Gd|Ge|Gf|Gg|Gh|Gi|Gj|Gk|Gl|Gm|Gn|Go|Gp|Gq|Gr|Gs|Gt|Gu|Gv|Gw|Gx|Gy|Gz|H0|H1|H2|H3|H4|H5|H6|H7|H8|H9|Ha|Hb|Hc|Hd|He|Hf|Hg|Hh|Hi|Hj|Hk|Hl|Hm|Hn|Ho|Hp|Hq|Hr|Hs|Ht|Hu|Hv|Hw|Hx|Hy|Hz|I0|I1|I2|I3|I4|I5|I6|I7|I8|I9|Ia|Ib|Ic|Id|Ie|If|Ig|Ih|Ii|Ij|Ik|Il|Im|In|Io|Ip|Iq|Ir|Is|It|Iu|Iv|Iw|Ix|Iy|Iz|J0|J1|J2|J3|J4|J5|J6|J7|J8|J9|Ja|Jb|Jc|Jd|Je|Jf|Jg|Jh|Ji|Jj|Jk|Jl|Jm|Jn|Jo|Jp|Jq|Jr|Js|Jt|Ju|Jv|Jw|Jx|Jy|Jz|K0|K1|K2|K3|K4|K5|K6|K7|K8|K9|Ka|Kb|Kc|Kd|Ke|Kf|Kg|Kh|Ki|Kj|Kk|Kl|Km|Kn|Ko|Kp|Kq|Kr|Ks|Kt|Ku|Kv|Kw|Kx|Ky|Kz|L0|L1|L2|L3|L4|L5|L6|L7|L8|L9=>k_is);(case La=>kernel_rfl);(case Lb|Lc|Ld|Le=>k_is);(case Lf=>kernel_rfl);(case Lg=>kernel_rfl);(case Lh=>kernel_rfl);(case Li=>kernel_rfl);(case Lj|Lk=>k_is);(case Ll=>kernel_rfl);(case Lm|Ln|Lo|Lp|Lq|Lr|Ls=>k_is);(case Lt=>kernel_rfl);(case Lu|Lv|Lw|Lx=>k_is);(case Ly=>kernel_rfl);(case Lz=>kernel_rfl);(case M0=>kernel_rfl);(case M1=>kernel_rfl);(case M2|M3=>k_is);(case M4=>kernel_rfl);(case M5|M6|M7|M8|M9|Ma|Mb=>k_is);(case Mc=>kernel_rfl);(case Md|Me|Mf|Mg=>k_is);(case Mh=>kernel_rfl);(case Mi=>kernel_rfl);(case Mj=>kernel_rfl);(case Mk=>kernel_rfl);(case Ml|Mm=>k_is);(case Mn=>kernel_rfl);(case Mo|Mp|Mq|Mr|Ms|Mt|Mu=>k_is);(case Mv=>kernel_rfl);(case Mw|Mx|My|Mz=>k_is);(case N0=>kernel_rfl);(case N1=>kernel_rfl);(case N2=>kernel_rfl);(case N3=>kernel_rfl);(case N4|N5=>k_is);(case N6=>kernel_rfl);(case N7|N8|N9|Na|Nb|Nc|Nd=>k_is);(case Ne=>kernel_rfl);(case Nf|Ng|Nh|Ni=>k_is);(case Nj=>kernel_rfl);(case Nk=>kernel_rfl);(case Nl=>kernel_rfl);(case Nm=>kernel_rfl);(case Nn|No=>k_is);(case Np=>kernel_rfl);(case Nq|Nr|Ns|Nt|Nu|Nv|Nw=>k_is);(case Nx=>kernel_rfl);(case Ny|Nz|O0|O1=>k_is);(case O2=>kernel_rfl);(case O3=>kernel_rfl);(case O4=>kernel_rfl);(case O5=>kernel_rfl);(case O6|O7=>k_is);(case O8=>kernel_rfl);(case O9|Oa|Ob|Oc|Od|Oe|Of|Og|Oh|Oi=>k_is);(case Oj=>rfl);(case Ok=>kernel_rfl);(case Ol=>kernel_rfl);(case Om=>kernel_rfl);(case On=>kernel_rfl);(case Oo|Op|Oq|Or|Os|Ot|Ou|Ov|Ow|Ox|Oy=>k_is);(case Oz=>kernel_rfl);(case P0=>kernel_rfl);(case P1=>kernel_rfl);(case P2=>kernel_rfl);(case P3=>kernel_rfl);(case P4=>kernel_rfl);(case P5=>kernel_rfl);(case P6=>kernel_rfl);(case P7=>kernel_rfl);(case P8=>kernel_rfl);(case P9=>kernel_rfl);(case Pa=>kernel_rfl);(case Pb=>kernel_rfl);(case Pc=>kernel_rfl);(case Pd=>kernel_rfl);(case Pe=>kernel_rfl);(case Pf=>kernel_rfl)
#print axioms PySem.Challenge.cw_trussyard_k83_whole_pieces_laid_holds
